import PyProof.Rows.All
import Wide.All
import OpenK.AllK
import Wide.FinOn
import Lean
import PyProof.EqAt
import PyProof.EqKinds
import PyProof.TupleCall
import PySem.Challenge.RW_truceroll_k61_heap_told
set_option Elab.async false
set_option linter.all false
set_option maxRecDepth 100000
set_option maxHeartbeats 0
def au:=@PySem.wpAny_bind
def aY:=@List.length_map
def cD:=@List.getElem?_eq_getElem
def cq:=@PySem.Heap.get?_push_of_some
def aM:=@PySem.wpAny_pure
def bB:=@Nat.le_refl
def bI:=@PySem.Heap.lt_size
def cV:=@List.size_toArray
def dm:=@Option.some.inj
def eN:=@List.length_append
def eQ:=@List.getElem?_eq_some_iff
def cR:=@Bool.false_ne_true
def aE:=@if_neg
def bJ:=@Nat.ne_of_lt
def dj:=@PySem.Heap.get?_push_size
def cX:=@Nat.lt_of_lt_of_le
def di:=@List.mem_singleton
def cW:=@List.getElem?_map
def bY:=@PySem.W.mg_of
def fX:=@List.getD_eq_getElem?_getD
def dY:=@List.mem_cons_of_mem
def dE:=@List.mem_cons_self
def dX:=@Array.length_toList
def cQ:=@List.map_append
def aI:=@if_pos
def dH:=@List.length_cons
def dW:=@Bool.and_eq_true
def dh:=@List.mem_cons
def iD:=@List.mem_append_right
def dw:=@List.mem_map
def dG:=@PySem.wpAny_holding
def iC:=@List.mem_of_getElem?
def dg:=@Nat.zero_le
def eB:=@List.map_cons
def cP:=@PySem.wpAny_mono
def iB:=@PySem.W.mg_none_of
def lK:=@Array.getElem?_eq_getElem
def iA:=@decide_eq_true_eq
def gW:=@List.mem_append
def pF:=@Array.getD_eq_getD_getElem?
def fF:=@Nat.le_trans
def jf:=@List.take_length
def je:=@List.length_take
def pE:=@Array.getElem?_eq_some_iff
def lJ:=@PySem.Heap.get?_update_self
def jJ:=@PySem.wpAny_newObj_type
def jd:=@PySem.W.kia_one
def nv:=@PySem.Heap.get?_update_other
def lI:=@PySem.mem_of_lookup
def jW:=@List.take_add_one
def pD:=@PySem.F.plainAttrs_list
def jV:=@List.lookup_cons
def jU:=@List.nodup_cons
def iz:=@List.map_map
def gU:=@Nat.le_succ
def pC:=@List.mem_append_left
def jI:=@Nat.lt_irrefl
def qX:=@List.getElem?_eq_none
def qW:=@Array.getElem?_toList
def pB:=@PySem.F.called_set
def nu:=@List.not_mem_nil
def pA:=@PySem.wpAny_Call_Name_kw
def pz:=@Nat.lt_succ_of_lt
def nr:=@Bool.eq_iff_iff
def qV:=@PySem.codeAny_call_builtin
def dZ:=@Iff.rfl
def pk:=@PySem.wpAny_truthy_bool
def pj:=@beq_self_eq_true
def nq:=@PySem.PassesOwn.never
def wR:=@List.getElem?_append_right
def qU:=@PySem.Heap.SameBut.update
def qT:=@Bool.false_eq_true
def ph:=@List.append_nil
def ux:=@PySem.W.looks_findIn
def wQ:=@PySem.F.type_list_append
def wO:=@PySem.F.slot_list_append
def jT:=@PySem.sizeLine_eq
def gT:=@congrArg
def lH:=@PySem.codeAny_mono
def qS:=@List.all_eq_true
def uw:=@PySem.Heap.get?_none_of_le
def uv:=@PySem.wpAny_isSubtype_exc
def qR:=@PySem.wpAny_call_entry
def qQ:=@List.foldl_cons
def wN:=@List.length_replicate
def ur:=@List.length_range
def uq:=@List.flatten_cons
def uo:=@PySem.wpAny_setField_rec
def jS:=@PySem.wpAny_call
def qP:=@PySem.wpAny_passesOwn
def qO:=@PySem.codeAny_builtin
def qN:=@List.nodup_nil
def pe:=@Nat.ne_of_gt
def pd:=@Nat.le_of_lt
def um:=@PySem.wpAny_setState_of
def uk:=@PySem.wpAny_loadPart_at
def CJ:=@List.getElem?_append_left
def wM:=@List.replicate_succ
def wL:=@List.map_congr_left
def qM:=@PySem.Heap.size_push
def rG:=@PySem.Around.under_plainId
def rF:=@List.contains_cons
def mz:=@PySem.wpAny_standAt
def fH:=@Ne.symm
def oo:=@List.mem_range
def vK:=@List.getElem?_set_self
def zM:=@PyProof.Rows.slot_tuple_getitem
def rE:=@PySem.Obj.data_mapFields
def jX:=@PySem.wpAny_field
def vJ:=@List.mem_iff_getElem?
def vI:=@List.length_filter_le
def rC:=@Nat.succ_le_succ
def om:=@List.all_cons
def rB:=@PySem.wpAny_pyIter_list
def iP:=@if_false
def vH:=@Nat.pow_le_pow_right
def zL:=@List.eq_nil_of_length_eq_zero
def my:=@PyProof.Rows.listUpdate_at
def rz:=@Nat.le_add_left
def rm:=@List.mem_filter
def rj:=@List.length_nil
def zK:=@PyProof.Rows.callWith_type1
def oj:=@List.map_nil
def oi:=@PySem.wpAny_attempt
def vG:=@Nat.lt_of_le_of_lt
def zJ:=@List.length_eraseIdx_of_lt
def zH:=@List.pairwise_iff_getElem
def vF:=@Nat.le_succ_of_le
def vE:=@List.nodup_append
def vD:=@List.append_assoc
def vC:=@Option.bind_some
def vB:=@PySem.Code.quiet_builtin
def zG:=@List.take_of_length_le
def rh:=@Bool.or_true
def vA:=@PySem.fits_of_scanBound
def rg:=@PySem.wpAny_newList
def zF:=@PySem.AutoSeq1.wpAny_loadPart'
def zE:=@PySem.wpAny_callSpecial?_slot
def zD:=@List.mem_iff_getElem
def zC:=@List.getElem?_set_ne
def vz:=@List.drop_zero
def vy:=@Bool.false_and
def zB:=@beq_eq_false_iff_ne
def zA:=@List.toList_toArray
def zy:=@List.filterMap_cons
def vx:=@PySem.wpAny_execs_nil
def vw:=@PySem.codeAny_of_tree
def vv:=@List.any_cons
def zx:=@PySem.W.check_slot
def zu:=@PySem.W.callWith_K
def zt:=@PySem.Obj.isFreed_of_fields
def q0:=@Nat.not_lt
def zr:=@Nat.eq_zero_or_pos
def qZ:=@PySem.wpAny_of_eq
def qY:=@PySem.seqIndex_of
def mw:=@if_true
def zq:=@bne_self_eq_false
def vt:=@Nat.lt_or_ge
def zp:=@List.pairwise_map
def zm:=@List.ext_getElem?
def vq:=@List.all_map
def zl:=@Bool.not_eq_true'
def zk:=@PyProof.Rows.F.plain_set_update_loop
def zj:=@PySem.wpAny_setEntries_of
def zi:=@PySem.wpAny_raiseNew_none
def Hl:=@PyProof.Rows.callWith_builtin1
def zh:=@Nat.lt_succ_self
def zg:=@Nat.le_of_not_lt
def zf:=@Nat.le_add_right
def zc:=@List.length_drop
def zb:=@List.getElem_map
def za:=@List.getElem_inj
def Hj:=@Array.eq_empty_of_size_eq_zero
def vp:=@PySem.plainId_quiet
def Hi:=@List.take_append_of_le_length
def vo:=@List.map_id
namespace L2
open PySem
def bq(s:Stmt):Arguments:=match s with
 | .FunctionDef _ a _ _ _ _ _ _ _ _=>a
 | _=>{ posonlyargs:=[],args:=[],vararg:=none,kwonlyargs:=[],kw_defaults:=[],kwarg:=none,defaults:=[] }
def aX(s:Stmt):List Stmt:=match s with
 | .FunctionDef _ _ b _ _ _ _ _ _ _=>b
 | _=>[]
def aq(s:Stmt):Scope:=match s with
 | .FunctionDef _ _ _ _ _ _ sc _ _ _=>sc
 | _=>{ kind:=.function,names:=[],isGenerator:=false,isCoroutine:=false }
def Va(s:Stmt)(j:Nat):Stmt:=match s with
 | .ClassDef _ _ _ b _ _ _ _ _ _ _=>b.getD j (.Pass ⟨0,0,0,0⟩)
 | _=>.Pass ⟨0,0,0,0⟩
end L2
namespace My
open PySem L2
def top(i:Nat):Stmt:=PySem.Challenge.pw_truceroll_k61_heap_told.main.body.getD i (.Pass ⟨0,0,0,0⟩)
abbrev gO:Stmt:=top 10
abbrev gN:Stmt:=top 11
abbrev fQ:Stmt:=top 12
abbrev cZ:Stmt:=top 13
abbrev fN:Stmt:=top 14
abbrev de:Stmt:=top 15
abbrev dc:Stmt:=top 16
abbrev cv:Stmt:=top 18
abbrev gP:Stmt:=top 22
abbrev fP:Stmt:=top 23
abbrev eV:Stmt:=top 24
abbrev oz:Stmt:=top 25
abbrev fO:Stmt:=top 26
abbrev gM:Stmt:=top 27
abbrev fh:Stmt:=top 29
abbrev e9:Stmt:=top 30
abbrev e8:Stmt:=top 31
abbrev fj:Stmt:=top 32
abbrev dD:Stmt:=top 33
abbrev eZ:Stmt:=top 34
abbrev cJ:Stmt:=top 35
abbrev dC:Stmt:=top 36
abbrev fc:Stmt:=top 37
abbrev df:Stmt:=top 38
abbrev nG:Stmt:=top 39
abbrev bW:Stmt:=Va (top 2) 0
def view:Program:={ PySem.Challenge.pw_truceroll_k61_heap_told with main:={ PySem.Challenge.pw_truceroll_k61_heap_told.main with body:=[top 1,top 2,top 3,top 4,top 6,top 7,top 8,top 9,top 10,top 11,top 12,top 13,top 14,top 15,top 16,top 18,top 20,top 21,top 22,top 23,top 24,top 25,top 26,top 27,top 29,top 30,top 31,top 32,top 33,top 34,top 35,top 36,top 37,top 38,top 39] } }
end My
section
open PySem PySem.W PyProof.Rows
local macro_rules | `(tactic| o_head $H:term) => `(tactic| assumption)
theorem My.h0(e:PySem.W.OpenRow.Holds PySem.Challenge.rw_truceroll_k61_heap_told.row):PySem.W.OpenRow.Holds PySem.Challenge.rw_truceroll_k61_heap_told.row:=by
 k_head
def My.as:List Addr:=[2,3,15,22,23,24,25,28,35,37,38,40,41,42,43,44,47,54,55,56,59,66,67,68,71,72,75,76,77,79,80,82,83,84,87,88,89,91,92,94,95,96,98,99,101,102,103,105,106,108,109,110,112,113,115,116,117,119,120,122,123,124,126,127,129,130,131,133,134,136,137,138,140,141,143,144,145,148,149,150,152,153,155,156,157,159,160,162,163,164,166,167,169,170,171,173,174,176,177,178,180,181,183,184,185,187,188,190,191,192,194,195,197,198,199,202,203,204,206,207,209,210,211,214,215,216,219,220,221,223,224,226,227,228,230,231,233,234]
def My.LR(b:Bool):Prop:=∀w:World,((PySem.W.Fast.tw10274390034422433532 PySem.W.Fast.tw14364793385576792824 (opening PySem.Challenge.rw_truceroll_k61_heap_told.row.prog) w 40000 (PySem.W.Fast.tw1435165496053646825 (opening PySem.Challenge.rw_truceroll_k61_heap_told.row.prog)).1 (PySem.W.Fast.tw1435165496053646825 (opening PySem.Challenge.rw_truceroll_k61_heap_told.row.prog)).2).bind (PySem.W.Fast.tw14289696077712309145 PySem.Challenge.rw_truceroll_k61_heap_told.row.prog)).map (λs₀=>
 (match s₀.heap.isNs mainGlobals&&s₀.gens.size==0 with
  | true=>(PySem.W.Fast.tw14082659384304107361 PySem.W.Fast.tw14364793385576792824 PySem.Challenge.rw_truceroll_k61_heap_told.row.prog (w.withFollow "special-get-raises" b) s₀.heap.objs.size (s₀.heap.nsMap mainGlobals (Str.ofString "__annotations__")) 40000 s₀ (topStub PySem.Challenge.rw_truceroll_k61_heap_told.row.prog)).bind λs₁=>match staticsOk (PySem.W.Fast.tw5923862056798008813 PySem.Challenge.rw_truceroll_k61_heap_told.row.prog.main.body) s₀.heap s₁.heap&&namesBound PySem.Challenge.rw_truceroll_k61_heap_told.row.prog s₁.heap&&gensDone s₁&&laidKept s₀.heap s₁.heap with
   | true=>some s₁
   | false=>none
  | false=>none).map (λs=>(PySem.W.Fast.tw4187177175401517315 My.view [PySem.Str.ofString "RULES_BEHIND"] (PySem.W.Fast.tw5923862056798008813 PySem.Challenge.rw_truceroll_k61_heap_told.row.prog.main.body) (λs=>xlAt My.view [] s&&recOk (RowW.records (OpenRow.toRowW PySem.Challenge.rw_truceroll_k61_heap_told.row)) s) true s,My.as.map s.heap.get?))) =
 some (some (openGood My.view [PySem.Str.ofString "RULES_BEHIND"],(My.h0.heap_1 (w.withFollow "special-get-raises" b).params).map λp=>some p.2))
theorem My.r1:My.LR false:=by intro w;kernel_rfl
theorem My.r2:My.LR true:=by intro w;kernel_rfl
theorem My.both{α β γ:Type}{o:Option α}{f:α->β}{g:α->γ}{a:β}{b:γ}(h1:o.map f=some a)(h2:o.map g=some b):o.map (λs=>(f s,g s))=some (a,b):=by
 cases o with
 | none=>cases h1
 | some x=>cases h1;cases h2;rfl
theorem My.left:LeftO PySem.Challenge.rw_truceroll_k61_heap_told.row.prog My.view [PySem.Str.ofString "RULES_BEHIND"] (λs=>xlAt My.view [] s&&recOk (RowW.records (OpenRow.toRowW PySem.Challenge.rw_truceroll_k61_heap_told.row)) s) (λs=>My.as.map s.heap.get?) (λw=>(My.h0.heap_1 w.params).map λp=>some p.2) 40000 true:=LeftO.of_split "special-get-raises" (λw=>by
 have h1:=My.r1 w
 have h2:=My.r2 w
 rw[<-PySem.W.Fast.te10274390034422433532,<-PySem.W.Fast.te14364793385576792824,<-PySem.W.Fast.te1435165496053646825,<-PySem.W.Fast.te14289696077712309145,<-PySem.W.Fast.te14082659384304107361,<-PySem.W.Fast.te5923862056798008813,<-PySem.W.Fast.te4187177175401517315]at h1 h2
 exact My.both h1 h2)
end
section
namespace L2
open PySem PySem.Spec PyProof.Rows
abbrev Key:=Sum Int Str
def uV:Key->Value->Bool
 | .inl k,v=>Value.isInt k v
 | .inr x,v=>Value.isStrOf x v
def aAv(w:World):Key->Int
 | .inl k=>hashInt k
 | .inr x=>hashStr w x
theorem cN:∀{k:Key} {v:Value},uV k v=true->(∃i t,k=Sum.inl i/\v=Value.int i t)\/(∃x t,k=Sum.inr x/\v=Value.str x t)
 | .inl i,v,h=>by
  obtain⟨t,e⟩:=Value.isInt_shape (k:=i) (v:=v) h
  exact .inl ⟨i,t,rfl,e⟩
 | .inr x,v,h=>by
  obtain⟨t,e⟩:=Value.isStrOf_shape (x:=x) (v:=v) h
  exact .inr ⟨x,t,rfl,e⟩
theorem FZ(i:Int)(t:Tok):uV (.inl i) (.int i t)=true:=by simp[uV,Value.isInt]
theorem FX(x:Str)(t:Tok):uV (.inr x) (.str x t)=true:=by simp[uV,Value.isStrOf]
theorem QT(a b:Int):decide ((Sum.inl a:Key)=Sum.inl b)=(a==b):=by
 by_cases e:a=b
 ·subst e;simp
 ·have h:¬(Sum.inl a:Key)=Sum.inl b:=λq=>e (Sum.inl.inj q)
  rw[decide_eq_false h]
  exact(zB.mpr e).symm
theorem QM(a b:Str):decide ((Sum.inr a:Key)=Sum.inr b)=decide (a=b):=by
 by_cases e:a=b
 ·subst e;simp
 ·have h:¬(Sum.inr a:Key)=Sum.inr b:=λq=>e (Sum.inr.inj q)
  rw[decide_eq_false h,decide_eq_false e]
theorem QS(a:Int)(b:Str):decide ((Sum.inl a:Key)=Sum.inr b)=false:=decide_eq_false (λq=>nomatch q)
theorem QR(a:Str)(b:Int):decide ((Sum.inr a:Key)=Sum.inl b)=false:=decide_eq_false (λq=>nomatch q)
def fw(prog:Program)(w:World):PySem.KeyKind prog w Key where
 is:=uV
 hash:=aAv w
 inj:=λv a b ha hb=>by
  rcases cN ha with ⟨i,t,rfl,rfl⟩ | ⟨x,t,rfl,rfl⟩
  ·rcases cN hb with ⟨j,u,rfl,e⟩ | ⟨y,u,rfl,e⟩
   ·injection e with e1 _;rw[e1]
   ·exact nomatch e
  ·rcases cN hb with ⟨j,u,rfl,e⟩ | ⟨y,u,rfl,e⟩
   ·exact nomatch e
   ·injection e with e1 _;rw[e1]
 byValue:=λk v h=>by
  rcases cN h with ⟨i,t,rfl,rfl⟩ | ⟨x,t,rfl,rfl⟩ <;> rfl
 pyHash:=λhv h=>by
  rcases cN hv with ⟨i,t,rfl,rfl⟩ | ⟨x,t,rfl,rfl⟩
  ·exact wpAny_pyHash_int h
  ·exact wpAny_pyHash_str h
 eqBool:=λhu hv h=>by
  rcases cN hu with ⟨i,t,rfl,rfl⟩ | ⟨x,t,rfl,rfl⟩
  ·rcases cN hv with ⟨j,u,rfl,rfl⟩ | ⟨y,u,rfl,rfl⟩
   ·rw[QT]at h;exact wpAny_eqBool_int h
   ·rw[QS]at h;exact SeqAt.EqAt.int_str i t y u _ _ _ _ h
  ·rcases cN hv with ⟨j,u,rfl,rfl⟩ | ⟨y,u,rfl,rfl⟩
   ·rw[QR]at h;exact SeqAt.EqAt.str_int x t j u _ _ _ _ h
   ·rw[QM]at h;exact wpAny_eqBool_str h
 «strs»:=λk x t v h=>by
  rcases cN h with ⟨i,u,rfl,e⟩ | ⟨y,u,rfl,e⟩
  ·exact nomatch e
  ·injection e with e1 _
   subst e1
   cases v <;> rfl
theorem yd(prog:Program)(w:World)(i:Int)(t:Tok):(fw prog w).is (.inl i) (.int i t)=true:=FZ i t
theorem yc(prog:Program)(w:World)(x:Str)(t:Tok):(fw prog w).is (.inr x) (.str x t)=true:=FX x t
end L2
namespace L2
open PySem PySem.Spec PyProof.Rows
inductive V where
 | non | bl (b:Bool) | int (i:Int) | str (x:Str) | Hc (b:Array UInt8) | RC (b:UInt64) | ref (a:Addr) | ty (n:String)
 deriving DecidableEq
def RelV:V->Value->Prop
 | .non,u=>u=Value.none
 | .bl b,u=>u=Value.bool b
 | .int i,u=>∃t,u=Value.int i t
 | .str x,u=>∃t,u=Value.str x t
 | .Hc b,u=>∃t,u=Value.bytes b t
 | .RC b,u=>∃t,u=Value.float b t
 | .ref a,u=>u=Value.ref a
 | .ty n,u=>u=Value.type n
abbrev Vals:List V->List Value->Prop:=Paired RelV
theorem Vals.length{xs:List V}{us:List Value}(r:Vals xs us):xs.length=us.length:=Paired.length r
theorem Vals.get:∀{xs:List V} {us:List Value} {i:Nat} {x:V},Vals xs us->xs[i]?=some x->∃u,us[i]?=some u/\RelV x u
 | _,_,_,_,.nil,e=>by simp at e
 | _,_,0,_,.cons r _,e=>by simp at e;subst e;exact⟨_,rfl,r⟩
 | _,_,i+1,x,.cons _ t,e=>by
  obtain⟨u,h1,h2⟩:=Vals.get (i:=i) (x:=x) t (by simpa using e)
  exact⟨u,by simpa using h1,h2⟩
theorem Vals.set{x:V}{u:Value}(r:RelV x u):∀{xs:List V} {us:List Value} (i:Nat),Vals xs us->Vals (xs.set i x) (us.set i u)
 | _,_,_,.nil=>.nil
 | _,_,0,.cons _ t=>.cons r t
 | _,_,i+1,.cons q t=>.cons q (Vals.set r i t)
theorem Vals.append:∀{xs ys:List V} {us ws:List Value},Vals xs us->Vals ys ws->Vals (xs++ys) (us++ws)
 | _,_,_,_,.nil,s=>s
 | _,_,_,_,.cons r t,s=>.cons r (Vals.append t s)
theorem Vals.take:∀{xs:List V} {us:List Value} (n:Nat),Vals xs us->Vals (xs.take n) (us.take n)
 | _,_,0,_=>.nil
 | _,_,_+1,.nil=>.nil
 | _,_,n+1,.cons r t=>.cons r (Vals.take n t)
theorem Vals.drop:∀{xs:List V} {us:List Value} (n:Nat),Vals xs us->Vals (xs.drop n) (us.drop n)
 | _,_,0,r=>r
 | _,_,_+1,.nil=>.nil
 | _,_,n+1,.cons _ t=>Vals.drop n t
def GL:Option V->Option Value->Prop
 | some v,some u=>RelV v u
 | none,none=>True
 | _,_=>False
def KV{κ:Type}:List (κ×V)->List (κ×Value)->Prop:=Paired λ(p:κ×V) (q:κ×Value)=>p.1=q.1/\RelV p.2 q.2
def kV:Key->V
 | .inl i=>.int i
 | .inr x=>.str x
inductive HO where
 | lst (xs:List V)
 | tup (xs:List V)
 | dK (cu:List (Key×V)) | dT (cu:List (List Key×V))
 | set (S:Int->Bool) (n:Nat)
 | ins (C dx:Addr) (fs:List (Str×V))
 | own (x:Addr)
 | xd (fs:List (Str×V))
 | met (f x:Addr)
 | Y5 (lo hi:Int)
 | D' (o:Obj) (u:HO)
 | Pg (ps:Array Value)
 | ext (φ:Heap->Prop)
abbrev Hp:=Addr->Option HO
def upd(H:Hp)(a:Addr)(o:HO):Hp:=λb=>if b=a then some o else H b
theorem ai{H:Hp}{a:Addr}{o:HO}:upd H a o a=some o:=by unfold upd;rw[aI rfl]
theorem aB{H:Hp}{a b:Addr}{o:HO}(h:b≠a):upd H a o b=H b:=by unfold upd;rw[aE h]
theorem Ld{H:Hp}{a:Addr}{o u:HO}:upd (upd H a o) a u=upd H a u:=by
 funext b;unfold upd;split <;> rfl
theorem sy{H:Hp}{a b:Addr}{o u:HO}(h:H a=some o)(h':H b=some u)(d:o≠u):a≠b:=by
 intro e;subst e;rw[h]at h';exact d (dm h')
theorem az{H:Hp}{a b:Addr}{o:HO}(h:H a=some o)(h':H b=none):a≠b:=by
 intro e;subst e;rw[h]at h';cases h'
section
variable (P:Program)(w:World)
def cO(H:Hp)(h:Heap)(a:Addr):HO->Prop
 | .lst xs=>xs.length<=sizeLine/\∃(its:List Value) (n:Nat),Vals xs its/\h.get? a=some { cls:=.type "list",data:=.seq its.toArray n }
 | .tup xs=>xs.length<=sizeLine/\∃its:List Value,Vals xs its/\IsTup h a its.toArray
 | .dK cu=>cu.length<=sizeLine/\(a==sysModules)=false/\∃vs,KV cu vs/\h.DictOf (fw P w) a vs
 | .dT cu=>cu.length<=sizeLine/\(a==sysModules)=false/\∃xs:List (List Key×Addr×Value),
   Paired (λ(p:List Key×V) (q:List Key×Addr×Value)=>p.1=q.1/\H q.2.1=some (.tup (p.1.map kV))/\RelV p.2 q.2.2) cu xs/\
   ∃o es ep,h.get? a=some o/\o.ExactDict/\o.data=.dict es ep/\es.toList=xs.map (entryOfKey (tupleKind (fw P w)))/\(xs.map (·.1)).Nodup
 | .set S n=>h.SetOf (intKind P w) a S n
 | .ins C dx fs=>H dx=some (.own a)/\fs.length<=1000/\dx≠a/\h.get? a=some (PySem.W.instObj C dx)/\
   ∃mA,h.Ns1 dx mA/\(∀f,GL (fs.lookup f) (mA f))/\PySem.Within mA (fs.map (·.1))
 | .own _=>∃o,h.get? a=some o
 | .xd fs=>∃mA,h.Ns1 a mA/\∀f,GL (fs.lookup f) (mA f)
 | .Y5 lo hi=>∃t u v,h.get? a=some { cls:=.type "range",data:=.fields #[.int lo t,.int hi u,.int 1 v] }
 | .D' o u=>h.get? a=some o/\cO H h a u
 | .Pg ps=>h.get? a=some { cls:=.none,data:=.fields ps }
 | .met f x=>h.get? a=some (PySem.W.methodObj (.ref f) (.ref x))
 | .ext φ=>φ h/\(∃o,h.get? a=some o)/\∀h1 h2:Heap,φ h1->(∀o,h1.get? a=some o->h2.get? a=some o)->φ h2
def jE(H:Hp)(h:Heap):Prop:=∀a o,H a=some o->cO P w H h a o
end
section
variable {P:Program}{w:World}{H H':Hp}{h h':Heap}{a:Addr}{o:HO}
theorem cO.lt(x:cO P w H h a o):a<h.objs.size:=by
 cases o with
 | lst xs=>obtain⟨_,_,_,_,e⟩:=x;exact bI e
 | tup xs=>obtain⟨_,_,_,p⟩:=x;exact p.lt
 | dK cu=>obtain⟨_,_,_,_,o,_,_,e,_⟩:=x;exact bI e
 | dT cu=>obtain⟨_,_,_,_,o,_,_,e,_⟩:=x;exact bI e
 | set S n=>obtain⟨o,_,_,_,e,_⟩:=x;exact bI e
 | ins C dx fs=>obtain⟨_,_,_,e,_⟩:=x;exact bI e
 | own y=>obtain⟨_,e⟩:=x;exact bI e
 | xd fs=>obtain⟨_,⟨_,_,_,e,_⟩,_⟩:=x;exact bI e
 | Y5 lo hi=>obtain⟨_,_,_,e⟩:=x;exact bI e
 | D' ob u=>obtain⟨e,_⟩:=x;exact bI e
 | Pg ps=>exact bI (show h.get? a=some _ from x)
 | met f y=>exact bI (show h.get? a=some _ from x)
 | ext φ=>obtain⟨_,⟨_,e⟩,_⟩:=x;exact bI e
theorem Paired.UL{α β:Type}{F G:α->β->Prop}:∀{l₁:List α} {l₂:List β},Paired F l₁ l₂->(∀a b,F a b->G a b)->Paired G l₁ l₂
 | _,_,.nil,_=>.nil
 | _,_,.cons r t,f=>.cons (f _ _ r) (Paired.UL t f)
theorem cO.stay(x:cO P w H h a o)(k:∀b u,(b=a\/H b=some (.own a))->h.get? b=some u->h'.get? b=some u)
  (ho:∀b,H b=some (.own a)->H' b=some (.own a)) (ht:∀b xs,H b=some (.tup xs)->H' b=some (.tup xs)):cO P w H' h' a o:=by
 induction o with
 | lst xs=>obtain⟨z,its,n,r,e⟩:=x;exact⟨z,its,n,r,k _ _ (.inl rfl) e⟩
 | tup xs=>obtain⟨z,its,r,ob,e,c⟩:=x;exact⟨z,its,r,ob,k _ _ (.inl rfl) e,c⟩
 | dK cu=>obtain⟨z,y,vs,r,ob,es,ep,e,c⟩:=x;exact⟨z,y,vs,r,ob,es,ep,k _ _ (.inl rfl) e,c⟩
 | dT cu=>
  obtain⟨z,y,xs,r,ob,es,ep,e,c⟩:=x
  exact⟨z,y,xs,Paired.UL r λp q z=>⟨z.1,ht _ _ z.2.1,z.2.2⟩,ob,es,ep,k _ _ (.inl rfl) e,c⟩
 | set S n=>obtain⟨ob,es,ep,t,e,c⟩:=x;exact⟨ob,es,ep,t,k _ _ (.inl rfl) e,c⟩
 | ins C dx fs=>
  obtain⟨d,z,ne,e,mA,⟨od,es,ep,e2,c⟩,r⟩:=x
  exact⟨ho _ d,z,ne,k _ _ (.inl rfl) e,mA,⟨od,es,ep,k _ _ (.inr d) e2,c⟩,r⟩
 | own y=>obtain⟨ob,e⟩:=x;exact⟨ob,k _ _ (.inl rfl) e⟩
 | xd fs=>obtain⟨mA,⟨od,es,ep,e,c⟩,r⟩:=x;exact⟨mA,⟨od,es,ep,k _ _ (.inl rfl) e,c⟩,r⟩
 | Y5 lo hi=>obtain⟨t,u,v,e⟩:=x;exact⟨t,u,v,k _ _ (.inl rfl) e⟩
 | D' ob u ih=>obtain⟨e,q⟩:=x;exact⟨k _ _ (.inl rfl) e,ih q⟩
 | Pg ps=>
  have e:h.get? a=some { cls:=.none,data:=.fields ps }:=x
  show h'.get? a=some { cls:=.none,data:=.fields ps }
  exact k a _ (.inl rfl) e
 | met f y=>
  have e:h.get? a=some (PySem.W.methodObj (.ref f) (.ref y)):=x
  show h'.get? a=some (PySem.W.methodObj (.ref f) (.ref y))
  exact k a _ (.inl rfl) e
 | ext φ=>obtain⟨p,⟨o,e⟩,st⟩:=x;exact⟨st _ _ p λo q=>k _ _ (.inl rfl) q,⟨o,k _ _ (.inl rfl) e⟩,st⟩
theorem jE.lt(x:jE P w H h)(e:H a=some o):a<h.objs.size:=(x a o e).lt
theorem jE.fresh(x:jE P w H h)(e:h.objs.size<=a):H a=none:=by
 cases q:H a with
 | none=>rfl
 | some u=>exact absurd (cX (x.lt q) e) (jI _)
theorem jE.kept(x:jE P w H h)(k:∀b u,h.get? b=some u->h'.get? b=some u):jE P w H h':=λa o e=>
 (x a o e).stay (λb u _ q=>k b u q) (λ_ q=>q) λ_ _ q=>q
theorem jE.laid(x:jE P w H h)(k:∀b u,h.get? b=some u->h'.get? b=some u)(hp:h.objs.size<=a)(new:cO P w (upd H a o) h' a o):jE P w (upd H a o) h':=λb u e=>by
 have hn:=x.fresh hp
 by_cases hb:b=a
 ·subst hb;rw[ai]at e;cases e;exact new
 ·rw[aB hb]at e
  exact(x b u e).stay (λc v _ q=>k c v q) (λc q=>by rw[aB (az q hn)];exact q) λc xs q=>by rw[aB (az q hn)];exact q
end
def Rd(H:Hp)(a:Addr)(u:HO):Prop:=H a=some u\/∃o,H a=some (.D' o u)
theorem Rd.ok{P:Program}{w:World}{H:Hp}{h:Heap}{a:Addr}{u:HO}(r:Rd H a u)(x:jE P w H h):cO P w H h a u:=by
 rcases r with r | ⟨o,r⟩
 ·exact x a u r
 ·obtain⟨_,q⟩:=x a _ r
  exact q
def W2:Option HO->Prop
 | some (.lst _)=>True
 | some (.dK _)=>True
 | some (.dT _)=>True
 | some (.set _ _)=>True
 | some (.ins _ _ _)=>True
 | some (.ext _)=>True
 | _=>False
section
variable {P:Program}{w:World}{H:Hp}{h h':Heap}{x e:Addr}{o':HO}
theorem jE.write(ok:jE P w H h)(mu:W2 (H x))(he:e=x\/H e=some (.own x))(k:∀b u,b≠e->h.get? b=some u->h'.get? b=some u)(SX:∃u,h'.get? e=some u)
  (new:cO P w (upd H x o') h' x o'):jE P w (upd H x o') h':=λb u q=>by
 have Uv:∀c y,H c=some (.own y)->c≠x:=λc y r z=>by subst z;rw[r]at mu;exact mu
 have oJ:∀c xs,H c=some (.tup xs)->c≠x:=λc xs r z=>by subst z;rw[r]at mu;exact mu
 by_cases hb:b=x
 ·subst hb;rw[ai]at q;cases q;exact new
 ·rw[aB hb]at q
  by_cases Ri:b=e
  ·have q':H b=some (.own x):=by
    rcases he with z | z
    ·exact absurd (Ri.trans z) hb
    ·rw[Ri];exact z
   rw[q]at q';cases q'
   obtain⟨v,hv⟩:=SX
   exact⟨v,by rw[Ri];exact hv⟩
  ·refine(ok b u q).stay (λc v hc r=>k c v ?_ r) (λc r=>by rw[aB (Uv c b r)];exact r) λc xs r=>by rw[aB (oJ c xs r)];exact r
   rcases hc with rfl | hc
   ·exact Ri
   ·rintro rfl
    rcases he with z | z
    ·exact Uv c b hc z
    ·rw[hc]at z;cases z;exact hb rfl
end
structure Un(fs ex:List Addr)(H H':Hp)(h h':Heap):Prop where
 keep:∀b o,h.get? b=some o->H b=none->b∉fs->b∉ex->h'.get? b=some o
 slot:∀b o,h.get? b=some o->H b=none->b∈fs->b∉ex->∃sl,h'.get? b=some { o with slots:=sl }
 free:∀b o,h.get? b=some o->H b=none->b∉ex->H' b=none
 there:∀b o,h.get? b=some o->b∉ex->∃o',h'.get? b=some o'
 tups:∀b xs,H b=some (.tup xs)->H' b=some (.tup xs)
 frzs:∀b o u,H b=some (.D' o u)->H' b=some (.D' o u)
 tbls:∀b ps,H b=some (.Pg ps)->∃more,H' b=some (.Pg (ps++more))
section
variable {fs fs' ex ex':List Addr}{H H1 H2:Hp}{h h1 h2 h':Heap}{a x e:Addr}{o:HO}
theorem Un.any(u:Un fs ex H H1 h h1){b:Addr}{ob:Obj}(q:h.get? b=some ob)(n:H b=none)(hx:b∉ex):∃sl,h1.get? b=some { ob with slots:=sl }:=by
 by_cases hb:b∈fs
 ·exact u.slot b ob q n hb hx
 ·exact⟨ob.slots,u.keep b ob q n hb hx⟩
theorem Un.trans(a:Un fs ex H H1 h h1)(b:Un fs ex H1 H2 h1 h2):Un fs ex H H2 h h2 where
 keep:=λc ob q n hc hx=>b.keep c ob (a.keep c ob q n hc hx) (a.free c ob q n hx) hc hx
 slot:=λc ob q n hc hx=>by
  obtain⟨sl,e1⟩:=a.slot c ob q n hc hx
  obtain⟨TL,e2⟩:=b.slot c _ e1 (a.free c ob q n hx) hc hx
  exact⟨TL,e2⟩
 free:=λc ob q n hx=>by
  obtain⟨o',e1⟩:=a.there c ob q hx
  exact b.free c o' e1 (a.free c ob q n hx) hx
 there:=λc ob q hx=>by
  obtain⟨o',e1⟩:=a.there c ob q hx
  exact b.there c o' e1 hx
 tups:=λc xs q=>b.tups c xs (a.tups c xs q)
 frzs:=λc ob xs q=>b.frzs c ob xs (a.frzs c ob xs q)
 tbls:=λc ps q=>by
  obtain⟨m1,e1⟩:=a.tbls c ps q
  obtain⟨m2,e2⟩:=b.tbls c _ e1
  exact⟨m1++m2,by rw[e2,Array.append_assoc]⟩
theorem Un.kept(k:∀b u,h.get? b=some u->h'.get? b=some u):Un fs ex H H h h':=
 ⟨λb ob q _ _ _=>k b ob q,λb ob q _ _ _=>⟨ob.slots,k b ob q⟩,λ_ _ _ n _=>n,λb ob q _=>⟨ob,k b ob q⟩,λ_ _ q=>q,λ_ _ _ q=>q,λ_ ps q=>⟨#[],by rw[q];simp⟩⟩
theorem Un.refl:Un fs ex H H h h:=Un.kept λ_ _ q=>q
theorem Un.laid(k:∀b u,h.get? b=some u->h'.get? b=some u)(hp:h.objs.size<=a)(hn:H a=none):Un fs ex H (upd H a o) h h' where
 keep:=λb u q _ _ _=>k b u q
 slot:=λb u q _ _ _=>⟨u.slots,k b u q⟩
 free:=λb u q n _=>by rw[aB (bJ (cX (bI q) hp))];exact n
 there:=λb u q _=>⟨u,k b u q⟩
 tups:=λb xs q=>by rw[aB (az q hn)];exact q
 frzs:=λb u xs q=>by rw[aB (az q hn)];exact q
 tbls:=λb ps q=>⟨#[],by rw[aB (az q hn),q];simp⟩
theorem Un.write(mu:W2 (H x))(he:e=x\/H e=some (.own x))(k:∀b u,b≠e->h.get? b=some u->h'.get? b=some u)(SX:∃u,h'.get? e=some u):Un fs ex H (upd H x o) h h':=by
 have hx:∀b,H b=none->b≠x:=λb n z=>by subst z;rw[n]at mu;exact mu
 have hb:∀b,H b=none->b≠e:=λb n z=>by
  subst z
  rcases he with r | r
  ·exact hx b n r
  ·rw[n]at r;cases r
 have hm:∀b u,H b=some u->¬W2 (some u)->b≠x:=λb u q nm z=>by subst z;rw[q]at mu;exact nm mu
 refine⟨λb u q n _ _=>k b u (hb b n) q,λb u q n _ _=>⟨u.slots,k b u (hb b n) q⟩,λb u q n _=>by rw[aB (hx b n)];exact n,λb u q _=>?_,
  λb xs q=>by rw[aB (hm b _ q λz=>z)];exact q,λb u xs q=>by rw[aB (hm b _ q λz=>z)];exact q,λb ps q=>⟨#[],by rw[aB (hm b _ q λz=>z),q];simp⟩⟩
 by_cases Ri:b=e
 ·subst Ri;exact SX
 ·exact⟨u,k b u Ri q⟩
end
def W9(h:Heap)(H:Hp):List Addr:=(List.range h.objs.size).filter λa=>(H a).isSome
def wy(h:Heap)(H:Hp):Heap:=PySem.W.hideAll h (W9 h H)
theorem Gf(h:Heap)(H:Hp):(wy h H).objs.size=h.objs.size:=PySem.W.hideAll_size _ _
theorem JZ{h:Heap}{H:Hp}{b:Addr}{o:Obj}(e:h.get? b=some o)(n:H b=none):(wy h H).get? b=some o:=
 PySem.W.hideAll_get _ e λhm=>by
  have q:(H b).isSome=true:=(rm.mp hm).2
  rw[n]at q;simp at q
theorem M0{h:Heap}{H:Hp}{b:Addr}{o:Obj}(e:(wy h H).get? b=some o):h.get? b=some o/\H b=none:=by
 have e':h.get? b=some o:=PySem.W.of_hideAll (W9 h H) e
 refine⟨e',?_⟩
 cases q:H b with
 | none=>rfl
 | some x=>
  have hm:b∈W9 h H:=rm.mpr ⟨oo.mpr (bI e'),by simp[q]⟩
  have z:(wy h H).get? b=none:=PySem.W.hideAll_none (W9 h H) hm
  rw[z]at e;cases e
def NX(g h:Heap)(L:Addr):List (Addr×Obj):=(List.range h.objs.size).filterMap λa=>if a=L\/(g.get? a).isSome=true then none else (h.get? a).map λo=>(a,o)
def rest(g h:Heap)(L d:Addr):List (Addr×Obj):=(NX g h L).filter λp=>decide (p.1≠d)
end L2
namespace L2
open PySem PySem.Spec PyProof.Rows
structure Mod(K:PySem.W.Frag)(mg:Str->Option Value)(base:Heap):Prop where
 U5:K.In base
 glob:base.Ns mainGlobals mg
 blt:∃mb,base.Ns builtinsNs mb/\∀x:Str,x≠"__name__"->mb x=bootBuiltins x
 nolimit:base.NoLimit
structure Cx where
 prog:Program
 w:World
 K:PySem.W.Frag
 mg:Str->Option Value
 base:Heap
 A:Around
 N:List Str
 s₀:Shared
 H₀:Hp
 env:Env
 outer:List Env
 stack:List Env
 ex:List Addr
 fn:Str->Bool
 calm:Bool
 pn:List (Addr×Obj)
 xe:Value->Shared->Prop
def lE(l:List Env):List Addr:=l.filterMap (·.frame)
abbrev Cx.fs(X:Cx):List Addr:=lE X.outer
def Tp(sc:Scope)(x:Str):Prop:=sc.names.lookup x=some .local\/sc.names.lookup x=some .cell\/sc.names.lookup x=some .free
def Loc(sc:Scope)(x:Str):Prop:=sc.names.lookup x=some .local\/sc.names.lookup x=some .cell
def Look(env:Env)(h:Heap)(m:Str->Option Value)(x:Str)(u:Value):Prop:=
 (env.kindOf x=some .local/\m x=some u)\/((env.kindOf x=some .cell\/env.kindOf x=some .free)/\∃c,env.cells.lookup x=some c/\h.IsCell c (some u))
structure Cx.Ok(X:Cx):Prop where
 mod:Mod X.K X.mg X.base
 kind:X.env.scope.kind=.function
 glob:X.env.globals=mainGlobals
 blt:X.env.builtins=builtinsNs
 above:X.s₀.heap.objs.size<=X.env.locals
 inj:∀x y c,X.env.cells.lookup x=some c->X.env.cells.lookup y=some c->x=y
 has:∀x,(X.env.kindOf x=some .cell\/X.env.kindOf x=some .free)->∃c,X.env.cells.lookup x=some c
 Oz:∀x c,X.fn x=true->X.env.cells.lookup x=some c->X.s₀.heap.objs.size<=c
 hd:X.calm=true->X.A.handled=none
 frames:X.A.frames=some X.stack
 Pt:X.stack=X.outer\/(X.stack=X.env::X.outer/\X.env.frame=some X.env.locals)
 V1:∀b∈X.ex,b≠X.env.locals/\∀x c,X.env.cells.lookup x=some c->c≠b
 bs:∀b o,X.base.get? b=some o->X.s₀.heap.get? b=some o/\X.H₀ b=none
 Gx:X.base.objs.size<=X.s₀.heap.objs.size
 xW:∀b o,X.base.get? b=some o->b∉X.ex
 BK:∀b∈X.ex,b∉X.fs
 lD:X.s₀.heap.FunFrames X.base X.outer
 Ka:∀b∈X.fs,X.H₀ b=none
structure Inv(X:Cx)(pins:List (Addr×Obj))(σ:List (Option V))(H:Hp)(s:Shared):Prop where
 ok:X.Ok
 os:s.os=X.s₀.os
 bare:AllBare s.gens
 base:Un X.fs X.ex X.H₀ H X.s₀.heap s.heap
 loc:∃m,s.heap.Ns X.env.locals m/\∀(i:Nat) (x:Str) (v:V),X.N[i]?=some x->σ[i]?=some (some v)->Tp X.env.scope x->∃u,RelV v u/\Look X.env s.heap m x u
 cell:∀x c,X.env.cells.lookup x=some c->∃v,s.heap.IsCell c v
 free:H X.env.locals=none
 fG:∀x c,X.env.cells.lookup x=some c->H c=none
 pin:∀p∈X.pn++pins,s.heap.get? p.1=some p.2/\H p.1=none/\p.1≠X.env.locals/\p.1∉X.fs/\∀v,p.2.data≠.cell v
 bT:jE X.prog X.w H s.heap
 len:σ.length=X.N.length
section
variable {X:Cx}{pins:List (Addr×Obj)}{σ:List (Option V)}{H H':Hp}{s:Shared}{h':Heap}
theorem Cx.Ok.aAq(ok:X.Ok){b:Addr}{o:Obj}(e:X.base.get? b=some o):b∉X.fs:=λhb=>by
 have:=(ok.lD.mem hb).1
 rw[e]at this;cases this
theorem Inv.bs(I:Inv X pins σ H s):∀b o,X.base.get? b=some o->s.heap.get? b=some o/\H b=none:=λb o e=>
 ⟨I.base.keep b o (I.ok.bs b o e).1 (I.ok.bs b o e).2 (I.ok.aAq e) (I.ok.xW b o e),I.base.free b o (I.ok.bs b o e).1 (I.ok.bs b o e).2 (I.ok.xW b o e)⟩
theorem Inv.bk(I:Inv X pins σ H s):∀b o,X.base.get? b=some o->s.heap.get? b=some o:=λb o e=>(I.bs b o e).1
theorem Inv.mod(I:Inv X pins σ H s):Mod X.K X.mg X.base:=I.ok.mod
theorem Inv.jP(I:Inv X pins σ H s):X.K.In s.heap:=I.ok.mod.U5.keeps I.bk
theorem Inv.lt(I:Inv X pins σ H s):X.env.locals<s.heap.objs.size:=let ⟨_,hn,_⟩:=I.loc;hn.lt
theorem Inv.sz(I:Inv X pins σ H s):X.s₀.heap.objs.size<=s.heap.objs.size:=fF I.ok.above (pd I.lt)
theorem Inv.Uw(I:Inv X pins σ H s){a:Addr}(h:s.heap.objs.size<=a):a∉X.fs:=λhb=>by
 obtain⟨_,o,ho,_⟩:=I.ok.lD.mem hb
 exact absurd (cX (bI ho) (fF I.sz h)) (jI _)
theorem Inv.NC(I:Inv X pins σ H s):∀x c,X.env.cells.lookup x=some c->c≠X.env.locals:=λx c e z=>by
 obtain⟨v,o,ho,hd⟩:=I.cell x c e
 obtain⟨m,⟨o',es,ep,wK,Td,_⟩,_⟩:=I.loc
 rw[z,wK]at ho;cases ho;rw[Td]at hd;cases hd
theorem Inv.lD(I:Inv X pins σ H s):s.heap.FunFrames X.base X.outer:=by
 have all:∀(l:List Env),(∀b∈lE l,b∈X.fs)->X.s₀.heap.FunFrames X.base l->s.heap.FunFrames X.base l:=by
  intro l
  induction l with
  | nil=>intro _ _;trivial
  | cons env r ih=>
   intro hs hl
   obtain⟨hk,⟨L,o,hf,hn,ho,hd⟩,hr⟩:=hl
   have hL:L∈X.fs:=hs L (by unfold lE;rw[zy,hf];exact dE)
   obtain⟨sl,e⟩:=I.base.slot L o ho (I.ok.Ka L hL) hL λz=>I.ok.BK L z hL
   exact⟨hk,⟨L,_,hf,hn,e,hd⟩,ih (λb hb=>hs b (by unfold lE;rw[zy,hf];exact dY _ hb)) hr⟩
 exact all X.outer (λ_ hb=>hb) I.ok.lD
theorem Inv.stack(I:Inv X pins σ H s):s.heap.FunFrames X.base X.stack:=by
 rcases I.ok.Pt with e | ⟨e,hf⟩
 ·rw[e];exact I.lD
 ·rw[e]
  obtain⟨m,hn,_⟩:=I.loc
  refine .cons (by rw[I.ok.kind];decide) hf hn ?_ I.lD
  exact uw (fF I.ok.Gx I.ok.above)
theorem Inv.sg(I:Inv X pins σ H s):∀b∈lE X.stack,b∈X.env.locals::X.fs:=λb hb=>by
 rcases I.ok.Pt with e | ⟨e,hf⟩
 ·rw[e]at hb;exact dY _ hb
 ·rw[e]at hb
  unfold lE at hb
  rw[zy,hf]at hb
  exact hb
theorem Inv.qC(I:Inv X pins σ H s):∀b∈lE X.stack,H b=none:=λb hb=>by
 rcases dh.mp (I.sg b hb) with e | hb
 ·rw[e];exact I.free
 ·obtain⟨_,o,ho,_⟩:=I.ok.lD.mem hb
  exact I.base.free b o ho (I.ok.Ka b hb) λz=>I.ok.BK b z hb
theorem Inv.step{g':Array GenState}{t':Nat}{d':Drawn}{ch:List Addr}(I:Inv X pins σ H s)
  (tZ:∀b∈ch,(b∈X.ex\/X.s₀.heap.objs.size<=b)/\b≠X.env.locals/\(∀x c,X.env.cells.lookup x=some c->c≠b)/\∀p∈X.pn++pins,p.1≠b)
  (keep:∀b o,b≠X.env.locals->b∉X.fs->b∉ch->s.heap.get? b=some o->H b=none->h'.get? b=some o)
  (slot:∀b o,b≠X.env.locals->b∈X.fs->b∉ch->s.heap.get? b=some o->H b=none->∃sl,h'.get? b=some { o with slots:=sl }) (free:∀b o,b∉ch->s.heap.get? b=some o->H b=none->H' b=none)
  (there:∀b o,b∉ch->s.heap.get? b=some o->∃o',h'.get? b=some o')
  (tups:∀b xs,H b=some (.tup xs)->H' b=some (.tup xs)) (frzs:∀b o u,H b=some (.D' o u)->H' b=some (.D' o u)) (tbls:∀b ps,H b=some (.Pg ps)->∃more,H' b=some (.Pg (ps++more)))
  (ns:∀m,s.heap.Ns X.env.locals m->h'.Ns X.env.locals m) (bT:jE X.prog X.w H' h') (hg:AllBare g') :
  Inv X pins σ H' { s with heap:=h',gens:=g',drawn:=d',toks:=t' }:=by
 have neL:∀b o,X.s₀.heap.get? b=some o->b≠X.env.locals:=λb o e=>bJ (cX (bI e) I.ok.above)
 have Xl:∀b o,X.s₀.heap.get? b=some o->b∉X.ex->b∉ch:=λb o e hx hb=>by
  rcases(tZ b hb).1 with z | z
  ·exact hx z
  ·exact absurd (cX (bI e) z) (jI _)
 have cellK:∀x c,X.env.cells.lookup x=some c->∀v,s.heap.IsCell c v->h'.IsCell c v:=λx c e v ⟨o,ho,hd⟩=>by
  have UG:c∉ch:=λz=>(tZ c z).2.2.1 x c e rfl
  by_cases hc:c∈X.fs
  ·obtain⟨sl,q⟩:=slot c o (I.NC x c e) hc UG ho (I.fG x c e)
   exact⟨_,q,hd⟩
  ·exact⟨o,keep c o (I.NC x c e) hc UG ho (I.fG x c e),hd⟩
 refine⟨I.ok,I.os,hg,⟨λb o e n hb hx=>?_,λb o e n hb hx=>?_,λb o e n hx=>?_,λb o e hx=>?_,λb xs e=>tups b xs (I.base.tups b xs e),λb o xs e=>frzs b o xs (I.base.frzs b o xs e),λb ps e=>?_⟩,?_,λx c e=>?_,?_,λx c e=>?_,λp hp=>?_,bT,I.len⟩
 ·exact keep b o (neL b o e) hb (Xl b o e hx) (I.base.keep b o e n hb hx) (I.base.free b o e n hx)
 ·obtain⟨sl,e1⟩:=I.base.slot b o e n hb hx
  obtain⟨TL,e2⟩:=slot b _ (neL b o e) hb (Xl b o e hx) e1 (I.base.free b o e n hx)
  exact⟨TL,e2⟩
 ·obtain⟨o',e1⟩:=I.base.there b o e hx
  exact free b o' (Xl b o e hx) e1 (I.base.free b o e n hx)
 ·obtain⟨o',e1⟩:=I.base.there b o e hx
  exact there b o' (Xl b o e hx) e1
 ·obtain⟨m1,e1⟩:=I.base.tbls b ps e
  obtain⟨m2,e2⟩:=tbls b _ e1
  exact⟨m1++m2,by rw[e2,Array.append_assoc]⟩
 ·obtain⟨m,hn,hl⟩:=I.loc
  refine⟨m,ns m hn,λi x v e1 e2 e3=>?_⟩
  obtain⟨u,r,l⟩:=hl i x v e1 e2 e3
  refine⟨u,r,?_⟩
  rcases l with l | ⟨k,c,e,z⟩
  ·exact .inl l
  ·exact .inr ⟨k,c,e,cellK x c e _ z⟩
 ·obtain⟨v,z⟩:=I.cell x c e
  exact⟨v,cellK x c e v z⟩
 ·obtain⟨m,⟨o,_,_,ho,_⟩,_⟩:=I.loc
  exact free _ o (λz=>(tZ _ z).2.1 rfl) ho I.free
 ·obtain⟨v,o,ho,hd⟩:=I.cell x c e
  exact free c o (λz=>(tZ c z).2.2.1 x c e rfl) ho (I.fG x c e)
 ·obtain⟨e,n,ne,nf,d⟩:=I.pin p hp
  have UG:p.1∉ch:=λz=>(tZ p.1 z).2.2.2 p hp rfl
  exact⟨keep p.1 p.2 ne nf UG e n,free p.1 p.2 UG e n,ne,nf,d⟩
theorem Inv.un{t':Nat}(I:Inv X pins σ H s)(u:Un X.fs [] H H' s.heap h')(bT:jE X.prog X.w H' h'):Inv X pins σ H' { s with heap:=h',toks:=t' }:=by
 obtain⟨m,⟨o,es,ep,ho,r⟩,_⟩:=id I.loc
 obtain⟨sl,hL⟩:=u.any ho I.free (by simp)
 exact I.step (g':=s.gens) (d':=s.drawn) (ch:=[]) (λ_ z=>nomatch z) (λb o _ hb _ e n=>u.keep b o e n hb (by simp)) (λb o _ hb _ e n=>u.slot b o e n hb (by simp)) (λb o _ e n=>u.free b o e n (by simp)) (λb o _ e=>u.there b o e (by simp)) u.tups u.frzs u.tbls (λm' hm=>by
  obtain⟨o',es',X8,wK,r'⟩:=hm
  rw[ho]at wK;cases wK
  exact⟨_,es',X8,hL,r'⟩) bT I.bare
theorem Inv.call{g':Array GenState}{t':Nat}{d':Drawn}{ch:List Addr}(I:Inv X pins σ H s)(u:Un (lE X.stack) ch H H' s.heap h')(bT:jE X.prog X.w H' h')(hg:AllBare g')
  (tZ:∀b∈ch,(b∈X.ex\/X.s₀.heap.objs.size<=b)/\b≠X.env.locals/\(∀x c,X.env.cells.lookup x=some c->c≠b)/\∀p∈X.pn++pins,p.1≠b) :
  Inv X pins σ H' { s with heap:=h',gens:=g',drawn:=d',toks:=t' }:=by
 obtain⟨m,⟨o,es,ep,ho,r⟩,_⟩:=id I.loc
 obtain⟨sl,hL⟩:=u.any ho I.free λz=>(tZ _ z).2.1 rfl
 exact I.step (ch:=ch) tZ (λb o hL hb hc e n=>u.keep b o e n (λz=>(dh.mp (I.sg b z)).elim hL hb) hc) (λb o _ _ hc e n=>u.any e n hc) (λb o hc e n=>u.free b o e n hc) (λb o hc e=>u.there b o e hc) u.tups u.frzs u.tbls (λm' hm=>by
  obtain⟨o',es',X8,wK,r'⟩:=hm
  rw[ho]at wK;cases wK
  exact⟨_,es',X8,hL,r'⟩) bT hg
theorem Inv.turned{t':Nat}{it:Addr}(I:Inv X pins σ H s)(k:∀b o,b≠it->s.heap.get? b=some o->h'.get? b=some o)(hn:H it=none)(hL:it≠X.env.locals)
  (h1:it∈X.ex\/X.s₀.heap.objs.size<=it) (h2:∀x c,X.env.cells.lookup x=some c->c≠it) (h3:∀p∈X.pn++pins,p.1≠it):Inv X pins σ H { s with heap:=h',toks:=t' }:=by
 have Uz:∀b u,H b=some u->b≠it:=λb u e z=>by rw[z,hn]at e;cases e
 refine I.step (g':=s.gens) (d':=s.drawn) (ch:=[it]) (λb hb=>?_) (λb o _ _ hc e _=>k b o (λz=>hc (by simp[z])) e) (λb o _ _ hc e _=>⟨o.slots,k b o (λz=>hc (by simp[z])) e⟩) (λ_ _ _ _ n=>n)
  (λb o hc e=>⟨o,k b o (λz=>hc (by simp[z])) e⟩) (λ_ _ e=>e) (λ_ _ _ e=>e) (λb ps e=>⟨#[],by rw[e];simp⟩) (λm hm=>?_) (λb u e=>?_) I.bare
 ·have e:b=it:=by simpa using hb
  subst e
  exact⟨h1,hL,h2,h3⟩
 ·obtain⟨o,es,ep,ho,r⟩:=hm
  exact⟨o,es,ep,k _ o (fH hL) ho,r⟩
 ·refine(I.bT b u e).stay (λc v hc q=>k c v ?_ q) (λ_ q=>q) λ_ _ q=>q
  rcases hc with z | z
  ·rw[z];exact Uz b u e
  ·exact Uz c _ z
theorem Inv.tok(I:Inv X pins σ H s)(t:Nat):Inv X pins σ H { s with toks:=t }:=I.un (h':=s.heap) (t':=t) Un.refl I.bT
theorem Inv.kept{t':Nat}(I:Inv X pins σ H s)(k:∀b u,s.heap.get? b=some u->h'.get? b=some u):Inv X pins σ H { s with heap:=h',toks:=t' }:=I.un (Un.kept k) (I.bT.kept k)
theorem Inv.laid{a:Addr}{o:HO}{t':Nat}(I:Inv X pins σ H s)(k:∀b u,s.heap.get? b=some u->h'.get? b=some u)(hp:s.heap.objs.size<=a)(new:cO X.prog X.w (upd H a o) h' a o) :
  Inv X pins σ (upd H a o) { s with heap:=h',toks:=t' }:=I.un (Un.laid k hp (I.bT.fresh hp)) (I.bT.laid k hp new)
theorem Inv.write{x e:Addr}{o:HO}{t':Nat}(I:Inv X pins σ H s)(mu:W2 (H x))(he:e=x\/H e=some (.own x))(k:∀b u,b≠e->s.heap.get? b=some u->h'.get? b=some u)(SX:∃u,h'.get? e=some u)
  (new:cO X.prog X.w (upd H x o) h' x o):Inv X pins σ (upd H x o) { s with heap:=h',toks:=t' }:=I.un (Un.write mu he k SX) (I.bT.write mu he k SX new)
theorem Inv.Dp{xK:List (Addr×Obj)}(I:Inv X pins σ H s)(h:∀p∈xK,s.heap.get? p.1=some p.2/\H p.1=none/\p.1≠X.env.locals/\p.1∉X.fs/\∀v,p.2.data≠.cell v):Inv X xK σ H s:=
 ⟨I.ok,I.os,I.bare,I.base,I.loc,I.cell,I.free,I.fG,λp hp=>(gW.mp hp).elim (λz=>I.pin p (pC _ z)) (h p),I.bT,I.len⟩
theorem su{N:List Str}(hN:N.Nodup){i j:Nat}{x:Str}(a:N[i]?=some x)(b:N[j]?=some x):i=j:=by
 obtain⟨h1,e1⟩:=eQ.mp a
 obtain⟨h2,e2⟩:=eQ.mp b
 exact(za hN).mp (e1.trans e2.symm)
theorem uI{M:Model}{A:Around}{E:Value->Shared->Prop}{i:Nat}{x:Str}{v:V}{u:Value}{Q:Unit->Shared->Prop}(I:Inv X pins σ H s)(hN:X.N.Nodup)(hi:X.N[i]?=some x)(hx:Loc X.env.scope x)(r:RelV v u)
  (h:∀s',Inv X pins (σ.set i (some v)) H s'->(∃a,Heap.SameBut a s.heap s'.heap/\(a=X.env.locals\/X.env.cells.lookup x=some a))->Q () s') (hf:X.fn x=true\/X.env.scope.names.lookup x=some .local:=by first | exact .inl rfl | exact .inr rfl | assumption):wpAny M A (storeName X.env x u) Q E s:=by
 obtain⟨m,hn,hl⟩:=id I.loc
 have Rh:(X.env.scope.kind == .class||(X.env.scope.kind == .module&&X.env.locals != X.env.globals))=false:=by rw[I.ok.kind];rfl
 have SQ:i<σ.length:=by rw[I.len];exact(eQ.mp hi).1
 have NC:=I.NC
 have tracked:∀{a:Addr} {h':Heap},(∃o,s.heap.get? a=some o/\H a=none)->Heap.SameBut a s.heap h'->jE X.prog X.w H h':=λ{a h'} ha hs b ob e=>by
  obtain⟨_,_,yA⟩:=ha
  refine(I.bT b ob e).stay (λc w' hc q=>(hs.2 c ?_).trans q) (λ_ q=>q) λ_ _ q=>q
  rintro rfl
  rcases hc with rfl | hc
  ·rw[yA]at e;cases e
  ·rw[yA]at hc;cases hc
 rcases hx with hk | hk
 ·refine wpAny_storeName_local hk hn (λh' Oq hs=>?_) Rh
  obtain⟨oL,_,_,Ge,_⟩:=id hn
  refine h _ ⟨I.ok,I.os,I.bare,⟨λb o e n hb hx=>?_,λb o e n hb hx=>?_,I.base.free,λb o e hx=>?_,I.base.tups,I.base.frzs,I.base.tbls⟩,⟨_,Oq,λj y v' e1 e2 e3=>?_⟩,λy c e=>?_,I.free,I.fG,λp hp=>?_,tracked ⟨oL,Ge,I.free⟩ hs,by simpa using I.len⟩ ⟨_,hs,.inl rfl⟩
  ·exact(hs.2 b (bJ (cX (bI e) I.ok.above))).trans (I.base.keep b o e n hb hx)
  ·obtain⟨sl,e1⟩:=I.base.slot b o e n hb hx
   exact⟨sl,(hs.2 b (bJ (cX (bI e) I.ok.above))).trans e1⟩
  ·obtain⟨o',e1⟩:=I.base.there b o e hx
   exact⟨o',(hs.2 b (bJ (cX (bI e) I.ok.above))).trans e1⟩
  ·by_cases hj:j=i
   ·subst hj
    rw[hi]at e1;cases e1
    rw[vK SQ]at e2
    cases e2
    exact⟨u,r,.inl ⟨hk,by simp⟩⟩
   ·rw[zC (fH hj)]at e2
    obtain⟨u',r',q⟩:=hl j y v' e1 e2 e3
    refine⟨u',r',?_⟩
    rcases q with ⟨k,e⟩ | ⟨k,c,e,z⟩
    ·refine .inl ⟨k,?_⟩
     have:y≠x:=λe=>hj (su hN e1 (e ▸ hi))
     simp[this,e]
    ·exact .inr ⟨k,c,e,z.sameBut hs (NC y c e)⟩
  ·obtain⟨w',z⟩:=I.cell y c e
   exact⟨w',z.sameBut hs (NC y c e)⟩
  ·obtain⟨e,n,ne,nf,d⟩:=I.pin p hp
   exact⟨(hs.2 p.1 ne).trans e,n,ne,nf,d⟩
 ·have hfn:X.fn x=true:=by
   rcases hf with z | z
   ·exact z
   ·rw[z]at hk;cases hk
  obtain⟨c,hc⟩:=I.ok.has x (.inl hk)
  obtain⟨w',z⟩:=I.cell x c hc
  refine wpAny_storeName_cell I.ok.kind hk hc z (λh' Gh hs=>?_)
  obtain⟨oc,hoc,aAS⟩:=id z
  refine h { s with heap:=h' } ⟨I.ok,I.os,I.bare,⟨λb o e n hb hx=>?_,λb o e n hb hx=>?_,I.base.free,λb o e hx=>?_,I.base.tups,I.base.frzs,I.base.tbls⟩,⟨m,hn.sameBut hs (fH (NC x c hc)),λj y v' e1 e2 e3=>?_⟩,λy c' e=>?_,I.free,I.fG,λp hp=>?_,tracked ⟨oc,hoc,I.fG x c hc⟩ hs,by simpa using I.len⟩ ⟨c,hs,.inr hc⟩
  ·exact(hs.2 b (bJ (cX (bI e) (I.ok.Oz x c hfn hc)))).trans (I.base.keep b o e n hb hx)
  ·obtain⟨sl,e1⟩:=I.base.slot b o e n hb hx
   exact⟨sl,(hs.2 b (bJ (cX (bI e) (I.ok.Oz x c hfn hc)))).trans e1⟩
  ·obtain⟨o',e1⟩:=I.base.there b o e hx
   exact⟨o',(hs.2 b (bJ (cX (bI e) (I.ok.Oz x c hfn hc)))).trans e1⟩
  ·by_cases hj:j=i
   ·subst hj
    rw[hi]at e1;cases e1
    rw[vK SQ]at e2
    cases e2
    exact⟨u,r,.inr ⟨.inl hk,c,hc,Gh⟩⟩
   ·rw[zC (fH hj)]at e2
    obtain⟨u',r',q⟩:=hl j y v' e1 e2 e3
    refine⟨u',r',?_⟩
    rcases q with q | ⟨k,c',e,z'⟩
    ·exact .inl q
    ·refine .inr ⟨k,c',e,z'.sameBut hs ?_⟩
     rintro rfl
     exact hj (su hN e1 (I.ok.inj _ _ _ e hc ▸ hi))
  ·by_cases hcc:c'=c
   ·subst hcc;exact⟨_,Gh⟩
   ·obtain⟨w2,z2⟩:=I.cell y c' e
    exact⟨w2,z2.sameBut hs hcc⟩
  ·obtain⟨e,n,ne,nf,d⟩:=I.pin p hp
   refine⟨(hs.2 p.1 ?_).trans e,n,ne,nf,d⟩
   intro q
   rw[q,hoc]at e
   have q':oc=p.2:=dm e
   exact d w' (by rw[<-q'];exact aAS)
theorem j2{M:Model}{A:Around}{E:Value->Shared->Prop}{i:Nat}{x:Str}{v:V}{u:Value}{Q:Unit->Shared->Prop}(I:Inv X pins σ H s)(hN:X.N.Nodup)(hi:X.N[i]?=some x)(hx:Loc X.env.scope x)(r:RelV v u)
  (h:∀s',Inv X pins (σ.set i (some v)) H s'->Q () s') (hf:X.fn x=true\/X.env.scope.names.lookup x=some .local:=by first | exact .inl rfl | exact .inr rfl | assumption):wpAny M A (storeName X.env x u) Q E s:=
 uI I hN hi hx r (λs' I' _=>h s' I') hf
theorem Inv.call'{s':Shared}{ch:List Addr}(I:Inv X pins σ H s)(ho:s'.os=s.os)(u:Un (lE X.stack) ch H H' s.heap s'.heap)(bT:jE X.prog X.w H' s'.heap)(hg:AllBare s'.gens)
  (tZ:∀b∈ch,(b∈X.ex\/X.s₀.heap.objs.size<=b)/\b≠X.env.locals/\(∀x c,X.env.cells.lookup x=some c->c≠b)/\∀p∈X.pn++pins,p.1≠b):Inv X pins σ H' s':=by
 obtain⟨h',g',d',t',o'⟩:=s'
 have e:o'=s.os:=ho
 subst e
 exact I.call (g':=g') (t':=t') (d':=d') u bT hg tZ
end
abbrev XK:=Value->Option Addr->Hp->Prop
abbrev St:=List (Option V)
abbrev VK:=V->Hp->Prop
abbrev TE:=St->Hp->VK->Prop
abbrev TT:=St->Hp->(Bool->Hp->Prop)->Prop
abbrev TA:=St->Hp->(List V->Hp->Prop)->Prop
structure Ends where
 nx:St->Hp->Prop
 rt:VK
 bk:St->Hp->Prop:=λ_ _=>False
 ct:St->Hp->Prop:=λ_ _=>False
abbrev TS:=Ends->St->Hp->Prop
def EP(X:Cx)(pins:List (Addr×Obj))(σ:St)(Q:VK)(u:Value)(s':Shared):Prop:=∃v H',Inv X pins σ H' s'/\RelV v u/\Q v H'
def TP(X:Cx)(pins:List (Addr×Obj))(σ:St)(Q:Bool->Hp->Prop)(b:Bool)(s':Shared):Prop:=∃H',Inv X pins σ H' s'/\Q b H'
def AP(X:Cx)(pins:List (Addr×Obj))(σ:St)(Q:List V->Hp->Prop)(us:List Value)(s':Shared):Prop:=∃vs H',Inv X pins σ H' s'/\Vals vs us/\Q vs H'
def SP(X:Cx)(pins:List (Addr×Obj))(D:Ends)(f:Flow)(s':Shared):Prop:=
 match f with
 | .next=>∃σ' H',Inv X pins σ' H' s'/\D.nx σ' H'
 | .brk=>∃σ' H',Inv X pins σ' H' s'/\D.bk σ' H'
 | .cont=>∃σ' H',Inv X pins σ' H' s'/\D.ct σ' H'
 | .ret u=>∃v σ' H',Inv X pins σ' H' s'/\RelV v u/\D.rt v H'
def PE(X:Cx)(e:Expr)(t:TE):Prop:=
 ∀(pins:List (Addr×Obj)) (s:Shared) (σ:St) (H:Hp) (Q:VK),Inv X pins σ H s->t σ H Q->wpAny (model X.prog X.w) X.A (eval e X.env) (EP X pins σ Q) X.xe s
def PT(X:Cx)(e:Expr)(t:TT):Prop:=
 ∀(pins:List (Addr×Obj)) (s:Shared) (σ:St) (H:Hp) (Q:Bool->Hp->Prop),Inv X pins σ H s->t σ H Q->wpAny (model X.prog X.w) X.A (isTrue e X.env (eval e X.env)) (TP X pins σ Q) X.xe s
def PW(X:Cx)(e:Expr)(t:TT):Prop:=
 ∀(whole:Sem Value) (pins:List (Addr×Obj)) (s:Shared) (σ:St) (H:Hp) (Q:Bool->Hp->Prop),Inv X pins σ H s->t σ H Q->wpAny (model X.prog X.w) X.A (isTrue e X.env whole) (TP X pins σ Q) X.xe s
theorem PW.pt{X:Cx}{e:Expr}{t:TT}(h:PW X e t):PT X e t:=h _
def PA(X:Cx)(es:List Expr)(t:TA):Prop:=
 ∀(pos:Pos) (pins:List (Addr×Obj)) (s:Shared) (σ:St) (H:Hp) (Q:List V->Hp->Prop),Inv X pins σ H s->t σ H Q->wpAny (model X.prog X.w) X.A (spliced (backTo pos (starEach es X.env))) (AP X pins σ Q) X.xe s
def PS(X:Cx)(st:Stmt)(t:TS):Prop:=
 ∀(pins:List (Addr×Obj)) (s:Shared) (σ:St) (H:Hp) (D:Ends),Inv X pins σ H s->t D σ H->wpAny (model X.prog X.w) X.A (exec st X.env) (SP X pins D) X.xe s
def tP(X:Cx)(st:List Stmt)(t:TS):Prop:=
 ∀(pins:List (Addr×Obj)) (s:Shared) (σ:St) (H:Hp) (D:Ends),Inv X pins σ H s->t D σ H->wpAny (model X.prog X.w) X.A (execs st X.env) (SP X pins D) X.xe s
theorem cA{α:Type}{t:Sem α}{Q Q':α->Shared->Prop}{M:Model}{A:Around}{E:Value->Shared->Prop}{s:Shared}(h:wpAny M A t Q E s)(hQ:∀a s,Q a s->Q' a s):wpAny M A t Q' E s:=cP h hQ λ_ _ x=>x
end L2
namespace L2
open PySem PySem.Spec PyProof.Rows
section
variable {X:Cx}
theorem bin{a b:Expr}{ta tb:TE}(ha:PE X a ta)(hb:PE X b tb){pins:List (Addr×Obj)}{s:Shared}{σ:St}{H:Hp}{R:V->V->Hp->Prop}(I:Inv X pins σ H s)(h:ta σ H λx H1=>tb σ H1 λy H2=>R x y H2)
  {α:Type} {Q:α->Shared->Prop} {f:Value->Value->Sem α}
  (hf:∀v u s2 x y H2,Inv X pins σ H2 s2->RelV x v->RelV y u->R x y H2->wpAny (model X.prog X.w) X.A (f v u) Q X.xe s2) :
  wpAny (model X.prog X.w) X.A (eval a X.env) (λv s₁=>wpAny (model X.prog X.w) X.A (eval b X.env) (λu s₂=>wpAny (model X.prog X.w) X.A (f v u) Q X.xe s₂) X.xe s₁) X.xe s:=by
 refine cA (ha pins s σ H _ I h) λv s1 ⟨x,H1,I1,r1,q1⟩=>?_
 refine cA (hb pins s1 σ H1 _ I1 q1) λu s2 ⟨y,H2,I2,r2,q2⟩=>?_
 exact hf v u s2 x y H2 I2 r1 r2 q2
def qd(i:Nat):TE:=λσ H Q=>∃v,σ[i]?=some (some v)/\Q v H
def tC(v:V):TE:=λ_ H Q=>Q v H
theorem Jk{i:Nat}{x:Str}{pos:Pos}(hN:X.N[i]?=some x)(hv:Tp X.env.scope x)(hd:(x==("__debug__" : Str))=false:=by decide)(Bv:(x==("__classdict__" : Str))=false:=by decide):PE X (.Name x pos) (qd i):=by
 intro pins s σ H Q I h
 obtain⟨v,e,h⟩:=h
 obtain⟨m,hn,hl⟩:=I.loc
 obtain⟨u,r,l⟩:=hl i x v hN e hv
 have fin:EP X pins σ Q u s:=⟨v,H,I,r,h⟩
 rcases l with ⟨hk,hm⟩ | ⟨hk,c,hc,md⟩
 ·exact wpAny_Name (wpAny_loadName_local I.ok.kind hk hn hm fin) hd
 ·rcases hk with hk | hk
  ·exact wpAny_Name (wpAny_loadName_cell I.ok.kind hk hc md fin) hd
  ·exact wpAny_Name (wpAny_loadName_free I.ok.kind hk hc md fin Bv) hd
theorem Qw{i j pos}:PE X (.Constant (.int i) j pos) (tC (.int i)):=λ_ _ _ H _ I h=>wpAny_Constant_int ⟨.int i,H,I.tok _,⟨_,rfl⟩,h⟩
theorem Uq{b j pos}:PE X (.Constant (.bool b) j pos) (tC (.bl b)):=λ_ _ _ H _ I h=>Constant_bool ⟨.bl b,H,I,rfl,h⟩
theorem Qu{j pos}:PE X (.Constant .none j pos) (tC .non):=λ_ _ _ H _ I h=>Constant_none ⟨.non,H,I,rfl,h⟩
theorem Qr{x j pos}:PE X (.Constant (.str x) j pos) (tC (.str x)):=λ_ _ _ H _ I h=>Calls.Constant_str ⟨.str x,H,I.tok _,⟨_,rfl⟩,h⟩
def Gl(X:Cx)(x:Str):Prop:=X.env.kindOf x=some .globalImplicit
theorem gH{E:Value->Shared->Prop}{pins:List (Addr×Obj)}{s:Shared}{σ:St}{H:Hp}{x:Str}{u:Value}{pos:Pos}{Q:Value->Shared->Prop}(I:Inv X pins σ H s)(hg:Gl X x)(hm:X.mg x=some u)(h:Q u s)
  (hd:(x==("__debug__" : Str))=false:=by decide):wpAny (model X.prog X.w) X.A (eval (.Name x pos) X.env) Q E s:=
 Calls.Name_function_global I.ok.kind hg (Calls.loadGlobal_global (by rw[I.ok.glob];exact I.mod.glob.keeps I.bk) hm h) hd
theorem mK{E:Value->Shared->Prop}{pins:List (Addr×Obj)}{s:Shared}{σ:St}{H:Hp}{x:Str}{u:Value}{pos:Pos}{Q:Value->Shared->Prop}(I:Inv X pins σ H s)(hg:Gl X x)(hm:X.mg x=none)(hv:bootBuiltins x=some u)(h:Q u s)
  (hn:x≠"__name__":=by decide) (hd:(x==("__debug__" : Str))=false:=by decide):wpAny (model X.prog X.w) X.A (eval (.Name x pos) X.env) Q E s:=by
 obtain⟨mb,h1,h2⟩:=I.mod.blt
 exact Calls.Name_function_global I.ok.kind hg (Calls.loadGlobal_builtin (by rw[I.ok.glob];exact I.mod.glob.keeps I.bk) hm (by rw[I.ok.blt];exact h1.keeps I.bk) ((h2 x hn).trans hv) h) hd
theorem Ms{x:Str}{v:V}{u:Value}{pos:Pos}(hg:Gl X x)(hm:X.mg x=some u)(r:RelV v u)(hd:(x==("__debug__" : Str))=false:=by decide):PE X (.Name x pos) (tC v):=
 λ_ _ _ H _ I h=>gH I hg hm ⟨v,H,I,r,h⟩ hd
theorem v9{x:Str}{v:V}{u:Value}{pos:Pos}(hg:Gl X x)(hm:X.mg x=none)(hv:bootBuiltins x=some u)(r:RelV v u)(hn:x≠"__name__":=by decide)(hd:(x==("__debug__" : Str))=false:=by decide):PE X (.Name x pos) (tC v):=
 λ_ _ _ H _ I h=>mK I hg hm hv ⟨v,H,I,r,h⟩ hn hd
variable {a b:Expr}{ta tb:TE}{pos:Pos}
def PC(X:Cx)(op:CmpOp)(a b:Expr)(t:TE):Prop:=
 ∀(pins:List (Addr×Obj)) (s:Shared) (σ:St) (H:Hp) (Q:VK),Inv X pins σ H s->t σ H Q->
  wpAny (model X.prog X.w) X.A (eval a X.env) (λv s₁=>wpAny (model X.prog X.w) X.A (eval b X.env) (λu s₂=>wpAny (model X.prog X.w) X.A (compareOp op v u) (EP X pins σ Q) X.xe s₂) X.xe s₁) X.xe s
theorem Jv(b:Expr){op:CmpOp}(h:op≠.In)(h2:op≠.NotIn):behindInMarks op b=false:=by
 have e1:(op==CmpOp.In)=false:=by cases op <;> first | rfl | exact absurd rfl h
 have e2:(op==CmpOp.NotIn)=false:=by cases op <;> first | rfl | exact absurd rfl h2
 cases b <;> simp[behindInMarks,e1,e2]
def tB(t:TE):TT:=λσ H Q=>t σ H λx H1=>∃c,x=.bl c/\Q c H1
theorem Zj{op:CmpOp}{t:TE}(h:PC X op a b t)(h1:behindInMarks op b=false:=by first | exact Jv _ (by decide) (by decide) | rfl):PT X (.Compare a [op] [b] pos) (tB t):=by
 intro pins s σ H Q I hw
 refine wpAny_isTrue_Compare1 (cA (h pins s σ H _ I hw) λv s1 h1=>cA h1 λu s2 h2=>cA h2 λc s3 ⟨x,H1,I1,r1,q1⟩=>?_) h1
 obtain⟨d,rfl,q⟩:=q1
 cases r1
 exact pk ⟨H1,I1,q⟩
theorem Ja{e:Expr}{t:TE}(h:PE X e t)(he:∀whole,isTrue e X.env whole=(do let v <-whole;standAt e.pos;holding [v] (truthy v)):=by intro _;rfl):PT X e (tB t):=by
 intro pins s σ H Q I hw
 refine isTrue_plain (cA (h pins s σ H _ I hw) λv s1 ⟨x,H1,I1,r1,q1⟩=>?_) (he _)
 obtain⟨d,rfl,q⟩:=q1
 cases r1
 exact pk ⟨H1,I1,q⟩
variable {tA KN:TT}{rest:List Expr}
def Pr(t u:TT):TT:=λσ H Q=>t σ H λc H1=>if c=true then u σ H1 Q else Q false H1
def Ys(t u:TT):TT:=λσ H Q=>t σ H λc H1=>if c=true then Q true H1 else u σ H1 Q
def Pm(t:TT):TT:=λσ H Q=>t σ H λc H1=>Q (!c) H1
theorem Ma(ha:PT X a tA):PW X (.BoolOp .And [a] pos) tA:=by
 intro wh pins s σ H Q I h
 refine isTrue_and (cA (ha pins s σ H Q I h) λc s1 e=>?_)
 cases c with
 | true=>exact isTrue_and_nil e
 | false=>exact e
theorem Qg(ha:PT X a tA):PW X (.BoolOp .Or [a] pos) tA:=by
 intro wh pins s σ H Q I h
 refine isTrue_or (cA (ha pins s σ H Q I h) λc s1 e=>?_)
 cases c with
 | false=>exact isTrue_or_nil e
 | true=>exact e
theorem Qh(ha:PT X a tA)(hb:PW X (.BoolOp .And (b::rest) pos) KN):PW X (.BoolOp .And (a::b::rest) pos) (Pr tA KN):=by
 intro wh pins s σ H Q I h
 refine isTrue_and (cA (ha pins s σ H _ I h) λc s1 ⟨H1,I1,q1⟩=>?_)
 cases c with
 | true=>exact hb wh pins s1 σ H1 Q I1 q1
 | false=>exact⟨H1,I1,q1⟩
theorem Uj(ha:PT X a tA)(hb:PW X (.BoolOp .Or (b::rest) pos) KN):PW X (.BoolOp .Or (a::b::rest) pos) (Ys tA KN):=by
 intro wh pins s σ H Q I h
 refine isTrue_or (cA (ha pins s σ H _ I h) λc s1 ⟨H1,I1,q1⟩=>?_)
 cases c with
 | true=>exact⟨H1,I1,q1⟩
 | false=>exact hb wh pins s1 σ H1 Q I1 q1
theorem Qi(ha:PT X a tA):PT X (.UnaryOp .Not a pos) (Pm tA):=by
 intro pins s σ H Q I h
 exact isTrue_not (ha pins s σ H (λc H1=>Q (!c) H1) I h)
def HW(ta tb:TE):TE:=λσ H Q=>ta σ H λx H1=>∃c,x=.bl c/\if c=true then tb σ H1 Q else Q (.bl false) H1
def Yr(ta tb:TE):TE:=λσ H Q=>ta σ H λx H1=>∃c,x=.bl c/\if c=true then Q (.bl true) H1 else tb σ H1 Q
def HD(ta:TE):TE:=λσ H Q=>ta σ H λx H1=>∃c,x=.bl c/\Q (.bl (!c)) H1
theorem Qs{op}{t:TE}(h:PE X a t):PE X (.BoolOp op [a] pos) t:=λpins s σ H Q I hw=>BoolOp_one (h pins s σ H Q I hw)
theorem Qx(ha:PE X a ta)(hb:PE X (.BoolOp .And (b::rest) pos) tb):PE X (.BoolOp .And (a::b::rest) pos) (HW ta tb):=by
 intro pins s σ H Q I h
 refine BoolOp_and (cA (ha pins s σ H _ I h) λv s1 ⟨x,H1,I1,r1,q1⟩=>?_)
 obtain⟨c,rfl,q1⟩:=q1
 cases r1
 refine pk ?_
 cases c with
 | true=>exact hb pins s1 σ H1 Q I1 q1
 | false=>exact⟨.bl false,H1,I1,rfl,q1⟩
theorem Qt(ha:PE X a ta):PE X (.UnaryOp .Not a pos) (HD ta):=by
 intro pins s σ H Q I h
 refine UnaryOp_ (cA (ha pins s σ H _ I h) λv s1 ⟨x,H1,I1,r1,q1⟩=>?_)
 obtain⟨c,rfl,q1⟩:=q1
 cases r1
 exact not_of (pk ⟨.bl (!c),H1,I1,rfl,q1⟩)
def tIf(t:TT)(ta tb:TE):TE:=λσ H Q=>t σ H λc H1=>if c=true then ta σ H1 Q else tb σ H1 Q
end
end L2
namespace L2
open PySem PySem.Spec PyProof.Rows
def lG(K:PySem.W.Frag)(H:Hp)(a:Addr)(xs:List V):Prop:=
 Rd H a (.lst xs)\/
  ∃(o:Obj) (its:Array Value) (n:Nat),K.lookup a=some o/\o.cls=.type "list"/\o.dict=none/\o.data=.seq its n/\its.size<=sizeLine/\Vals xs its.toList
def pX(K:PySem.W.Frag)(H:Hp)(a:Addr)(xs:List V):Prop:=
 Rd H a (.tup xs)\/
  ∃(o:Obj) (its:Array Value) (n:Nat),K.lookup a=some o/\o.cls=.type "tuple"/\o.data=.seq its n/\its.size<=sizeLine/\Vals xs its.toList
def aBX:Value->Option V
 | .none=>some .non
 | .bool b=>some (.bl b)
 | .int i _=>some (.int i)
 | .str x _=>some (.str x)
 | .bytes b _=>some (.Hc b)
 | .float b _=>some (.RC b)
 | .ref a=>some (.ref a)
 | .type n=>some (.ty n)
 | _=>none
theorem RelV.abs{x:V}{u:Value}(r:RelV x u):aBX u=some x:=by
 cases x with
 | non=>cases r;rfl
 | bl _=>cases r;rfl
 | int _=>obtain⟨t,rfl⟩:=r;rfl
 | str _=>obtain⟨t,rfl⟩:=r;rfl
 | Hc _=>obtain⟨t,rfl⟩:=r;rfl
 | RC _=>obtain⟨t,rfl⟩:=r;rfl
 | ref _=>cases r;rfl
 | ty _=>cases r;rfl
theorem RelV.inj{x y:V}{u:Value}(r:RelV x u)(q:RelV y u):x=y:=dm (r.abs.symm.trans q.abs)
theorem Vals.inj:∀{xs ys:List V} {us:List Value},Vals xs us->Vals ys us->xs=ys
 | _,_,_,.nil,.nil=>rfl
 | _,_,_,.cons r t,.cons r' t'=>by rw[r.inj r',Vals.inj t t']
section
variable {X:Cx}{pins:List (Addr×Obj)}{σ:St}{H:Hp}{s:Shared}{a:Addr}{xs ys:List V}
theorem lG.of{K:PySem.W.Frag}(h:H a=some (.lst xs)):lG K H a xs:=.inl (.inl h)
theorem pX.of{K:PySem.W.Frag}(h:H a=some (.tup xs)):pX K H a xs:=.inl (.inl h)
theorem Inv.list(I:Inv X pins σ H s)(h:lG X.K H a xs):∃its:List Value,Vals xs its/\PlainL s.heap a its.toArray/\xs.length<=sizeLine:=by
 rcases h with h | ⟨o,its,n,hk,hc,hd,hs,hz,r⟩
 ·obtain⟨z,its,n,r,e⟩:=h.ok I.bT
  exact⟨its,r,⟨_,n,e,rfl,rfl,rfl⟩,z⟩
 ·refine⟨its.toList,r,⟨o,n,I.jP a o hk,hc,hd,by simpa using hs⟩,?_⟩
  have e:=r.length
  simp only[dX]at e
  lia
theorem Inv.tuple(I:Inv X pins σ H s)(h:pX X.K H a xs):∃its:List Value,Vals xs its/\IsTup s.heap a its.toArray/\xs.length<=sizeLine:=by
 rcases h with h | ⟨o,its,n,hk,hc,hs,hz,r⟩
 ·obtain⟨z,its,r,p⟩:=h.ok I.bT
  exact⟨its,r,p,z⟩
 ·refine⟨its.toList,r,⟨o,I.jP a o hk,hc,n,by simpa using hs⟩,?_⟩
  have e:=r.length
  simp only[dX]at e
  lia
theorem Inv.yj(I:Inv X pins σ H s)(h:lG X.K H a xs)(h':lG X.K H a ys):xs=ys:=by
 obtain⟨its,r,⟨o,n,e,_,_,d⟩,_⟩:=I.list h
 obtain⟨its',r',⟨o',n',e',_,_,d'⟩,_⟩:=I.list h'
 rw[e]at e';cases e'
 rw[d]at d'
 injection d' with d1 _
 have:its=its':=by simpa using gT Array.toList d1
 subst this
 exact r.inj r'
theorem Inv.Fd(I:Inv X pins σ H s)(h:pX X.K H a xs)(h':pX X.K H a ys):xs=ys:=by
 obtain⟨its,r,⟨o,e,_,n,d⟩,_⟩:=I.tuple h
 obtain⟨its',r',⟨o',e',_,n',d'⟩,_⟩:=I.tuple h'
 rw[e]at e';cases e'
 rw[d]at d'
 injection d' with d1 _
 have:its=its':=by simpa using gT Array.toList d1
 subst this
 exact r.inj r'
end
abbrev Cx.wish(X:Cx)(E:Value->Shared->Prop):Cx:={ X with xe:=E }
abbrev Cx.KR(X:Cx):Cx:=X.wish λ_ _=>False
theorem Cx.Ok.wish{X:Cx}(ok:X.Ok)(E:Value->Shared->Prop):(X.wish E).Ok:=
 ⟨ok.mod,ok.kind,ok.glob,ok.blt,ok.above,ok.inj,ok.has,ok.Oz,ok.hd,ok.frames,ok.Pt,ok.V1,ok.bs,ok.Gx,ok.xW,ok.BK,ok.lD,ok.Ka⟩
theorem Cx.Ok.jZ{X:Cx}{E:Value->Shared->Prop}(ok:(X.wish E).Ok):X.Ok:=
 ⟨ok.mod,ok.kind,ok.glob,ok.blt,ok.above,ok.inj,ok.has,ok.Oz,ok.hd,ok.frames,ok.Pt,ok.V1,ok.bs,ok.Gx,ok.xW,ok.BK,ok.lD,ok.Ka⟩
section
variable {X:Cx}{pins:List (Addr×Obj)}{σ:St}{H:Hp}{s:Shared}{E:Value->Shared->Prop}
theorem Inv.wish(I:Inv X pins σ H s)(E:Value->Shared->Prop):Inv (X.wish E) pins σ H s:=⟨I.ok.wish E,I.os,I.bare,I.base,I.loc,I.cell,I.free,I.fG,I.pin,I.bT,I.len⟩
theorem Inv.jZ(I:Inv (X.wish E) pins σ H s):Inv X pins σ H s:=⟨I.ok.jZ,I.os,I.bare,I.base,I.loc,I.cell,I.free,I.fG,I.pin,I.bT,I.len⟩
theorem SP.jZ{D:Ends}{f:Flow}{s':Shared}(h:SP (X.wish E) pins D f s'):SP X pins D f s':=by
 cases f with
 | next=>obtain⟨σ',H',I,q⟩:=h;exact⟨σ',H',I.jZ,q⟩
 | brk=>obtain⟨σ',H',I,q⟩:=h;exact⟨σ',H',I.jZ,q⟩
 | cont=>obtain⟨σ',H',I,q⟩:=h;exact⟨σ',H',I.jZ,q⟩
 | ret u=>obtain⟨v,σ',H',I,r,q⟩:=h;exact⟨v,σ',H',I.jZ,r,q⟩
theorem tP.KR{st:List Stmt}{t:TS}(h:tP X.KR st t):tP X st t:=λpins s σ H D I hw=>
 cP (h pins s σ H D (I.wish _) hw) (λ_ _ q=>q.jZ) λ_ _ z=>False.elim z
end
section
variable {X:Cx}{st:Stmt}{rest:List Stmt}{t u:TS}{e:Expr}{te:TE}{pos:Pos}
def CV:TS:=λD σ H=>D.nx σ H
def tSeq(t u:TS):TS:=λD σ H=>t { D with nx:=u D } σ H
theorem Mf:tP X [] CV:=λ_ _ σ H _ I h=>vx ⟨σ,H,I,h⟩
theorem Jb(h1:PS X st t)(h2:tP X rest u):tP X (st::rest) (tSeq t u):=by
 intro pins s σ H D I h
 refine wpAny_execs_cons (cA (h1 pins s σ H { D with nx:=u D } I h) λf s1 q=>?_)
 cases f with
 | next=>
  obtain⟨σ',H',I',q⟩:=q
  exact h2 pins s1 σ' H' D I' q
 | ret v=>exact q
 | brk=>exact q
 | cont=>exact q
theorem Md(h1:PS X st t):tP X [st] t:=by
 intro pins s σ H D I h
 refine wpAny_execs_cons (cA (h1 pins s σ H D I h) λf s1 q=>?_)
 cases f with
 | next=>exact vx q
 | ret v=>exact q
 | brk=>exact q
 | cont=>exact q
theorem Inv.quiet{pins:List (Addr×Obj)}{σ:St}{H:Hp}{s:Shared}(I:Inv X pins σ H s):interactive X.env=false:=by simp[interactive,I.ok.kind]
def HJ(te:TE):TS:=λD σ H=>te σ H λ_ H1=>D.nx σ H1
theorem Dl(he:PE X e te)(hs:swapsWith e none pos.line X.env=pure false:=by rfl):PS X (.Expr e pos) (HJ te):=by
 intro pins s σ H D I h
 exact wpAny_Expr_any (cA (he pins s σ H _ I h) λv s1 ⟨x,H1,I1,r1,q1⟩=>⟨σ,H1,I1,q1⟩) I.quiet hs
def Pl(te:TE):TS:=λD σ H=>te σ H D.rt
theorem Ql(he:PE X e te):PS X (.Return (some e) pos) (Pl te):=by
 intro pins s σ H D I h
 exact wpAny_Return_some (cA (he pins s σ H _ I h) λv s1 ⟨x,H1,I1,r1,q1⟩=>⟨x,σ,H1,I1,r1,q1⟩)
def Tv:TS:=λD _ H=>D.rt .non H
def Lj(c:TT)(t u:TS):TS:=λD σ H=>c σ H λb H1=>if b=true then t D σ H1 else u D σ H1
theorem Uk{c:Expr}{a b:List Stmt}{tc:TT}(hc:PT X c tc)(ha:tP X a t)(hb:tP X b u):PS X (.If c a b pos) (Lj tc t u):=by
 intro pins s σ H D I h
 refine wpAny_If (cA (hc pins s σ H _ I h) λd s1 ⟨H1,I1,q1⟩=>?_)
 cases d with
 | true=>exact ha pins s1 σ H1 D I1 q1
 | false=>exact hb pins s1 σ H1 D I1 q1
def Pn:TS:=λ_ _ _=>False
end
abbrev TG:=V->St->Hp->(St->Hp->Prop)->Prop
abbrev K1:=List V->St->Hp->(St->Hp->Prop)->Prop
def PG(X:Cx)(target:Expr)(t:TG):Prop:=
 ∀(pins:List (Addr×Obj)) (s:Shared) (σ:St) (H:Hp) (v:V) (u:Value) (Q:St->Hp->Prop),Inv X pins σ H s->RelV v u->t v σ H Q->
  wpAny (model X.prog X.w) X.A (assign target X.env u) (λ_ s'=>∃σ' H',Inv X pins σ' H' s'/\Q σ' H') X.xe s
def WY(X:Cx)(ts:List Expr)(t:K1):Prop:=
 ∀(pins:List (Addr×Obj)) (s:Shared) (σ:St) (H:Hp) (vs:List V) (us:List Value) (Q:St->Hp->Prop),Inv X pins σ H s->Vals vs us->t vs σ H Q->
  wpAny (model X.prog X.w) X.A (assignInOrder ((assignEach ts X.env).map (·.2)) us) (λ_ s'=>∃σ' H',Inv X pins σ' H' s'/\Q σ' H') X.xe s
abbrev Cq:=V->V->V->Hp->(Hp->Prop)->Prop
def GP(X:Cx)(t:Cq):Prop:=
 ∀(pins:List (Addr×Obj)) (s:Shared) (σ:St) (H:Hp) (o i v:V) (ov iv u:Value) (Q:Hp->Prop),Inv X pins σ H s->RelV o ov->RelV i iv->RelV v u->t o i v H Q->
  wpAny (model X.prog X.w) X.A (setItem ov iv u) (λ_ s'=>∃H',Inv X pins σ H' s'/\Q H') X.xe s
abbrev N2:=V->V->Hp->VK->Prop
def Sh(X:Cx)(op:Operator)(t:N2):Prop:=
 ∀(pins:List (Addr×Obj)) (s:Shared) (σ:St) (H:Hp) (x y:V) (v u:Value) (Q:VK),Inv X pins σ H s->RelV x v->RelV y u->t x y H Q->
  wpAny (model X.prog X.w) X.A (inplaceOp op v u) (EP X pins σ Q) X.xe s
section
variable {X:Cx}{pos:Pos}
def eH(i:Nat):TG:=λv σ H Q=>Q (σ.set i (some v)) H
theorem Du{i:Nat}{x:Str}(hN:X.N.Nodup)(hi:X.N[i]?=some x)(hx:Loc X.env.scope x)(hf:X.fn x=true\/X.env.scope.names.lookup x=some .local:=by first | exact .inl rfl | exact .inr rfl | assumption):PG X (.Name x pos) (eH i):=by
 intro pins s σ H v u Q I r h
 exact wpAny_assign_Name (j2 I hN hi hx r (λs' I'=>⟨_,H,I',h⟩) hf)
def RB:K1:=λvs σ H Q=>vs=[]/\Q σ H
def J'(t:TG)(u:K1):K1:=λvs σ H Q=>∃v r,vs=v::r/\t v σ H λσ' H'=>u r σ' H' Q
theorem Mr:WY X [] RB:=by
 intro pins s σ H vs us Q I r h
 obtain⟨e,h⟩:=h
 subst e
 cases r
 exact assignInOrder_nil ⟨σ,H,I,h⟩
theorem xM{e:Expr}{es:List Expr}{t:TG}{u:K1}(h1:PG X e t)(h2:WY X es u)
  (hs:(assignEach (e::es) X.env).map (·.2)=assign e X.env::(assignEach es X.env).map (·.2):=by rfl):WY X (e::es) (J' t u):=by
 intro pins s σ H vs us Q I r h
 obtain⟨v,vr,e1,h⟩:=h
 subst e1
 cases r with
 | cons r rr=>
  rw[hs]
  refine assignInOrder_cons (cA (h1 pins s σ H _ _ _ I r h) λ_ s1 ⟨σ1,H1,I1,q1⟩=>?_)
  exact h2 pins s1 σ1 H1 _ _ Q I1 rr q1
def Ry(K:PySem.W.Frag)(n:Nat)(t:K1):TG:=λv σ H Q=>∃a xs,v=.ref a/\pX K H a xs/\xs.length=n/\t xs σ H Q
theorem Ah{es:List Expr}{k:Nat}{t:K1}{n:Nat}(hc:X.calm=true)(h:WY X es t)
  (hn:(assignEach es X.env).length=n:=by rfl) (G9:(assignEach es X.env).findIdx? (·.1)=none:=by rfl):PG X (.Tuple es k pos) (Ry X.K n t):=by
 intro pins s σ H v u Q I r hw
 obtain⟨a,xs,e1,hq,hl,hw⟩:=hw
 subst e1
 cases r
 obtain⟨its,rv,ht,hz⟩:=I.tuple hq
 refine assign_Tuple_tuple (I.ok.hd hc) ht (by simp[hn,<-hl,rv.length]) G9 λh' hx=>?_
 have I1:Inv X pins σ H { s with heap:=h' }:=I.kept (t':=s.toks) λb o e=>hx b o (bJ (bI e)) e
 exact h pins _ σ H xs _ Q I1 (by simpa using rv) hw
def Rz(to ti:TE)(t:Cq):TG:=λv σ H Q=>to σ H λo H1=>ti σ H1 λi H2=>t o i v H2 λH3=>Q σ H3
theorem Jj{o i:Expr}{to ti:TE}{t:Cq}(ho:PE X o to)(hi:PE X i ti)(hs:GP X t)
  (ha:∀v,assign (.Subscript o i pos) X.env v=(do
   let ov <-holding [v] (eval o X.env)
   let iv <-holding [v,ov] (eval i X.env)
   standAt pos
   holding [v,ov,iv] (setItem ov iv v)
   release [v,ov,iv] []):=by intro _;rfl):PG X (.Subscript o i pos) (Rz to ti t):=by
 intro pins s σ H v u Q I r h
 rw[ha]
 refine au (dG (cA (ho pins s σ H _ I h) λov s1 ⟨x,H1,I1,r1,q1⟩=>?_))
 refine au (dG (cA (hi pins s1 σ H1 _ I1 q1) λiv s2 ⟨y,H2,I2,r2,q2⟩=>?_))
 refine au (mz (au (dG (cA (hs pins s2 σ H2 x y v ov iv u _ I2 r1 r2 r q2) λ_ s3 ⟨H3,I3,q3⟩=>?_))))
 exact wpAny_release ⟨σ,H3,I3,q3⟩
def vT(te:TE)(g:TG):TS:=λD σ H=>te σ H λx H1=>g x σ H1 D.nx
theorem v8{tg e:Expr}{te:TE}{g:TG}(he:PE X e te)(hg:PG X tg g)(hs:swapsWithSole [tg] e pos.line X.env=pure false:=by rfl)(hw:swappedStores [tg] e X.env=pure none:=by rfl)
  (h1:(assignEach [tg] X.env).map (·.2)=[assign tg X.env]:=by rfl):PS X (.Assign [tg] e pos) (vT te g):=by
 intro pins s σ H D I h
 refine wpAny_Assign_stores (cA (he pins s σ H _ I h) λv s1 ⟨x,H1,I1,r1,q1⟩=>?_) hs hw
 rw[h1]
 exact cA (hg pins s1 σ H1 x v _ I1 r1 q1) λ_ s2 q=>q
theorem Qk{i:Nat}{x:Str}{e:Expr}{te:TE}{pos':Pos}(hN:X.N.Nodup)(hi:X.N[i]?=some x)(hx:Loc X.env.scope x)(he:PE X e te)(hs:swapsWith e (some (.Name x pos')) pos.line X.env=pure false:=by rfl)(hf:X.fn x=true\/X.env.scope.names.lookup x=some .local:=by first | exact .inl rfl | exact .inr rfl | assumption) :
  PS X (.Assign [.Name x pos'] e pos) (vT te (eH i)):=by
 intro pins s σ H D I h
 refine wpAny_Assign_Name (cA (he pins s σ H _ I h) λv s1 ⟨y,H1,I1,r1,q1⟩=>?_) hs
 exact j2 I1 hN hi hx r1 (λs2 I2=>⟨_,H1,I2,q1⟩) hf
def Lq(i:Nat)(te:TE)(ti:N2):TS:=λD σ H=>∃x,σ[i]?=some (some x)/\te σ H λy H1=>ti x y H1 λz H2=>D.nx (σ.set i (some z)) H2
theorem Qn{i:Nat}{x:Str}{e:Expr}{te:TE}{op:Operator}{ti:N2}{pos':Pos}(hN:X.N.Nodup)(hi:X.N[i]?=some x)(hx:Loc X.env.scope x)(he:PE X e te)(ho:Sh X op ti)(hf:X.fn x=true\/X.env.scope.names.lookup x=some .local:=by first | exact .inl rfl | exact .inr rfl | assumption) :
  PS X (.AugAssign (.Name x pos') op e pos) (Lq i te ti):=by
 intro pins s σ H D I h
 obtain⟨v,e1,h⟩:=h
 obtain⟨m,hn,hl⟩:=I.loc
 have Yo:Tp X.env.scope x:=by rcases hx with k | k;exact .inl k;exact .inr (.inl k)
 obtain⟨u,r,l⟩:=hl i x v hi e1 Yo
 refine wpAny_AugAssign_Name ?_
 have go:wpAny (model X.prog X.w) X.A (eval e X.env) (λw s₂=>wpAny (model X.prog X.w) X.A (inplaceOp op u w) (λr s₃=>wpAny (model X.prog X.w) X.A (storeName X.env x r) (λ_=>SP X pins D .next) X.xe s₃) X.xe s₂) X.xe s:=by
  refine cA (he pins s σ H _ I h) λw s1 ⟨y,H1,I1,r1,q1⟩=>?_
  refine cA (ho pins s1 σ H1 v y u w _ I1 r r1 q1) λz s2 ⟨zv,H2,I2,r2,q2⟩=>?_
  exact j2 I2 hN hi hx r2 (λs3 I3=>⟨_,H2,I3,q2⟩) hf
 rcases l with ⟨hk,hm⟩ | ⟨hk,c,hc,md⟩
 ·exact wpAny_loadName_local I.ok.kind hk hn hm go
 ·rcases hk with hk | hk
  ·exact wpAny_loadName_cell I.ok.kind hk hc md go
  ·rcases hx with k | k
   ·have:X.env.scope.names.lookup x=some .free:=hk
    rw[k]at this;cases this
   ·have:X.env.scope.names.lookup x=some .free:=hk
    rw[k]at this;cases this
def HS(to ti te:TE)(zV:V->V->Hp->VK->Prop)(Pb:N2)(zU:Cq):TS:=λD σ H=>to σ H λo H1=>ti σ H1 λi H2=>zV o i H2 λx H3=>te σ H3 λy H4=>Pb x y H4 λz H5=>zU o i z H5 λH6=>D.nx σ H6
def Si(X:Cx)(t:V->V->Hp->VK->Prop):Prop:=
 ∀(pins:List (Addr×Obj)) (s:Shared) (σ:St) (H:Hp) (o i:V) (ov iv:Value) (Q:VK),Inv X pins σ H s->RelV o ov->RelV i iv->t o i H Q->
  wpAny (model X.prog X.w) X.A (getItem ov iv) (EP X pins σ Q) X.xe s
theorem Dm{o i e:Expr}{to ti te:TE}{zV:V->V->Hp->VK->Prop}{Pb:N2}{zU:Cq}{op:Operator}{vP:Pos}(ho:PE X o to)(hi:PE X i ti)(hg:Si X zV)(he:PE X e te)(hp:Sh X op Pb)(hs:GP X zU)
  (ha:∀ov iv new,augStore i ov iv new=(do holding [new,ov,iv] (setItem ov iv new);release [new,ov,iv] [];pure .next):=by intros;rfl):PS X (.AugAssign (.Subscript o i vP) op e pos) (HS to ti te zV Pb zU):=by
 intro pins s σ H D I h
 refine wpAny_AugAssign_SubscriptAny (cA (ho pins s σ H _ I h) λov s1 ⟨x1,H1,I1,r1,q1⟩=>?_) ha
 refine cA (hi pins s1 σ H1 _ I1 q1) λiv s2 ⟨x2,H2,I2,r2,q2⟩=>?_
 refine cA (hg pins s2 σ H2 x1 x2 ov iv _ I2 r1 r2 q2) λold s3 ⟨x3,H3,I3,r3,q3⟩=>?_
 refine cA (he pins s3 σ H3 _ I3 q3) λv s4 ⟨x4,H4,I4,r4,q4⟩=>?_
 refine cA (hp pins s4 σ H4 x3 x4 old v _ I4 r3 r4 q4) λnew s5 ⟨x5,H5,I5,r5,q5⟩=>?_
 exact cA (hs pins s5 σ H5 x1 x2 x5 ov iv new _ I5 r1 r2 r5 q5) λ_ s6 ⟨H6,I6,q6⟩=>⟨σ,H6,I6,q6⟩
def ipI(f:Int->Int->Int):N2:=λx y H Q=>∃i j,x=.int i/\y=.int j/\Q (.int (f i j)) H
theorem JM:Sh X .Add (ipI λi j=>i+j):=by
 intro pins s σ H x y v u Q I r1 r2 h
 obtain⟨i,j,e1,e2,q⟩:=h
 subst e1;subst e2
 obtain⟨t,rfl⟩:=r1
 obtain⟨t',rfl⟩:=r2
 exact iadd_int ⟨.int _,H,I.tok _,⟨_,rfl⟩,q⟩
theorem Q7:Sh X .Sub (ipI λi j=>i-j):=by
 intro pins s σ H x y v u Q I r1 r2 h
 obtain⟨i,j,e1,e2,q⟩:=h
 subst e1;subst e2
 obtain⟨t,rfl⟩:=r1
 obtain⟨t',rfl⟩:=r2
 exact isub_int ⟨.int _,H,I.tok _,⟨_,rfl⟩,q⟩
def zW(c:TT)(tb:TS):TS:=λD σ H=>∃W:Nat->St->Hp->Prop,(∃m,W m σ H)/\∀m σ H,W m σ H->
 c σ H λb H1=>if b=true then ∃N:St->Hp->Prop,(∀σ' H',N σ' H'->∃m',m'<m/\W m' σ' H')/\tb { D with nx:=N,ct:=N,bk:=D.nx } σ H1 else D.nx σ H1
theorem Jc{c:Expr}{body:List Stmt}{tc:TT}{tb:TS}(hp:PassesOwn (model X.prog X.w) X.A X.env X.xe)(hc:PT X c tc)(hb:tP X body tb):PS X (.While c body [] pos) (zW tc tb):=by
 intro pins s σ H D I h
 obtain⟨W,⟨m0,w0⟩,turn⟩:=h
 refine wpAny_While (codeAny_whileLoop (λn s'=>∃σ' H',Inv X pins σ' H' s'/\W n σ' H') ?_ m0 ⟨σ,H,I,w0⟩)
 rintro n s1 ⟨σ1,H1,I1,w1⟩
 refine qP hp (cA (hc pins s1 σ1 H1 _ I1 (turn n σ1 H1 w1)) λb s2 ⟨H2,I2,q2⟩=>?_)
 cases b with
 | true=>
  obtain⟨N,hN,q2⟩:=q2
  rw[aI rfl]
  refine qP hp (cA (hb pins s2 σ1 H2 _ I2 q2) λf s3 q3=>?_)
  cases f with
  | next=>
   obtain⟨σ3,H3,I3,n3⟩:=q3
   obtain⟨m',hm,w3⟩:=hN σ3 H3 n3
   exact⟨m',hm,σ3,H3,I3,w3⟩
  | cont=>
   obtain⟨σ3,H3,I3,n3⟩:=q3
   obtain⟨m',hm,w3⟩:=hN σ3 H3 n3
   exact⟨m',hm,σ3,H3,I3,w3⟩
  | brk=>exact q3
  | ret v=>exact q3
 | false=>
  rw[aE cR]
  exact vx ⟨σ1,H2,I2,q2⟩
end
structure It where
 go:Nat->Hp->Prop
 Ey:Nat->Hp->V->Hp->Prop
 stop:Nat->Hp->Prop
def ui(X:Cx)(pins:List (Addr×Obj))(H:Hp)(b:Addr):Prop:=
 H b=none/\b≠X.env.locals/\b∉X.fs/\(b∈X.ex\/X.s₀.heap.objs.size<=b)/\(∀x c,X.env.cells.lookup x=some c->c≠b)/\∀p∈X.pn++pins,p.1≠b
theorem Inv.Kb{X:Cx}{pins:List (Addr×Obj)}{σ:St}{H H':Hp}{s:Shared}{b:Addr}(I:Inv X pins σ H s)(hb:s.heap.objs.size<=b)(hn:H' b=none):ui X pins H' b:=by
 refine⟨hn,pe (cX I.lt hb),I.Uw hb,.inr (fF I.sz hb),λx c e z=>?_,λp hp z=>?_⟩
 ·obtain⟨v,q⟩:=I.cell x c e
  exact absurd (cX q.lt (by rw[z];exact hb)) (jI _)
 ·exact absurd (cX (bI (I.pin p hp).1) (by rw[z];exact hb)) (jI _)
structure Turn(P:Program)(w:World)(K:PySem.W.Frag)(tg:Expr)(J:It)(fp:List Addr)(it:Addr)(tn:Nat->Heap->Prop):Prop where
 mem:it∈fp
 obj:∀i h,tn i h->∀b∈fp,∃o,h.get? b=some o/\∀v,o.data≠.cell v
 keep:∀i h h',tn i h->(∀b∈fp,∀o,h.get? b=some o->h'.get? b=some o)->tn i h'
 item:∀(X:Cx),X.prog=P->X.w=w->X.K=K->X.calm=true->∀(i:Nat) (pins:List (Addr×Obj)) (s:Shared) (σ:St) (H:Hp) (E:Value->Shared->Prop),Inv X pins σ H s->(∀b∈fp,ui X pins H b)->tn i s.heap->J.go i H->
  wpAny (model P w) X.A (pyNext (.ref it)) (λr s1=>∃u,r=some u/\
   wpAny (model P w) X.A (letOwnedTupleGo tg (.ref it) u) (λ_ s2=>∃x H',Inv X pins σ H' s2/\RelV x u/\J.Ey i H x H'/\tn (i+1) s2.heap/\∀b∈fp,H' b=none) E s1) E s
 done:∀(X:Cx),X.prog=P->X.w=w->X.K=K->X.calm=true->∀(i:Nat) (pins:List (Addr×Obj)) (s:Shared) (σ:St) (H:Hp) (E:Value->Shared->Prop),Inv X pins σ H s->(∀b∈fp,ui X pins H b)->tn i s.heap->J.stop i H->
  wpAny (model P w) X.A (pyNext (.ref it)) (λr s1=>r=none/\Inv X pins σ H s1) E s
 self:∀(A:Around) (i:Nat) (s:Shared) (Q:Value->Shared->Prop) (E:Value->Shared->Prop),tn i s.heap->Q (.ref it) s->wpAny (model P w) A (pyIter (.ref it)) Q E s
abbrev TI:=St->Hp->(It->Hp->Prop)->Prop
def PIE(X:Cx)(pins:List (Addr×Obj))(σ:St)(tg:Expr)(R:It->Hp->Prop)(Xm:Value)(s2:Shared):Prop:=
 ∃(it:Addr) (fp:List Addr) (tn:Nat->Heap->Prop) (J:It) (H':Hp),Xm=.ref it/\Inv X pins σ H' s2/\Turn X.prog X.w X.K tg J fp it tn/\tn 0 s2.heap/\(∀b∈fp,ui X pins H' b)/\R J H'
def PI(X:Cx)(tg iter:Expr)(wi:TI):Prop:=
 ∀(pins:List (Addr×Obj)) (s:Shared) (σ:St) (H:Hp) (R:It->Hp->Prop),Inv X pins σ H s->wi σ H R->
  wpAny (model X.prog X.w) X.A (eval iter X.env) (λv s1=>wpAny (model X.prog X.w) X.A (pyIter v) (PIE X pins σ tg R) X.xe s1) X.xe s
theorem DY{M : Model}{A : Around}{E : Value → Shared → Prop}{s : Shared}{tg : Expr}{it : Addr}{u : Value}{o : Obj}{n : String}{vs : Array Value}{Q : Unit → Shared → Prop}(ho : s.heap.get? it=some o)(hc : o.cls=.type n)(hd : o.data=.fields vs)
    (hn : ["enumerate", "zip", "dict_itemiterator", "dict_reverseitemiterator", "odict_iterator", "itertools.zip_longest", "itertools.pairwise"].contains n=false) (hQ : Q () s) : wpAny M A (letOwnedTupleGo tg (.ref it) u) Q E s := by
  unfold letOwnedTupleGo
  cases tg <;> first
    | exact aM hQ
    | (cases u <;> first
        | exact aM hQ
        | (refine au (wpAny_load ho ?_)
           rw[hc, hd]
           show wpAny M A (if (["enumerate", "zip", "dict_itemiterator", "dict_reverseitemiterator", "odict_iterator", "itertools.zip_longest", "itertools.pairwise"].contains n&&vs[0]? == some (rawInt _))=true then _ else _) Q E s
           rw[aE (by intro h; rw[hn, vy]at h; cases h)]
           exact aM hQ))
def GQ(K:PySem.W.Frag)(a:Addr):It:=
 ⟨λi H=>∃xs x,lG K H a xs/\xs[i]?=some x,λi H x H'=>H'=H/\∀xs,lG K H a xs->xs[i]?=some x,λi H=>∃xs,lG K H a xs/\xs.length<=i⟩
def Sn(K:PySem.W.Frag)(a:Addr):It:=
 ⟨λi H=>∃xs x,pX K H a xs/\xs[i]?=some x,λi H x H'=>H'=H/\∀xs,pX K H a xs->xs[i]?=some x,λi H=>∃xs,pX K H a xs/\xs.length<=i⟩
def Cv(lo:Int)(n:Nat):It:=⟨λi _=>i<n,λi H x H'=>H'=H/\x=.int (lo+i),λi _=>n<=i⟩
theorem Fc{P:Program}{w:World}{K:PySem.W.Frag}{tg:Expr}(a it:Addr):Turn P w K tg (GQ K a) [it] it (λi h=>h.IsListIter it a i) where
 mem:=by simp
 obj:=λi h st b hb=>by
  have e:b=it:=by simpa using hb
  subst e
  obtain⟨o,e,c,d⟩:=st
  exact⟨o,e,λv z=>by rw[d]at z;cases z⟩
 keep:=λi h h' st k=>st.at λo e=>k it (by simp) o e
 item:=by
  intro X hP hw hK hc i pins s σ H E I hf st hg
  subst hP hw hK
  obtain⟨xs,x,hq,hx⟩:=hg
  obtain⟨its,rv,p,hz⟩:=I.list hq
  obtain⟨u,hu,ru⟩:=rv.get hx
  obtain⟨f0,f1,f2,f3,f4,f5⟩:=hf it (by simp)
  refine wpAny_pyNext_list_item st p.isList (x:=u) (by simpa using hu) λh' nk sb=>?_
  have I1:Inv X pins σ H { s with heap:=h' }:=I.turned (t':=s.toks) (λb o hb e=>(sb.2 b hb).trans e) f0 f1 f3 f4 f5
  obtain⟨o,e,c,d⟩:=id nk
  exact⟨u,rfl,DY (s:={ s with heap:=h' }) e c d (by decide) ⟨x,H,I1,ru,⟨rfl,λys hy=>by rw[I.yj hy hq];exact hx⟩,nk,λb hb=>(hf b hb).1⟩⟩
 done:=by
  intro X hP hw hK hc i pins s σ H E I hf st hg
  subst hP hw hK
  obtain⟨xs,hq,hx⟩:=hg
  obtain⟨its,rv,p,hz⟩:=I.list hq
  obtain⟨f0,f1,f2,f3,f4,f5⟩:=hf it (by simp)
  have hl:=rv.length
  exact wpAny_pyNext_list_end (I.ok.hd hc) st p.isList (by simp;lia) λh' eb=>⟨rfl,I.turned (t':=s.toks) (λb o hb e=>eb b o hb e) f0 f1 f3 f4 f5⟩
 self:=λ_ _ _ _ _ st h=>wpAny_pyIter_listiter st h
theorem zR{P:Program}{w:World}{K:PySem.W.Frag}{tg:Expr}(a it:Addr):Turn P w K tg (Sn K a) [it] it (λi h=>h.IsTupleIter it a i) where
 mem:=by simp
 obj:=λi h st b hb=>by
  have e:b=it:=by simpa using hb
  subst e
  obtain⟨o,e,c,d⟩:=st
  exact⟨o,e,λv z=>by rw[d]at z;cases z⟩
 keep:=λi h h' st k=>st.at λo e=>k it (by simp) o e
 item:=by
  intro X hP hw hK hc i pins s σ H E I hf st hg
  subst hP hw hK
  obtain⟨xs,x,hq,hx⟩:=hg
  obtain⟨its,rv,p,hz⟩:=I.tuple hq
  obtain⟨u,hu,ru⟩:=rv.get hx
  obtain⟨f0,f1,f2,f3,f4,f5⟩:=hf it (by simp)
  refine wpAny_pyNext_tuple_item st (show s.heap.IsTuple a its.toArray from p) (x:=u) (by simpa using hu) λh' nk sb=>?_
  have I1:Inv X pins σ H { s with heap:=h' }:=I.turned (t':=s.toks) (λb o hb e=>(sb.2 b hb).trans e) f0 f1 f3 f4 f5
  obtain⟨o,e,c,d⟩:=id nk
  exact⟨u,rfl,DY (s:={ s with heap:=h' }) e c d (by decide) ⟨x,H,I1,ru,⟨rfl,λys hy=>by rw[I.Fd hy hq];exact hx⟩,nk,λb hb=>(hf b hb).1⟩⟩
 done:=by
  intro X hP hw hK hc i pins s σ H E I hf st hg
  subst hP hw hK
  obtain⟨xs,hq,hx⟩:=hg
  obtain⟨its,rv,p,hz⟩:=I.tuple hq
  obtain⟨f0,f1,f2,f3,f4,f5⟩:=hf it (by simp)
  have hl:=rv.length
  exact wpAny_pyNext_tuple_end (I.ok.hd hc) st (show s.heap.IsTuple a its.toArray from p) (by simp;lia) λh' eb=>⟨rfl,I.turned (t':=s.toks) (λb o hb e=>eb b o hb e) f0 f1 f3 f4 f5⟩
 self:=λ_ _ _ _ _ st h=>wpAny_pyIter_tupleiter st h
theorem zS{P:Program}{w:World}{K:PySem.W.Frag}{tg:Expr}(it:Addr)(lo:Int)(n:Nat):Turn P w K tg (Cv lo n) [it] it (λi h=>IsRangeIter h it (lo+(i:Nat)*1) ((n:Int)-(i:Nat)) 1) where
 mem:=by simp
 obj:=λi h st b hb=>by
  have e:b=it:=by simpa using hb
  subst e
  exact⟨_,st,λv z=>by
   have z':Data.fields _=Data.cell v:=z
   cases z'⟩
 keep:=λi h h' st k=>k it (by simp) _ st
 item:=by
  intro X hP hw hK hc i pins s σ H E I hf st hg
  subst hP hw hK
  obtain⟨f0,f1,f2,f3,f4,f5⟩:=hf it (by simp)
  have W:=Walks.range (prog:=X.prog) (w:=X.w) (I.ok.hd hc) it lo 1 n
  refine W.item i s _ _ hg st λv h' tk hv nk kk=>?_
  obtain⟨t,rfl⟩:=hv
  have I1:Inv X pins σ H { s with heap:=h',toks:=tk }:=I.turned (λb o hb e=>kk b o (by simpa using hb) e) f0 f1 f3 f4 f5
  refine⟨_,rfl,DY (s:={ s with heap:=h',toks:=tk }) (n:="range_iterator") nk rfl rfl (by decide) ⟨.int (lo+i),H,I1,⟨t,?_⟩,⟨rfl,rfl⟩,nk,λb hb=>(hf b hb).1⟩⟩
  rw[Int.mul_one]
 done:=by
  intro X hP hw hK hc i pins s σ H E I hf st hg
  subst hP hw hK
  obtain⟨f0,f1,f2,f3,f4,f5⟩:=hf it (by simp)
  exact wpAny_pyNext_range_end (I.ok.hd hc) st (by have:n<=i:=hg;lia) λh' eb=>⟨rfl,I.turned (t':=s.toks) (λb o hb e=>eb b o hb e) f0 f1 f3 f4 f5⟩
 self:=λ_ _ _ _ _ st h=>wpAny_pyIter_rangeiter st h
end L2
namespace L2
open PySem PySem.Spec PyProof.Rows
section
variable {X:Cx}{tg:Expr}
def JS(K:PySem.W.Frag)(tl:TE):TI:=λσ H R=>tl σ H λx H1=>∃a,x=.ref a/\(∃xs,lG K H1 a xs)/\R (GQ K a) H1
def Ra(K:PySem.W.Frag)(tl:TE):TI:=λσ H R=>tl σ H λx H1=>∃a,x=.ref a/\(∃xs,pX K H1 a xs)/\R (Sn K a) H1
theorem Mq{l:Expr}{tl:TE}(hl:PE X l tl):PI X tg l (JS X.K tl):=by
 intro pins s σ H R I h
 refine cA (hl pins s σ H _ I h) λv s1 ⟨x,H1,I1,r1,q1⟩=>?_
 obtain⟨a,e,⟨xs,hq⟩,q⟩:=q1
 subst e
 cases r1
 obtain⟨its,rv,p,hz⟩:=I1.list hq
 refine rB p.isList ?_
 refine⟨s1.heap.objs.size,[s1.heap.objs.size],_,_,H1,rfl,I1.kept (t':=s1.toks) λb o e=>cq _ e,Fc a _,⟨_,dj _ rfl,rfl,rfl⟩,λb hb=>?_,q⟩
 have e:b=s1.heap.objs.size:=by simpa using hb
 subst e
 exact I1.Kb (bB _) (I1.bT.fresh (bB _))
theorem Qo{l:Expr}{tl:TE}(hl:PE X l tl):PI X tg l (Ra X.K tl):=by
 intro pins s σ H R I h
 refine cA (hl pins s σ H _ I h) λv s1 ⟨x,H1,I1,r1,q1⟩=>?_
 obtain⟨a,e,⟨xs,hq⟩,q⟩:=q1
 subst e
 cases r1
 obtain⟨its,rv,p,hz⟩:=I1.tuple hq
 refine wpAny_pyIter_tuple (show s1.heap.IsTuple a its.toArray from p) ?_
 refine⟨s1.heap.objs.size,[s1.heap.objs.size],_,_,H1,rfl,I1.kept (t':=s1.toks) λb o e=>cq _ e,zR a _,⟨_,dj _ rfl,rfl,rfl⟩,λb hb=>?_,q⟩
 have e:b=s1.heap.objs.size:=by simpa using hb
 subst e
 exact I1.Kb (bB _) (I1.bT.fresh (bB _))
theorem xF{pins:List (Addr×Obj)}{σ:St}{H:Hp}{s:Shared}{R:It->Hp->Prop}{E:Value->Shared->Prop}{lo hi:Int}{t u v:Tok}{tk:Nat}(I:Inv X pins σ H s)(h1 : -(2 ^ 62)<=lo)(h2:lo<2 ^ 62)(h3 : -(2 ^ 62)<=hi)(h4:hi<2 ^ 62)
  (q:R (Cv lo (hi-lo).toNat) H):wpAny (model X.prog X.w) X.A (pyIter (.ref s.heap.objs.size)) (PIE X pins σ tg R) E { s with heap:=s.heap.push { cls:=.type "range",data:=.fields #[.int lo t,.int hi u,.int 1 v] },toks:=tk }:=by
 refine wpAny_pyIter_range (IsRange.new ..) (small_one h1 h2 h3 h4) ?_
 have I1:Inv X pins σ H { s with heap:=s.heap.push { cls:=.type "range",data:=.fields #[.int lo t,.int hi u,.int 1 v] },toks:=tk }:=I.kept λb o e=>cq _ e
 refine⟨(s.heap.push { cls:=.type "range",data:=.fields #[.int lo t,.int hi u,.int 1 v] }).objs.size,[(s.heap.push { cls:=.type "range",data:=.fields #[.int lo t,.int hi u,.int 1 v] }).objs.size],_,_,H,rfl,
  I1.kept (t':=tk) λb o e=>cq _ e,zS _ lo (hi-lo).toNat,?_,λb hb=>?_,q⟩
 ·have e1:lo+((0:Nat):Int)*1=lo:=by simp
  have e2:(((hi-lo).toNat:Nat):Int)-((0:Nat):Int)=Builtin.Range.rangeSize lo hi 1:=by rw[rangeSize_one];split <;> lia
  show IsRangeIter _ _ (lo+((0:Nat):Int)*1) ((((hi-lo).toNat:Nat):Int)-((0:Nat):Int)) 1
  rw[e1,e2]
  exact dj _ rfl
 ·have e:b=(s.heap.push { cls:=.type "range",data:=.fields #[.int lo t,.int hi u,.int 1 v] }).objs.size:=by simpa using hb
  subst e
  exact I1.Kb (bB _) (I1.bT.fresh (bB _))
def JR(ta:TA):TI:=λσ H R=>ta σ H λvs H1=>∃j:Int,vs=[.int j]/\-(2 ^ 62)<=j/\j<2 ^ 62/\R (Cv 0 j.toNat) H1
def JQ(ta:TA):TI:=λσ H R=>ta σ H λvs H1=>∃i j:Int,vs=[.int i,.int j]/\(-(2 ^ 62)<=i/\i<2 ^ 62/\-(2 ^ 62)<=j/\j<2 ^ 62)/\R (Cv i (j-i).toNat) H1
theorem uN{a:Expr}{ta:TA}{p pos:Pos}(hg:Gl X "range")(hm:X.mg "range" = none)(ha:PA X [a] ta)(hs:starEach [a] X.env=[(false,eval a X.env)]:=by rfl):PI X tg (.Call (.Name "range" p) [a] [] pos) (JR ta):=by
 intro pins s σ H R I h
 refine Call_ (mK I hg hm boot_range (zK (cA (ha pos pins s σ H _ I h) λus s1 ⟨vs,H1,I1,r1,q1⟩=>?_) hs rfl))
 obtain⟨j,e,q1,q2,q⟩:=q1
 subst e
 cases r1 with
 | cons r rr=>
  cases rr
  obtain⟨t,rfl⟩:=r
  exact call_range_1 (xF I1 (by lia) (by lia) q1 q2 (by simpa using q))
theorem oE{a b:Expr}{ta:TA}{p pos:Pos}(hg:Gl X "range")(hm:X.mg "range" = none)(ha:PA X [a,b] ta)(hs:starEach [a,b] X.env=[(false,eval a X.env),(false,eval b X.env)]:=by rfl)(hs2:starEach [b] X.env=[(false,eval b X.env)]:=by rfl) :
  PI X tg (.Call (.Name "range" p) [a,b] [] pos) (JQ ta):=by
 intro pins s σ H R I h
 refine Call_ (mK I hg hm boot_range (zK (cA (ha pos pins s σ H _ I h) λus s1 ⟨vs,H1,I1,r1,q1⟩=>?_) (by rw[hs,hs2]) (by rw[hs2];rfl)))
 obtain⟨i,j,e,⟨q1,q2,q3,q4⟩,q⟩:=q1
 subst e
 cases r1 with
 | cons r rr=>
  cases rr with
  | cons r' rr=>
   cases rr
   obtain⟨t,rfl⟩:=r
   obtain⟨t',rfl⟩:=r'
   exact call_range_2 (xF I1 q1 q2 q3 q4 q)
def Ln(wi:TI)(g:TG)(tb:TS):TS:=λD σ H=>wi σ H λJ H1=>∃W:Nat->Nat->St->Hp->Prop,(∃m,W 0 m σ H1)/\∀i m σ H,W i m σ H->
 (J.stop i H/\D.nx σ H)\/(J.go i H/\∃N:St->Hp->Prop,(∀σ' H',N σ' H'->∃m',m'<m/\W (i+1) m' σ' H')/\∀x H',J.Ey i H x H'->g x σ H' λσ2 H2=>tb { D with nx:=N,ct:=N,bk:=D.nx } σ2 H2)
def sk(fp:List Addr)(h:Heap):List (Addr×Obj):=fp.filterMap λb=>(h.get? b).map λo=>(b,o)
theorem jA{fp:List Addr}{h:Heap}{b:Addr}{o:Obj}(hb:b∈fp)(e:h.get? b=some o):(b,o)∈sk fp h:=List.mem_filterMap.mpr ⟨b,hb,by rw[e];rfl⟩
theorem FJ{fp:List Addr}{h:Heap}{p:Addr×Obj}(hp:p∈sk fp h):p.1∈fp/\h.get? p.1=some p.2:=by
 obtain⟨b,hb,e⟩:=List.mem_filterMap.mp hp
 cases q:h.get? b with
 | none=>rw[q]at e;cases e
 | some o=>
  rw[q]at e
  have e':(b,o)=p:=dm e
  subst e'
  exact⟨hb,q⟩
theorem Inv.pinned{pins:List (Addr×Obj)}{σ:St}{H:Hp}{s:Shared}{fp:List Addr}(I:Inv X pins σ H s)(hf:∀b∈fp,ui X pins H b)(ho:∀b∈fp,∃o,s.heap.get? b=some o/\∀v,o.data≠.cell v):Inv X (pins++sk fp s.heap) σ H s:=
 I.Dp λp hp=>(gW.mp hp).elim (λz=>I.pin p (iD _ z)) λz=>by
  obtain⟨hb,e⟩:=FJ z
  obtain⟨f0,f1,f2,_⟩:=hf p.1 hb
  obtain⟨o,e',d⟩:=ho p.1 hb
  rw[e]at e';cases e'
  exact⟨e,f0,f1,f2,d⟩
theorem Inv.nA{pins pl:List (Addr×Obj)}{σ:St}{H:Hp}{s:Shared}(I:Inv X (pins++pl) σ H s):Inv X pins σ H s:=I.Dp λp hp=>I.pin p (iD _ (pC _ hp))
theorem Qm{iter:Expr}{body:List Stmt}{wi:TI}{g:TG}{tb:TS}{pos:Pos}(hp:PassesOwn (model X.prog X.w) X.A X.env X.xe)(hc:X.calm=true)(hi:PI X tg iter wi)(hg:PG X tg g)(hb:tP X body tb)
  (hs:∀x,foldedSetIterable iter X.env x=pure x:=by intro _;rfl):PS X (.For tg iter body [] pos) (Ln wi g tb):=by
 intro pins s σ H D I h
 refine wpAny_For (cA (hi pins s σ H _ I h) λv s1 h1=>cA h1 λXm s2 h2=>?_) hs
 obtain⟨it,fp,tn,J,H2,e,I2,T,Ia,f2,W,⟨m0,w0⟩,turn⟩:=h2
 subst e
 have stat:∀{H':Hp},(∀b∈fp,H' b=none)->∀b∈fp,ui X pins H' b:=λhn b hb=>⟨hn b hb,(f2 b hb).2⟩
 refine codeAny_forLoop_any (λn s'=>∃i σ' H',Inv X pins σ' H' s'/\tn i s'.heap/\(∀b∈fp,H' b=none)/\W i n σ' H') ?_ m0 ⟨0,σ,H2,I2,Ia,λb hb=>(f2 b hb).1,w0⟩
 rintro n s3 ⟨i,σ3,H3,I3,st3,fr3,w3⟩
 rcases turn i n σ3 H3 w3 with ⟨stop,qn⟩ | ⟨go,N,hN,step⟩
 ·refine qP hp (cA (T.done X rfl rfl rfl hc i pins s3 σ3 H3 X.xe I3 (stat fr3) st3 stop) λr s4 ⟨hr,I4⟩=>?_)
  subst hr
  exact vx ⟨σ3,H3,I4,qn⟩
 ·refine qP hp (cA (T.item X rfl rfl rfl hc i pins s3 σ3 H3 X.xe I3 (stat fr3) st3 go) λr s4 ⟨u,hr,h4⟩=>?_)
  subst hr
  refine qP hp (cA h4 λ_ s5 ⟨x,H5,I5,r5,y5,Yx,fr5⟩=>?_)
  have I5':=I5.pinned (stat fr5) (T.obj _ _ Yx)
  refine qP hp (cA (hg _ s5 σ3 H5 x u _ I5' r5 (step x H5 y5)) λ_ s6 ⟨σ6,H6,I6,q6⟩=>?_)
  refine qP hp (cA (hb _ s6 σ6 H6 _ I6 q6) λf s7 q7=>?_)
  have again:∀{σ7:St} {H7:Hp},Inv X (pins++sk fp s5.heap) σ7 H7 s7->N σ7 H7->∃m,m<n/\∃i σ' H',Inv X pins σ' H' s7/\tn i s7.heap/\(∀b∈fp,H' b=none)/\W i m σ' H':=λ{σ7 H7} I7 n7=>by
   obtain⟨m',hm,w7⟩:=hN σ7 H7 n7
   refine⟨m',hm,i+1,σ7,H7,I7.nA,T.keep _ _ _ Yx λb hb o e=>(I7.pin (b,o) (iD _ (iD _ (jA hb e)))).1,λb hb=>?_,w7⟩
   obtain⟨o,e,d⟩:=T.obj _ _ Yx b hb
   exact(I7.pin (b,o) (iD _ (iD _ (jA hb e)))).2.1
  cases f with
  | next=>obtain⟨σ7,H7,I7,n7⟩:=q7;exact again I7 n7
  | cont=>obtain⟨σ7,H7,I7,n7⟩:=q7;exact again I7 n7
  | brk=>obtain⟨σ7,H7,I7,q7⟩:=q7;exact⟨σ7,H7,I7.nA,q7⟩
  | ret v=>obtain⟨x7,σ7,H7,I7,r7,q7⟩:=q7;exact⟨x7,σ7,H7,I7.nA,r7,q7⟩
end
theorem Kd{K:PySem.W.Frag}{a:Addr}{xs:List V}{g:TG}{tb:TS}{D:Ends}{σ:St}{H:Hp}(Pv:Nat->St->Hp->Prop)(h0:Pv 0 σ H)(hl:∀i σ H,i<=xs.length->Pv i σ H->lG K H a xs)
  (hs:∀i x σ H,xs[i]?=some x->Pv i σ H->g x σ H λσ2 H2=>tb { D with nx:=Pv (i+1),ct:=Pv (i+1),bk:=D.nx } σ2 H2) (hd:∀σ H,Pv xs.length σ H->D.nx σ H) :
  ∃W:Nat->Nat->St->Hp->Prop,(∃m,W 0 m σ H)/\∀i m σ H,W i m σ H->
   ((GQ K a).stop i H/\D.nx σ H)\/((GQ K a).go i H/\∃N:St->Hp->Prop,(∀σ' H',N σ' H'->∃m',m'<m/\W (i+1) m' σ' H')/\∀x H',(GQ K a).Ey i H x H'->g x σ H' λσ2 H2=>tb { D with nx:=N,ct:=N,bk:=D.nx } σ2 H2):=by
 refine⟨λi m σ H=>m=xs.length-i/\i<=xs.length/\Pv i σ H,⟨xs.length,by simp,dg _,h0⟩,?_⟩
 rintro i m σ H ⟨rfl,hi,p⟩
 have q:=hl i σ H hi p
 by_cases gS:i<xs.length
 ·refine .inr ⟨⟨xs,xs[i],q,by simp[gS]⟩,Pv (i+1),λσ' H' p'=>⟨xs.length-(i+1),by lia,rfl,gS,p'⟩,λx H' y=>?_⟩
  obtain⟨e,y⟩:=y
  subst e
  exact hs i x σ _ (y xs q) p
 ·have e:i=xs.length:=by lia
  subst e
  exact .inl ⟨⟨xs,q,bB _⟩,hd σ H p⟩
theorem Nt{K:PySem.W.Frag}{a:Addr}{xs:List V}{g:TG}{tb:TS}{D:Ends}{σ:St}{H:Hp}(Pv:Nat->St->Hp->Prop)(h0:Pv 0 σ H)(hl:∀i σ H,i<=xs.length->Pv i σ H->pX K H a xs)
  (hs:∀i x σ H,xs[i]?=some x->Pv i σ H->g x σ H λσ2 H2=>tb { D with nx:=Pv (i+1),ct:=Pv (i+1),bk:=D.nx } σ2 H2) (hd:∀σ H,Pv xs.length σ H->D.nx σ H) :
  ∃W:Nat->Nat->St->Hp->Prop,(∃m,W 0 m σ H)/\∀i m σ H,W i m σ H->
   ((Sn K a).stop i H/\D.nx σ H)\/((Sn K a).go i H/\∃N:St->Hp->Prop,(∀σ' H',N σ' H'->∃m',m'<m/\W (i+1) m' σ' H')/\∀x H',(Sn K a).Ey i H x H'->g x σ H' λσ2 H2=>tb { D with nx:=N,ct:=N,bk:=D.nx } σ2 H2):=by
 refine⟨λi m σ H=>m=xs.length-i/\i<=xs.length/\Pv i σ H,⟨xs.length,by simp,dg _,h0⟩,?_⟩
 rintro i m σ H ⟨rfl,hi,p⟩
 have q:=hl i σ H hi p
 by_cases gS:i<xs.length
 ·refine .inr ⟨⟨xs,xs[i],q,by simp[gS]⟩,Pv (i+1),λσ' H' p'=>⟨xs.length-(i+1),by lia,rfl,gS,p'⟩,λx H' y=>?_⟩
  obtain⟨e,y⟩:=y
  subst e
  exact hs i x σ _ (y xs q) p
 ·have e:i=xs.length:=by lia
  subst e
  exact .inl ⟨⟨xs,q,bB _⟩,hd σ H p⟩
theorem Gn{lo:Int}{n:Nat}{g:TG}{tb:TS}{D:Ends}{σ:St}{H:Hp}(Pv:Nat->St->Hp->Prop)(h0:Pv 0 σ H)
  (hs:∀i σ H,i<n->Pv i σ H->g (.int (lo+i)) σ H λσ2 H2=>tb { D with nx:=Pv (i+1),ct:=Pv (i+1),bk:=D.nx } σ2 H2) (hd:∀σ H,Pv n σ H->D.nx σ H) :
  ∃W:Nat->Nat->St->Hp->Prop,(∃m,W 0 m σ H)/\∀i m σ H,W i m σ H->
   ((Cv lo n).stop i H/\D.nx σ H)\/((Cv lo n).go i H/\∃N:St->Hp->Prop,(∀σ' H',N σ' H'->∃m',m'<m/\W (i+1) m' σ' H')/\∀x H',(Cv lo n).Ey i H x H'->g x σ H' λσ2 H2=>tb { D with nx:=N,ct:=N,bk:=D.nx } σ2 H2):=by
 refine⟨λi m σ H=>m=n-i/\i<=n/\Pv i σ H,⟨n,by simp,dg _,h0⟩,?_⟩
 rintro i m σ H ⟨rfl,hi,p⟩
 by_cases gS:i<n
 ·refine .inr ⟨gS,Pv (i+1),λσ' H' p'=>⟨n-(i+1),by lia,rfl,gS,p'⟩,λx H' y=>?_⟩
  obtain⟨e,y⟩:=y
  subst e y
  exact hs i σ _ gS p
 ·have e:i=n:=by lia
  subst e
  exact .inl ⟨bB _,hd σ H p⟩
end L2
namespace L2
open PySem PySem.Spec PyProof.Rows
abbrev R2:=V->V->Hp->VK->Prop
def jb(X:Cx)(f:Value->Value->Sem Value)(r:R2):Prop:=
 ∀(pins:List (Addr×Obj)) (s:Shared) (σ:St) (H:Hp) (x y:V) (v u:Value) (Q:VK),Inv X pins σ H s->RelV x v->RelV y u->r x y H Q->
  wpAny (model X.prog X.w) X.A (f v u) (EP X pins σ Q) X.xe s
def Yh(X:Cx)(f:Value->Sem Value)(r:V->Hp->VK->Prop):Prop:=
 ∀(pins:List (Addr×Obj)) (s:Shared) (σ:St) (H:Hp) (x:V) (v:Value) (Q:VK),Inv X pins σ H s->RelV x v->r x H Q->
  wpAny (model X.prog X.w) X.A (f v) (EP X pins σ Q) X.xe s
def cC(X:Cx)(f:Value)(r:List V->Hp->VK->Prop):Prop:=
 ∀(pins:List (Addr×Obj)) (s:Shared) (σ:St) (H:Hp) (xs:List V) (us:List Value) (Q:VK),Inv X pins σ H s->Vals xs us->r xs H Q->
  wpAny (model X.prog X.w) X.A (call f us) (EP X pins σ Q) X.xe s
def G7(r:R2)(ta tb:TE):TE:=λσ H Q=>ta σ H λx H1=>tb σ H1 λy H2=>r x y H2 Q
def W'(r:V->Hp->VK->Prop)(ta:TE):TE:=λσ H Q=>ta σ H λx H1=>r x H1 Q
def rI(C:Int->Int->Prop)(g:Int->Int->V):R2:=λx y H Q=>∃i j,x=.int i/\y=.int j/\C i j/\Q (g i j) H
def KQ(g:Int->Int->V):R2:=λx y H Q=>∃i j,x=.int i/\y=.int j/\Q (g i j) H
def rU(g:Int->V):V->Hp->VK->Prop:=λx H Q=>∃i,x=.int i/\Q (g i) H
section
variable {X:Cx}{a b c:Expr}{ta tb tc:TE}{pos:Pos}
theorem R0(ha:PE X a ta)(hb:PE X b tb){pins:List (Addr×Obj)}{s:Shared}{σ:St}{H:Hp}{R:V->V->Hp->Prop}(I:Inv X pins σ H s)
  (h:ta σ H λx H1=>tb σ H1 λy H2=>R x y H2) {Q:Value->Shared->Prop} {f:Value->Value->Sem Value}
  (hf:∀v u s2 x y H2,Inv X pins σ H2 s2->RelV x v->RelV y u->R x y H2->wpAny (model X.prog X.w) X.A (f v u) Q X.xe s2) :
  wpAny (model X.prog X.w) X.A (eval a X.env) (λv s₁=>wpAny (model X.prog X.w) X.A (eval b X.env) (λu s₂=>wpAny (model X.prog X.w) X.A (f v u) Q X.xe s₂) X.xe s₁) X.xe s:=by
 refine cA (ha pins s σ H _ I h) λv s1 ⟨x,H1,I1,r1,q1⟩=>?_
 refine cA (hb pins s1 σ H1 _ I1 q1) λu s2 ⟨y,H2,I2,r2,q2⟩=>?_
 exact hf v u s2 x y H2 I2 r1 r2 q2
theorem Uo{op:Operator}{r:R2}(ho:jb X (binaryOp op) r)(ha:PE X a ta)(hb:PE X b tb):PE X (.BinOp a op b pos) (G7 r ta tb):=by
 intro pins s σ H Q I h
 exact wpAny_BinOp (R0 ha hb I h λv u s2 x y H2 I2 rx ry q=>ho pins s2 σ H2 x y v u Q I2 rx ry q)
theorem Um{op:UnaryOp}{r:V->Hp->VK->Prop}(ho:Yh X (unaryOp op) r)(ha:PE X a ta):PE X (.UnaryOp op a pos) (W' r ta):=by
 intro pins s σ H Q I h
 exact UnaryOp_ (cA (ha pins s σ H _ I h) λv s1 ⟨x,H1,I1,r1,q1⟩=>ho pins s1 σ H1 x v Q I1 r1 q1)
theorem Xg{f:Value->Value->Sem Value}{C:Int->Int->Prop}{g:Int->Int->Int}
  (rule:∀(i j:Int) (t u:Tok) (s:Shared) (Q:Value->Shared->Prop) (E:Value->Shared->Prop),C i j->Q (.int (g i j) s.toks) { s with toks:=s.toks+1 }->wpAny (model X.prog X.w) X.A (f (.int i t) (.int j u)) Q E s) :
  jb X f (rI C λi j=>.int (g i j)):=by
 intro pins s σ H x y v u Q I rx ry h
 obtain⟨i,j,rfl,rfl,hc,q⟩:=h
 obtain⟨t,rfl⟩:=rx
 obtain⟨t',rfl⟩:=ry
 exact rule i j t t' s _ _ hc ⟨.int (g i j),H,I.tok _,⟨_,rfl⟩,q⟩
theorem Ut{f:Value->Value->Sem Value}{g:Int->Int->Int}
  (rule:∀(i j:Int) (t u:Tok) (s:Shared) (Q:Value->Shared->Prop) (E:Value->Shared->Prop),Q (.int (g i j) s.toks) { s with toks:=s.toks+1 }->wpAny (model X.prog X.w) X.A (f (.int i t) (.int j u)) Q E s) :
  jb X f (KQ λi j=>.int (g i j)):=by
 intro pins s σ H x y v u Q I rx ry h
 obtain⟨i,j,rfl,rfl,q⟩:=h
 obtain⟨t,rfl⟩:=rx
 obtain⟨t',rfl⟩:=ry
 exact rule i j t t' s _ _ ⟨.int (g i j),H,I.tok _,⟨_,rfl⟩,q⟩
theorem MF{f:Value->Value->Sem Value}{g:Int->Int->Bool}
  (rule:∀(i j:Int) (t u:Tok) (s:Shared) (Q:Value->Shared->Prop) (E:Value->Shared->Prop),Q (.bool (g i j)) s->wpAny (model X.prog X.w) X.A (f (.int i t) (.int j u)) Q E s) :
  jb X f (KQ λi j=>.bl (g i j)):=by
 intro pins s σ H x y v u Q I rx ry h
 obtain⟨i,j,rfl,rfl,q⟩:=h
 obtain⟨t,rfl⟩:=rx
 obtain⟨t',rfl⟩:=ry
 exact rule i j t t' s _ _ ⟨.bl (g i j),H,I,rfl,q⟩
def Sw(i j:Int):Prop:=0<=j/\j<=1000000/\i.natAbs<2 ^ 64
def jH(i j:Int):Prop:=(-(2 ^ 64)<i/\i<2 ^ 64)\/(-(2 ^ 64)<j/\j<2 ^ 64)
theorem jH.ok{i j:Int}(h:jH i j):IntMulOk i j:=by
 rcases h with ⟨h1,h2⟩ | ⟨h1,h2⟩
 ·exact .of_left (intBits_le_64 h1 h2)
 ·exact .of_right (intBits_le_64 h1 h2)
theorem fu:jb X (binaryOp .Add) (KQ λi j=>.int (i+j)):=Ut λ_ _ _ _ _ _ _ q=>add_int q
theorem Ak:jb X (binaryOp .Sub) (KQ λi j=>.int (i-j)):=Ut λ_ _ _ _ _ _ _ q=>sub_int q
theorem oG:jb X (binaryOp .Mult) (rI jH λi j=>.int (i*j)):=Xg λ_ _ _ _ _ _ _ hc q=>mul_int q hc.ok
theorem iR:jb X (binaryOp .Mod) (rI (λ_ j=>0<j) λi j=>.int (i%j)):=Xg λi j _ _ _ _ _ hc q=>by
 have h1:(0:Int)<j:=hc
 exact mod_int' (by lia) (by rw[Int.fmod_eq_emod_of_nonneg i (by lia)];exact q)
theorem oF:jb X (binaryOp .Pow) (rI Sw λi j=>.int (i ^ j.toNat)):=Xg λ_ _ _ _ _ _ _ hc q=>pow_int_small hc.1 hc.2.1 hc.2.2 q
theorem unI{f:Value->Sem Value}{g:Int->Int}
  (rule:∀(i:Int) (t:Tok) (s:Shared) (Q:Value->Shared->Prop) (E:Value->Shared->Prop),Q (.int (g i) s.toks) { s with toks:=s.toks+1 }->wpAny (model X.prog X.w) X.A (f (.int i t)) Q E s) :
  Yh X f (rU λi=>.int (g i)):=by
 intro pins s σ H x v Q I rx h
 obtain⟨i,rfl,q⟩:=h
 obtain⟨t,rfl⟩:=rx
 exact rule i t s _ _ ⟨.int (g i),H,I.tok _,⟨_,rfl⟩,q⟩
theorem zQ:Yh X (unaryOp .USub) (rU λi=>.int (-i)):=unI λ_ _ _ _ _ q=>neg_int q
end
def PL:V->V->Bool
 | .non,.non=>true | .non,.int _=>true | .int _,.non=>true | .non,.bl _=>true | .bl _,.non=>true | .non,.str _=>true | .str _,.non=>true
 | .int _,.int _=>true | .bl _,.bl _=>true | .str _,.str _=>true | .Hc _,.Hc _=>true
 | .int _,.str _=>true | .str _,.int _=>true | .bl _,.str _=>true | .str _,.bl _=>true
 | _,_=>false
def rEq:R2:=λx y H Q=>PL x y=true/\Q (.bl (decide (x=y))) H
def rNe:R2:=λx y H Q=>PL x y=true/\Q (.bl (!decide (x=y))) H
theorem Ed{i j:Int}:decide (V.int i=V.int j)=(i==j):=by
 rw[nr]
 simp
theorem Kk{i j:Bool}:decide (V.bl i=V.bl j)=(i==j):=by
 rw[nr]
 simp
theorem Ec{i j:Str}:decide (V.str i=V.str j)=(i==j):=by
 rw[nr]
 simp
theorem Ee{i j:Array UInt8}:decide (V.Hc i=V.Hc j)=(i.toList==j.toList):=by
 rw[nr]
 cases i
 cases j
 simp
section
variable {X:Cx}{a b c:Expr}{ta tb tc:TE}{pos:Pos}
theorem bM{pins:List (Addr×Obj)}{σ:St}{H:Hp}{s:Shared}{Q:VK}{k k':Bool}(I:Inv X pins σ H s)(q:Q (.bl k) H)(e:k=k'):EP X pins σ Q (.bool k') s:=by
 subst e
 exact⟨.bl k,H,I,rfl,q⟩
theorem iH:jb X (compareOp .Eq) rEq:=by
 intro pins s σ H x y v u Q I rx ry h
 obtain⟨hs,q⟩:=h
 cases x with
 | non=>
  cases rx
  cases y with
  | non=>cases ry;exact PySem.EqNone.eq_none_none (bM I q (by simp))
  | bl j=>cases ry;exact PySem.EqNone.eq_none_bool (bM I q (by simp))
  | int j=>obtain⟨t',rfl⟩:=ry;exact PySem.EqNone.eq_none_int (bM I q (by simp))
  | str j=>obtain⟨t',rfl⟩:=ry;exact PySem.EqNone.eq_none_str (bM I q (by simp))
  | _=>exact absurd (show false=true from hs) cR
 | bl i=>
  cases rx
  cases y with
  | non=>cases ry;exact PySem.EqNone.eq_bool_none (bM I q (by simp))
  | bl j=>cases ry;exact eq_bool (bM I q Kk)
  | str j=>obtain⟨t',rfl⟩:=ry;exact PySem.EqMixed.eq_bool_str (bM I q (by simp))
  | _=>exact absurd (show false=true from hs) cR
 | int i=>
  obtain⟨t,rfl⟩:=rx
  cases y with
  | non=>cases ry;exact PySem.EqNone.eq_int_none (bM I q (by simp))
  | int j=>obtain⟨t',rfl⟩:=ry;exact eq_int (bM I q Ed)
  | str j=>obtain⟨t',rfl⟩:=ry;exact PySem.EqMixed.eq_int_str (bM I q (by simp))
  | _=>exact absurd (show false=true from hs) cR
 | str i=>
  obtain⟨t,rfl⟩:=rx
  cases y with
  | non=>cases ry;exact PySem.EqNone.eq_str_none (bM I q (by simp))
  | bl j=>cases ry;exact PySem.EqMixed.eq_str_bool (bM I q (by simp))
  | int j=>obtain⟨t',rfl⟩:=ry;exact PySem.EqMixed.eq_str_int (bM I q (by simp))
  | str j=>obtain⟨t',rfl⟩:=ry;exact eq_str (bM I q Ec)
  | _=>exact absurd (show false=true from hs) cR
 | Hc i=>
  obtain⟨t,rfl⟩:=rx
  cases y with
  | Hc j=>obtain⟨t',rfl⟩:=ry;exact PySem.W.eq_bytes (bM I q Ee)
  | _=>exact absurd (show false=true from hs) cR
 | _=>cases y <;> exact absurd (show false=true from hs) cR
theorem Us:jb X (compareOp .NotEq) rNe:=by
 intro pins s σ H x y v u Q I rx ry h
 obtain⟨hs,q⟩:=h
 cases x with
 | non=>
  cases rx
  cases y with
  | non=>cases ry;exact PySem.EqNone.ne_none_none (bM I q (by simp))
  | bl j=>cases ry;exact PySem.EqNone.ne_none_bool (bM I q (by simp))
  | int j=>obtain⟨t',rfl⟩:=ry;exact PySem.EqNone.ne_none_int (bM I q (by simp))
  | str j=>obtain⟨t',rfl⟩:=ry;exact PySem.EqNone.ne_none_str (bM I q (by simp))
  | _=>exact absurd (show false=true from hs) cR
 | bl i=>
  cases rx
  cases y with
  | non=>cases ry;exact PySem.EqNone.ne_bool_none (bM I q (by simp))
  | bl j=>cases ry;exact ne_bool (bM I q (gT not Kk))
  | str j=>obtain⟨t',rfl⟩:=ry;exact PySem.EqMixed.ne_bool_str (bM I q (by simp))
  | _=>exact absurd (show false=true from hs) cR
 | int i=>
  obtain⟨t,rfl⟩:=rx
  cases y with
  | non=>cases ry;exact PySem.EqNone.ne_int_none (bM I q (by simp))
  | int j=>obtain⟨t',rfl⟩:=ry;exact ne_int (bM I q (gT not Ed))
  | str j=>obtain⟨t',rfl⟩:=ry;exact PySem.EqMixed.ne_int_str (bM I q (by simp))
  | _=>exact absurd (show false=true from hs) cR
 | str i=>
  obtain⟨t,rfl⟩:=rx
  cases y with
  | non=>cases ry;exact PySem.EqNone.ne_str_none (bM I q (by simp))
  | bl j=>cases ry;exact PySem.EqMixed.ne_str_bool (bM I q (by simp))
  | int j=>obtain⟨t',rfl⟩:=ry;exact PySem.EqMixed.ne_str_int (bM I q (by simp))
  | str j=>obtain⟨t',rfl⟩:=ry;exact ne_str (bM I q (gT not Ec))
  | _=>exact absurd (show false=true from hs) cR
 | Hc i=>
  obtain⟨t,rfl⟩:=rx
  cases y with
  | Hc j=>obtain⟨t',rfl⟩:=ry;exact PySem.W.ne_bytes (bM I q (gT not Ee))
  | _=>exact absurd (show false=true from hs) cR
 | _=>cases y <;> exact absurd (show false=true from hs) cR
theorem Jq:jb X (compareOp .Lt) (KQ λi j=>.bl (decide (i<j))):=MF λ_ _ _ _ _ _ _ q=>lt_int q
theorem uQ:jb X (compareOp .LtE) (KQ λi j=>.bl (decide (i<=j))):=MF λ_ _ _ _ _ _ _ q=>le_int q
theorem sq:jb X (compareOp .Gt) (KQ λi j=>.bl (decide (j<i))):=MF λ_ _ _ _ _ _ _ q=>gt_int q
theorem Oi:jb X (compareOp .GtE) (KQ λi j=>.bl (decide (j<=i))):=MF λ_ _ _ _ _ _ _ q=>ge_int q
theorem bF(b:Expr){op:CmpOp}(h:op≠.In:=by decide)(h2:op≠.NotIn:=by decide):behindInMarks op b=false:=by
 have e1:(op==CmpOp.In)=false:=by cases op <;> first | rfl | exact absurd rfl h
 have e2:(op==CmpOp.NotIn)=false:=by cases op <;> first | rfl | exact absurd rfl h2
 cases b <;> simp[behindInMarks,e1,e2]
theorem Mw{op:CmpOp}{r:R2}(ho:jb X (compareOp op) r)(ha:PE X a ta)(hb:PE X b tb)(hm:behindInMarks op b=false):PE X (.Compare a [op] [b] pos) (G7 r ta tb):=by
 intro pins s σ H Q I h
 exact wpAny_Compare1 (R0 ha hb I h λv u s2 x y H2 I2 rx ry q=>ho pins s2 σ H2 x y v u Q I2 rx ry q) hm
def xf(t:TE):TT:=λσ H Q=>t σ H λx H'=>∃k,x=.bl k/\Q k H'
theorem Mb{op:CmpOp}{r:R2}(ho:jb X (compareOp op) r)(ha:PE X a ta)(hb:PE X b tb)(hm:behindInMarks op b=false):PT X (.Compare a [op] [b] pos) (xf (G7 r ta tb)):=by
 intro pins s σ H Q I h
 refine wpAny_isTrue_Compare1 (cA (ha pins s σ H _ I h) λv s1 ⟨x,H1,I1,r1,q1⟩=>cA (hb pins s1 σ H1 _ I1 q1) λu s2 ⟨y,H2,I2,r2,q2⟩=>
  cA (ho pins s2 σ H2 x y v u _ I2 r1 r2 q2) λc s3 ⟨z,H3,I3,r3,k,e,q3⟩=>?_) hm
 subst e
 cases r3
 exact pk ⟨H3,I3,q3⟩
def mD(r r':R2)(ta tb tc:TE):TE:=λσ H Q=>ta σ H λx H1=>tb σ H1 λy H2=>r x y H2 λz H3=>∃k,z=.bl k/\
 (if k=true then tc σ H3 λw' H4=>r' y w' H4 Q else Q (.bl false) H3)
theorem xP{op op':CmpOp}{r r':R2}(ho:jb X (compareOp op) r)(wK:jb X (compareOp op') r')(ha:PE X a ta)(hb:PE X b tb)(hc:PE X c tc)
  (hm:lastMarks [op,op'] [b,c]=false:=by with_unfolding_all rfl):PE X (.Compare a [op,op'] [b,c] pos) (mD r r' ta tb tc):=by
 intro pins s σ H Q I h
 refine Compare_chain (cA (ha pins s σ H _ I h) λv s1 ⟨x,H1,I1,r1,q1⟩=>chain_link (cA (hb pins s1 σ H1 _ I1 q1) λu s2 ⟨y,H2,I2,r2,q2⟩=>
  cA (ho pins s2 σ H2 x y v u _ I2 r1 r2 q2) λd s3 ⟨z,H3,I3,r3,k,e,q3⟩=>?_)) hm
 subst e
 cases r3
 refine pk ?_
 cases k with
 | false=>exact ite_ff ⟨.bl false,H3,I3,rfl,q3⟩
 | true=>exact ite_tt (chain_last (cA (hc pins s3 σ H3 _ I3 q3) λw' s4 ⟨z',H4,I4,r4,q4⟩=>wK pins s4 σ H4 y z' u w' Q I4 r2 r4 q4))
theorem xH{op op':CmpOp}{r r':R2}(ho:jb X (compareOp op) r)(wK:jb X (compareOp op') r')(ha:PE X a ta)(hb:PE X b tb)(hc:PE X c tc)
  (hm:lastMarks [op,op'] [b,c]=false:=by with_unfolding_all rfl):PT X (.Compare a [op,op'] [b,c] pos) (xf (mD r r' ta tb tc)):=by
 intro pins s σ H Q I h
 refine isTrue_chain (cA (ha pins s σ H _ I h) λv s1 ⟨x,H1,I1,r1,q1⟩=>test_link (cA (hb pins s1 σ H1 _ I1 q1) λu s2 ⟨y,H2,I2,r2,q2⟩=>
  cA (ho pins s2 σ H2 x y v u _ I2 r1 r2 q2) λd s3 ⟨z,H3,I3,r3,k,e,q3⟩=>?_)) hm
 subst e
 cases r3
 refine pk ?_
 cases k with
 | false=>
  obtain⟨k',e',q'⟩:=q3
  cases e'
  exact ite_ff ⟨H3,I3,q'⟩
 | true=>
  refine ite_tt (test_last (cA (hc pins s3 σ H3 _ I3 q3) λw' s4 ⟨z',H4,I4,r4,q4⟩=>cA (wK pins s4 σ H4 y z' u w' _ I4 r2 r4 q4) λd' s5 ⟨z2,H5,I5,r5,k2,e2,q5⟩=>?_))
  subst e2
  cases r5
  exact pk ⟨H5,I5,q5⟩
theorem mJ:(sizeLine:Nat)<2 ^ 63:=by rw[jT];decide
theorem Am:jb X (binaryOp .Add) (λx y H Q=>∃i j,x=.str i/\y=.str j/\i.length+j.length<=sizeLine/\Q (.str (i++j)) H):=by
 intro pins s σ H x y v u Q I rx ry h
 obtain⟨i,j,rfl,rfl,hz,q⟩:=h
 obtain⟨t,rfl⟩:=rx
 obtain⟨t',rfl⟩:=ry
 exact add_str (λt' tk=>⟨.str (i++j),H,I.tok _,⟨_,rfl⟩,q⟩) hz
theorem vals1{x:V}{us:List Value}(r:Vals [x] us):∃u,us=[u]/\RelV x u:=by
 cases r with
 | cons r1 r2=>cases r2;exact⟨_,rfl,r1⟩
theorem Ks:cC X (.builtin "abs") (λxs H Q=>∃i,xs=[.int i]/\Q (.int (if i<0 then -i else i)) H):=by
 intro pins s σ H xs us Q I r h
 obtain⟨i,rfl,q⟩:=h
 obtain⟨u,rfl,t,rfl⟩:=vals1 r
 exact call_abs_int λu tk=>⟨.int (if i<0 then -i else i),H,I.tok _,⟨_,rfl⟩,q⟩
end
end L2
namespace L2
open PySem PySem.Spec PyProof.Rows
structure Sj(h:Heap)(x dx C:Addr)(mA:Str->Option Value):Prop where
 obj:h.get? x=some (PySem.W.instObj C dx)
 ns:h.Ns1 dx mA
 ne:dx≠x
theorem oO{h:Heap}{dx:Addr}{mA:Str->Option Value}(n:h.Ns1 dx mA):∃od,h.get? dx=some od/\∀name,PySem.W.lookIn name od=some (mA name):=by
 obtain⟨o,es,ep,ho,hd,hk,_,hm⟩:=n
 refine⟨o,ho,λname=>?_⟩
 have e:=hm name
 unfold nsFind findBy at e
 rw[<-Array.find?_toList]at e
 unfold PySem.W.lookIn
 rw[hd]
 dsimp only
 split
 ·rename_i y q
  rw[q]at e
  exact gT some e
 ·rename_i q
  rw[q]at e
  have a:es.toList.any (·.refKey)=false:=by
   rw[List.any_eq_false]
   intro y hy
   obtain⟨z,t,hkey⟩:=hk y (Array.mem_toList_iff.mp hy)
   simp[DictEntry.refKey,hkey]
  have a':¬es.toList.any (·.refKey)=true:=by rw[a];exact cR
  rw[aE a']
  exact gT some e
theorem Sj.look{h:Heap}{x dx C:Addr}{mA:Str->Option Value}(I:Sj h x dx C mA):∃od,PySem.W.InstAt h x (PySem.W.instObj C dx) C (some od)/\∀name,PySem.W.lookIn name od=some (mA name):=
 let ⟨od,ho,hl⟩:=oO I.ns
 ⟨od,⟨I.obj,rfl,rfl,ho⟩,hl⟩
theorem GL.some_of{v:V}{o:Option Value}(r:GL (some v) o):∃u,o=some u/\RelV v u:=by
 cases o with
 | none=>exact(show False from r).elim
 | some u=>exact⟨u,rfl,r⟩
theorem Gi{v:V}{u:Value}(r:RelV v u):PySem.W.handedIn u=true:=by
 cases v with
 | non=>cases (show u=Value.none from r);rfl
 | bl b=>cases (show u=Value.bool b from r);rfl
 | int i=>obtain⟨t,e⟩:=(show ∃t,u=Value.int i t from r);cases e;rfl
 | str x=>obtain⟨t,e⟩:=(show ∃t,u=Value.str x t from r);cases e;rfl
 | Hc b=>obtain⟨t,e⟩:=(show ∃t,u=Value.bytes b t from r);cases e;rfl
 | RC b=>obtain⟨t,e⟩:=(show ∃t,u=Value.float b t from r);cases e;rfl
 | ref a=>cases (show u=Value.ref a from r);rfl
 | ty n=>cases (show u=Value.type n from r);rfl
section
variable {P:Program}{w:World}{H H':Hp}{h h':Heap}{a C dx:Addr}{fs fs':List (Str×V)}
theorem M9(bT:jE P w H h)(e:H a=some (.ins C dx fs)):∃mA,Sj h a dx C mA/\(∀f,GL (fs.lookup f) (mA f))/\PySem.Within mA (fs.map (·.1))/\fs.length<=1000/\H dx=some (.own a):=by
 obtain⟨d,z,ne,ob,mA,n,r,q⟩:=(show cO P w H h a (.ins C dx fs) from bT a _ e)
 exact⟨mA,⟨ob,n,ne⟩,r,q,z,d⟩
end
structure Cls(K:PySem.W.Frag)(C:Addr):Prop where
 pg:PySem.W.plainGet K C Str.empty=true
 hd:PySem.W.hasDictIn K C=true
 po:PySem.W.plainOver K C=true
 sa:PySem.W.findIn K (.ref C) "__setattr__" = some (some (.builtin "object.__setattr__"))
theorem Cls.get{K:PySem.W.Frag}{C:Addr}(c:Cls K C)(f:Str):PySem.W.plainGet K C f=true:=c.pg
section
variable {X:Cx}{pins:List (Addr×Obj)}{σ:St}{H:Hp}{s:Shared}{a C dx:Addr}{fs:List (Str×V)}{f:Str}{v:V}{A:Around}{E:Value->Shared->Prop}
theorem NT{prog:Program}{w:World}{env:Env}{e:Expr}{f:Str}{pos:Pos}{s:Shared}{Q:Value->Shared->Prop}(hb:attributeBase e f env (eval e env)=eval e env)
  (h:wpAny (model prog w) A (eval e env) (λo s₁=>wpAny (model prog w) A (getAttr o f true) Q E s₁) E s):wpAny (model prog w) A (eval (.Attribute e f pos) env) Q E s:=
 Attribute_any_ h (by rw[arm_eval_Attribute,hb])
end
section
variable {X:Cx}{pins:List (Addr×Obj)}{σ:St}{H:Hp}{s:Shared}{A:Around}{E:Value->Shared->Prop}{Q:Value->Shared->Prop}{c:Value}{b:Bool}
inductive jr (K:PySem.W.Frag) (H:Hp):V->Value->Prop where
 | non:jr K H .non (.type "NoneType")
 | bl (x:Bool):jr K H (.bl x) (.type "bool")
 | int (i:Int):jr K H (.int i) (.type "int")
 | str (x:Str):jr K H (.str x) (.type "str")
 | RC (x:UInt64):jr K H (.RC x) (.type "float")
 | lst {a:Addr} {xs:List V} (e:H a=some (.lst xs)):jr K H (.ref a) (.type "list")
 | D' {a:Addr} {o:Obj} {xs:List V} (e:H a=some (.D' o (.lst xs))):jr K H (.ref a) (.type "list")
 | tup {a:Addr} {xs:List V} (e:H a=some (.tup xs)):jr K H (.ref a) (.type "tuple")
 | dK {a:Addr} {cu:List (Key×V)} (e:H a=some (.dK cu)):jr K H (.ref a) (.type "dict")
 | dT {a:Addr} {cu:List (List Key×V)} (e:H a=some (.dT cu)):jr K H (.ref a) (.type "dict")
 | ins {a C dx:Addr} {fs:List (Str×V)} (e:H a=some (.ins C dx fs)) (cl:Cls K C) (ha:PySem.W.findIn K (.ref C) "__class__" = some (some (.builtin "object.__class__")))
   (hn:PySem.W.specialIn K (.builtin "object.__class__") "__get__" = some (some (.builtin "getset_descriptor.__get__"))) (htk:PySem.W.takesIn K (.builtin "object.__class__")=some true)
   (hm:PySem.W.mroIn K C (.type "object")=some true):jr K H (.ref a) (.ref C)
theorem Gb{x:V}{u t:Value}(I:Inv X pins σ H s)(rx:RelV x u)(ty:jr X.K H x t)(e:PySem.W.kitOne X.K t c=some b)(h:∀tk,Q (.bool b) { s with toks:=tk }) :
  wpAny (model X.prog X.w) A (call (.builtin "isinstance") [u,c]) Q E s:=by
 cases ty with
 | non=>cases (show u=Value.none from rx);exact jd PySem.W.kitx_none I.jP True.intro e (λz=>nomatch z) h
 | bl y=>cases (show u=Value.bool y from rx);exact jd PySem.W.kitx_bool I.jP True.intro e (λz=>nomatch z) h
 | int i=>obtain⟨t,q⟩:=(show ∃t,u=Value.int i t from rx);cases q;exact jd PySem.W.kitx_int I.jP True.intro e (λz=>nomatch z) h
 | str y=>obtain⟨t,q⟩:=(show ∃t,u=Value.str y t from rx);cases q;exact jd PySem.W.kitx_str I.jP True.intro e (λz=>nomatch z) h
 | RC y=>obtain⟨t,q⟩:=(show ∃t,u=Value.float y t from rx);cases q;exact jd PySem.W.kitx_float I.jP True.intro e (λz=>nomatch z) h
 | @lst a xs ea=>
  cases (show u=Value.ref a from rx)
  obtain⟨_,_,n,_,h1⟩:=(show cO X.prog X.w H s.heap a (.lst xs) from I.bT a _ ea)
  exact jd PySem.W.kitx_list I.jP ⟨_,h1,rfl⟩ e (λz=>nomatch z) h
 | @D' a ob xs ea=>
  cases (show u=Value.ref a from rx)
  obtain⟨_,_,_,n,_,h1⟩:=(show cO X.prog X.w H s.heap a (.D' ob (.lst xs)) from I.bT a _ ea)
  exact jd PySem.W.kitx_list I.jP ⟨_,h1,rfl⟩ e (λz=>nomatch z) h
 | @tup a xs ea=>
  cases (show u=Value.ref a from rx)
  obtain⟨_,_,_,p⟩:=(show cO X.prog X.w H s.heap a (.tup xs) from I.bT a _ ea)
  obtain⟨o,h1,h2,_⟩:=p
  exact jd PySem.W.kitx_tuple I.jP ⟨o,h1,h2⟩ e (λz=>nomatch z) h
 | @dK a cu ea=>
  cases (show u=Value.ref a from rx)
  obtain⟨_,_,vs,_,p⟩:=(show cO X.prog X.w H s.heap a (.dK cu) from I.bT a _ ea)
  obtain⟨o,es,ep,h1,h2,_⟩:=p
  exact jd PySem.W.kitx_dict I.jP ⟨o,h1,h2.1⟩ e (λz=>nomatch z) h
 | @dT a cu ea=>
  cases (show u=Value.ref a from rx)
  obtain⟨_,_,xs,_,o,es,ep,h1,h2,_⟩:=(show cO X.prog X.w H s.heap a (.dT cu) from I.bT a _ ea)
  exact jd PySem.W.kitx_dict I.jP ⟨o,h1,h2.1⟩ e (λz=>nomatch z) h
 | @ins a C dx fs ea cl ha hn htk hm=>
  cases (show u=Value.ref a from rx)
  obtain⟨mA,O,_⟩:=M9 I.bT ea
  obtain⟨od,J,_⟩:=O.look
  exact jd (PySem.W.kitx_own (cl.get _) cl.hd ha hn htk hm) I.jP J e (λz=>nomatch z) h
end
end L2
namespace L2
open PySem PySem.Spec PyProof.Rows
structure cS(k:Nat)(A:Around):Prop where
 hd:A.handled=none
 dp:A.depth+3*k+5<recursionLimit
 un:A.units+16*k+200<cLine
theorem cS.mono{j k:Nat}{A:Around}(r:cS k A)(h:j<=k:=by lia):cS j A:=⟨r.hd,by have:=r.dp;lia,by have:=r.un;lia⟩
theorem cS.deeper{k:Nat}{A:Around}(r:cS (k+1) A)(env:Env):cS k (A.deeper env):=
 ⟨r.hd,by have:=r.dp;show A.depth+1+3*k+5<_;lia,by have:=r.un;show A.units+3+16*k+200<_;lia⟩
theorem cS.in1{k:Nat}{A:Around}(r:cS (k+1) A):cS k A.in1:=
 ⟨r.hd,by have:=r.dp;show A.depth+3*k+5<_;lia,by have:=r.un;show A.units+1+16*k+200<_;lia⟩
theorem Bf{A:Around}{C:Addr}{us:List Value}{kw:List (Str×Value)}:(A.under (.builtin "type.__call__" ⟨.ref C::us,kw⟩)).depth=A.depth+1:=by
 first | rfl | simp[Around.under,Code.weight,Code.isCreation,Code.isGuard,Code.isCaller,Code.frames,Code.isFrame,guardIds]
theorem Be{A:Around}{C:Addr}{us:List Value}{kw:List (Str×Value)}:(A.under (.builtin "type.__call__" ⟨.ref C::us,kw⟩)).units=A.units+1:=by
 first | rfl | simp[Around.under,Code.cUnits,Code.frames,Code.isFrame]
theorem cS.make{k:Nat}{A:Around}(r:cS (k+1) A)(C:Addr)(us:List Value)(kw:List (Str×Value)):cS k (A.under (.builtin "type.__call__" ⟨.ref C::us,kw⟩)):=
 ⟨r.hd,by have:=r.dp;rw[Bf];lia,by have:=r.un;rw[Be];lia⟩
theorem cS.depth{k:Nat}{A:Around}(r:cS k A):A.depth<recursionLimit:=by have:=r.dp;lia
theorem cS.units{k:Nat}{A:Around}(r:cS k A):A.units+64<cLine:=by have:=r.un;lia
theorem cS.fL{k:Nat}{A:Around}(r:cS k A):A.units<cLine:=by have:=r.un;lia
def xg:TA:=λ_ H Q=>Q [] H
def uH(ta:TE)(tr:TA):TA:=λσ H Q=>ta σ H λx H1=>tr σ H1 λxs H2=>Q (x::xs) H2
section
variable {X:Cx}{e:Expr}{es:List Expr}{te:TE}{t:TA}{pos:Pos}
theorem Aj:PA X [] xg:=λ_ _ _ _ H Q I h=>Calls.spliced_nil ⟨[],H,I,.nil,h⟩
theorem qE(ha:PE X e te)(hr:PA X es t)(hs:starEach (e::es) X.env=(false,eval e X.env)::starEach es X.env:=by rfl):PA X (e::es) (uH te t):=by
 intro pos pins s σ H Q I h
 rw[hs]
 show wpAny _ _ (spliced ((false,eval e X.env)::backTo pos (starEach es X.env))) _ _ s
 refine Calls.spliced_cons (cA (ha pins s σ H _ I h) λu s1 ⟨x,H1,I1,r1,q1⟩=>?_)
 exact cA (hr pos pins s1 σ H1 _ I1 q1) λus s2 ⟨xs,H2,I2,r2,q2⟩=>⟨x::xs,H2,I2,.cons r1 r2,q2⟩
def Lg(t:TA):TE:=λσ H Q=>t σ H λxs H1=>xs.length<=sizeLine/\∀p,H1 p=none->Q (.ref p) (upd H1 p (.tup xs))
def Li(t:TA):TE:=λσ H Q=>t σ H λxs H1=>xs.length<=sizeLine/\∀p,H1 p=none->Q (.ref p) (upd H1 p (.lst xs))
theorem Qq{x1}(h:PA X es t):PE X (.Tuple es x1 pos) (Lg t):=by
 intro pins s σ H Q I hq
 refine wpAny_Tuple_spliced (cA (h pos pins s σ H _ I hq) λus s1 ⟨xs,H1,I1,r,z,q⟩=>⟨by rw[<-r.length];exact z,?_⟩)
 have hf:H1 s1.heap.objs.size=none:=I1.bT.fresh (bB _)
 refine⟨.ref s1.heap.objs.size,upd H1 s1.heap.objs.size (.tup xs),I1.laid (t':=s1.toks) (λb u e=>cq _ e) (bB _) ?_,rfl,q _ hf⟩
 exact⟨z,us,r,⟨_,dj _ rfl,rfl,_,rfl⟩⟩
theorem Qv(h:PA X es t):PE X (.List es pos) (Li t):=by
 intro pins s σ H Q I hq
 refine wpAny_List_spliced (cA (h pos pins s σ H _ I hq) λus s1 ⟨xs,H1,I1,r,z,q⟩=>⟨by rw[<-r.length];exact z,?_⟩)
 have hf:H1 s1.heap.objs.size=none:=I1.bT.fresh (bB _)
 refine⟨.ref s1.heap.objs.size,upd H1 s1.heap.objs.size (.lst xs),I1.laid (t':=s1.toks) (λb u e=>cq _ e) (bB _) ?_,rfl,q _ hf⟩
 exact⟨z,us,0,r,dj _ rfl⟩
end
abbrev Sp:=List V->Hp->VK->XK->Prop
abbrev Ep:=List Env->Hp->Shared->XK->Value->Shared->Prop
structure uj(P:Program)(w:World)(K:PySem.W.Frag)(mg:Str->Option Value)(base:Heap)(A:Around)(outer:List Env)(s:Shared)(H:Hp):Prop where
 frames:A.frames=some outer
 mod:Mod K mg base
 bs:∀b o,base.get? b=some o->s.heap.get? b=some o/\H b=none
 Gx:base.objs.size<=s.heap.objs.size
 lD:s.heap.FunFrames base outer
 Ka:∀b∈lE outer,H b=none
 bT:jE P w H s.heap
 bare:AllBare s.gens
def CE(outer:List Env)(P:Program)(w:World)(H:Hp)(s:Shared)(Q:VK)(u:Value)(s':Shared):Prop:=
 ∃v H',s'.os=s.os/\AllBare s'.gens/\Un (lE outer) [] H H' s.heap s'.heap/\jE P w H' s'.heap/\RelV v u/\Q v H'
def CR(CX:Ep)(outer:List Env)(P:Program)(w:World)(H:Hp)(s:Shared)(Q:VK)(E:XK)(r:Result)(s':Shared):Prop:=
 match r with
 | .ok (.ret u)=>CE outer P w H s Q u s'
 | .ok _=>False
 | .error e=>CX outer H s E e s'
structure cz(P:Program)(w:World)(K:PySem.W.Frag)(mg:Str->Option Value)(base:Heap)(CX:Ep)(k:Nat)(f:Addr)(fd:FuncData)(ps:List Str)(sp:Sp):Prop where
 len:∀vs H Q E,sp vs H Q E->vs.length=ps.length
 run:∀(A:Around) (outer:List Env) (s:Shared) (H:Hp) (args:Args) (us:List Value) (vs:List V) (Q:VK) (E:XK),cS k A->uj P w K mg base A outer s H->BindsTo s fd args (ps.zip us)->Vals vs us->sp vs H Q E->
  codeAny (model P w) A (.call (.ref f) args) (CR CX outer P w H s Q E) s
theorem uj.make{P:Program}{w:World}{K:PySem.W.Frag}{mg:Str->Option Value}{base:Heap}{A:Around}{outer:List Env}{s:Shared}{H:Hp}(e:uj P w K mg base A outer s H)(C:Addr)(us:List Value)(kw:List (Str×Value)) :
  uj P w K mg base (A.under (.builtin "type.__call__" ⟨.ref C::us,kw⟩)) outer s H:=⟨by first | exact e.frames | (simpa [Around.under,Code.envs,Code.isFrame,pushEnvs]using e.frames),e.mod,e.bs,e.Gx,e.lD,e.Ka,e.bT,e.bare⟩
theorem uj.in1{P:Program}{w:World}{K:PySem.W.Frag}{mg:Str->Option Value}{base:Heap}{A:Around}{outer:List Env}{s:Shared}{H:Hp}(e:uj P w K mg base A outer s H) :
  uj P w K mg base A.in1 outer s H:=⟨e.frames,e.mod,e.bs,e.Gx,e.lD,e.Ka,e.bT,e.bare⟩
section
variable {X:Cx}{pins:List (Addr×Obj)}{σ:St}{H:Hp}{s s':Shared}
theorem Inv.Nv(I:Inv X pins σ H s):uj X.prog X.w X.K X.mg X.base X.A X.stack s H:=
 ⟨I.ok.frames,I.ok.mod,I.bs,fF I.ok.Gx I.sz,I.stack,I.qC,I.bT,I.bare⟩
theorem Inv.after{Q:VK}{u:Value}(I:Inv X pins σ H s)(h:CE X.stack X.prog X.w H s Q u s'):EP X pins σ Q u s':=by
 obtain⟨v,H',os,bare,un,bT,r,q⟩:=h
 obtain⟨hh,g,d,t,ZL⟩:=s'
 obtain rfl:ZL=s.os:=os
 exact⟨v,H',I.call (h':=hh) (g':=g) (d':=d) (t':=t) (ch:=[]) un bT bare (λb z=>absurd z (by simp)),r,q⟩
end
def xh(sp:Sp)(y7:List V)(E:XK)(t:TA):TE:=λσ H Q=>t σ H λvs H1=>sp (vs++y7) H1 Q E
def Binds(K:PySem.W.Frag)(fd:FuncData)(ps:List Str)(ds:List Value):Prop:=
 ∀(s:Shared) (us:List Value),K.In s.heap->(us++ds).length=ps.length->BindsTo s fd ⟨us,[]⟩ (ps.zip (us++ds))
theorem Binds.all{K:PySem.W.Frag}{fd:FuncData}{ps:List Str}(h:∀us:List Value,us.length=ps.length->bindArgs fd ⟨us,[]⟩=pure (ps.zip us)):Binds K fd ps []:=λs us _ hl=>by
 rw[ph]at hl ⊢
 exact .of_eq (h us hl)
def Passes(CX:Ep)(X:Cx)(E:XK):Prop:=∀(pins:List (Addr×Obj)) (σ:St) (H:Hp) (s:Shared) (e:Value) (s':Shared),Inv X pins σ H s->CX X.stack H s E e s'->X.xe e s'
section
variable {X:Cx}{CX:Ep}{k:Nat}{f C:Addr}{fd:FuncData}{ps:List Str}{sp:Sp}{y7:List V}{ds:List Value}{E:XK}{x m:Str}{p pos apos:Pos}{e o:Expr}{es:List Expr}{ta:TE}{t:TA}
theorem Iu{pins:List (Addr×Obj)}{σ:St}{H:Hp}{s:Shared}{Q:VK}{us:List Value}{vs:List V}(F:cz X.prog X.w X.K X.mg X.base CX k f fd ps sp)(hr:cS k X.A)(hb:Binds X.K fd ps ds)(hd:Vals y7 ds)(hx:Passes CX X E)
  (I:Inv X pins σ H s) (r:Vals vs us) (h:sp (vs++y7) H Q E):wpAny (model X.prog X.w) X.A (call (.ref f) us) (EP X pins σ Q) X.xe s:=by
 have r2:Vals (vs++y7) (us++ds):=r.append hd
 have hl:(us++ds).length=ps.length:=by rw[<-r2.length];exact F.len _ _ _ _ h
 refine jS (lH (F.run X.A X.stack s H ⟨us,[]⟩ (us++ds) (vs++y7) Q E hr I.Nv (hb s us I.jP hl) r2 h) λr s' hq=>?_)
 cases r with
 | error e=>exact hx pins σ H s e s' I hq
 | ok fl=>
  cases fl with
  | ret u=>exact I.after hq
  | next=>exact False.elim hq
  | brk=>exact False.elim hq
  | cont=>exact False.elim hq
theorem qD(F:cz X.prog X.w X.K X.mg X.base CX k f fd ps sp)(hr:cS k X.A)(hg:Gl X x)(hm:X.mg x=some (.ref f))(hk:PySem.W.keepIn X.K (.ref f)=true)(hb:Binds X.K fd ps ds)(hd:Vals y7 ds)(hx:Passes CX X E)
  (ha:PA X (e::es) t) (mQ:(x==("__debug__" : Str))=false:=by decide) (he:starEach (e::es) X.env=(false,eval e X.env)::starEach es X.env:=by rfl) (qG:(backTo pos (starEach es X.env)).any (·.1)=false:=by rfl) :
  PE X (.Call (.Name x p) (e::es) [] pos) (xh sp y7 E t):=by
 intro pins s σ H Q I h
 refine pA (gH I hg hm ?_ mQ)
 refine zu (h₀:=X.base) I.ok.mod.U5 hk (cA (ha pos pins s σ H _ I h) λus s1 ⟨vs,H1,I1,r,q⟩=>⟨I1.jP,?_⟩) he qG
 exact Iu F hr hb hd hx I1 r q
theorem xQ(F:cz X.prog X.w X.K X.mg X.base CX k f fd ps sp)(hr:cS k X.A)(hg:Gl X x)(hm:X.mg x=some (.ref f))(hk:PySem.W.keepIn X.K (.ref f)=true)(hb:Binds X.K fd ps ds)(hd:Vals y7 ds)(hx:Passes CX X E)
  (mQ:(x==("__debug__" : Str))=false:=by decide):PE X (.Call (.Name x p) [] [] pos) (xh sp y7 E xg):=by
 intro pins s σ H Q I h
 refine pA (gH I hg hm ?_ mQ)
 exact PySem.W.callWith_K0 I.jP hk (Iu (us:=[]) F hr hb hd hx I .nil h)
end
def PK(X:Cx)(kws:List Keyword)(t:TA):Prop:=
 ∀(pos:Pos) (pins:List (Addr×Obj)) (s:Shared) (σ:St) (H:Hp) (Q:List V->Hp->Prop),Inv X pins σ H s->t σ H Q->wpAny (model X.prog X.w) X.A (evalAll ((backToKw pos (keywordEach kws X.env)).map (·.2))) (AP X pins σ Q) X.xe s
section
variable {X:Cx}{CX:Ep}{k:Nat}{f C:Addr}{fd:FuncData}{ps ks:List Str}{sp:Sp}{E:XK}{x m:Str}{p pos apos kpos:Pos}{e o:Expr}{es:List Expr}{kws:List Keyword}{te ta:TE}{t tk:TA}{nm:Option Str}
theorem Je:PK X [] xg:=λ_ _ _ _ H Q I h=>wpAny_evalAll_nil ⟨[],H,I,.nil,h⟩
theorem Dn(ha:PE X e te)(hr:PK X kws t):PK X (⟨nm,e,kpos⟩::kws) (uH te t):=by
 intro pos pins s σ H Q I h
 show wpAny _ _ (evalAll ((do let v <-eval e X.env;standAt pos;pure v)::(backToKw pos (keywordEach kws X.env)).map (·.2))) _ _ s
 refine wpAny_evalAll_cons (au (cA (ha pins s σ H _ I h) λu s1 ⟨x,H1,I1,r1,q1⟩=>au (mz (aM ?_))))
 exact cA (hr pos pins s1 σ H1 _ I1 q1) λus s2 ⟨xs,H2,I2,r2,q2⟩=>⟨x::xs,H2,I2,.cons r1 r2,q2⟩
variable {g:List Value->List Value->List Value}{gV:List V->List V->List V}
end
structure bp(N P:List Str)(sc:Scope):Prop where
 kind:sc.kind=.function
 co:sc.isCoroutine=false
 gen:sc.isGenerator=false
 nd:N.Nodup
 pre:N.take P.length=P
 par:∀x∈P,sc.names.lookup x=some .local\/sc.names.lookup x=some .cell
 QC:∀y∈sc.names,y.2≠.free
theorem vd{kindOf:Str->Option NameKind}{x:Str}:∀{binds:List (Str×Value)} {m:Str->Option Value},(∀v,(x,v)∉binds)->bindL kindOf binds m x=m x
 | [],_,_=>rfl
 | (n,v)::r,m,h=>by
  unfold bindL
  rw[vd λw hw=>h w (dY _ hw)]
  split
  ·have:x≠n:=by rintro rfl;exact h v dE
   simp[this]
  ·rfl
theorem vg{kindOf:Str->Option NameKind}{x:Str}:∀{binds:List (Str×Value)} {m:Str->Option Value},(∀v,(x,v)∉binds)->bindC kindOf binds m x=m x
 | [],_,_=>rfl
 | (n,v)::r,m,h=>by
  unfold bindC
  rw[vg λw hw=>h w (dY _ hw)]
  split
  ·rfl
  ·have:x≠n:=by rintro rfl;exact h v dE
   simp[this]
theorem vf{kindOf:Str->Option NameKind}{x:Str}{v:Value}:∀{P:List Str} {vs:List Value} {i:Nat} {m:Str->Option Value},P.Nodup->P[i]?=some x->vs[i]?=some v->kindOf x=some .local->
  bindL kindOf (P.zip vs) m x=some v
 | [],_,_,_,_,h,_,_=>by simp at h
 | _::_,[],_,_,_,_,h,_=>by simp at h
 | p::P,w::vs,0,m,nd,h1,h2,hk=>by
  simp at h1 h2;subst h1;subst h2
  show bindL kindOf ((p,w)::P.zip vs) m p=_
  unfold bindL
  rw[vd λv hv=>(jU.mp nd).1 (List.of_mem_zip hv).1,aI hk]
  simp
 | p::P,w::vs,i+1,m,nd,h1,h2,hk=>by
  show bindL kindOf ((p,w)::P.zip vs) m x=_
  unfold bindL
  exact vf (i:=i) (jU.mp nd).2 (by simpa using h1) (by simpa using h2) hk
theorem vh{kindOf:Str->Option NameKind}{x:Str}{v:Value}:∀{P:List Str} {vs:List Value} {i:Nat} {m:Str->Option Value},P.Nodup->P[i]?=some x->vs[i]?=some v->kindOf x≠some .local->
  bindC kindOf (P.zip vs) m x=some v
 | [],_,_,_,_,h,_,_=>by simp at h
 | _::_,[],_,_,_,_,h,_=>by simp at h
 | p::P,w::vs,0,m,nd,h1,h2,hk=>by
  simp at h1 h2;subst h1;subst h2
  show bindC kindOf ((p,w)::P.zip vs) m p=_
  unfold bindC
  rw[vg λv hv=>(jU.mp nd).1 (List.of_mem_zip hv).1,aE hk]
  simp
 | p::P,w::vs,i+1,m,nd,h1,h2,hk=>by
  show bindC kindOf ((p,w)::P.zip vs) m x=_
  unfold bindC
  exact vh (i:=i) (jU.mp nd).2 (by simpa using h1) (by simpa using h2) hk
def start(N:List Str)(vs:List V):St:=vs.map some++List.replicate (N.length-vs.length) none
def jn(CX:Ep)(P:Program)(w:World)(K:PySem.W.Frag)(mg:Str->Option Value)(base:Heap)(N:List Str)(qual:Str)(scope:Scope)(f:Addr)(cd:Value)(A:Around)(outer:List Env)(s:Shared)(H:Hp)(E:XK):Cx where
 prog:=P
 w:=w
 K:=K
 mg:=mg
 base:=base
 A:=A.deeper (envOfC qual scope s.heap.objs.size f cd)
 N:=N
 s₀:=s
 H₀:=H
 env:=envOfC qual scope s.heap.objs.size f cd
 outer:=outer
 stack:=envOfC qual scope s.heap.objs.size f cd::outer
 ex:=[]
 calm:=true
 fn:=λ_=>true
 pn:=[]
 xe:=λe s'=>wpAny (model P w) (A.deeper (envOfC qual scope s.heap.objs.size f cd)) (leaving (envOfC qual scope s.heap.objs.size f cd) e) (λ_ Lz=>CX outer H s E e Lz) (λe' Lz=>CX outer H s E e' Lz) s'
theorem yI{sc:Scope}{n:Nat}{x:Str}(h:sc.names.lookup x=some .cell):∃c,(cellsFrom n sc.names []).lookup x=some c:=by
 have q:=PySem.W.cellsFrom_some sc.names n [] (.inl h)
 exact Option.isSome_iff_exists.mp q
theorem Gd{CX:Ep}{P:Program}{w:World}{K:PySem.W.Frag}{mg:Str->Option Value}{base:Heap}{N ps:List Str}{qual:Str}{scope:Scope}{f:Addr}{cd:Value}{A:Around}{outer:List Env}{s s1:Shared}{H:Hp}{E:XK}{us:List Value}{vs:List V}
  (S:bp N ps scope) (hd:A.handled=none) (e0:uj P w K mg base A outer s H) (hl:vs.length=ps.length) (r:Vals vs us)
  (x:InCallC s s.heap.objs.size (bindL (envOfC qual scope s.heap.objs.size f cd).kindOf (ps.zip us) λ_=>none) (cellsFrom (s.heap.objs.size+1) scope.names []) (bindC (envOfC qual scope s.heap.objs.size f cd).kindOf (ps.zip us) λ_=>none) s1) :
  Inv (jn CX P w K mg base N qual scope f cd A outer s H E) [] (start N vs) H s1:=by
 have qG:ps.length<=N.length:=by have:=gT List.length S.pre;rw[je]at this;lia
 obtain⟨h1,tk,rfl,hk⟩:=x.done
 have Ux:∀b:Addr,b∉(jn CX P w K mg base N qual scope f cd A outer s H E).ex:=λb z=>absurd (show b∈([]:List Addr) from z) (by simp)
 refine⟨⟨e0.mod,S.kind,rfl,rfl,bB _,λy z c h1 h2=>?_,λy hy=>?_,λy c _ h=>?_,λ_=>hd,Around.frames_deeper e0.frames,.inr ⟨rfl,rfl⟩,λb z=>absurd z (Ux b),e0.bs,e0.Gx,λb _ _=>Ux b,λb z=>absurd z (Ux b),e0.lD,e0.Ka⟩,
  rfl,e0.bare,Un.kept hk,⟨_,x.toInCall.ns,λi y v h1 h2 h3=>?_⟩,λy c h=>⟨_,x.cell y c h⟩,e0.bT.fresh (bB _),λy c h=>?_,λp hp=>absurd (show p∈([]:List (Addr×Obj)) from hp) (by simp),e0.bT.kept hk,?_⟩
 ·exact name_of_addr x.apart (lI h1) (lI h2)
 ·have hy:scope.names.lookup y=some .cell\/scope.names.lookup y=some .free:=hy
  rcases hy with hy | hy
  ·exact yI hy
  ·exact absurd rfl (S.QC _ (lI hy))
 ·exact pd (x.above y c (lI h))
 ·have hi:i<vs.length:=by
   unfold start at h2
   by_cases hi:i<vs.length
   ·exact hi
   ·rw[wR (by simpa using hi)]at h2
    rw[List.getElem?_replicate]at h2
    split at h2 <;> cases h2
  have ha:vs[i]?=some v:=by
   unfold start at h2
   rw[CJ (by simpa using hi),cW]at h2
   cases e:vs[i]? with
   | none=>rw[e]at h2;cases h2
   | some a=>rw[e]at h2;cases h2;rfl
  obtain⟨u,hu,rv⟩:=r.get ha
  have hp:ps[i]?=some y:=by
   rw[<-S.pre,List.getElem?_take_of_lt (by lia)];exact h1
  have ndP:ps.Nodup:=by rw[<-S.pre];exact S.nd.sublist (List.take_sublist _ _)
  refine⟨u,rv,?_⟩
  rcases S.par y (iC hp) with k | k
  ·exact .inl ⟨k,vf ndP hp hu k⟩
  ·obtain⟨c,e⟩:=yI (n:=s.heap.objs.size+1) k
   refine .inr ⟨.inl k,c,e,?_⟩
   have q:=x.cell y c e
   rw[vh ndP hp hu (by show scope.names.lookup y≠_;rw[k];decide)]at q
   exact q
 ·exact e0.bT.fresh (pd (x.above y c (lI h)))
 ·unfold start
  show _=N.length
  rw[eN,aY,wN]
  lia
theorem Oy{CX:Ep}{P:Program}{w:World}{K:PySem.W.Frag}{mg:Str->Option Value}{base:Heap}{k:Nat}{f:Addr}{name qual:Str}{params:Arguments}{body:List Stmt}{scope:Scope}{dV kV doc pm dB ct oc:Value}{an od:Option Addr}
  {Fv:Array (Option Value)} {N ps:List Str} {sp:Sp} (lk:K.lookup f=some ⟨oc,od,.func (PySem.W.fnOf name qual params body scope dV kV doc pm an dB ct),Fv⟩) (Bv:PySem.W.codeIn K dB qual=true) (S:bp N ps scope)
  (len:∀vs H Q E,sp vs H Q E->vs.length=ps.length)
  (ko:∀(A:Around) (outer:List Env) (s:Shared) (H:Hp) (vs:List V) (Q:VK) (E:XK),cS k (A.deeper (envOfC qual scope s.heap.objs.size f dB))->sp vs H Q E->
   ∃t,tP (jn CX P w K mg base N qual scope f dB A outer s H E) body t/\t { nx:=λ_ H'=>Q .non H',rt:=Q } (start N vs) H) :
  cz P w K mg base CX (k+1) f (PySem.W.fnOf name qual params body scope dV kV doc pm an dB ct) ps sp:=by
 refine⟨len,λA outer s H args us vs Q E hr e0 hb r KS=>?_⟩
 have hl:=len _ _ _ _ KS
 have KX:K.In s.heap:=e0.mod.U5.keeps λb o e=>(e0.bs b o e).1
 have lim:s.heap.NoLimit:=e0.mod.nolimit.keeps λb o e=>(e0.bs b o e).1
 have Vk:∀y∈ps.zip us,scope.names.lookup y.1=some .local\/(scope.names.lookup y.1=some .cell/\((cellsFrom (s.heap.objs.size+1) scope.names []).lookup y.1).isSome=true):=λ⟨n,v⟩ hy=>by
  rcases S.par n (List.of_mem_zip hy).1 with q | q
  ·exact .inl q
  ·exact .inr ⟨q,PySem.W.cellsFrom_some _ _ _ (.inl q)⟩
 refine codeAny_call_function hr.depth (KX _ _ lk) rfl S.co S.gen rfl (PySem.W.codeRec_of KX Bv) (hb _ _ _ _ ?_)
 refine wpAny_newFunctionEnv_cells S.kind Vk λenv he s1 x=>?_
 subst he
 refine⟨lim.keeps x.toInCall.keep,codeAny_func ?_⟩
 obtain⟨t,ht,hq⟩:=ko A outer s H vs Q E (hr.deeper _) KS
 have I:Inv (jn CX P w K mg base N qual scope f dB A outer s H E) [] (start N vs) H s1:=Gd S hr.hd e0 hl r x
 refine cP (ht [] s1 (start N vs) H _ I hq) (λfl s' hs=>?_) λe s' hs=>hs
 have fin:∀{σ':St} {H':Hp} {v:V} {u:Value},Inv (jn CX P w K mg base N qual scope f dB A outer s H E) [] σ' H' s'->RelV v u->Q v H'->CE outer P w H s Q u s':=
  λ{σ' H' v u} J rv q=>⟨v,H',J.os,J.bare,J.base,J.bT,rv,q⟩
 cases fl with
 | ret u=>
  obtain⟨v,σ',H',J,rv,q⟩:=hs
  exact fin J rv q
 | next=>
  obtain⟨σ',H',J,q⟩:=hs
  exact fin (v:=V.non) (u:=Value.none) J rfl q
 | brk=>
  obtain⟨_,_,_,q⟩:=hs
  exact False.elim q
 | cont=>
  obtain⟨_,_,_,q⟩:=hs
  exact False.elim q
end L2
namespace L2
open PySem PySem.Spec PyProof.Rows
section
variable {X:Cx}{x:Str}{p pos:Pos}{e:Expr}{es:List Expr}{t:TA}{id T:String}{r:List V->Hp->VK->Prop}
def Sz(r:List V->Hp->VK->Prop)(t:TA):TE:=λσ H Q=>t σ H λvs H1=>r vs H1 Q
theorem j7(hc:cC X (.builtin id) r)(hg:Gl X x)(hm:X.mg x=none)(hv:bootBuiltins x=some (.builtin id))(ha:PA X (e::es) t)(hn:x≠"__name__":=by decide)(mQ:(x==("__debug__" : Str))=false:=by decide)
  (he:starEach (e::es) X.env=(false,eval e X.env)::starEach es X.env:=by rfl) (qG:(backTo pos (starEach es X.env)).any (·.1)=false:=by rfl):PE X (.Call (.Name x p) (e::es) [] pos) (Sz r t):=by
 intro pins s σ H Q I h
 refine pA (mK I hg hm hv ?_ hn mQ)
 exact Hl (cA (ha pos pins s σ H _ I h) λus s1 ⟨vs,H1,I1,r1,q1⟩=>hc pins s1 σ H1 vs us Q I1 r1 q1) he qG
theorem jj(hc:cC X (.type T) r)(hg:Gl X x)(hm:X.mg x=none)(hv:bootBuiltins x=some (.type T))(ha:PA X (e::es) t)(hn:x≠"__name__":=by decide)(mQ:(x==("__debug__" : Str))=false:=by decide)
  (he:starEach (e::es) X.env=(false,eval e X.env)::starEach es X.env:=by rfl) (qG:(backTo pos (starEach es X.env)).any (·.1)=false:=by rfl):PE X (.Call (.Name x p) (e::es) [] pos) (Sz r t):=by
 intro pins s σ H Q I h
 refine pA (mK I hg hm hv ?_ hn mQ)
 exact zK (cA (ha pos pins s σ H _ I h) λus s1 ⟨vs,H1,I1,r1,q1⟩=>hc pins s1 σ H1 vs us Q I1 r1 q1) he qG
end
end L2
namespace HT
open PySem PyProof.Rows
section
open PySem.SeqAt
open PySem.AutoSeq1 (wpAny_loadPart')
open PySem.MeetsSeq PySem.MeetsSeq2 PySem.MeetsSeq3
end
section
variable {prog:Program}{w:World}{A:Around}{E:Value->Shared->Prop}{s:Shared}
def cH(n d:Nat):Option Int->Nat
 | none=>d
 | some v=>if v<0 then (v+(n:Int)).toNat else min v.toNat n
theorem Ir(n d:Nat)(hd:d<=n)(o:Option Int):cH n d o<=n:=by
 cases o with
 | none=>exact hd
 | some v=>
  show(if v<0 then (v+(n:Int)).toNat else min v.toNat n)<=n
  by_cases hv:v<0
  ·rw[aI hv];lia
  ·rw[aE hv];exact Nat.min_le_right _ _
theorem Eh(v:Int)(n d:Nat):(if v<0 then max (v+(n:Int)) 0 else min v (n:Int))=((cH n d (some v):Nat):Int):=by
 show(if v<0 then max (v+(n:Int)) 0 else min v (n:Int))=(((if v<0 then (v+(n:Int)).toNat else min v.toNat n):Nat):Int)
 by_cases hv:v<0
 ·simp only[aI hv];lia
 ·simp only[aE hv];lia
theorem Cm(lo hi:Option Int)(n:Nat):Builtin.Slice.sliceAdjust lo hi 1 (n:Int)=(((cH n 0 lo:Nat):Int),((cH n n hi:Nat):Int)):=by
 have h1:¬((1:Int)<0):=by lia
 unfold Builtin.Slice.sliceAdjust
 simp only[h1,iP]
 refine Prod.ext ?_ ?_
 ·cases lo with
  | none=>rfl
  | some v=>exact Eh v n 0
 ·cases hi with
  | none=>rfl
  | some v=>exact Eh v n n
theorem Ag(i j:Nat):Builtin.Slice.slicePlaces (i:Int) (j:Int) 1=j-i:=by
 unfold Builtin.Slice.slicePlaces
 have h1:(1:Int) > 0:=by lia
 simp only[h1,mw,Int.ediv_one]
 split <;> lia
theorem si{v:Value}{o:Option Int}{Q:Option Int->Shared->Prop}(p:IsPart v o)(h:Q o s):wpAny (model prog w) A (Builtin.Slice.slicePartIndex v) Q E s:=by
 cases p with
 | none=>exact slicePart_none h
 | int i t=>exact slicePart_int h
theorem ou{sl:Addr}{vl vu:Value}{lo hi:Option Int}{n:Nat}{Q:Int×Int×Nat->Shared->Prop}(hs:s.heap.IsSliceOf sl vl vu .none)(pl:IsPart vl lo)(pu:IsPart vu hi)
  (h:Q (((cH n 0 lo:Nat):Int),1,cH n n hi-cH n 0 lo) s):wpAny (model prog w) A (Builtin.Slice.sliceApplied (.ref sl) (pure (n:Int))) Q E s:=by
 obtain⟨os,Vh,Vr,Xx⟩:=id hs
 unfold Builtin.Slice.sliceApplied Builtin.Slice.sliceFields
 refine au (au (jX Vh Xx (x:=vl) rfl (au (jX Vh Xx (x:=vu) rfl (au (jX Vh Xx (x:=.none) rfl (aM ?_)))))))
 refine au (slicePart_none ?_)
 show wpAny _ _ (if ((1:Int)==0)=true then _ else _) _ _ s
 rw[aE (by decide)]
 refine au (si pl (au (si pu (au (aM ?_)))))
 show wpAny _ _ (match Builtin.Slice.sliceAdjust lo hi 1 (n:Int) with | (lo,hi)=>pure (lo,(1:Int),Builtin.Slice.slicePlaces lo hi 1)) _ _ s
 rw[Cm lo hi n]
 show wpAny _ _ (pure (((cH n 0 lo:Nat):Int),(1:Int),Builtin.Slice.slicePlaces ((cH n 0 lo:Nat):Int) ((cH n n hi:Nat):Int) 1)) _ _ s
 rw[Ag]
 exact aM h
theorem Jh(xs:Array Value)(i k:Nat):((List.range k).filterMap λ(m:Nat)=>xs[((i:Int)+(m:Int)*1).toNat]?).toArray=((xs.toList.drop i).take k).toArray:=by
 have e:(λ(m:Nat)=>xs[((i:Int)+(m:Int)*1).toNat]?)=λm=>xs[i+m]?:=by
  funext m
  have:((i:Int)+(m:Int)*1).toNat=i+m:=by lia
  rw[this]
 rw[e]
 have:=pick_run xs i k
 rw[List.filterMap_map]at this
 have e2:((λx=>xs[x]?) ∘ λx=>i+x)=λm=>xs[i+m]?:=rfl
 rw[e2]at this
 rw[this]
theorem nP{t sl:Addr}{items:Array Value}{vl vu:Value}{lo hi:Option Int}{Q:Value->Shared->Prop}(ht:IsTup s.heap t items)(hs:s.heap.IsSliceOf sl vl vu .none)(pl:IsPart vl lo)(pu:IsPart vu hi)
  (hw:¬(cH items.size 0 lo=0/\cH items.size items.size hi=items.size))
  (h:Q (.ref s.heap.objs.size) { s with heap:=s.heap.push { cls:=.type "tuple",data:=.seq ((items.toList.drop (cH items.size 0 lo)).take (cH items.size items.size hi-cH items.size 0 lo)).toArray } })
  (mP:items.size<=sizeLine):wpAny (model prog w) A (getItem (.ref t) (.ref sl)) Q E s:=by
 have DQ:sizeOk (.seq ((items.toList.drop (cH items.size 0 lo)).take (cH items.size items.size hi-cH items.size 0 lo)).toArray):=by
  show((items.toList.drop (cH items.size 0 lo)).take (cH items.size items.size hi-cH items.size 0 lo)).toArray.size<=sizeLine
  rw[cV,je,zc,dX]
  lia
 have hj:cH items.size items.size hi<=items.size:=Ir _ _ (bB _) hi
 obtain⟨os,Vh,Vr,Xx⟩:=id hs
 have hTs:s.TypeIs (.ref sl) "slice":=⟨os,Vh,Vr⟩
 unfold getItem
 try with_reducible refine dG ?_
 first | refine au (aM ?_) | skip
 refine au (wpAny_sequenceKey ht.typeIs (by decide) ?_)
 refine au (zE (name:=Str.ofString "__getitem__") ht.typeIs zM
  (qR zM ht.typeIs entry_tuple_getitem ?_ (args_tuple_getitem _ _)))
 show wpAny _ _ (Builtin.Tuple.tupleItemsOf (.ref t) >>= _) _ _ s
 refine au (tupleItemsOf_ ht ?_)
 refine au (wpAny_typeOf hTs ?_)
 rw[aI (by decide)]
 refine au (ou hs pl pu ?_)
 have hno:¬((((cH items.size 0 lo:Nat):Int)==0&&(1:Int)==1&&(cH items.size items.size hi-cH items.size 0 lo)==items.size)=true):=by
  intro q
  rw[dW,dW]at q
  have q1:((cH items.size 0 lo:Nat):Int)=0:=eq_of_beq q.1.1
  have q2:cH items.size items.size hi-cH items.size 0 lo=items.size:=eq_of_beq q.2
  exact hw ⟨by lia,by lia⟩
 show wpAny _ _ (if (((cH items.size 0 lo:Nat):Int)==0&&(1:Int)==1&&(cH items.size items.size hi-cH items.size 0 lo)==items.size)=true then _ else _) _ _ s
 rw[aE hno,Jh]
 first
  | exact au (m:=Builtin.Tuple.tupleExact _) (jJ (aM ⟨_,rfl,aM h⟩) DQ)
  | exact au (m:=Builtin.Tuple.tupleExact _) (jJ (au (aM (aM ⟨_,rfl,aM h⟩))) DQ)
  | exact au (au (m:=Builtin.Tuple.tupleExact _) (jJ (aM (aM ⟨_,rfl,aM h⟩)) DQ))
  | exact au (au (m:=Builtin.Tuple.tupleExact _) (jJ (aM ⟨_,rfl,aM h⟩) DQ))
end
end HT
namespace L2
open PySem PySem.Spec PyProof.Rows
abbrev TO:=St->Hp->(Option Int->Hp->Prop)->Prop
def PO(X:Cx)(e:Option Expr)(t:TO):Prop:=
 ∀(pins:List (Addr×Obj)) (s:Shared) (σ:St) (H:Hp) (Q:Option Int->Hp->Prop),Inv X pins σ H s->t σ H Q->
  wpAny (model X.prog X.w) X.A (evalPart e X.env) (λu s'=>∃o H',Inv X pins σ H' s'/\IsPart u o/\Q o H') X.xe s
def vR:TO:=λ_ H Q=>Q none H
def Hz(t:TE):TO:=λσ H Q=>t σ H λx H1=>∃i,x=.int i/\Q (some i) H1
section
variable {X:Cx}{e:Expr}{te:TE}{lo hi:Option Expr}{tl th:TO}{pos p2:Pos}
theorem Mp:PO X none vR:=by
 intro pins s σ H Q I h
 rw[evalPart_none]
 exact aM ⟨none,H,I,.none,h⟩
theorem Ml(h:PE X e te):PO X (some e) (Hz te):=by
 intro pins s σ H Q I hw
 rw[evalPart_some]
 refine cA (h pins s σ H _ I hw) λu s1 ⟨x,H1,I1,r1,q1⟩=>?_
 obtain⟨i,rfl,q⟩:=q1
 obtain⟨t,rfl⟩:=r1
 exact⟨some i,H1,I1,.int i t,q⟩
def K3(X:Cx)(r:V->Option Int->Option Int->Hp->VK->Prop):Prop:=
 ∀(pins:List (Addr×Obj)) (s:Shared) (σ:St) (H:Hp) (x:V) (v vl vu:Value) (lo hi:Option Int) (sl:Addr) (Q:VK),Inv X pins σ H s->RelV x v->s.heap.IsSliceOf sl vl vu .none->IsPart vl lo->IsPart vu hi->r x lo hi H Q->
  ∃T id,typeLookup (.type T) "__getitem__" = pure (some (.builtin id))/\s.TypeIs v T/\wpAny (model X.prog X.w) X.A (getItem v (.ref sl)) (EP X pins σ Q) X.xe s
def Yq(r:V->Option Int->Option Int->Hp->VK->Prop)(te:TE)(tl th:TO):TE:=λσ H Q=>te σ H λx H1=>tl σ H1 λl H2=>th σ H2 λu H3=>r x l u H3 Q
theorem Jl{r:V->Option Int->Option Int->Hp->VK->Prop}(hr:K3 X r)(he:PE X e te)(hl:PO X lo tl)(hu:PO X hi th):PE X (.Subscript e (.Slice lo hi none p2) pos) (Yq r te tl th):=by
 intro pins s σ H Q I h
 refine Subscript_ (cA (he pins s σ H _ I h) λv s1 ⟨x,H1,I1,r1,q1⟩=>?_)
 refine wpAny_Slice (cA (hl pins s1 σ H1 _ I1 q1) λvl s2 ⟨l,H2,I2,pl,q2⟩=>cA (hu pins s2 σ H2 _ I2 q2) λvu s3 ⟨u,H3,I3,pu,q3⟩=>?_)
 rw[evalPart_none]
 refine aM ?_
 have I4:Inv X pins σ H3 { s3 with heap:=s3.heap.push { cls:=.type "slice",data:=.fields #[vl,vu,.none] } }:=I3.kept (t':=s3.toks) λb ob q=>cq _ q
 obtain⟨T,id,hT,ht,hg⟩:=hr pins { s3 with heap:=s3.heap.push { cls:=.type "slice",data:=.fields #[vl,vu,.none] } } σ H3 x v vl vu l u s3.heap.objs.size Q I4 r1 (Heap.IsSliceOf.new ..) pl pu q3
 show wpAny (model X.prog X.w) X.A (subscriptTail e (.Slice lo hi none p2) v (.ref s3.heap.objs.size)) (EP X pins σ Q) X.xe { s3 with heap:=s3.heap.push { cls:=.type "slice",data:=.fields #[vl,vu,.none] } }
 exact tail_any (ops:=[.ref s3.heap.objs.size,v]) ht hT hg (by with_unfolding_all rfl)
def iX(xs:List V)(lo hi:Option Int):List V:=(xs.drop (HT.cH xs.length 0 lo)).take (HT.cH xs.length xs.length hi-HT.cH xs.length 0 lo)
theorem pT(xs:List V)(lo hi:Option Int):(iX xs lo hi).length<=xs.length:=by
 unfold iX
 rw[je,zc]
 lia
def Y7(K:PySem.W.Frag):V->Option Int->Option Int->Hp->VK->Prop:=λx lo hi H Q=>∃a xs,x=.ref a/\pX K H a xs/\
 ¬(HT.cH xs.length 0 lo=0/\HT.cH xs.length xs.length hi=xs.length)/\∀p,H p=none->Q (.ref p) (upd H p (.tup (iX xs lo hi)))
theorem PB:K3 X (Y7 X.K):=by
 intro pins s σ H x v vl vu lo hi sl Q I rx hs pl pu h
 obtain⟨a,xs,rfl,hx,hw,q⟩:=h
 cases rx
 obtain⟨its,r,ht,hz⟩:=I.tuple hx
 have hlen:its.toArray.size=xs.length:=by rw[cV];exact r.length.symm
 refine⟨"tuple",_,zM.lookup,ht.typeIs,?_⟩
 refine HT.nP ht hs pl pu (by rw[hlen];exact hw) ?_ (by rw[hlen];exact hz)
 rw[hlen]
 refine⟨.ref s.heap.objs.size,_,I.laid (t':=s.toks) (o:=.tup (iX xs lo hi)) (λb ob q=>cq _ q) (bB _) ?_,rfl,q _ (I.bT.fresh (bB _))⟩
 exact⟨fF (pT xs lo hi) hz,_,(r.drop (HT.cH xs.length 0 lo)).take (HT.cH xs.length xs.length hi-HT.cH xs.length 0 lo),IsTup.new _ _⟩
end
end L2
namespace L2
open PySem PySem.Spec PyProof.Rows
def Bo(n:Nat)(i:Int):Option Nat:=if 0<=i then (if i<n then some i.toNat else none) else if -(n:Int)<=i then some (i+n).toNat else none
def m6{α:Type}(xs:List α)(i:Int):Option α:=(Bo xs.length i).bind λj=>xs[j]?
theorem DP{n:Nat}{i:Int}{j:Nat}(h:Bo n i=some j):seqIndex? i n=some j/\j<n/\-(n:Int)<=i/\i<n:=by
 unfold Bo at h
 by_cases h0:0<=i
 ·rw[aI h0]at h
  by_cases h1:i<n
  ·rw[aI h1]at h
   have e:i.toNat=j:=dm h
   exact⟨by rw[qY h0 h1,e],by lia,by lia,h1⟩
  ·rw[aE h1]at h;cases h
 ·rw[aE h0]at h
  by_cases h1 : -(n:Int)<=i
  ·rw[aI h1]at h
   have e:(i+n).toNat=j:=dm h
   exact⟨by rw[seqIndex_neg (by lia) h1,e],by lia,h1,by lia⟩
  ·rw[aE h1]at h;cases h
theorem qL{α:Type}{xs:List α}{i:Int}{v:α}(h:m6 xs i=some v):∃j,seqIndex? i xs.length=some j/\xs[j]?=some v/\j<xs.length/\-(xs.length:Int)<=i/\i<xs.length:=by
 unfold m6 at h
 cases e:Bo xs.length i with
 | none=>rw[e]at h;cases h
 | some j=>
  rw[e]at h
  obtain⟨h1,h2,h3,h4⟩:=DP e
  exact⟨j,h1,h,h2,h3,h4⟩
theorem eK{α:Type}{xs:List α}{j:Nat}{v:α}(h:xs[j]?=some v):m6 xs (j:Int)=some v:=by
 have hj:j<xs.length:=(eQ.mp h).1
 have e:Bo xs.length (j:Int)=some j:=by
  unfold Bo
  rw[aI (by lia),aI (by lia)];simp
 unfold m6;rw[e];exact h
def Eo(b:Expr):Prop:=∀o i,subscripted b false o i=operate [o,i] (getItem o i)
def KD(X:Cx)(r:R2):Prop:=
 ∀(value slice:Expr) (pins:List (Addr×Obj)) (s:Shared) (σ:St) (H:Hp) (x y:V) (v u:Value) (Q:VK),Inv X pins σ H s->RelV x v->RelV y u->r x y H Q->
  subscripted slice false v u=operate [v,u] (getItem v u)->wpAny (model X.prog X.w) X.A (subscriptTail value slice v u) (EP X pins σ Q) X.xe s
def Sl(X:Cx)(id:String)(r:V->List V->Hp->VK->Prop):Prop:=
 ∀(pins:List (Addr×Obj)) (s:Shared) (σ:St) (H:Hp) (x:V) (xs:List V) (v:Value) (us:List Value) (Q:VK),Inv X pins σ H s->RelV x v->Vals xs us->r x xs H Q->
  wpAny (model X.prog X.w) X.A (call (.builtin id) (v::us)) (EP X pins σ Q) X.xe s
section
variable {X:Cx}{a b:Expr}{ta tb:TE}{pos:Pos}
theorem Up{r:R2}(hr:KD X r)(ha:PE X a ta)(hb:PE X b tb)(hs:Eo b):PE X (.Subscript a b pos) (G7 r ta tb):=by
 intro pins s σ H Q I h
 exact Subscript_ (R0 ha hb I h λv u s2 x y H2 I2 rx ry q=>hr a b pins s2 σ H2 x y v u Q I2 rx ry q (hs _ _))
def Zc(K:PySem.W.Frag):R2:=λx y H Q=>∃p xs i v,x=.ref p/\y=.int i/\lG K H p xs/\m6 xs i=some v/\Q v H
def Za(K:PySem.W.Frag):R2:=λx y H Q=>∃p xs i v,x=.ref p/\y=.int i/\pX K H p xs/\m6 xs i=some v/\Q v H
def Zb:R2:=λx y H Q=>∃z i c,x=.str z/\y=.int i/\z.length<=sizeLine/\m6 z.cps.toList i=some c/\Q (.str ⟨#[c]⟩) H
theorem M8:KD X (Zc X.K):=by
 intro value slice pins s σ H x y v u Q I rx ry h hs
 obtain⟨p,xs,i,z,rfl,rfl,hq,he,q⟩:=h
 cases rx
 obtain⟨t,rfl⟩:=ry
 obtain⟨its,r,pl,hz⟩:=I.list hq
 obtain⟨j,h1,h2,h3,h4,h5⟩:=qL he
 obtain⟨w,ew,P0⟩:=r.get h2
 have hl:=r.length
 have hn:=mJ
 have fin:EP X pins σ Q w s:=⟨z,H,I,P0,q⟩
 by_cases h0:0<=i
 ·have hj:i.toNat=j:=by
   rw[qY h0 h5]at h1
   exact dm h1
  exact item_listR pl.isList h0 (by lia) (by rw[hj];simpa using ew) fin hs
 ·have hj:(i+(its.toArray.size:Int)).toNat=j:=by
   rw[seqIndex_neg (by lia) h4]at h1
   rw[cV,<-hl]
   exact dm h1
  exact subscriptTail_builtinR (x:=w) pl.isList.typeIs slot_list_getitem.lookup
   (wpAny_getItem_list_neg (Q:=λr s'=>r=w/\EP X pins σ Q r s') pl.isList (by lia) (by rw[cV] <;> lia) (by lia) (by rw[hj];simpa using ew) ⟨rfl,fin⟩) hs
theorem QV:KD X (Za X.K):=by
 intro value slice pins s σ H x y v u Q I rx ry h hs
 obtain⟨p,xs,i,z,rfl,rfl,hq,he,q⟩:=h
 cases rx
 obtain⟨t,rfl⟩:=ry
 obtain⟨its,r,pl,hz⟩:=I.tuple hq
 obtain⟨j,h1,h2,h3,h4,h5⟩:=qL he
 obtain⟨w,ew,P0⟩:=r.get h2
 have hl:=r.length
 have hn:=mJ
 have fin:EP X pins σ Q w s:=⟨z,H,I,P0,q⟩
 exact subscriptTail_builtinR (x:=w) pl.typeIs slot_tuple_getitem.lookup
  (getItem_tuple (j:=j) (Q:=λr s'=>r=w/\EP X pins σ Q r s') pl (by lia) (by lia) (by rw[cV,<-hl];exact h1) (by simpa using ew) ⟨rfl,fin⟩) hs
theorem QW:KD X Zb:=by
 intro value slice pins s σ H x y v u Q I rx ry h hs
 obtain⟨z,i,c,rfl,rfl,hz,he,q⟩:=h
 obtain⟨t,rfl⟩:=rx
 obtain⟨t',rfl⟩:=ry
 obtain⟨j,h1,h2,h3,h4,h5⟩:=qL he
 have hl:z.cps.toList.length=z.length:=by simp[Str.length]
 rw[hl]at h1 h4 h5
 have hn:=mJ
 exact tail_any (typeIs_str s z t) slot_str_getitem.lookup (getItem_str (c:=c) (by
  have e1:decide (i < -(2 ^ 63:Int))=false:=decide_eq_false (by lia)
  have e2:decide (i>=2 ^ 63)=false:=decide_eq_false (by lia)
  rw[e1,e2,Bool.or_false]) (by rw[h1];simpa using h2) ⟨.str ⟨#[c]⟩,H,I.tok _,⟨_,rfl⟩,q⟩) hs
theorem Bd(its:List Value)(n j:Nat)(u:Value):Obj.mapSeq (·.setIfInBounds j u) { cls:=.type "list",data:=.seq its.toArray n }={ cls:=.type "list",data:=.seq (its.set j u).toArray n }:=by
 simp[Obj.mapSeq]
theorem Inv.lst{pins:List (Addr×Obj)}{σ:St}{H:Hp}{s:Shared}{p:Addr}{xs:List V}(I:Inv X pins σ H s)(h:H p=some (.lst xs)) :
  ∃(its:List Value) (n:Nat),Vals xs its/\s.heap.get? p=some { cls:=.type "list",data:=.seq its.toArray n }/\xs.length<=sizeLine:=by
 obtain⟨z,its,n,r,e⟩:=I.bT p _ h
 exact⟨its,n,r,e,z⟩
theorem Inv.QJ{pins:List (Addr×Obj)}{σ:St}{H:Hp}{s:Shared}{p:Addr}{xs ys:List V}{its its':List Value}{n n':Nat}{f:Obj->Obj}(I:Inv X pins σ H s)(h:H p=some (.lst xs))
  (ho:s.heap.get? p=some { cls:=.type "list",data:=.seq its.toArray n }) (hf:f { cls:=.type "list",data:=.seq its.toArray n }={ cls:=.type "list",data:=.seq its'.toArray n' }) (r:Vals ys its') (hz:ys.length<=sizeLine) (t:Nat) :
  Inv X pins σ (upd H p (.lst ys)) { s with heap:=s.heap.update p f,toks:=t }:=by
 have e:(s.heap.update p f).get? p=some { cls:=.type "list",data:=.seq its'.toArray n' }:=by
  rw[lJ f ho (by rw[hf] <;> rfl),hf]
 refine I.write (x:=p) (e:=p) (by rw[h];trivial) (.inl rfl) (λb u hb q=>(nv _ _ (fH hb)).trans q) ⟨_,e⟩ ?_
 exact⟨hz,its',n',r,e⟩
def T6:V->V->V->Hp->(Hp->Prop)->Prop:=λo i v H Q=>∃p xs k j,o=.ref p/\i=.int k/\H p=some (.lst xs)/\Bo xs.length k=some j/\Q (upd H p (.lst (xs.set j v)))
theorem set_list:GP X T6:=by
 intro pins s σ H o i v ov iv u Q I ro ri rv h
 obtain⟨p,xs,k,j,rfl,rfl,hp,hj,q⟩:=h
 cases ro
 obtain⟨t,rfl⟩:=ri
 obtain⟨its,n,r,ho,hz⟩:=I.lst hp
 obtain⟨h1,h2,h3,h4⟩:=DP hj
 have hl:=r.length
 have hn:=mJ
 have I':Inv X pins σ (upd H p (.lst (xs.set j v))) { s with heap:=s.heap.update p (Obj.mapSeq (·.setIfInBounds j u)) }:=
  I.QJ hp ho (Bd its n j u) (r.set rv j) (by rw[List.length_set];exact hz) s.toks
 by_cases h0:0<=k
 ·have hk:k.toNat=j:=by
   rw[qY h0 h4]at h1
   exact dm h1
  exact PySem.W.ki_setAt ho h0 (by lia) (by rw[cV,<-hl];exact h4) (by rw[hk];exact⟨_,I',q⟩)
 ·have hk:(k+(its.toArray.size:Int)).toNat=j:=by
   rw[seqIndex_neg (by lia) h3]at h1
   rw[cV,<-hl]
   exact dm h1
  exact PySem.W.ki_setBack ho (by lia) (by rw[cV,<-hl];exact h3) (by lia) (by rw[hk];exact⟨_,I',q⟩)
theorem nB(lo hi:Option Int)(n:Nat):(sliceBounds lo hi none n).1=((HT.cH n 0 lo:Nat):Int)/\(sliceBounds lo hi none n).2.1=((HT.cH n n hi:Nat):Int)/\(sliceBounds lo hi none n).2.2=1:=by
 refine⟨?_,?_,rfl⟩
 ·cases lo with
  | none=>simp[sliceBounds,HT.cH]
  | some i=>
   simp only[sliceBounds,HT.cH,Option.getD_none,show(1:Int) > 0 by decide,mw]
   by_cases h:i<0
   ·simp only[h,mw] <;> lia
   ·simp only[h,iP] <;> lia
 ·cases hi with
  | none=>simp[sliceBounds,HT.cH]
  | some i=>
   simp only[sliceBounds,HT.cH,Option.getD_none,show(1:Int) > 0 by decide,mw]
   by_cases h:i<0
   ·simp only[h,mw] <;> lia
   ·simp only[h,iP] <;> lia
theorem tS(its:List Value)(lo hi:Option Int):slicePick its.toArray lo hi none=((its.drop (HT.cH its.length 0 lo)).take (HT.cH its.length its.length hi-HT.cH its.length 0 lo)).toArray:=by
 obtain⟨h1,h2,h3⟩:=nB lo hi its.toArray.size
 unfold slicePick
 rw[h1,h2,h3]
 simp only[sliceRange_one,pick_run,cV] <;> rfl
def Y8(K:PySem.W.Frag):V->Option Int->Option Int->Hp->VK->Prop:=λx lo hi H Q=>∃a xs,x=.ref a/\lG K H a xs/\∀p,H p=none->Q (.ref p) (upd H p (.lst (iX xs lo hi)))
theorem Dc:K3 X (Y8 X.K):=by
 intro pins s σ H x v vl vu lo hi sl Q I rx hs pl pu h
 obtain⟨a,xs,rfl,hx,q⟩:=h
 cases rx
 obtain⟨its,r,ht,hz⟩:=I.list hx
 have hlen:=r.length
 refine⟨"list",_,slot_list_getitem.lookup,ht.isList.typeIs,?_⟩
 refine wpAny_getItem_list_slice ht.isList hs pl pu .none (by simp) ?_ (by rw[cV] <;> lia)
 rw[tS,<-hlen]
 refine⟨.ref s.heap.objs.size,_,I.laid (t':=s.toks) (o:=.lst (iX xs lo hi)) (λb ob q=>cq _ q) (bB _) ?_,rfl,q _ (I.bT.fresh (bB _))⟩
 exact⟨fF (pT xs lo hi) hz,_,0,(r.drop (HT.cH xs.length 0 lo)).take (HT.cH xs.length xs.length hi-HT.cH xs.length 0 lo),dj _ rfl⟩
def fC:V->Bool
 | .non=>true
 | .bl _=>true
 | .int _=>true
 | .str _=>true
 | _=>false
def Ea:V->V->Bool
 | .non,.non=>true
 | .bl a,.bl b=>a==b
 | .bl a,.int b=>(if a then 1 else 0)==b
 | .int a,.bl b=>a==(if b then 1 else 0)
 | .int a,.int b=>a==b
 | .str a,.str b=>a==b
 | _,_=>false
theorem BM{A:Around}{s:Shared}{y x:V}{u v:Value}(ry:RelV y u)(rx:RelV x v)(fy:fC y=true)(fx:fC x=true):SeqAt.EqAt A s u v (Ea y x):=by
 cases y with
 | non=>
  cases ry
  cases x with
  | non=>cases rx;exact SeqAt.EqAt.same _
  | bl b=>cases rx;exact SeqAt.EqAt.none_bool b
  | int b=>obtain⟨t,rfl⟩:=rx;exact SeqAt.EqAt.none_int b t
  | str b=>obtain⟨t,rfl⟩:=rx;exact SeqAt.EqAt.none_str b t
  | _=>exact absurd (show false=true from fx) cR
 | bl a=>
  cases ry
  cases x with
  | non=>cases rx;exact SeqAt.EqAt.bool_none a
  | bl b=>cases rx;exact SeqAt.EqAt.bool_bool a b
  | int b=>obtain⟨t,rfl⟩:=rx;exact SeqAt.EqAt.bool_int a b t
  | str b=>obtain⟨t,rfl⟩:=rx;exact SeqAt.EqAt.bool_str a b t
  | _=>exact absurd (show false=true from fx) cR
 | int a=>
  obtain⟨t',rfl⟩:=ry
  cases x with
  | non=>cases rx;exact SeqAt.EqAt.int_none a t'
  | bl b=>cases rx;exact SeqAt.EqAt.int_bool a t' b
  | int b=>obtain⟨t,rfl⟩:=rx;exact SeqAt.EqAt.int_int a t' b t
  | str b=>obtain⟨t,rfl⟩:=rx;exact SeqAt.EqAt.int_str a t' b t
  | _=>exact absurd (show false=true from fx) cR
 | str a=>
  obtain⟨t',rfl⟩:=ry
  cases x with
  | non=>cases rx;exact SeqAt.EqAt.str_none a t'
  | bl b=>cases rx;exact SeqAt.EqAt.str_bool a t' b
  | int b=>obtain⟨t,rfl⟩:=rx;exact SeqAt.EqAt.str_int a t' b t
  | str b=>obtain⟨t,rfl⟩:=rx;exact SeqAt.EqAt.str_str a t' b t
  | _=>exact absurd (show false=true from fx) cR
 | _=>exact absurd (show false=true from fy) cR
def BL(x:V)(u:Value):Bool:=match u with
 | .none=>Ea .non x
 | .bool b=>Ea (.bl b) x
 | .int i _=>Ea (.int i) x
 | .str z _=>Ea (.str z) x
 | _=>false
theorem Kg{x y:V}{u:Value}(r:RelV y u)(f:fC y=true):BL x u=Ea y x:=by
 cases y with
 | non=>cases r;rfl
 | bl b=>cases r;rfl
 | int i=>obtain⟨t,rfl⟩:=r;rfl
 | str z=>obtain⟨t,rfl⟩:=r;rfl
 | _=>exact absurd (show false=true from f) cR
theorem nV{x:V}:∀{xs:List V} {us:List Value},Vals xs us->xs.all fC=true->us.any (BL x)=xs.any λy=>Ea y x
 | _,_,.nil,_=>rfl
 | y::xs,u::us,.cons r t,f=>by
  rw[om,dW]at f
  rw[vv,vv,Kg r f.1,nV t f.2]
theorem kc{A:Around}{s:Shared}{x:V}{v:Value}(rx:RelV x v)(fx:fC x=true):∀{xs:List V} {us:List Value},Vals xs us->xs.all fC=true->∀u∈us,SeqAt.EqAt A s u v (BL x u)
 | _,_,.nil,_=>λu hu=>by cases hu
 | y::xs,u::us,.cons r t,f=>λu' hu=>by
  rw[om,dW]at f
  rcases dh.mp hu with rfl | hu
  ·rw[Kg r f.1];exact BM r rx f.1 fx
  ·exact kc rx fx t f.2 u' hu
def JP(x:V)(xs:List V):Bool:=xs.any λy=>Ea y x
def rIn(K:PySem.W.Frag)(neg:Bool):R2:=λx y H Q=>∃p xs,y=.ref p/\(lG K H p xs\/pX K H p xs)/\fC x=true/\xs.all fC=true/\Q (.bl (if neg then !JP x xs else JP x xs)) H
theorem Fx:jb X (compareOp .In) (rIn X.K false):=by
 intro pins s σ H x y v u Q I rx ry h
 obtain⟨p,xs,rfl,hq,fx,fs,q⟩:=h
 cases ry
 rcases hq with hq | hq
 ·obtain⟨its,r,pl,hz⟩:=I.list hq
  refine SeqAt.in_listAt (BL x) pl.isList (λw hw=>kc rx fx r fs w (by simpa using hw)) ⟨.bl _,H,I,rfl,?_⟩
  rw[show its.toArray.any (BL x)=its.any (BL x) by simp,nV r fs]
  exact q
 ·obtain⟨its,r,pl,hz⟩:=I.tuple hq
  refine SeqAt.in_tupleAt (BL x) pl (λw hw=>kc rx fx r fs w (by simpa using hw)) ⟨.bl _,H,I,rfl,?_⟩
  rw[show its.toArray.any (BL x)=its.any (BL x) by simp,nV r fs]
  exact q
theorem wa:jb X (compareOp .NotIn) (rIn X.K true):=by
 intro pins s σ H x y v u Q I rx ry h
 obtain⟨p,xs,rfl,hq,fx,fs,q⟩:=h
 cases ry
 rcases hq with hq | hq
 ·obtain⟨its,r,pl,hz⟩:=I.list hq
  refine SeqAt.notIn_listAt (BL x) pl.isList (λw hw=>kc rx fx r fs w (by simpa using hw)) ⟨.bl _,H,I,rfl,?_⟩
  rw[show its.toArray.any (BL x)=its.any (BL x) by simp,nV r fs]
  exact q
 ·obtain⟨its,r,pl,hz⟩:=I.tuple hq
  refine SeqAt.notIn_tupleAt (BL x) pl (λw hw=>kc rx fx r fs w (by simpa using hw)) ⟨.bl _,H,I,rfl,?_⟩
  rw[show its.toArray.any (BL x)=its.any (BL x) by simp,nV r fs]
  exact q
theorem nQ:cC X (.builtin "len") (λxs H Q=>∃p ys,xs=[.ref p]/\(lG X.K H p ys\/pX X.K H p ys)/\Q (.int ys.length) H):=by
 intro pins s σ H xs us Q I r h
 obtain⟨p,ys,rfl,hq,q⟩:=h
 obtain⟨u,rfl,rx⟩:=vals1 r
 cases rx
 have hn:=mJ
 rcases hq with hq | hq
 ·obtain⟨its,r',pl,hz⟩:=I.list hq
  have hlen:=r'.length
  exact Calls.call_len_list pl.isList (by simp only[cV] <;> lia) ⟨.int ys.length,H,I.tok _,⟨s.toks+1,by rw[cV,hlen]⟩,q⟩
 ·obtain⟨its,r',pl,hz⟩:=I.tuple hq
  have hlen:=r'.length
  exact len_tuple pl (by simp only[cV] <;> lia) ⟨.int ys.length,H,I.tok _,⟨s.toks+1,by rw[cV,hlen]⟩,q⟩
theorem wC:cC X (.builtin "len") (λxs H Q=>∃z,xs=[.str z]/\z.length<=sizeLine/\Q (.int z.length) H):=by
 intro pins s σ H xs us Q I r h
 obtain⟨z,rfl,hz,q⟩:=h
 obtain⟨u,rfl,t,rfl⟩:=vals1 r
 have hn:=mJ
 exact len_str (by lia) ⟨.int z.length,H,I.tok _,⟨_,rfl⟩,q⟩
theorem wB:cC X (.type "list") (λxs H Q=>∃p ys,xs=[.ref p]/\(lG X.K H p ys\/pX X.K H p ys)/\∀l,H l=none->Q (.ref l) (upd H l (.lst ys))):=by
 intro pins s σ H xs us Q I r h
 obtain⟨p,ys,rfl,hq,q⟩:=h
 obtain⟨u,rfl,rx⟩:=vals1 r
 cases rx
 have fin:∀(its:List Value),Vals ys its->ys.length<=sizeLine->∀(h':Heap) (c':Nat),(∀b o',s.heap.get? b=some o'->h'.get? b=some o')->
   h'.get? s.heap.objs.size=some { cls:=.type "list",dict:=none,data:=.seq its.toArray c',slots:=#[] }->EP X pins σ Q (.ref s.heap.objs.size) { s with heap:=h' }:=λits r' hz h' c' kp e=>
  ⟨.ref s.heap.objs.size,_,I.laid (t':=s.toks) kp (bB _) (show cO X.prog X.w _ h' _ (.lst ys) from ⟨hz,its,c',r',e⟩),rfl,q _ (I.bT.fresh (bB _))⟩
 rcases hq with hq | hq
 ·obtain⟨its,r',pl,hz⟩:=I.list hq
  have hlen:=r'.length
  obtain⟨o,ho,hc,n,hd⟩:=pl.isList
  exact call_list_seq p (.inl rfl) ho hc hd (λh' c' kp e=>fin its r' hz h' c' kp e) (by simp only[cV] <;> lia)
 ·obtain⟨its,r',pl,hz⟩:=I.tuple hq
  have hlen:=r'.length
  obtain⟨o,ho,hc,n,hd⟩:=pl
  exact call_list_seq p (.inr rfl) ho hc hd (λh' c' kp e=>fin its r' hz h' c' kp e) (by simp only[cV] <;> lia)
theorem t9:cC X (.type "tuple") (λxs H Q=>∃p ys,xs=[.ref p]/\((lG X.K H p ys/\∀l,H l=none->Q (.ref l) (upd H l (.tup ys)))\/(pX X.K H p ys/\Q (.ref p) H))):=by
 intro pins s σ H xs us Q I r h
 obtain⟨p,ys,rfl,h⟩:=h
 obtain⟨u,rfl,rx⟩:=vals1 r
 cases rx
 rcases h with ⟨hq,q⟩ | ⟨hq,q⟩
 ·obtain⟨its,r',pl,hz⟩:=I.list hq
  have hlen:=r'.length
  refine call_tuple_list pl.isList (λh' kp=>?_) (by simp only[cV] <;> lia)
  have I1:Inv X pins σ H { s with heap:=h' }:=I.kept (t':=s.toks) kp
  have I2:Inv X pins σ (upd H h'.objs.size (.tup ys)) { s with heap:=h'.push { cls:=.type "tuple",data:=.seq its.toArray } }:=
   I1.laid (t':=s.toks) (λb o e=>cq _ e) (bB _) (show cO X.prog X.w _ _ _ (.tup ys) from ⟨hz,its,r',IsTup.new _ _⟩)
  exact⟨.ref h'.objs.size,_,I2,rfl,q _ (I1.bT.fresh (bB _))⟩
 ·obtain⟨its,r',pl,hz⟩:=I.tuple hq
  exact call_tuple_same pl ⟨.ref p,H,I,rfl,q⟩
def W8(K:PySem.W.Frag)(T:String)(x:V)(H:Hp):Prop:=match x with
 | .str _=>T = "str"
 | .int _=>T = "int"
 | .ref p=>(T = "list"/\∃xs,lG K H p xs)\/(T = "tuple"/\∃o,K.lookup p=some o/\o.cls=.type "tuple"/\o.dict=none)\/
   (T = "dict"/\((∃cu,H p=some (.dK cu))\/∃cu,H p=some (.dT cu)))\/(T = "set"/\∃S n,H p=some (.set S n))
 | _=>False
theorem Pa{pins:List (Addr×Obj)}{σ:St}{H:Hp}{s:Shared}{T:String}{x:V}{v:Value}(I:Inv X pins σ H s)(r:RelV x v)(ty:W8 X.K T x H) :
  s.TypeIs v T/\∀a,v=.ref a->∃ob,s.heap.get? a=some ob/\ob.dict=none:=by
 cases x with
 | str z=>
  obtain⟨t,rfl⟩:=r
  cases (show T = "str" from ty)
  exact⟨typeIs_str s z t,λ_ e=>nomatch e⟩
 | int i=>
  obtain⟨t,rfl⟩:=r
  cases (show T = "int" from ty)
  exact⟨typeIs_int s i t,λ_ e=>nomatch e⟩
 | ref p=>
  cases r
  rcases ty with ⟨rfl,xs,hq⟩ | ⟨rfl,o,hk,hc,hd⟩ | ⟨rfl,hk⟩ | ⟨rfl,S,n,hk⟩
  ·obtain⟨its,_,pl,_⟩:=I.list hq
   refine⟨pl.isList.typeIs,λa e=>?_⟩
   cases e
   obtain⟨o,n,e,c,hd,_⟩:=pl
   exact⟨o,e,hd⟩
  ·refine⟨⟨o,I.jP p o hk,hc⟩,λa e=>?_⟩
   cases e
   exact⟨o,I.jP _ o hk,hd⟩
  ·have z:∃o,s.heap.get? p=some o/\o.ExactDict:=by
    rcases hk with ⟨cu,hk⟩ | ⟨cu,hk⟩
    ·obtain⟨_,_,_,_,o,_,_,e,ex,_⟩:=I.bT p _ hk
     exact⟨o,e,ex⟩
    ·obtain⟨_,_,_,_,o,_,_,e,ex,_⟩:=I.bT p _ hk
     exact⟨o,e,ex⟩
   obtain⟨o,e,ex⟩:=z
   refine⟨⟨o,e,ex.1⟩,λa e2=>?_⟩
   cases e2
   exact⟨o,e,ex.2.1⟩
  ·obtain⟨o,_,_,_,e,ex,_⟩:=I.bT p _ hk
   refine⟨⟨o,e,ex.1⟩,λa e2=>?_⟩
   cases e2
   exact⟨o,e,ex.2.1⟩
 | _=>exact False.elim ty
def Yt(K:PySem.W.Frag)(T:String)(r:V->List V->Hp->VK->Prop)(to:TE):TE:=λσ H Q=>to σ H λx H1=>W8 K T x H1/\r x [] H1 Q
def Yu(K:PySem.W.Frag)(T:String)(r:V->List V->Hp->VK->Prop)(to:TE)(t:TA):TE:=λσ H Q=>to σ H λx H1=>W8 K T x H1/\t σ H1 λxs H2=>r x xs H2 Q
variable {o e:Expr}{es:List Expr}{to:TE}{t:TA}{name:Str}{apos cy:Pos}{T id:String}{r:V->List V->Hp->VK->Prop}
theorem uO(pa:PlainAttrs T)(slot:Slot T name id)(hty:typeOf (.builtin id)=pure (.type "method_descriptor"))(hm:Sl X id r)(ho:PE X o to)(ha:PA X (e::es) t)
  (Vt:attributeBase o name X.env (eval o X.env)=eval o X.env:=by rfl)
  (aAZ:((backTo cy (starEach (e::es) X.env)).all (λx=>!x.1)&&(backToKw cy (keywordEach [] X.env)).all (λx=>x.1.isSome)
   && decide ((e::es).length+([]:List Keyword).length+(if ([]:List Keyword).isEmpty then 0 else 1)<30))=true:=by rfl)
  (hline:(apos.endLine==cy.line)=true:=by rfl) (hs:starEach (e::es) X.env=(false,eval e X.env)::starEach es X.env:=by rfl) (Bs:(backTo cy (starEach es X.env)).any (·.1)=false:=by rfl) :
  PE X (.Call (.Attribute o name apos) (e::es) [] cy) (Yu X.K T r to t):=by
 intro pins s σ H Q I h
 refine wpAny_Call_method_late Vt aAZ hline rfl (cA (ho pins s σ H _ I h) λv s1 ⟨x,H1,I1,r1,ty,q1⟩=>?_)
 obtain⟨h1,h2⟩:=Pa I1 r1 ty
 refine⟨T,id,pa,slot,hty,h1,h2,?_⟩
 have hA:=ha cy pins s1 σ H1 _ I1 q1
 rw[hs]at hA ⊢
 refine Calls.callWith_builtin (by show(false||(backTo cy (starEach es X.env)).any (·.1))=false;rw[Bs] <;> rfl) (Calls.evalArgs_plain ?_)
 exact cA hA λus s2 ⟨vs,H2,I2,r2,q2⟩=>hm pins s2 σ H2 x vs v us Q I2 r1 r2 q2
end
end L2
namespace L2
open PySem PySem.Spec PyProof.Rows
def MtM(X:Cx)(id:String)(r:V->List V->Hp->VK->Prop):Prop:=
 ∀(pins:List (Addr×Obj)) (s:Shared) (σ:St) (H:Hp) (x:V) (xs:List V) (v:Value) (us:List Value) (Q:VK),Inv X pins σ H s->RelV x v->Vals xs us->r x xs H Q->
  wpAny (model X.prog X.w) X.A (call (.builtin id) (v::us)) (EP X pins σ Q) X.xe s
theorem Vals.one:∀{x:V} {us:List Value},Vals [x] us->∃u,us=[u]/\RelV x u
 | _,_,.cons r .nil=>⟨_,rfl,r⟩
theorem Vals.two:∀{x y:V} {us:List Value},Vals [x,y] us->∃u v,us=[u,v]/\RelV x u/\RelV y v
 | _,_,_,.cons r (.cons q .nil)=>⟨_,_,rfl,r,q⟩
theorem Vals.eraseIdx:∀{xs:List V} {us:List Value} (i:Nat),Vals xs us->Vals (xs.eraseIdx i) (us.eraseIdx i)
 | _,_,_,.nil=>.nil
 | _,_,0,.cons _ t=>t
 | _,_,i+1,.cons r t=>.cons r (Vals.eraseIdx i t)
theorem Vals.rep{xs:List V}{us:List Value}(h:Vals xs us):∀k:Nat,Vals (List.replicate k xs).flatten (List.replicate k us).flatten
 | 0=>.nil
 | k+1=>by
  rw[wM,wM,uq,uq]
  exact Vals.append h (Vals.rep h k)
theorem uU{α:Type}:∀(l:List α) (i:Nat),(l.eraseIdx i).length<=l.length
 | [],_=>bB _
 | _::_,0=>gU _
 | _::r,i+1=>rC (uU r i)
theorem foldl_rep(its:List Value):∀(k:Nat) (acc:List Value),
  List.foldl (λx1 x2=>x1++x2) acc.toArray (List.replicate k its.toArray)=(acc++(List.replicate k its).flatten).toArray
 | 0,acc=>by simp
 | k+1,acc=>by
  have e:acc.toArray++its.toArray=(acc++its).toArray:=by simp
  have e2:(acc++its)++(List.replicate k its).flatten=acc++(List.replicate (k+1) its).flatten:=by
   rw[wM,uq,vD]
  rw[<-e2,<-foldl_rep its k (acc++its),<-e,wM,qQ]
section
variable {X:Cx}{pins:List (Addr×Obj)}{σ:St}{H:Hp}{s:Shared}{l b:Addr}{xs ys zs:List V}
theorem Inv.QK{its its':List Value}{n:Nat}{f:Array Value->Array Value}{t':Nat}(I:Inv X pins σ H s)(hH:H l=some (.lst xs))
  (e:s.heap.get? l=some { cls:=.type "list",data:=.seq its.toArray n }) (hf:f its.toArray=its'.toArray) (hv:Vals ys its') (hz:ys.length<=sizeLine) :
  Inv X pins σ (upd H l (.lst ys)) { s with heap:=s.heap.update l (Obj.mapSeq f),toks:=t' }:=by
 have q:=PySem.IsL.update e f
 rw[hf]at q
 refine I.write (x:=l) (e:=l) (by rw[hH];exact trivial) (.inl rfl) (λb' u hb hu=>(nv s.heap (Obj.mapSeq f) (fH hb)).trans hu) ⟨_,q⟩ ?_
 exact⟨hz,its',_,hv,q⟩
theorem Inv.UT{its:List Value}{t':Nat}(I:Inv X pins σ H s)(hv:Vals ys its)(hz:ys.length<=sizeLine) :
  Inv X pins σ (upd H s.heap.objs.size (.lst ys)) { s with heap:=s.heap.push { cls:=.type "list",data:=.seq its.toArray },toks:=t' }:=
 I.laid (λ_ _ q=>cq _ q) (bB _) ⟨hz,its,0,hv,dj _ rfl⟩
theorem Inv.fresh(I:Inv X pins σ H s):H s.heap.objs.size=none:=I.bT.fresh (bB _)
theorem Inv.Bj(I:Inv X pins σ H s)(hH:H l=some (.lst xs)):xs.length<=sizeLine/\∃(its:List Value) (n:Nat),Vals xs its/\xs.length=its.length/\s.heap.get? l=some { cls:=.type "list",data:=.seq its.toArray n }:=by
 obtain⟨z,its,n,r,e⟩:=I.bT l _ hH
 exact⟨z,its,n,r,r.length,e⟩
theorem xV{n:Nat}(h:n<=sizeLine):Builtin.List.listTooLong n=false:=by
 unfold Builtin.List.listTooLong
 exact decide_eq_false (by lia)
end
section
variable {X:Cx}
def Di:V->List V->Hp->VK->Prop:=λx vs H Q=>∃l xs y,x=.ref l/\vs=[y]/\H l=some (.lst xs)/\xs.length<sizeLine/\Q .non (upd H l (.lst (xs++[y])))
theorem gR:MtM X "list.append" Di:=by
 intro pins s σ H x vs v us Q I rx rv h
 obtain⟨l,xs,y,rfl,rfl,hH,hz,q⟩:=h
 cases rx
 obtain⟨u,rfl,ru⟩:=rv.one
 obtain⟨z,its,n,r,hl,e⟩:=I.Bj hH
 refine call_meets F.slot_list_append ⟨_,e,rfl⟩ F.entry_list_append (F.args_list_append_2 _ _) (PySem.list_append l its.toArray n u (by rw[cV];lia)) ⟨e,?_⟩
 refine⟨.non,_,I.QK (its':=its++[u]) hH e (by simp) (r.append (.cons ru .nil)) ?_,rfl,q⟩
 rw[eN,List.length_singleton]
 lia
def Dh:V->List V->Hp->VK->Prop:=λx vs H Q=>∃l b xs zs,x=.ref l/\vs=[.ref b]/\H l=some (.lst xs)/\H b=some (.lst zs)/\xs.length+zs.length<=sizeLine/\Q .non (upd H l (.lst (xs++zs)))
theorem uT:MtM X "list.extend" Dh:=by
 intro pins s σ H x vs v us Q I rx rv h
 obtain⟨l,b,xs,zs,rfl,rfl,hH,hB,hz,q⟩:=h
 cases rx
 obtain⟨u,rfl,ru⟩:=rv.one
 cases ru
 obtain⟨z,its,n,r,hl,e⟩:=I.Bj hH
 obtain⟨z2,Bp,n2,r2,Xu,e2⟩:=I.Bj hB
 have mP:its.toArray.size+Bp.toArray.size<=sizeLine:=by rw[cV,cV];lia
 have JV:¬(!its.toArray.isEmpty&&Builtin.List.listTooLong (its.toArray.size+Bp.toArray.size))=true:=by
  rw[xV mP,Bool.and_false]
  exact cR
 refine call_meets F.slot_list_extend ⟨_,e,rfl⟩ F.entry_list_extend (F.args_list_extend_2 _ _)
  (AutoSeq1.list_extend_list_list_0 l its.toArray n b Bp.toArray n2 JV (by rw[cV];lia) (by lia)) ⟨e,e2,?_⟩
 refine⟨.non,_,I.QK (its':=its++Bp) hH e (by simp) (r.append r2) ?_,rfl,q⟩
 rw[eN]
 lia
def Iv:V->List V->Hp->VK->Prop:=λx vs H Q=>∃l xs i k y,x=.ref l/\vs=[.int i]/\H l=some (.lst xs)/\-(2 ^ 63)<=i/\i<2 ^ 63/\seqIndex? i xs.length=some k/\xs[k]?=some y/\Q y (upd H l (.lst (xs.eraseIdx k)))
theorem Jy:MtM X "list.pop" Iv:=by
 intro pins s σ H x vs v us Q I rx rv h
 obtain⟨l,xs,i,k,y,rfl,rfl,hH,h1,h2,hk,hy,q⟩:=h
 cases rx
 obtain⟨u,rfl,ru⟩:=rv.one
 obtain⟨t,rfl⟩:=ru
 obtain⟨z,its,n,r,hl,e⟩:=I.Bj hH
 obtain⟨w,hw,P0⟩:=r.get hy
 refine call_meets F.slot_list_pop ⟨_,e,rfl⟩ F.entry_list_pop (F.args_list_pop_2 _ _)
  (MeetsSeq.list_pop_at l its.toArray n i t k w (fitsIndex_both h1 h2) (by rw[cV,<-hl];exact hk) (by rw[<-qW];exact hw) (by rw[cV];lia)) ⟨e,?_⟩
 refine⟨y,_,I.QK (its':=its.eraseIdx k) hH e ?_ (r.eraseIdx k) ?_,P0,q⟩
 ·show its.toArray.eraseIdxIfInBounds k=(its.eraseIdx k).toArray
  rw[List.eraseIdxIfInBounds_toArray]
 ·have:=uU xs k
  lia
def P6:R2:=λx y H Q=>∃l b xs zs,x=.ref l/\y=.ref b/\H l=some (.lst xs)/\H b=some (.lst zs)/\xs.length+zs.length<=sizeLine/\∀p,H p=none->Q (.ref p) (upd H p (.lst (xs++zs)))
theorem mF:jb X (binaryOp .Add) P6:=by
 intro pins s σ H x y v u Q I rx ry h
 obtain⟨l,b,xs,zs,rfl,rfl,hH,hB,hz,q⟩:=h
 cases rx
 cases ry
 obtain⟨z,its,n,r,hl,e⟩:=I.Bj hH
 obtain⟨z2,Bp,n2,r2,Xu,e2⟩:=I.Bj hB
 refine PySem.P.add_list e e2 ?_ (by rw[cV,cV];lia)
 have ea:its.toArray++Bp.toArray=(its++Bp).toArray:=by simp
 rw[ea]
 exact⟨.ref _,_,I.UT (t':=s.toks) (r.append r2) (by rw[eN];lia),rfl,q _ I.fresh⟩
def Y9:R2:=λx y H Q=>∃l k xs,x=.ref l/\y=.int k/\H l=some (.lst xs)/\-(2 ^ 63)<=k/\k<2 ^ 63/\xs.length*k.toNat<=sizeLine/\
 ∀p,H p=none->Q (.ref p) (upd H p (.lst (List.replicate k.toNat xs).flatten))
theorem len_rep{α:Type}(xs:List α)(k:Nat):(List.replicate k xs).flatten.length=k*xs.length:=by
 induction k with
 | zero=>simp
 | succ k ih=>rw[wM,uq,eN,ih,Nat.succ_mul,Nat.add_comm]
theorem Qz:jb X (binaryOp .Mult) Y9:=by
 intro pins s σ H x y v u Q I rx ry h
 obtain⟨l,k,xs,rfl,rfl,hH,h1,h2,hz,q⟩:=h
 cases rx
 obtain⟨t,rfl⟩:=ry
 obtain⟨z,its,n,r,hl,e⟩:=I.Bj hH
 have hlen:its.toArray.size*k.toNat<=sizeLine:=by rw[cV,<-hl];exact hz
 have aA5:¬its.toArray.size*k.toNat > (2 ^ 63-1) / 8:=by
  have:(sizeLine:Nat)<=(2 ^ 63-1) / 8:=by decide
  lia
 have aAY:¬(!Builtin.List.listFitsIndex k)=true:=by
  rw[fitsIndex_both h1 h2]
  exact cR
 have JV:¬Builtin.List.listTooLong (its.toArray.size*k.toNat)=true:=by
  rw[xV hlen]
  exact cR
 have aAT:List.foldl (λx1 x2=>x1++x2) #[] (List.replicate (if its.toArray.isEmpty=true then 0 else k.toNat) its.toArray)=(List.replicate k.toNat its).flatten.toArray:=by
  have f0:∀m:Nat,List.foldl (λx1 x2=>x1++x2) #[] (List.replicate m its.toArray)=(List.replicate m its).flatten.toArray:=λm=>by
   have:=foldl_rep its m []
   rw[List.nil_append]at this
   exact this
  rw[f0]
  cases its with
  | nil=>simp
  | cons a r'=>rw[aE (by simp)]
 refine wpAny_binaryOp_repeat_ref (T:="list") (U:="int") (by decide) ⟨_,e,rfl⟩ (λs'=>typeIs_int s' k t) noFill_list_mul F.fills_int_mul F.slot_int_rmul repeat_list F.slot_int_index.lookup
  (call_meets F.slot_int_rmul (typeIs_int s k t) F.entry_int_rmul (F.args_int_rmul_2 _ _) (int___rmul___int_list k t l its.toArray n)
   ⟨e,rfl,⟨_,e,rfl⟩,call_meets F.slot_list_mul ⟨_,e,rfl⟩ F.entry_list_mul (F.args_list_mul_2 _ _) (AutoListH.list___mul___list_int_3 l its.toArray n k t aAY aA5 JV) ⟨e,?_⟩⟩)
 rw[aAT]
 exact⟨.ref _,_,I.UT (t':=s.toks) (r.rep k.toNat) (by rw[len_rep,Nat.mul_comm];exact hz),rfl,q _ I.fresh⟩
end
section
variable {prog:Program}{w:World}{A:Around}{E:Value->Shared->Prop}{s:Shared}
end
end L2
namespace L2
open PySem PySem.Spec PyProof.Rows
section
variable {κ:Type} [DecidableEq κ]
def Tt(cu:List (κ×V))(k:κ):Option V:=(cu.find? λkv=>decide (kv.1=k)).map (·.2)
def putK(cu:List (κ×V))(k:κ)(v:V):List (κ×V):=
 if (cu.any λkv=>decide (kv.1=k))=true then cu.map (λkv=>if kv.1=k then (kv.1,v) else kv) else cu++[(k,v)]
theorem yk(cu:List (κ×V))(k:κ)(v:V):(putK cu k v).length<=cu.length+1:=by
 unfold putK
 split
 ·rw[aY];lia
 ·rw[eN,dH,rj];lia
theorem KV.any{cu:List (κ×V)}{vs:List (κ×Value)}(r:KV cu vs)(k:κ):(cu.any λkv=>decide (kv.1=k))=vs.any λkv=>decide (kv.1=k):=by
 unfold KV at r
 induction r with
 | nil=>rfl
 | cons h t ih=>rw[vv,vv,ih,h.1]
theorem KV.repl{cu:List (κ×V)}{vs:List (κ×Value)}(r:KV cu vs)(k:κ){y:V}{u:Value}(ry:RelV y u) :
  KV (cu.map λkv=>if kv.1=k then (kv.1,y) else kv) (vs.map λkv=>if kv.1=k then (kv.1,u) else kv):=by
 unfold KV at r ⊢
 induction r with
 | nil=>exact .nil
 | @cons p q ps qs h t ih=>
  rw[eB,eB]
  refine .cons ?_ ih
  obtain⟨h1,h2⟩:=h
  by_cases e:p.1=k
  ·rw[aI e,aI (h1.symm.trans e)];exact⟨h1,ry⟩
  ·rw[aE e,aE (λz=>e (h1.trans z))];exact⟨h1,h2⟩
theorem KV.put{cu:List (κ×V)}{vs:List (κ×Value)}(r:KV cu vs)(k:κ){y:V}{u:Value}(ry:RelV y u):KV (putK cu k y) (stored vs k u):=by
 unfold putK stored
 rw[r.any k]
 by_cases e:(vs.any λkv=>decide (kv.1=k))=true
 ·rw[aI e,aI e];exact r.repl k ry
 ·rw[aE e,aE e];exact Paired.snoc r ⟨rfl,ry⟩
end
theorem U6{P:Program}{w:World}{k:Key}{u:Value}(r:RelV (kV k) u):(fw P w).is k u=true:=by
 cases k with
 | inl i=>obtain⟨t,e⟩:=(show ∃t,u=Value.int i t from r);subst e;exact yd P w i t
 | inr x=>obtain⟨t,e⟩:=(show ∃t,u=Value.str x t from r);subst e;exact yc P w x t
section
variable {P:Program}{w:World}{H:Hp}{h:Heap}{a:Addr}
theorem T3{u:HO}(ok:jE P w H h)(e:Rd H a u):cO P w H h a u:=e.ok ok
theorem V6{cu:List (Key×V)}(ok:jE P w H h)(e:Rd H a (.dK cu)):cu.length<=sizeLine/\(a==sysModules)=false/\∃vs,KV cu vs/\h.DictOf (fw P w) a vs:=
 show cO P w H h a (.dK cu) from T3 ok e
theorem V7{cu:List (Key×V)}(ok:jE P w H h)(e:H a=some (.dK cu)):cu.length<=sizeLine/\(a==sysModules)=false/\∃vs,KV cu vs/\h.DictOf (fw P w) a vs:=V6 ok (.inl e)
end
def aBZ(H:Hp)(a:Addr)(y:V)(r:Option V):Prop:=
 (∃cu k,Rd H a (.dK cu)/\y=kV k/\r=Tt cu k)\/∃cu k b,Rd H a (.dT cu)/\y=.ref b/\H b=some (.tup (k.map kV))/\r=Tt cu k
section
variable {X:Cx}{pins:List (Addr×Obj)}{σ:St}{H:Hp}{s:Shared}{a:Addr}{y v:V}{u r:Value}{o:Option V}{A:Around}{E:Value->Shared->Prop}
theorem Inv.big(I:Inv X pins σ H s):sysModules<s.heap.objs.size:=by
 have h:mainGlobals<s.heap.objs.size:=(I.mod.glob.keeps I.bk).lt
 exact Nat.lt_trans (by decide) h
theorem Nz{h':Heap}{t':Nat}{ob:HO}(I:Inv X pins σ H s)(mu:W2 (H a))(hs:Heap.SameBut a s.heap h')(he:∃q,h'.get? a=some q)(new:cO X.prog X.w (upd H a ob) h' a ob) :
  Inv X pins σ (upd H a ob) { s with heap:=h',toks:=t' }:=
 I.write (x:=a) (e:=a) mu (.inl rfl) (λb q hb z=>(hs.2 b hb).trans z) he new
theorem RK{P:Program}{w:World}{H':Hp}{h':Heap}{cu:List (Key×V)}{vs:List (Key×Value)}(z:cu.length<=sizeLine)(hd:(a==sysModules)=false)(rel:KV cu vs)(dd:h'.DictOf (fw P w) a vs) :
  cO P w H' h' a (.dK cu):=⟨z,hd,vs,rel,dd⟩
end
def Lp(ty td:TE):TE:=λσ H Q=>ty σ H λy H1=>td σ H1 λx H2=>∃a o,x=.ref a/\aBZ H2 a y o/\Q (.bl (!o.isSome)) H2
theorem yC{P:Program}{w:World}{H:Hp}(h:Heap)(hb:sysModules<h.objs.size):cO P w H (h.push { cls:=.type "dict",data:=.dict #[] }) h.objs.size (.dK []):=
 ⟨dg _,zB.mpr (fH (bJ hb)),[],.nil,Heap.DictOf.new h⟩
def vS:TE:=λ_ H Q=>∀p,H p=none->Q (.ref p) (upd H p (.dK []))
section
variable {X:Cx}{pos:Pos}
theorem Jo:PE X (.Dict [] [] pos) vS:=λpins s σ H Q I h=>
 wpAny_Dict_empty ⟨.ref s.heap.objs.size,_,I.laid (a:=s.heap.objs.size) (o:=.dK []) (t':=s.toks) (λ_ _ q=>cq _ q) (bB _) (yC s.heap I.big),rfl,h _ (I.bT.fresh (bB _))⟩
end
def zX:List (TE×TE)->St->Hp->(List (V×V)->Hp->Prop)->Prop
 | [],_,H,Q=>Q [] H
 | (tk,tv)::r,σ,H,Q=>tk σ H λx H1=>tv σ H1 λy H2=>zX r σ H2 λps H3=>Q ((x,y)::ps) H3
abbrev VV:List (V×V)->List (Value×Value)->Prop:=Paired λp q=>RelV p.1 q.1/\RelV p.2 q.2
def Yi(X:Cx)(pos:Pos)(keys:List (Option Expr))(values:List Expr)(Lf:List (TE×TE)):Prop:=
 ∀(pins:List (Addr×Obj)) (s:Shared) (σ:St) (H:Hp) (Q:List (V×V)->Hp->Prop),Inv X pins σ H s->zX Lf σ H Q->
  wpAny (model X.prog X.w) X.A (evalPairs (pairTrees keys values X.env pos)) (λvs s'=>∃ps H',Inv X pins σ H' s'/\VV ps vs/\Q ps H') X.xe s
theorem Mk{X:Cx}{pos:Pos}:Yi X pos [] [] []:=λpins s σ H Q I h=>pairTrees_nil_walk ⟨[],H,I,.nil,h⟩
theorem Jd{X:Cx}{pos:Pos}{k v:Expr}{ks:List (Option Expr)}{vs:List Expr}{tk tv:TE}{Lf:List (TE×TE)}(hk:PE X k tk)(hv:PE X v tv)(hr:Yi X pos ks vs Lf) :
  Yi X pos (some k::ks) (v::vs) ((tk,tv)::Lf):=λpins s σ H Q I h=>
 pairTrees_cons_walk (cA (hk pins s σ H _ I h) λu s1 ⟨x,H1,I1,rx,q1⟩=>cA (hv pins s1 σ H1 _ I1 q1) λw2 s2 ⟨y,H2,I2,ry,q2⟩=>
  cA (hr pins s2 σ H2 _ I2 q2) λws s3 ⟨ps,H3,I3,rel,q3⟩=>⟨(x,y)::ps,H3,I3,.cons ⟨rx,ry⟩ rel,q3⟩)
def iS(cu more:List (Key×V)):List (Key×V):=more.foldl (λacc kv=>putK acc kv.1 kv.2) cu
theorem KV.merge:∀{more:List (Key×V)} {rs:List (Key×Value)} {cu:List (Key×V)} {vs:List (Key×Value)},KV more rs->KV cu vs->KV (iS cu more) (merged vs rs):=by
 intro more rs cu vs r
 unfold KV at r
 induction r generalizing cu vs with
 | nil=>intro q;exact q
 | @cons p q ps qs h t ih=>
  intro r0
  have e:KV (putK cu p.1 p.2) (stored vs q.1 q.2):=by
   have:=r0.put p.1 h.2
   rw[<-h.1];exact this
  exact ih e
theorem lZ:∀(more cu:List (Key×V)),(iS cu more).length<=cu.length+more.length
 | [],cu=>by show cu.length<=cu.length+0;lia
 | p::r,cu=>by
  have h1:=lZ r (putK cu p.1 p.2)
  have h2:=yk cu p.1 p.2
  show(iS (putK cu p.1 p.2) r).length<=_
  rw[dH];lia
theorem sX{P:Program}{w:World}:∀{cu:List (Key×V)} {ws:List (Value×Value)},VV (cu.map λkv=>(kV kv.1,kv.2)) ws->∃rs,Carries (fw P w) ws rs/\KV cu rs
 | [],_,r=>by rw[oj]at r;cases r;exact⟨[],True.intro,.nil⟩
 | p::cu,_,r=>by
  rw[eB]at r
  cases r with
  | @cons a b as bs h t=>
   obtain⟨rs,c,q⟩:=sX (P:=P) (w:=w) t
   obtain⟨b1,b2⟩:=b
   exact⟨(p.1,b2)::rs,⟨U6 h.1,rfl,c⟩,.cons ⟨rfl,h.2⟩ q⟩
def TB(Lf:List (TE×TE)):TE:=λσ H Q=>∀p,H p=none->zX Lf σ (upd H p (.dK [])) λps H2=>H2 p=some (.dK [])/\∃cu:List (Key×V),ps=cu.map (λkv=>(kV kv.1,kv.2))/\cu.length<=15/\Q (.ref p) (upd H2 p (.dK (iS [] cu)))
theorem Mu{X:Cx}{pos:Pos}{keys:List (Option Expr)}{values:List Expr}{Lf:List (TE×TE)}(h:Yi X pos keys values Lf)(t7:keys.all (·.isSome)=true)(hl:keys.length=values.length)(h0:keys≠[])
  (h15:keys.length<=15):PE X (.Dict keys values pos) (TB Lf):=by
 intro pins s σ H Q I q
 have hn:=I.bT.fresh (bB s.heap.objs.size)
 have I1:=I.laid (a:=s.heap.objs.size) (o:=.dK []) (h':=s.heap.push { cls:=.type "dict",data:=.dict #[] }) (t':=s.toks) (λ_ _ q=>cq _ q) (bB _) (yC s.heap I.big)
 refine wpAny_Dict_walk (knd:=fw X.prog X.w) t7 hl h0 h15 (cA (h pins _ σ _ _ I1 (q _ hn)) λws s2 ⟨ps,H2,I2,rel,e,cu,ep,lk,q2⟩=>?_)
 subst ep
 obtain⟨rs,c,rk⟩:=sX (P:=X.prog) (w:=X.w) rel
 obtain⟨z,hd,vs0,r0,dd⟩:=V7 I2.bT e
 cases r0
 refine⟨rs,c,dd,λh' dd' hs=>⟨.ref s.heap.objs.size,_,?_,rfl,q2⟩⟩
 have hz:(iS [] cu).length<=sizeLine:=by
  have h1:=lZ cu []
  rw[rj]at h1
  rw[jT];lia
 have he:∃q,h'.get? s.heap.objs.size=some q:=let ⟨q,_,_,hq,_⟩:=dd';⟨q,hq⟩
 exact Nz I2 (by rw[e];exact True.intro) hs he (RK hz hd (rk.merge .nil) dd')
structure M1(X:Cx)(o:Expr)(m:Str)(apos:Pos)(e:Expr)(cy:Pos):Prop where
 base:attributeBase o m X.env (eval o X.env)=eval o X.env
 few:((backTo cy (starEach [e] X.env)).all (λx=>!x.1)&&(backToKw cy (keywordEach [] X.env)).all (λx=>x.1.isSome)
  && decide (([e]:List Expr).length+([]:List Keyword).length+(if ([]:List Keyword).isEmpty then 0 else 1)<30))=true
 line:(apos.endLine==cy.line)=true
 trees:backTo cy (starEach [e] X.env)=[(false,eval e X.env)]
end L2
namespace Att
open PySem PySem.W PySem.Calls PyProof.Rows
theorem qt{P:Params}{h:Heap}:∀(ns:List Int) (vs:List Value),WellAll P h vs (ns.map WData.int)->IntsAre vs ns:=by
 intro ns
 induction ns with
 | nil=>
  intro vs w
  rw[oj]at w
  cases w
  exact .nil
 | cons n ns ih=>
  intro vs w
  rw[eB]at w
  cases w with
  | cons a b=>
   cases a
   exact .cons _ _ (ih _ b)
theorem Fp{l:OpenLaw}{n:Nat}(hn:l.most=some n){P:Params}{h:Heap}{args:List WData}{vals:List Value}
  (Nf:l.row.toRowW.claim.pre args=true) (hwl:WellAll P h vals args) :
  ∃a vs ns,vals=[Value.ref a]/\args=[WData.list (ns.map WData.int)]/\h.get? a=some { cls:=.type "list",data:=.seq vs.toArray }/\IntsAre vs ns/\ns.length<=n:=by
 have hsh:WShape.hasAll [] args [.list .int]=true:=(pre_splitW Nf).1
 have hc:l.pre.holds [] { args:=args }=true:=(pre_splitW Nf).2
 obtain⟨d,r,rfl,h1,h2⟩:=hasAllW_cons hsh
 obtain rfl:=hasAllW_nil h2
 obtain⟨xs,rfl,h3⟩:=hasW_list h1
 obtain⟨ns,rfl⟩:=items_int h3
 have hlen:ns.length<=n:=by
  unfold OpenLaw.pre at hc
  have h4:(WTm.not (.lt (.lit (.int (n:Int))) (.len (.arg 0)))).holds [] { args:=[.list (ns.map .int)] }=true:=by
   have h4:=(holds_andW hc).1
   rw[hn]at h4
   exact h4
  have h5:=condW_of h4 (w_not (w_lt w_lit (w_len_list (w_arg rfl))))
  rw[aY]at h5
  refine zg λq=>?_
  have q':(n:Int)<((ns.length:Nat):Int):=by lia
  first
   | (rw[decide_eq_true q']at h5;exact absurd h5 (by decide))
   | (simp at h5;lia)
 cases hwl with
 | cons w1 w2=>
  cases w2
  cases w1 with
  | list ho t7=>exact⟨_,_,ns,rfl,rfl,ho,qt ns _ t7,hlen⟩
theorem Ft(l:OpenLaw)(args:List WData):l.row.toRowW.claim.post args (.bool true) args=true:=
 postW_of (r:=l.row.toRowW) (X:=(true==true))
  (show WShape.has [] (.bool true) .bool=true by first | rfl | decide | simp[WShape.has,WShape.arms,WShape.armsAll])
  (show(WTm.eq .res (.lit (.bool true))).value [] { args:=args,res:=some (.bool true),after:=args }=some (.bool (true==true)) from w_eq_bool (w_res rfl) w_lit) rfl
theorem yT{l:OpenLaw}{n:Nat}{q:Program}{loose:List Str}{XP:(Str->Option Value)->Heap->Prop}{YP:World->Heap->Prop}{d:DefRec}
  (hn:l.most=some n) (Vm:d.params.defaults=[])
  (call:∀(w:World) (s₀ s₁:Shared) (mg mb:Str->Option Value) (fa:Addr) (o:Obj) (pm cd doc:Value) (a:Addr) (vs:List Value) (ns:List Int),
   Ground q loose [] XP w s₀ mg mb s₁.heap->YP w s₁.heap->
   s₁.heap.get? fa=some o->o.data=.func (docDef d.name d.params d.body d.scope pm cd doc)->s₁.heap.CodeRec cd d.name->mg d.name=some (.ref fa)->
   s₁.heap.get? a=some { cls:=.type "list",data:=.seq vs.toArray }->IntsAre vs ns->ns.length<=n->s₁.gens = #[]->
   codeAny (model l.prog w) callerA (.call (.ref fa) ⟨[.ref a],[]⟩) (λr s'=>r=.ok (.ret (.bool true))/\OldK s₁.heap s'.heap/\s'.os=s₁.os/\AllBare s'.gens) s₁) :
  WalkO q loose XP YP l.row.toRowW d [] (λf vs=>PySem.call f vs):=by
 intro w s₀ s₁ mg mb G Y fa o pm cd doc dV kV ho hd Bv hD Vj hg args vals as Nf hlay hrd hwl hlo
 obtain rfl:dV=.none:=Dflts.none hD Vm
 obtain rfl:kV=.none:=Dflts.noKw hD
 obtain⟨a,vs,ns,rfl,rfl,Rb,hints,hlen⟩:=Fp hn Nf hwl
 refine enter_call (lH (call w s₀ s₁ mg mb fa o pm cd doc a vs ns G Y ho (fd_plain hd) Bv Vj Rb hints hlen hg) λr s' hq=>?_)
 obtain⟨rfl,h2,h3,h4⟩:=hq
 exact⟨.inl ⟨.bool true,.bool true,[],rfl,λ_=>rfl,.bool true,Ft l _,λ_=>⟨List.Pairwise.nil,λ_ hm=>(nomatch hm)⟩⟩,h2,h3,h4⟩
end Att
namespace L2
open PySem PySem.Spec PyProof.Rows
theorem uG:∀{vs:List Value} {ns:List Int},IntsAre vs ns->Vals (ns.map V.int) vs
 | _,_,.nil=>.nil
 | _,_,.cons n t h=>.cons ⟨t,rfl⟩ (uG h)
def Only(H:Hp):Prop:=∀b,H b=none\/∃o xs,H b=some (.D' o (.lst xs))
theorem JD{P:Program}{w:World}{K:PySem.W.Frag}{mg mb:Str->Option Value}{CX:Ep}{k:Nat}{fa a:Addr}{fd:FuncData}{x:Str}{sp:Sp}{s₁:Shared}{vs:List Value}{ns:List Int}
  (KX:K.In s₁.heap) (hns:s₁.heap.Ns mainGlobals mg) (hb:s₁.heap.Ns builtinsNs mb) (hbb:∀x:Str,x≠"__name__"->mb x=bootBuiltins x) (aAW:s₁.heap.NoLimit) (hg:s₁.gens = #[])
  (ha:s₁.heap.get? a=some { cls:=.type "list",data:=.seq vs.toArray }) (hi:IntsAre vs ns) (hl:ns.length<=sizeLine) (hr:cS k callerA)
  (F:∀base:Heap,K.In base->base.Ns mainGlobals mg->cz P w K mg base CX k fa fd [x] sp) (Vs:∀(s:Shared) (u:Value),BindsTo s fd ⟨[u],[]⟩ [(x,u)])
  (KS:∀H:Hp,Only H->lG K H a (ns.map V.int)->sp [.ref a] H (λv _=>v=.bl true) λ_ _ _=>False)
  (hCX:∀H e s',CX [] H s₁ (λ_ _ _=>False) e s'->False) :
  codeAny (model P w) callerA (.call (.ref fa) ⟨[.ref a],[]⟩) (λr s'=>r=.ok (.ret (.bool true))/\OldK s₁.heap s'.heap/\s'.os=s₁.os/\AllBare s'.gens) s₁:=by
 have rv:=uG hi
 have aAt:=hi.length
 have core:∀H:Hp,Only H->lG K H a (ns.map V.int)->jE P w H s₁.heap->(∀b,H b≠none->b=a)->(H a≠none->K.lookup a=none)->
   codeAny (model P w) callerA (.call (.ref fa) ⟨[.ref a],[]⟩) (λr s'=>r=.ok (.ret (.bool true))/\OldK s₁.heap s'.heap/\s'.os=s₁.os/\AllBare s'.gens) s₁:=by
  intro H hO hS bT hA hK
  have Ei:∀{b:Addr} {o:Obj},s₁.heap.get? b=some o->H b=none->(wy s₁.heap H).get? b=some o:=λe n=>JZ e n
  have Ux:∀{b:Addr} {o:Obj} {es:Array DictEntry} {ep:Nat},s₁.heap.get? b=some o->o.data=.dict es ep->H b=none:=λ{b o es ep} e d=>by
   cases q:H b with
   | none=>rfl
   | some u=>
    have e':b=a:=hA b (by rw[q];simp)
    subst e'
    rw[ha]at e;cases e
    have d':Data.seq vs.toArray _=Data.dict es ep:=d
    cases d'
  have Xh:∀{b:Addr} {m:Str->Option Value},s₁.heap.Ns b m->(wy s₁.heap H).Ns b m:=λ{b m} ⟨o,es,ep,e,d,r⟩=>⟨o,es,ep,Ei e (Ux e d),d,r⟩
  have hKb:K.In (wy s₁.heap H):=λb o e=>Ei (KX b o e) (by
   cases q:H b with
   | none=>rfl
   | some u=>
    have e':b=a:=hA b (by rw[q];simp)
    subst e'
    rw[hK (by rw[q];simp)]at e;cases e)
  have hM:Mod K mg (wy s₁.heap H):=⟨hKb,Xh hns,⟨mb,Xh hb,hbb⟩,let ⟨mc,h1,h2⟩:=aAW;⟨mc,Xh h1,h2⟩⟩
  have e0:uj P w K mg (wy s₁.heap H) callerA [] s₁ H:=⟨rfl,hM,λb o e=>M0 e,Nat.le_of_eq (Gf _ _),trivial,λb hb=>absurd (show b∈([]:List Addr) from hb) (by simp),bT,.of_eq hg⟩
  refine lH ((F _ hKb (Xh hns)).run callerA [] s₁ H ⟨[.ref a],[]⟩ [.ref a] [.ref a] _ _ hr e0 (Vs s₁ (.ref a)) (.cons rfl .nil) (KS H hO hS)) λr s' h=>?_
  cases r with
  | error e=>exact(hCX H e s' h).elim
  | ok fl=>
   cases fl with
   | next=>exact False.elim h
   | brk=>exact False.elim h
   | cont=>exact False.elim h
   | ret u=>
    obtain⟨v,H',os,bare,un,aAR,r',q⟩:=h
    have q':v=.bl true:=q
    subst q'
    obtain rfl:u=Value.bool true:=r'
    refine⟨rfl,OldK.of_keep λb o e=>?_,os,bare⟩
    cases q:H b with
    | none=>exact un.keep b o e q (by intro z;exact absurd (show b∈([]:List Addr) from z) (by simp)) (by simp)
    | some u=>
     rcases hO b with z | ⟨ob,xs,z⟩
     ·rw[q]at z;cases z
     ·have z2:=un.frzs b ob _ z
      obtain⟨e1,_⟩:=bT b _ z
      obtain⟨e2,_⟩:=aAR b _ z2
      rw[e]at e1;cases e1
      exact e2
 cases hk:K.lookup a with
 | some o=>
  have e:=KX a o hk
  rw[ha]at e
  cases e
  refine core (λ_=>none) (λ_=>.inl rfl) (.inr ⟨_,vs.toArray,_,hk,rfl,rfl,rfl,by rw[cV,aAt];exact hl,by simpa using rv⟩) (λb u z=>by have z':(none:Option HO)=some u:=z;cases z') (λb z=>absurd rfl z) λz=>absurd rfl z
 | none=>
  refine core (λb=>if b=a then some (.D' { cls:=.type "list",data:=.seq vs.toArray } (.lst (ns.map V.int))) else none) (λb=>?_) (.inl (.inr ⟨{ cls:=.type "list",data:=.seq vs.toArray },aI rfl⟩)) (λb u z=>?_) (λb z=>?_) λ_=>hk
  ·by_cases hb:b=a
   ·exact .inr ⟨_,_,aI hb⟩
   ·exact .inl (aE hb)
  ·by_cases hb:b=a
   ·have z':=(aI hb).symm.trans z
    cases z'
    subst hb
    exact⟨ha,by rw[aY];exact hl,vs,_,rv,ha⟩
   ·have z':=(aE hb).symm.trans z
    cases z'
  ·by_cases hb:b=a
   ·exact hb
   ·exact absurd (aE hb) z
end L2
namespace L2
open PySem PySem.Spec PyProof.Rows
theorem Lc{l:PySem.W.OpenLaw}{n k:Nat}{q:Program}{loose:List Str}{XP:(Str->Option Value)->Heap->Prop}{YP:World->Heap->Prop}{d:DefRec}{K:Params->PySem.W.Frag}{CX:World->Ep}{sp:World->Sp}{x:Str}
  (hn:l.most=some n) (hn2:n<=sizeLine) (Vm:d.params.defaults=[]) (hr:cS k callerA)
  (hY:∀(w:World) (h:Heap),YP w h->(K w.params).In h)
  (F:∀(w:World) (mg:Str->Option Value) (fa:Addr) (h:Heap),(K w.params).In h->h.Ns mainGlobals mg->mg d.name=some (.ref fa)->
   ∃fd:FuncData,(∀(s:Shared) (u:Value),BindsTo s fd ⟨[u],[]⟩ [(x,u)])/\
    ∀base:Heap,(K w.params).In base->base.Ns mainGlobals mg->cz l.prog w (K w.params) mg base (CX w) k fa fd [x] (sp w))
  (KS:∀(w:World) (H:Hp) (a:Addr) (ns:List Int),ns.length<=n->Only H->lG (K w.params) H a (ns.map V.int)->sp w [.ref a] H (λv _=>v=.bl true) λ_ _ _=>False)
  (hCX:∀(w:World) (H:Hp) (s:Shared) (e:Value) (s':Shared),CX w [] H s (λ_ _ _=>False) e s'->False) :
  PySem.W.WalkO q loose XP YP l.row.toRowW d [] (λf vs=>PySem.call f vs):=by
 refine Att.yT hn Vm λw s₀ s₁ mg mb fa o pm cd doc a vs ns G Y ho hd Bv Vj Rb hints hlen hg=>?_
 have KX:=hY w _ Y
 obtain⟨fd,hb,hF⟩:=F w mg fa _ KX G.T.g Vj
 exact JD KX G.T.g G.T.b G.T.builtins G.T.nolimit hg Rb hints (fF hlen hn2) hr hF hb (λH hO hS=>KS w H a ns hlen hO hS) λH e s'=>hCX w H s₁ e s'
end L2
namespace L2
open PySem PySem.Spec PyProof.Rows
abbrev iq:Ep:=λ_ _ _ _ _ _=>False
abbrev E0:XK:=λ_ _ _=>False
theorem bA{X:Cx}:Passes iq X E0:=λ_ _ _ _ _ _ _ h=>h.elim
structure jR(K:PySem.W.Frag)(x qual:Str)(st:Stmt)(f:Addr)(fd:FuncData):Prop where
 ex:∃(oc:Value) (od:Option Addr) (kV doc pm:Value) (an:Option Addr) (dB ct:Value) (Fv:Array (Option Value)),
  fd=PySem.W.fnOf x qual (bq st) (aX st) (aq st) .none kV doc pm an dB ct/\K.lookup f=some ⟨oc,od,.func fd,Fv⟩/\PySem.W.codeIn K dB qual=true
 kp:PySem.W.keepIn K (.ref f)=true
section
variable {P:Program}{w:World}{K:PySem.W.Frag}{mg:Str->Option Value}{base:Heap}
theorem jR.ok{x qual:Str}{st:Stmt}{f:Addr}{fd:FuncData}{N ps:List Str}{k:Nat}{sp:Sp}(F:jR K x qual st f fd)(S:bp N ps (aq st))(len:∀vs H Q E,sp vs H Q E->vs.length=ps.length)
  (ko:∀(dB:Value) (A:Around) (outer:List Env) (s:Shared) (H:Hp) (vs:List V) (Q:VK) (E:XK),cS k (A.deeper (envOfC qual (aq st) s.heap.objs.size f dB))->sp vs H Q E->
   ∃t,tP (jn iq P w K mg base N qual (aq st) f dB A outer s H E).KR (aX st) t/\t { nx:=λ_ H'=>Q .non H',rt:=Q } (start N vs) H):cz P w K mg base iq (k+1) f fd ps sp:=by
 obtain⟨oc,od,kV,doc,pm,an,dB,ct,Fv,rfl,lk,Bv⟩:=F.ex
 refine Oy lk Bv S len λA outer s H vs Q E hr KS=>?_
 obtain⟨t,h,q⟩:=ko dB A outer s H vs Q E hr KS
 exact⟨t,h.KR,q⟩
theorem jR.binds{x qual:Str}{st:Stmt}{f:Addr}{fd:FuncData}{ps:List Str}(F:jR K x qual st f fd)
  (h:∀(kV doc pm:Value) (an:Option Addr) (dB ct:Value) (us:List Value),us.length=ps.length->bindArgs (PySem.W.fnOf x qual (bq st) (aX st) (aq st) .none kV doc pm an dB ct) ⟨us,[]⟩=pure (ps.zip us)):Binds K fd ps []:=by
 obtain⟨oc,od,kV,doc,pm,an,dB,ct,Fv,rfl,lk,Bv⟩:=F.ex
 exact .all (h kV doc pm an dB ct)
theorem cp{x qual:Str}{st:Stmt}{f:Addr}{oc:Value}{od an:Option Addr}{Fv:Array (Option Value)}{kV doc pm dB ct:Value}(l:K.lookup f=some ⟨oc,od,.func (PySem.W.fnOf x qual (bq st) (aX st) (aq st) .none kV doc pm an dB ct),Fv⟩)
  (c:PySem.W.codeIn K dB qual=true) (k:PySem.W.keepIn K (.ref f)=true):jR K x qual st f (PySem.W.fnOf x qual (bq st) (aX st) (aq st) .none kV doc pm an dB ct):=⟨⟨oc,od,kV,doc,pm,an,dB,ct,Fv,rfl,l,c⟩,k⟩
end
theorem jl{A:Around}{k:Nat}(hr:cS k A):A.units+1<cLine:=vG (Nat.add_le_add_left (by decide:1<=64) _) hr.units
theorem bV{n:Nat}(h:n<=1000):n<sizeLine:=vG h (by decide)
section
variable {X:Cx}
theorem pv(i:Nat){x:Str}{pos:Pos}(hN:X.N[i]?=some x:=by rfl)(hv:Tp X.env.scope x:=by first | exact Or.inl rfl | exact Or.inr (Or.inl rfl) | exact Or.inr (Or.inr rfl))(hd:(x==("__debug__" : Str))=false:=by decide)
  (Bv:(x==("__classdict__" : Str))=false:=by decide):PE X (.Name x pos) (qd i):=Jk hN hv hd Bv
end
def bz(H H':Hp):Prop:=∀b o,H b=some o->H' b=some o
theorem bz.refl(H:Hp):bz H H:=λ_ _ h=>h
theorem bz.trans{H H1 H2:Hp}(a:bz H H1)(b:bz H1 H2):bz H H2:=λc o h=>b c o (a c o h)
theorem bz.free{H H':Hp}(e:bz H H'){l:Addr}(h:H' l=Option.none):H l=Option.none:=by
 cases q:H l with
 | none=>rfl
 | some o=>
  rw[e l o q]at h
  cases h
end L2
end
section
theorem L2.hide{p:Prop}(h:∀q:Prop,(p->q)->q):p:=h p id
end
section
namespace L2
open PySem PySem.Spec PyProof.Rows
theorem pQ{α β:Type}{f:α->β->Sem (ForInStep β)}(g:α->β->β):∀(l:List α) (b:β),(∀x∈l,∀c,f x c=pure (.yield (g x c)))->forIn l b f=pure (l.foldl (λc x=>g x c) b)
 | [],b,_=>rfl
 | x::l,b,h=>by
  rw[List.forIn_cons,h x dE,pure_bind]
  exact pQ g l (g x b) λy hy=>h y (dY _ hy)
def dJ(env:Env)(names:List (Str×NameKind))(cs:List (Str×Addr)):List (Str×Addr):=
 names.foldl (λc y=>if y.2==NameKind.free then (y.1,(env.cells.lookup y.1).getD 0)::c else c) cs
theorem jq{scope:Scope}{env:Env}(h:∀y∈scope.names,y.2=.free->∃c,env.cells.lookup y.1=some c):closureFor scope env=pure (dJ env scope.names []):=by
 simp only[closureFor]
 rw[pQ (λy c=>if y.2==NameKind.free then (y.1,(env.cells.lookup y.1).getD 0)::c else c) scope.names [] (λx hx c=>by
  obtain⟨n,kind⟩:=x
  dsimp only
  by_cases hk:kind=.free
  ·subst hk
   obtain⟨a,e⟩:=h (n,.free) hx rfl
   have e':env.cells.lookup n=some a:=e
   have:cellOf env n=pure a:=by unfold cellOf;rw[e']
   rw[this,e']
   rfl
  ·have hb:(kind==NameKind.free)=false:=by simpa using hk
   rw[hb];rfl)]
 simp only[pure_bind]
 rfl
theorem oY{env:Env}:∀(names:List (Str×NameKind)) (cs:List (Str×Addr)),(∀y∈names,y.2=.free->∃c,env.cells.lookup y.1=some c)->(∀p∈cs,env.cells.lookup p.1=some p.2)->
  ∀p∈dJ env names cs,env.cells.lookup p.1=some p.2
 | [],cs,_,hc=>hc
 | y::r,cs,h,hc=>by
  unfold dJ
  rw[qQ]
  refine oY r _ (λz hz=>h z (dY _ hz)) λp hp=>?_
  by_cases hk:y.2=.free
  ·have hb:(y.2==NameKind.free)=true:=by simpa using hk
   rw[aI hb]at hp
   rcases dh.mp hp with e | hp
   ·obtain⟨c,e1⟩:=h y dE hk
    rw[e];dsimp only;rw[e1];rfl
   ·exact hc p hp
  ·have hb:¬(y.2==NameKind.free)=true:=by simpa using hk
   rw[aE hb]at hp
   exact hc p hp
theorem pU{env:Env}{p:Str×Addr}:∀(names:List (Str×NameKind)) (cs:List (Str×Addr)),p∈cs->p∈dJ env names cs
 | [],_,h=>h
 | y::r,cs,h=>by
  unfold dJ
  rw[qQ]
  refine pU r _ ?_
  split
  ·exact dY _ h
  ·exact h
theorem u6{env:Env}{x:Str}:∀(names:List (Str×NameKind)) (cs:List (Str×Addr)),(x,NameKind.free)∈names->∃c,(x,c)∈dJ env names cs
 | y::r,cs,h=>by
  rcases dh.mp h with e | h
  ·subst e
   exact⟨_,by
    unfold dJ;rw[qQ]
    refine pU r _ ?_
    rw[aI (by rfl)]
    exact dE⟩
  ·obtain⟨c,hc⟩:=u6 r (if y.2==NameKind.free then (y.1,(env.cells.lookup y.1).getD 0)::cs else cs) h
   exact⟨c,by unfold dJ;rw[qQ];exact hc⟩
theorem lY{f:Str->Option Addr}{x:Str}:∀{cs:List (Str×Addr)},(∀p∈cs,f p.1=some p.2)->(∃c,(x,c)∈cs)->cs.lookup x=f x
 | [],_,⟨_,h⟩=>nomatch h
 | (n,a)::r,hc,⟨c,h⟩=>by
  rw[jV]
  by_cases e:x=n
  ·subst e
   rw[pj]
   exact(hc (x,a) dE).symm
  ·have hb:(x==n)=false:=by simpa using e
   rw[hb]
   refine lY (λp hp=>hc p (dY _ hp)) ⟨c,?_⟩
   rcases dh.mp h with q | q
   ·exact absurd (gT Prod.fst q) e
   ·exact q
theorem nI{env : Env}{y : Str} : ∀ {names : List (Str × NameKind)}, (∀ z ∈ names, z.2 ≠ .cell) →
    ((names.map λ(n, k) => if (k==NameKind.free&&env.scope.kind == .function&&env.kindOf n==some .cell) then (n, NameKind.cell) else (n, k)).lookup y=some .cell ∨
     (names.map λ(n, k) => if (k==NameKind.free&&env.scope.kind == .function&&env.kindOf n==some .cell) then (n, NameKind.cell) else (n, k)).lookup y=some .free) → names.lookup y=some .free
  | [], _, h => by rcases h with h | h <;> cases h
  | (n, k)::r, hc, h => by
    have ih := @nI env y r λz hz => hc z (dY _ hz)
    rw[eB]at h
    rw[jV]
    by_cases e : y=n
    · subst e
      rw[pj]
      by_cases hb : (k==NameKind.free&&env.scope.kind == .function&&env.kindOf y==some .cell)=true
      · have hk : k=.free := by
          rw[dW, dW]at hb
          simpa using hb.1.1
        rw[hk]
      · dsimp only at h
        rw[aE hb, jV, pj]at h
        dsimp only at h
        rcases h with h | h
        · exact absurd (dm h) (hc (y, k) dE)
        · exact h
    · have hn : (y==n)=false := by simpa using e
      rw[hn]
      dsimp only at h ⊢
      apply ih
      by_cases hb : (k==NameKind.free&&env.scope.kind == .function&&env.kindOf n==some .cell)=true
      · rw[aI hb, jV, hn]at h
        exact h
      · rw[aE hb, jV, hn]at h
        exact h
structure CB where
 C:Addr
 cl:List (Str×Addr)
 s2:Shared
 H2:Hp
 ex:List Addr
@[reducible] def jL (X:Cx) (scope:Scope) (N:List Str) (c:CB):Cx:=
 { prog:=X.prog,w:=X.w,K:=X.K,mg:=X.mg,base:=X.base,A:=X.A,N:=N,s₀:=c.s2,H₀:=c.H2,env:=compEnvC scope c.cl c.C X.env,outer:=X.stack,stack:=X.stack,ex:=c.ex,fn:=λ_=>false,calm:=X.calm,pn:=[],xe:=λ_ _=>False }
def cw(σ:St)(idx:List Nat):St:=idx.map λi=>(σ[i]?).join
def bS(N:List Str)(idx:List Nat):List Str:=idx.map λi=>N.getD i ""
def wI(X:Cx)(ifs:List Expr)(t:TT):Prop:=
 ∀(pins:List (Addr×Obj)) (s:Shared) (σ:St) (H:Hp) (Q:Bool->Hp->Prop),Inv X pins σ H s->t σ H Q->
  wpAny (model X.prog X.w) X.A (forIn ifs true λc r=>if r=true then do let ok <-isTrue c X.env (eval c X.env);pure (ForInStep.yield ok) else pure (ForInStep.yield r)) (TP X pins σ Q) X.xe s
def Ph:TT:=λ_ H Q=>Q true H
theorem Jg{X:Cx}:wI X [] Ph:=λ_ _ _ H _ I h=>wpAny_tests_nil ⟨H,I,h⟩
theorem Jf{X:Cx}{e:Expr}{t:TT}(h:PT X e t):wI X [e] t:=λpins s σ H Q I q=>wpAny_tests_one (h pins s σ H Q I q)
def se(wi:TI)(k:Nat)(idx:List Nat)(g:CB->TG)(tt:CB->TT)(te:CB->TE):TE:=λσ H Q=>wi σ H λJ H1=>∀D,H1 D=none->∃W:Nat->Nat->List V->Hp->Prop,(∃m,W 0 m [] (upd H1 D (.lst [])))/\
 ∀i m ys H',W i m ys H'->(J.stop i H'/\Q (.ref D) H')\/(J.go i H'/\∃N:List V->Hp->Prop,(∀og pY,N og pY->∃m',m'<m/\W (i+1) m' og pY)/\∀(c:CB) (own:St),own.length=k->∀x H2,J.Ey i H' x H2->g c x (own++cw σ idx) H2 λσ3 H3=>
  (∃dA,dA.length=k/\σ3=dA++cw σ idx)/\tt c σ3 H3 λb H4=>if b=true then te c σ3 H4 λy H5=>H5 D=some (.lst ys)/\ys.length<sizeLine/\N (ys++[y]) (upd H5 D (.lst (ys++[y]))) else N ys H4)
structure tO(X:Cx)(scope:Scope)(xs:List Str)(idx:List Nat):Prop where
 kind:scope.kind=.function
 Ju:∀y∈scope.names,y.2≠.cell
 loc:∀y∈scope.names,y.2=.local->scope.names.lookup y.1=some .local
 free:∀y∈scope.names,y.2=.free->scope.names.lookup y.1=some .free/\(X.env.kindOf y.1=some .cell\/X.env.kindOf y.1=some .free)
 ix:∀i∈idx,∃y,X.N[i]?=some y/\scope.names.lookup y=some .free
section
variable {prog:Program}{w:World}{A:Around}{R:Result->Shared->Prop}{s:Shared}
theorem kF{elt target iter:Expr}{ifs:List Expr}{scope:Scope}{pos:Pos}{it acc:Value}{env:Env}(I:Nat->Shared->Prop)
  (turn:∀n s,I n s->wpAny (model prog w) A (pyNext it) (λr s₁=>match r with
   | none=>R (.ok .next) s₁
   | some v=>wpAny (model prog w) A (letOwnedTupleGo target it v) (λ_ s₁'=>wpAny (model prog w) A (assign target env v) (λ_ s₂=>
     wpAny (model prog w) A (forIn ifs true λc r=>if r=true then do let ok <-isTrue c env (eval c env);pure (ForInStep.yield ok) else pure (ForInStep.yield r)) (λok s₃=>
      if ok=true then wpAny (model prog w) A (eval elt env) (λx s₄=>
       wpAny (model prog w) A (call (.builtin "list.append") [acc,x]) (λ_ s₅=>∃m,m<n/\I m s₅) (λ_ _=>False) s₄) (λ_ _=>False) s₃
      else ∃m,m<n/\I m s₃) (λ_ _=>False) s₂) (λ_ _=>False) s₁') (λ_ _=>False) s₁) (λ_ _=>False) s)
  (n:Nat) (h:I n s) :
  codeAny (model prog w) A (.compLoop (.ListComp elt [⟨target,iter,ifs,0⟩] scope pos) 0 it acc env) R s:=by
 refine codeAny_loop rfl I (λn s hI=>?_) n h
 show wpAny _ A ((compTurn (.ListComp elt [⟨target,iter,ifs,0⟩] scope pos) 0 it acc env).onRaise (λx=>do noteFrame x env;theTreesLotGoes x)) _ _ s
 refine wpAny_noted ?_
 rw[compTurn_list]
 refine au (mz (au (cP (turn n s hI) (λr s₁ h₁=>?_) λ_ _ h'=>False.elim h')))
 cases r with
 | none=>exact aM h₁
 | some v=>
  refine au (cP h₁ (λ_ s₁' h₁'=>?_) λ_ _ h'=>False.elim h')
  refine au (cP h₁' (λ_ s₂ h₂=>au (cP h₂ (λok s₃ h₃=>?_) λ_ _ h'=>False.elim h')) λ_ _ h'=>False.elim h')
  cases ok with
  | false=>exact aM ⟨rfl,h₃⟩
  | true=>
   exact au (au (cP h₃ (λx s₄ h₄=>au (cP h₄ (λ_ s₅ h₅=>aM (aM ⟨rfl,h₅⟩)) λ_ _ h'=>False.elim h')) λ_ _ h'=>False.elim h'))
end
section
variable {X:Cx}{pins:List (Addr×Obj)}{σ:St}{H:Hp}{s:Shared}
theorem jE.but{P:Program}{w:World}{h h':Heap}{C:Addr}(x:jE P w H h)(hn:H C=none)(hs:Heap.SameBut C h h'):jE P w H h':=λb ob e=>by
 refine(x b ob e).stay (λc w' hc q=>(hs.2 c ?_).trans q) (λ_ q=>q) λ_ _ q=>q
 rintro rfl
 rcases hc with rfl | hc
 ·rw[hn]at e;cases e
 ·rw[hn]at hc;cases hc
theorem Un.but{fs ex:List Addr}{H':Hp}{h h1 h2:Heap}{C:Addr}(u:Un fs ex H H' h h1)(hC:h.get? C=none)(hs:Heap.SameBut C h1 h2):Un fs ex H H' h h2:=by
 have ne:∀b o,h.get? b=some o->b≠C:=λb o e z=>by rw[z,hC]at e;cases e
 exact⟨λb o e n h1 h2=>(hs.2 b (ne b o e)).trans (u.keep b o e n h1 h2),λb o e n h1 h2=>by
   obtain⟨sl,q⟩:=u.slot b o e n h1 h2
   exact⟨sl,(hs.2 b (ne b o e)).trans q⟩,u.free,λb o e h2=>by
   obtain⟨o',q⟩:=u.there b o e h2
   exact⟨o',(hs.2 b (ne b o e)).trans q⟩,u.tups,u.frzs,u.tbls⟩
theorem HX{idx:List Nat}{j:Nat}{v:V}(h:(cw σ idx)[j]?=some (some v)):∃i,idx[j]?=some i/\σ[i]?=some (some v):=by
 unfold cw at h
 rw[cW]at h
 cases e:idx[j]? with
 | none=>rw[e]at h;cases h
 | some i=>
  rw[e]at h
  refine⟨i,rfl,?_⟩
  have h':(σ[i]?).join=some v:=dm h
  cases q:σ[i]? with
  | none=>rw[q]at h';cases h'
  | some o=>rw[q]at h';cases o with
   | none=>cases h'
   | some z=>cases h';rfl
theorem HY{N:List Str}{idx:List Nat}{j i:Nat}{y:Str}(h:idx[j]?=some i)(e:N[i]?=some y):(bS N idx)[j]?=some y:=by
 unfold bS
 rw[cW,h]
 show some (N.getD i "")=some y
 rw[fX,e];rfl
theorem Inv.block{scope:Scope}{xs:List Str}{idx:List Nat}{fp:List Addr}{C:Addr}{h':Heap}{t':Nat}{H1:Hp}{D:Addr}{m0:Str->Option Value}(I:Inv X pins σ H s)(S:tO X scope xs idx)
  (Xv:∀b∈fp,ui X pins H b) (hfo:∀b∈fp,∃o,s.heap.get? b=some o) (hC:s.heap.objs.size<=C) (XT:D≠C) (hD:s.heap.objs.size<=D) (hn:h'.Ns C m0) (hk:∀b o,s.heap.get? b=some o->h'.get? b=some o)
  (hl:∃n,h'.get? D=some { cls:=.type "list",data:=.seq #[] n }) :
  Inv (jL X scope (xs++bS X.N idx) ⟨C,dJ X.env scope.names [],s,H,fp⟩) [] (List.replicate xs.length none++cw σ idx) (upd H D (.lst [])) { s with heap:=h',toks:=t' }:=by
 have yA:∀y∈scope.names,y.2=.free->∃c,X.env.cells.lookup y.1=some c:=λy hy e=>I.ok.has y.1 (S.free y hy e).2
 have t7:=oY (env:=X.env) scope.names [] yA (λp hp=>(nomatch hp))
 have md:∀y c,(dJ X.env scope.names []).lookup y=some c->X.env.cells.lookup y=some c:=λy c e=>t7 (y,c) (lI e)
 have Vl:∀y,scope.names.lookup y=some .free->(dJ X.env scope.names []).lookup y=X.env.cells.lookup y:=λy e=>lY (f:=λn=>X.env.cells.lookup n) t7 (u6 scope.names [] (lI e))
 have lt:∀b,(∃o,s.heap.get? b=some o)->b<s.heap.objs.size:=λb ⟨o,e⟩=>bI e
 have hDn:H D=none:=I.bT.fresh hD
 refine⟨⟨I.ok.mod,S.kind,I.ok.glob,I.ok.blt,hC,λx y c h1 h2=>I.ok.inj x y c (md x c h1) (md y c h2),λy hy=>?_,λ_ _ e=>(nomatch e),I.ok.hd,I.ok.frames,.inl rfl,λb hb=>⟨?_,λx c e=>(Xv b hb).2.2.2.2.1 x c (md x c e)⟩,I.bs,fF I.ok.Gx I.sz,λb o e hb=>?_,λb hb z=>?_,I.stack,I.qC⟩,
  rfl,I.bare,?_,⟨m0,hn,λi y v e1 e2 hv=>?_⟩,λx c e=>?_,?_,λx c e=>?_,λp hp=>(nomatch hp),?_,?_⟩
 ·
  have q:scope.names.lookup y=some .free:=nI S.Ju hy
  have q2:=lI q
  obtain⟨c,e⟩:=yA _ q2 rfl
  exact⟨c,(Vl y q).trans e⟩
 ·
  exact bJ (cX (lt b (hfo b hb)) hC)
 ·
  rcases(Xv b hb).2.2.2.1 with z | z
  ·exact I.ok.xW b o e z
  ·exact absurd (cX (bI e) (fF I.ok.Gx z)) (jI _)
 ·
  rcases dh.mp (I.sg b z) with q | q
  ·exact(Xv b hb).2.1 q
  ·exact(Xv b hb).2.2.1 q
 ·
  exact Un.laid hk hD hDn
 ·
  by_cases hi:i<xs.length
  ·rw[CJ (by simpa using hi)]at e2
   rw[List.getElem?_replicate]at e2
   split at e2 <;> cases e2
  ·have G':xs.length<=i:=zg hi
   rw[wR (by simpa using G'),wN]at e2
   obtain⟨i0,ei,es⟩:=HX e2
   obtain⟨y',ey,ef⟩:=S.ix i0 (iC ei)
   have Yc:(xs++bS X.N idx)[i]?=some y:=e1
   rw[wR G',HY ei ey]at Yc
   cases Yc
   obtain⟨m,hm,Rf⟩:=I.loc
   have ef2:=S.free (y,.free) (lI ef) rfl
   have Yo:Tp X.env.scope y:=.inr ef2.2
   obtain⟨u,ru,lk⟩:=Rf i0 y v ey es Yo
   refine⟨u,ru,?_⟩
   rcases lk with ⟨k1,_⟩ | ⟨_,c,ec,hc⟩
   ·rcases ef2.2 with z | z
    ·have z':X.env.kindOf y=some .cell:=z
     rw[k1]at z';cases z'
    ·have z':X.env.kindOf y=some .free:=z
     rw[k1]at z';cases z'
   ·refine .inr ⟨?_,c,(Vl y ef).trans ec,hc.keeps hk⟩
    rcases hv with z | z | z
    ·exfalso
     have z':(relabel scope X.env).names.lookup y=some .local:=z
     have:∀(names:List (Str×NameKind)),names.lookup y=some .free->(names.map λ(n,k)=>if (k==NameKind.free&&X.env.scope.kind == .function&&X.env.kindOf n==some .cell) then (n,NameKind.cell) else (n,k)).lookup y≠some .local:=by
      intro names
      induction names with
      | nil=>intro h;cases h
      | cons p r ih=>
       obtain⟨n,k⟩:=p
       intro h
       rw[eB]
       by_cases e:y=n
       ·subst e
        rw[jV,pj]at h
        cases h
        dsimp only
        split
        ·rw[jV,pj];exact λq=>nomatch q
        ·rw[jV,pj];exact λq=>nomatch q
       ·have hn:(y==n)=false:=by simpa using e
        rw[jV,hn]at h
        dsimp only
        split
        ·rw[jV,hn];exact ih h
        ·rw[jV,hn];exact ih h
     exact this scope.names ef z'
    ·exact .inl z
    ·exact .inr z
 ·
  obtain⟨v,q⟩:=I.cell x c (md x c e)
  exact⟨v,q.keeps hk⟩
 ·
  show upd H D (.lst []) C=none
  rw[aB (fH XT)]
  exact I.bT.fresh hC
 ·
  have e':=md x c e
  obtain⟨v,q⟩:=I.cell x c e'
  rw[aB (bJ (cX q.lt hD))]
  exact I.fG x c e'
 ·
  obtain⟨n,e⟩:=hl
  exact I.bT.laid hk hD ⟨dg _,[],n,.nil,e⟩
 ·show(List.replicate xs.length none++cw σ idx).length=(xs++bS X.N idx).length
  rw[eN,eN,wN]
  unfold cw bS
  rw[aY,aY]
end
section
variable {X:Cx}{elt target iter:Expr}{ifs:List Expr}{scope:Scope}{pos:Pos}{xs:List Str}{idx:List Nat}{wi:TI}{g:CB->TG}{tt:CB->TT}{te:CB->TE}
theorem yD{pins:List (Addr×Obj)}{σ:St}{H2:Hp}{s2:Shared}{fp:List Addr}{it:Addr}{tn:Nat->Heap->Prop}{J:It}{Q:V->Hp->Prop}{RR:Value->Addr->Result->Shared->Prop}{E:Value->Shared->Prop}(hc:X.calm=true)(S:tO X scope xs idx)
  (hg:∀c,PG (jL X scope (xs++bS X.N idx) c) target (g c)) (ht:∀c,wI (jL X scope (xs++bS X.N idx) c) ifs (tt c)) (he:∀c,PE (jL X scope (xs++bS X.N idx) c) elt (te c))
  (I2:Inv X pins σ H2 s2) (T:Turn X.prog X.w X.K target J fp it tn) (Ia:tn 0 s2.heap) (f2:∀b∈fp,ui X pins H2 b)
  (h:∀D,H2 D=none->∃W:Nat->Nat->List V->Hp->Prop,(∃m,W 0 m [] (upd H2 D (.lst [])))/\
   ∀i m ys H',W i m ys H'->(J.stop i H'/\Q (.ref D) H')\/(J.go i H'/\∃N:List V->Hp->Prop,(∀og pY,N og pY->∃m',m'<m/\W (i+1) m' og pY)/\∀(c:CB) (own:St),own.length=xs.length->∀x H2,J.Ey i H' x H2->g c x (own++cw σ idx) H2 λσ3 H3=>
    (∃dA,dA.length=xs.length/\σ3=dA++cw σ idx)/\tt c σ3 H3 λb H4=>if b=true then te c σ3 H4 λy H5=>H5 D=some (.lst ys)/\ys.length<sizeLine/\N (ys++[y]) (upd H5 D (.lst (ys++[y]))) else N ys H4))
  (hRR:∀D C σ' H' s',s2.heap.objs.size<=C->Inv (jL X scope (xs++bS X.N idx) ⟨C,dJ X.env scope.names [],s2,H2,fp⟩) [] σ' H' s'->Q (.ref D) H'->RR (.ref D) C (.ok .next) s') :
  wpAny (model X.prog X.w) X.A (newList []) (λacc s₃=>wpAny (model X.prog X.w) X.A (newFunctionEnv scope X.env.globals (dJ X.env scope.names []) [] X.env.qual none .none (some X.env)) (λWi s₄=>
   codeAny (model X.prog X.w) X.A (.compStart (.ListComp elt [⟨target,iter,ifs,0⟩] scope pos) 0 (.ref it) acc { Wi with scope:=relabel scope X.env }) (RR acc Wi.locals) s₄) E s₃) E s2:=by
 refine jJ (wpAny_newFunctionEnv S.Ju (by intro y hy;simp at hy) (λh₁ Rc Nc=>?_) S.kind)
 dsimp only at Rc Nc ⊢
 generalize hH2:s2.heap.push { cls:=.type "list",dict:=none,data:=.seq ([]:List Value).toArray }=HH at Rc Nc ⊢
 have hCs:HH.objs.size=s2.heap.objs.size+1:=by rw[<-hH2,qM]
 have XT:s2.heap.objs.size≠HH.objs.size:=by rw[hCs];exact bJ (zh _)
 have Ru:s2.heap.objs.size<=HH.objs.size:=by rw[hCs];exact gU _
 have old:∀b o,s2.heap.get? b=some o->h₁.get? b=some o:=λb o e=>Nc.extBut b o (by rw[hCs];exact bJ (pz (bI e))) (cq _ (hH2 ▸ cq _ e))
 have J3:∃n,h₁.get? s2.heap.objs.size=some { cls:=.type "list",data:=.seq #[] n }:=⟨_,Nc.extBut _ _ XT (cq _ (hH2 ▸ dj _ rfl))⟩
 have Xa:tn 0 h₁:=T.keep _ _ _ Ia λb _ o e=>old b o e
 obtain⟨W,⟨m0,w0⟩,turn⟩:=h s2.heap.objs.size I2.fresh
 have loop:∀s₃:Shared,s₃={ s2 with heap:=h₁,toks:=s2.toks+([]:List (Str×Value)).length }->
   codeAny (model X.prog X.w) X.A (.compLoop (.ListComp elt [⟨target,iter,ifs,0⟩] scope pos) 0 (.ref it) (.ref s2.heap.objs.size) (compEnvC scope (dJ X.env scope.names []) HH.objs.size X.env)) (RR (.ref s2.heap.objs.size) HH.objs.size) s₃:=by
  rintro s₃ rfl
  have I3:=I2.block (t':=s2.toks+([]:List (Str×Value)).length) (H1:=H2) S f2 (λb hb=>let ⟨o,e,_⟩:=T.obj _ _ Ia b hb;⟨o,e⟩) Ru XT (bB _) Rc old J3
  generalize hY:jL X scope (xs++bS X.N idx) ⟨HH.objs.size,dJ X.env scope.names [],s2,H2,fp⟩=Y at I3
  have eY:Y=jL X scope (xs++bS X.N idx) ⟨HH.objs.size,dJ X.env scope.names [],s2,H2,fp⟩:=hY.symm
  have nof:∀b∈fp,b∉Y.fs:=λb hb z=>by
   rw[eY]at z
   rcases dh.mp (I2.sg b z) with q | q
   ·exact(f2 b hb).2.1 q
   ·exact(f2 b hb).2.2.1 q
  have stat:∀{H':Hp},(∀b∈fp,H' b=none)->∀b∈fp,ui Y [] H' b:=λ{H'} hn b hb=>by
   have lt:b<s2.heap.objs.size:=let ⟨o,e,_⟩:=T.obj _ _ Ia b hb;bI e
   refine⟨hn b hb,?_,nof b hb,.inl (by rw[eY];exact hb),λx c e=>?_,λp hp=>?_⟩
   ·rw[eY];exact bJ (cX lt Ru)
   ·rw[eY]at e
    have t7:=oY (env:=X.env) scope.names [] (λy hy e=>I2.ok.has y.1 (S.free y hy e).2) (λp hp=>nomatch hp)
    exact(f2 b hb).2.2.2.2.1 x c (t7 (x,c) (lI e))
   ·rw[eY]at hp;exact nomatch hp
  have T':Turn Y.prog Y.w Y.K target J fp it tn:=by rw[eY];exact T
  have hg':PG Y target (g ⟨HH.objs.size,dJ X.env scope.names [],s2,H2,fp⟩):=by rw[eY];exact hg _
  have Xq:wI Y ifs (tt ⟨HH.objs.size,dJ X.env scope.names [],s2,H2,fp⟩):=by rw[eY];exact ht _
  have he':PE Y elt (te ⟨HH.objs.size,dJ X.env scope.names [],s2,H2,fp⟩):=by rw[eY];exact he _
  have hcY:Y.calm=true:=by rw[eY];exact hc
  have eA:Y.A=X.A:=by rw[eY]
  have eP:Y.prog=X.prog:=by rw[eY]
  have eW:Y.w=X.w:=by rw[eY]
  have eE:Y.env=compEnvC scope (dJ X.env scope.names []) HH.objs.size X.env:=by rw[eY]
  have eX:Y.xe=λ_ _=>False:=by rw[eY]
  have fin:∀σ' H' s',Inv Y [] σ' H' s'->Q (.ref s2.heap.objs.size) H'->RR (.ref s2.heap.objs.size) HH.objs.size (.ok .next) s':=λσ' H' s' I' q=>hRR _ _ σ' H' s' Ru (by rw[<-eY];exact I') q
  rw[<-eE,<-eA,<-eP,<-eW]
  have fr0:∀b∈fp,(upd H2 s2.heap.objs.size (.lst [])) b=none:=λb hb=>by
   have lt:b<s2.heap.objs.size:=let ⟨o,e,_⟩:=T.obj _ _ Ia b hb;bI e
   rw[aB (bJ lt)];exact(f2 b hb).1
  refine kF (λn s'=>∃i ys own H',own.length=xs.length/\Inv Y [] (own++cw σ idx) H' s'/\tn i s'.heap/\(∀b∈fp,H' b=none)/\W i n ys H') ?_ m0
   ⟨0,[],_,_,wN,I3,Xa,fr0,w0⟩
  rintro n s4 ⟨i,ys,own,H4,aAP,I4,st4,fr4,w4⟩
  rcases turn i n ys H4 w4 with ⟨stop,qn⟩ | ⟨go,NN,hNN,step⟩
  ·exact cA (T'.done Y rfl rfl rfl hcY i [] s4 _ H4 _ I4 (stat fr4) st4 stop) λr s5 ⟨hr,I5⟩=>by subst hr;exact fin _ _ _ I5 qn
  ·refine cA (T'.item Y rfl rfl rfl hcY i [] s4 _ H4 _ I4 (stat fr4) st4 go) λr s5 ⟨u,hr,h5⟩=>?_
   subst hr
   refine cA h5 λ_ s6 ⟨x,H6,I6,r6,y6,Yw,fr6⟩=>?_
   have I6':=I6.pinned (stat fr6) (T'.obj _ _ Yw)
   have step':=step ⟨HH.objs.size,dJ X.env scope.names [],s2,H2,fp⟩ own aAP x H6 y6
   refine cP (hg' _ s6 _ H6 x u _ I6' r6 step') (λ_ s7 ⟨σ7,H7,I7,q7⟩=>?_) (λ_ _ z=>by rw[eX]at z;exact z)
   obtain⟨⟨ZK,ho7,e7⟩,q7⟩:=q7
   refine cP (Xq _ s7 σ7 H7 _ I7 q7) (λb s8 ⟨H8,I8,q8⟩=>?_) (λ_ _ z=>by rw[eX]at z;exact z)
   have again:∀{H9:Hp} {s9:Shared} {og:List V},Inv Y ([]++sk fp s6.heap) σ7 H9 s9->NN og H9->∃m,m<n/\∃i ys own H',own.length=xs.length/\Inv Y [] (own++cw σ idx) H' s9/\tn i s9.heap/\(∀b∈fp,H' b=none)/\W i m ys H':=λ{H9 s9 og} I9 n9=>by
    obtain⟨m',hm,w9⟩:=hNN _ _ n9
    rw[e7]at I9
    refine⟨m',hm,i+1,og,ZK,H9,ho7,I9.nA,T'.keep _ _ _ Yw λb hb o e=>(I9.pin (b,o) (iD _ (iD _ (jA hb e)))).1,λb hb=>?_,w9⟩
    obtain⟨o,e,d⟩:=T'.obj _ _ Yw b hb
    exact(I9.pin (b,o) (iD _ (iD _ (jA hb e)))).2.1
   cases b with
   | false=>exact again I8 q8
   | true=>
    refine cP (he' _ s8 σ7 H8 _ I8 q8) (λu9 s9 ⟨y,H9,I9,r9,hy,hz,q9⟩=>?_) (λ_ _ z=>by rw[eX]at z;exact z)
    have ap:=gR (X:=Y) _ s9 σ7 H9 (.ref s2.heap.objs.size) [y] (.ref s2.heap.objs.size) [u9] (λ_ Sr=>NN (ys++[y]) Sr) I9 rfl (.cons r9 .nil) ⟨_,ys,y,rfl,rfl,hy,hz,q9⟩
    refine cP ap (λ_ s10 ⟨_,Sr,I10,_,q10⟩=>again I10 q10) (λ_ _ z=>by rw[eX]at z;exact z)
 exact codeAny_compStart_list (loop _ rfl) (T.self _ 0 _ _ _ Xa (loop _ rfl))
theorem Mv(hc:X.calm=true)(S:tO X scope xs idx)(hi:PI X target iter wi)
  (hg:∀c,PG (jL X scope (xs++bS X.N idx) c) target (g c)) (ht:∀c,wI (jL X scope (xs++bS X.N idx) c) ifs (tt c)) (he:∀c,PE (jL X scope (xs++bS X.N idx) c) elt (te c))
  (hs:∀x,foldedSetIterable iter X.env x=pure x:=by intro _;rfl):PE X (.ListComp elt [⟨target,iter,ifs,0⟩] scope pos) (se wi xs.length idx g tt te):=by
 intro pins s σ H Q I h
 rw[eval_ListComp]
 have J0:closureFor scope X.env=pure (dJ X.env scope.names []):=jq λy hy e=>I.ok.has y.1 (S.free y hy e).2
 refine wpAny_comprehension_free (use:=none) rfl hs J0 S.kind S.loc (cA (hi pins s σ H _ I h) λxv s₁ h₁=>cA h₁ λXm s₂ h₂=>?_)
 obtain⟨it,fp,tn,J,H2,e,I2,T,Ia,f2,hW⟩:=h₂
 subst e
 refine yD (Q:=Q) (RR:=λacc C=>compPost (model X.prog X.w) X.A X.xe none (EP X pins σ Q) acc C) hc S hg ht he I2 T Ia f2 hW ?_
 intro D C σ' H' s' hC I' q
 obtain⟨m',hn,_⟩:=I'.loc
 refine⟨m',hn,λh'' Ve=>?_⟩
 obtain⟨hh,gg,d,t,os⟩:=s'
 obtain rfl:os=s₂.os:=I'.os
 have Cn:s₂.heap.get? C=none:=uw hC
 refine⟨.ref D,H',I2.call (s:=s₂) (h':=h'') (g':=gg) (d':=d) (t':=t) (ch:=fp) (I'.base.but Cn Ve) (I'.bT.but I'.free Ve) I'.bare (λb hb=>?_),rfl,q⟩
 obtain⟨_,f1,_,f3,f4,f5⟩:=f2 b hb
 exact⟨f3,f1,f4,f5⟩
end
theorem BV{lo:Int}{n k:Nat}{idx:List Nat}{g:CB->TG}{tt:CB->TT}{te:CB->TE}{σ:St}{Q:VK}{H1:Hp}{D:Addr}(Pv:Nat->List V->Hp->Prop)(h0:Pv 0 [] (upd H1 D (.lst [])))
  (hs:∀i ys H,i<n->Pv i ys H->∀(c:CB) (own:St),own.length=k->g c (.int (lo+i)) (own++cw σ idx) H λσ3 H3=>
   (∃dA,dA.length=k/\σ3=dA++cw σ idx)/\tt c σ3 H3 λb H4=>if b=true then te c σ3 H4 λy H5=>H5 D=some (.lst ys)/\ys.length<sizeLine/\Pv (i+1) (ys++[y]) (upd H5 D (.lst (ys++[y]))) else Pv (i+1) ys H4)
  (hd:∀ys H,Pv n ys H->Q (.ref D) H) :
  ∃W:Nat->Nat->List V->Hp->Prop,(∃m,W 0 m [] (upd H1 D (.lst [])))/\
   ∀i m ys H',W i m ys H'->((Cv lo n).stop i H'/\Q (.ref D) H')\/((Cv lo n).go i H'/\∃N:List V->Hp->Prop,(∀og pY,N og pY->∃m',m'<m/\W (i+1) m' og pY)/\∀(c:CB) (own:St),own.length=k->∀x H2,(Cv lo n).Ey i H' x H2->g c x (own++cw σ idx) H2 λσ3 H3=>
    (∃dA,dA.length=k/\σ3=dA++cw σ idx)/\tt c σ3 H3 λb H4=>if b=true then te c σ3 H4 λy H5=>H5 D=some (.lst ys)/\ys.length<sizeLine/\N (ys++[y]) (upd H5 D (.lst (ys++[y]))) else N ys H4):=by
 refine⟨λi m ys H=>m=n-i/\i<=n/\Pv i ys H,⟨n,by simp,dg _,h0⟩,?_⟩
 rintro i m ys H ⟨rfl,hi,p⟩
 by_cases gS:i<n
 ·refine .inr ⟨gS,Pv (i+1),λog H' p'=>⟨n-(i+1),by omega,rfl,gS,p'⟩,λc own ho x H' y=>?_⟩
  obtain⟨e,y⟩:=y
  subst e y
  exact hs i ys _ gS p c own ho
 ·have e:i=n:=by omega
  subst e
  exact .inl ⟨bB _,hd ys H p⟩
theorem Gu{K:PySem.W.Frag}{a:Addr}{zs:List V}{k:Nat}{idx:List Nat}{g:CB->TG}{tt:CB->TT}{te:CB->TE}{σ:St}{Q:VK}{H1:Hp}{D:Addr}(Pv:Nat->List V->Hp->Prop)(h0:Pv 0 [] (upd H1 D (.lst [])))
  (hl:∀i ys H,i<=zs.length->Pv i ys H->lG K H a zs)
  (hs:∀i x ys H,zs[i]?=some x->Pv i ys H->∀(c:CB) (own:St),own.length=k->g c x (own++cw σ idx) H λσ3 H3=>
   (∃dA,dA.length=k/\σ3=dA++cw σ idx)/\tt c σ3 H3 λb H4=>if b=true then te c σ3 H4 λy H5=>H5 D=some (.lst ys)/\ys.length<sizeLine/\Pv (i+1) (ys++[y]) (upd H5 D (.lst (ys++[y]))) else Pv (i+1) ys H4)
  (hd:∀ys H,Pv zs.length ys H->Q (.ref D) H) :
  ∃W:Nat->Nat->List V->Hp->Prop,(∃m,W 0 m [] (upd H1 D (.lst [])))/\
   ∀i m ys H',W i m ys H'->((GQ K a).stop i H'/\Q (.ref D) H')\/((GQ K a).go i H'/\∃N:List V->Hp->Prop,(∀og pY,N og pY->∃m',m'<m/\W (i+1) m' og pY)/\∀(c:CB) (own:St),own.length=k->∀x H2,(GQ K a).Ey i H' x H2->g c x (own++cw σ idx) H2 λσ3 H3=>
    (∃dA,dA.length=k/\σ3=dA++cw σ idx)/\tt c σ3 H3 λb H4=>if b=true then te c σ3 H4 λy H5=>H5 D=some (.lst ys)/\ys.length<sizeLine/\N (ys++[y]) (upd H5 D (.lst (ys++[y]))) else N ys H4):=by
 refine⟨λi m ys H=>m=zs.length-i/\i<=zs.length/\Pv i ys H,⟨zs.length,by simp,dg _,h0⟩,?_⟩
 rintro i m ys H ⟨rfl,hi,p⟩
 have q:=hl i ys H hi p
 by_cases gS:i<zs.length
 ·refine .inr ⟨⟨zs,zs[i],q,by simp[gS]⟩,Pv (i+1),λog H' p'=>⟨zs.length-(i+1),by omega,rfl,gS,p'⟩,λc own ho x H' y=>?_⟩
  obtain⟨e,y⟩:=y
  subst e
  exact hs i x ys _ (y zs q) p c own ho
 ·have e:i=zs.length:=by omega
  subst e
  exact .inl ⟨⟨zs,q,bB _⟩,hd ys H p⟩
theorem Mz{own:St}{k:St}{x:V}(h:own.length=1):(own++k).set 0 (some x)=[some x]++k:=by
 match own,h with
 | [_],_=>rfl
theorem yE{lo:Int}{n:Nat}{idx:List Nat}{tt:CB->TT}{te:CB->TE}{σ:St}{Q:VK}{H1:Hp}{D:Addr}(Pv:Nat->List V->Hp->Prop)(h0:Pv 0 [] (upd H1 D (.lst [])))
  (hs:∀i ys H,i<n->Pv i ys H->∀(c:CB),tt c (some (.int (lo+i))::cw σ idx) H λb H4=>if b=true then te c (some (.int (lo+i))::cw σ idx) H4 λy H5=>H5 D=some (.lst ys)/\ys.length<sizeLine/\Pv (i+1) (ys++[y]) (upd H5 D (.lst (ys++[y]))) else Pv (i+1) ys H4)
  (hd:∀ys H,Pv n ys H->Q (.ref D) H) :
  ∃W:Nat->Nat->List V->Hp->Prop,(∃m,W 0 m [] (upd H1 D (.lst [])))/\
   ∀i m ys H',W i m ys H'->((Cv lo n).stop i H'/\Q (.ref D) H')\/((Cv lo n).go i H'/\∃N:List V->Hp->Prop,(∀og pY,N og pY->∃m',m'<m/\W (i+1) m' og pY)/\∀(c:CB) (own:St),own.length=1->∀x H2,(Cv lo n).Ey i H' x H2->eH 0 x (own++cw σ idx) H2 λσ3 H3=>
    (∃dA,dA.length=1/\σ3=dA++cw σ idx)/\tt c σ3 H3 λb H4=>if b=true then te c σ3 H4 λy H5=>H5 D=some (.lst ys)/\ys.length<sizeLine/\N (ys++[y]) (upd H5 D (.lst (ys++[y]))) else N ys H4):=
 BV (g:=λ_=>eH 0) Pv h0 (λi ys H hi p c own ho=>by
  show(∃dA,dA.length=1/\(own++cw σ idx).set 0 _=dA++cw σ idx)/\tt c ((own++cw σ idx).set 0 _) H _
  rw[Mz ho]
  exact⟨⟨[_],rfl,rfl⟩,hs i ys H hi p c⟩) hd
theorem BW{K:PySem.W.Frag}{a:Addr}{zs:List V}{idx:List Nat}{tt:CB->TT}{te:CB->TE}{σ:St}{Q:VK}{H1:Hp}{D:Addr}(Pv:Nat->List V->Hp->Prop)(h0:Pv 0 [] (upd H1 D (.lst [])))
  (hl:∀i ys H,i<=zs.length->Pv i ys H->lG K H a zs)
  (hs:∀i x ys H,zs[i]?=some x->Pv i ys H->∀(c:CB),tt c (some x::cw σ idx) H λb H4=>if b=true then te c (some x::cw σ idx) H4 λy H5=>H5 D=some (.lst ys)/\ys.length<sizeLine/\Pv (i+1) (ys++[y]) (upd H5 D (.lst (ys++[y]))) else Pv (i+1) ys H4)
  (hd:∀ys H,Pv zs.length ys H->Q (.ref D) H) :
  ∃W:Nat->Nat->List V->Hp->Prop,(∃m,W 0 m [] (upd H1 D (.lst [])))/\
   ∀i m ys H',W i m ys H'->((GQ K a).stop i H'/\Q (.ref D) H')\/((GQ K a).go i H'/\∃N:List V->Hp->Prop,(∀og pY,N og pY->∃m',m'<m/\W (i+1) m' og pY)/\∀(c:CB) (own:St),own.length=1->∀x H2,(GQ K a).Ey i H' x H2->eH 0 x (own++cw σ idx) H2 λσ3 H3=>
    (∃dA,dA.length=1/\σ3=dA++cw σ idx)/\tt c σ3 H3 λb H4=>if b=true then te c σ3 H4 λy H5=>H5 D=some (.lst ys)/\ys.length<sizeLine/\N (ys++[y]) (upd H5 D (.lst (ys++[y]))) else N ys H4):=
 Gu (g:=λ_=>eH 0) Pv h0 hl (λi x ys H hi p c own ho=>by
  show(∃dA,dA.length=1/\(own++cw σ idx).set 0 _=dA++cw σ idx)/\tt c ((own++cw σ idx).set 0 _) H _
  rw[Mz ho]
  exact⟨⟨[_],rfl,rfl⟩,hs i x ys H hi p c⟩) hd
def sW(z:Str)(lo hi:Option Int):Str:=⟨((z.cps.toList.drop (HT.cH z.length 0 lo)).take (HT.cH z.length z.length hi-HT.cH z.length 0 lo)).toArray⟩
theorem sf(lo hi:Option Int)(n:Nat):Builtin.Str.strSliceIndices lo hi 1 n=sliceRange ((HT.cH n 0 lo:Nat):Int) ((HT.cH n n hi:Nat):Int) 1:=by
 obtain⟨h1,h2,h3⟩:=nB lo hi n
 rw[<-h1,<-h2]
 cases lo <;> cases hi <;> simp[Builtin.Str.strSliceIndices,sliceBounds]
theorem Lr{a b:Str}(h:a.cps.toList=b.cps.toList):a=b:=by
 obtain⟨x⟩:=a;obtain⟨y⟩:=b
 have:x=y:=Array.toList_inj.mp h
 rw[this]
theorem ud(x:Str)(lo hi:Option Int):Txt.slice x lo hi=sW x lo hi:=by
 have hl:x.cps.toList.length=x.length:=by simp[Str.length]
 have e:(Builtin.Str.strSliceIndices lo hi 1 x.length).filterMap (x.cps[·]?)=(x.cps.toList.drop (HT.cH x.length 0 lo)).take (HT.cH x.length x.length hi-HT.cH x.length 0 lo):=by
  rw[sf,sliceRange_one,pick_run]
 have el:(Builtin.Str.strSliceIndices lo hi 1 x.length).length=HT.cH x.length x.length hi-HT.cH x.length 0 lo:=by
  rw[sf,sliceRange_one,aY,ur]
 unfold Txt.slice
 rw[e,el]
 have hj:HT.cH x.length x.length hi<=x.length:=HT.Ir _ _ (bB _) hi
 by_cases h:HT.cH x.length x.length hi-HT.cH x.length 0 lo=x.length
 ·have hb:((1:Int)==1&&HT.cH x.length x.length hi-HT.cH x.length 0 lo==x.length)=true:=by rw[h];simp
  rw[aI hb]
  refine Lr ?_
  unfold sW
  by_cases hx:x.length=0
  ·have e0:x.cps.toList=[]:=zL (by lia)
   rw[e0];simp
  ·have h0:HT.cH x.length 0 lo=0:=by lia
   rw[h,h0,vz,<-hl,jf]
 ·have hb:¬((1:Int)==1&&HT.cH x.length x.length hi-HT.cH x.length 0 lo==x.length)=true:=by simpa using h
  rw[aE hb]
  rfl
theorem sO{v:Value}{o:Option Int}(h:IsPart v o):∃p:Option (Int×Tok),v=partValue p/\p.map (·.1)=o:=by
 cases h with
 | none=>exact⟨none,rfl,rfl⟩
 | int i t=>exact⟨some (i,t),rfl,rfl⟩
theorem bH{n:Nat}(h:n<=1000):n<=sizeLine:=pd (vG h (by decide))
section
variable {X:Cx}
def T4:V->Option Int->Option Int->Hp->VK->Prop:=λx lo hi H Q=>∃z,x=.str z/\z.length<=sizeLine/\Q (.str (sW z lo hi)) H
theorem PJ:K3 X T4:=by
 intro pins s σ H x v vl vu lo hi sl Q I rx hs pl pu h
 obtain⟨z,rfl,hz,q⟩:=h
 obtain⟨t,rfl⟩:=rx
 obtain⟨pl',rfl,el⟩:=sO pl
 obtain⟨pu',rfl,eu⟩:=sO pu
 refine⟨"str",_,F.slot_str_getitem.lookup,typeIs_str _ _ _,wpAny_getItem_str_slice (l:=pl') (u:=pu') (st:=none) hs rfl ?_⟩
 unfold sliceMade slicePicked
 rw[el,eu]
 refine post_val_or_str ⟨?_,λt' k=>?_⟩
 ·exact fF (Txt.slice_le z lo hi) hz
 ·exact⟨.str (sW z lo hi),H,I.tok _,⟨t',by rw[<-ud];rfl⟩,q⟩
theorem Ls{ss:List Str}:∀{us:List Value},Vals (ss.map V.str) us->∃l:List (Str×Tok),us=strValues l/\l.map (·.1)=ss:=by
 induction ss with
 | nil=>intro us r;cases r;exact⟨[],rfl,rfl⟩
 | cons z ss ih=>
  intro us r
  rw[eB]at r
  cases r with
  | cons r1 r2=>
   obtain⟨t,rfl⟩:=r1
   obtain⟨l,rfl,e⟩:=ih r2
   exact⟨(z,t)::l,rfl,by rw[eB,e]⟩
def rJoin(K:PySem.W.Frag):V->List V->Hp->VK->Prop:=λx vs H Q=>∃sep a ss,x=.str sep/\vs=[.ref a]/\lG K H a (ss.map V.str)/\JoinOk sep ss=true/\Q (.str (Txt.join sep ss)) H
theorem M5:Sl X "str.join" (rJoin X.K):=by
 intro pins s σ H x vs v us Q I rx rv h
 obtain⟨sep,a,ss,rfl,rfl,hq,bT,q⟩:=h
 obtain⟨t,rfl⟩:=rx
 obtain⟨u,rfl,ru⟩:=rv.one
 cases ru
 obtain⟨its,r,pl,hz⟩:=I.list hq
 obtain⟨l,rfl,e⟩:=Ls r
 exact SC.join pl.isList e bT λt' k=>⟨.str (Txt.join sep ss),H,I.tok _,⟨t',rfl⟩,q⟩
theorem zZ{ss:List Str}:∀{us:List Value},Vals (ss.map V.str) us->StrsAre us ss:=by
 induction ss with
 | nil=>intro us r;cases r;exact .nil
 | cons z ss ih=>
  intro us r
  rw[eB]at r
  cases r with
  | cons r1 r2=>obtain⟨t,rfl⟩:=r1;exact .cons z t (ih r2)
theorem uE:∀{us:List Value} {ss:List Str},StrsAre us ss->Vals (ss.map V.str) us
 | _,_,.nil=>.nil
 | _,_,.cons x t r=>.cons ⟨t,rfl⟩ (uE r)
theorem Kr(c:Value):cC X (.builtin "isinstance") (λvs H Q=>∃x t b n,vs=[x,.ty n]/\jr X.K H x t/\PySem.W.kitOne X.K t (.type n)=some b/\Q (.bl b) H):=by
 intro pins s σ H vs us Q I rv h
 obtain⟨x,t,b,n,rfl,ty,e,q⟩:=h
 obtain⟨u,v,rfl,ru,rv'⟩:=rv.two
 obtain rfl:v=Value.type n:=rv'
 exact Gb I ru ty e λtk=>⟨.bl b,H,I.tok _,rfl,q⟩
def V2(xs ys:List V):Bool:=xs.length==ys.length&&(List.range xs.length).all λj=>Ea (xs.getD j .non) (ys.getD j .non)
end
section
variable {X:Cx}{elt target iter:Expr}{ifs:List Expr}{scope:Scope}{pos spos py:Pos}{xs:List Str}{idx:List Nat}{wi:TI}{g:CB->TG}{tt:CB->TT}{te:CB->TE}
theorem Mj{i:Nat}{y:Str}(hN:X.N.Nodup)(hi0:X.N[i]?=some y)(hy:X.env.scope.names.lookup y=some .local)(hc:X.calm=true)(S:tO X scope xs idx)(hi:PI X target iter wi)
  (hg:∀c,PG (jL X scope (xs++bS X.N idx) c) target (g c)) (ht:∀c,wI (jL X scope (xs++bS X.N idx) c) ifs (tt c)) (he:∀c,PE (jL X scope (xs++bS X.N idx) c) elt (te c))
  (hsw:swapsWith (.ListComp elt [⟨target,iter,ifs,0⟩] scope pos) (some (.Name y py)) spos.line X.env=pure true:=by rfl)
  (hs:∀x,foldedSetIterable iter X.env x=pure x:=by intro _;rfl):PS X (.Assign [.Name y py] (.ListComp elt [⟨target,iter,ifs,0⟩] scope pos) spos) (vT (se wi xs.length idx g tt te) (eH i)):=by
 intro pins s σ H D I h
 have J0:closureFor scope X.env=pure (dJ X.env scope.names []):=jq λy hy e=>I.ok.has y.1 (S.free y hy e).2
 rw[exec_Assign_Name_used _ _ _ _ hsw]
 refine au (mz (au ?_))
 show wpAny _ X.A (do let _ <-comprehension (.ListComp elt [⟨target,iter,ifs,0⟩] scope pos) scope X.env _ (newList []) false (eval iter X.env) (some (assign (.Name y py) X.env))) _ _ s
 refine au (cP (wpAny_comprehension_free (use:=some (assign (.Name y py) X.env)) (Q:=λ_ s'=>SP X pins D .next s') rfl hs J0 S.kind S.loc
  (cA (hi pins s σ H _ I h) λxv s₁ h₁=>cA h₁ λXm s₂ h₂=>?_)) (λ_ s' hq=>aM (aM hq)) λ_ _ e=>e)
 obtain⟨it,fp,tn,J,H2,e,I2,T,Ia,f2,hW⟩:=h₂
 subst e
 refine yD (Q:=λv H'=>eH i v σ H' D.nx) (RR:=λacc C=>compPost (model X.prog X.w) X.A X.xe (some (assign (.Name y py) X.env)) (λ_ s'=>SP X pins D .next s') acc C) hc S hg ht he I2 T Ia f2 hW ?_
 intro DD C σ' H' s' hC I' q
 show wpAny _ X.A (assign (.Name y py) X.env (.ref DD)) _ _ _
 obtain⟨hh,gg,d,t,os⟩:=s'
 obtain rfl:os=s₂.os:=I'.os
 have Cn:s₂.heap.get? C=none:=uw hC
 have I3:Inv X pins σ H' { s₂ with heap:=hh,gens:=gg,drawn:=d,toks:=t }:=I2.call (s:=s₂) (h':=hh) (g':=gg) (d':=d) (t':=t) (ch:=fp) (I'.base.but Cn (Heap.SameBut.refl _ _)) I'.bT I'.bare (λb hb=>by
  obtain⟨_,f1,_,f3,f4,f5⟩:=f2 b hb
  exact⟨f3,f1,f4,f5⟩)
 obtain⟨m',hn,_⟩:=I'.loc
 have hLC:X.env.locals≠C:=bJ (cX I2.lt hC)
 refine wpAny_assign_Name (uI I3 hN hi0 (.inl hy) (v:=.ref DD) rfl (λLz I4 ⟨a,hs4,ha⟩=>?_) (.inr hy))
 have haC:C≠a:=by
  rcases ha with e | e
  ·rw[e];exact fH hLC
  ·obtain⟨v,q⟩:=I2.cell y a e
   exact pe (cX q.lt hC)
 refine⟨m',hn.sameBut hs4 haC,λh3 hs3=>?_⟩
 obtain⟨hh4,gg4,d4,t4,os4⟩:=Lz
 have I5:Inv X pins (σ.set i (some (.ref DD))) H' { heap:=h3,gens:=gg4,drawn:=d4,toks:=t4,os:=os4 }:=
  I4.turned (s:={ heap:=hh4,gens:=gg4,drawn:=d4,toks:=t4,os:=os4 }) (h':=h3) (t':=t4) (it:=C) (λb o hb e=>(hs3.2 b hb).trans e) I'.free (fH hLC) (.inr (fF I2.sz hC)) (λx c e z=>by
   obtain⟨v,q⟩:=I2.cell x c e
   exact absurd (cX q.lt hC) (by rw[z];exact jI _)) (λp hp z=>by
   have:=(I2.pin p hp).1
   rw[z,Cn]at this;cases this)
 exact⟨_,H',I5,q⟩
end
def Gs(jk:Scope)(N:List Str)(scope:Scope)(idx:List Nat):Bool:=
 scope.kind == .function&&scope.names.all (λy=>y.2 != .cell)&&scope.names.all (λy=>y.2 != .local||scope.names.lookup y.1==some .local) &&
 scope.names.all (λy=>y.2 != .free||(scope.names.lookup y.1==some .free&&(jk.names.lookup y.1==some .cell||jk.names.lookup y.1==some .free))) &&
 idx.all (λi=>match N[i]? with | some y=>scope.names.lookup y==some .free | none=>false)
theorem u5{X:Cx}{scope:Scope}{xs:List Str}{idx:List Nat}{jk:Scope}{N:List Str}(h:Gs jk N scope idx=true)(e1:X.env.scope=jk:=by rfl)(e2:X.N=N:=by rfl):tO X scope xs idx:=by
 unfold Gs at h
 simp only[dW]at h
 refine hide λgG hG=>?_
 obtain⟨⟨⟨⟨h1,h2⟩,h3⟩,h4⟩,h5⟩:=h
 refine hG ?_
 refine⟨by simpa using h1,λy hy e=>?_,λy hy e=>?_,λy hy e=>?_,λi hi=>?_⟩
 ·have:=qS.mp h2 y hy
  rw[e]at this;exact absurd this (by decide)
 ·have:=qS.mp h3 y hy
  rw[e]at this;simpa using this
 ·have:=qS.mp h4 y hy
  rw[e]at this
  have t:(scope.names.lookup y.1==some NameKind.free&&(jk.names.lookup y.1==some .cell||jk.names.lookup y.1==some .free))=true:=by simpa using this
  rw[dW,Bool.or_eq_true]at t
  refine⟨by simpa using t.1,?_⟩
  show X.env.scope.names.lookup y.1=_\/X.env.scope.names.lookup y.1=_
  rw[e1]
  exact t.2.imp (by simp) (by simp)
 ·have:=qS.mp h5 i hi
  rw[e2]
  cases e:N[i]? with
  | none=>rw[e]at this;cases this
  | some y=>rw[e]at this;exact⟨y,rfl,by simpa using this⟩
theorem vi{α:Type}(a:α)(xs:List α):m6 (a::xs) 0=some a:=eK (j:=0) rfl
theorem tF{α:Type}(a b:α)(xs:List α):m6 (a::b::xs) 1=some b:=eK (j:=1) rfl
theorem yU{α:Type}(a b c:α)(xs:List α):m6 (a::b::c::xs) 2=some c:=eK (j:=2) rfl
theorem Ej{α:Type}(a b c d:α)(xs:List α):m6 (a::b::c::d::xs) 3=some d:=eK (j:=3) rfl
theorem WR{α:Type}(a b c d e:α)(xs:List α):m6 (a::b::c::d::e::xs) 4=some e:=eK (j:=4) rfl
theorem WQ{α:Type}(a b c d e f:α)(xs:List α):m6 (a::b::c::d::e::f::xs) 5=some f:=eK (j:=5) rfl
theorem Q6:Bo 6 1=some 1:=rfl
theorem Q5:Bo 6 2=some 2:=rfl
theorem Q0:Bo 6 3=some 3:=rfl
theorem QZ:Bo 6 4=some 4:=rfl
theorem QX:Bo 6 5=some 5:=rfl
theorem Ef(i:Int):jH i 48271/\jH i 40693/\jH i 3/\jH i 4294967296:=⟨.inr ⟨by decide,by decide⟩,.inr ⟨by decide,by decide⟩,.inr ⟨by decide,by decide⟩,.inr ⟨by decide,by decide⟩⟩
theorem Wh(i:Int):jH i 48271:=(Ef i).1
theorem Wg(i:Int):jH i 40693:=(Ef i).2.1
theorem Wf(i:Int):jH i 3:=(Ef i).2.2.1
theorem Wd(i:Int):jH i 4294967296:=(Ef i).2.2.2
theorem Eg(i:Int):jH 5 i/\jH 3 i/\jH 7 i/\jH 10 i:=⟨.inl ⟨by decide,by decide⟩,.inl ⟨by decide,by decide⟩,.inl ⟨by decide,by decide⟩,.inl ⟨by decide,by decide⟩⟩
theorem RT(i:Int):jH 5 i:=(Eg i).1
theorem RQ(i:Int):jH 3 i:=(Eg i).2.1
theorem RP(i:Int):jH 7 i:=(Eg i).2.2.1
theorem RN(i:Int):jH 10 i:=(Eg i).2.2.2
theorem Kn:Sw 10 18:=⟨by decide,by decide,by decide⟩
def Pp(t u:TS):TS:=λD σ H=>∃N:St->Hp->Prop,t { D with nx:=N } σ H/\∀σ' H',N σ' H'->u D σ' H'
theorem Mg{X:Cx}{st:Stmt}{rest:List Stmt}{t u:TS}(h1:PS X st t)(h2:tP X rest u):tP X (st::rest) (Pp t u):=by
 intro pins s σ H D I ⟨N,hn,hu⟩
 refine wpAny_execs_cons (cA (h1 pins s σ H { D with nx:=N } I hn) λf s1 q=>?_)
 cases f with
 | next=>
  refine hide λgG hG=>?_
  obtain⟨σ',H',I',q⟩:=q
  refine hG ?_
  exact h2 pins s1 σ' H' D I' (hu σ' H' q)
 | ret v=>exact q
 | brk=>exact q
 | cont=>exact q
theorem Kw{ns:List Int}{k:Int}(h0:0<=k)(h:k<(ns.length:Int)):∃v:Int,m6 (ns.map V.int) k=some (.int v):=by
 have hk:k.toNat<ns.length:=by lia
 have ek:k=((k.toNat:Nat):Int):=by lia
 have q:m6 (ns.map V.int) ((k.toNat:Nat):Int)=some (.int ns[k.toNat]):=eK (by rw[cW,cD hk] <;> rfl)
 rw[<-ek]at q
 exact⟨_,q⟩
section
variable {X:Cx}
theorem jb.imp{f:Value->Value->Sem Value}{r r':R2}(h:jb X f r)(i:∀x y H Q,r' x y H Q->r x y H Q):jb X f r':=λpins s σ H x y v u Q I rx ry q=>h pins s σ H x y v u Q I rx ry (i _ _ _ _ q)
theorem KD.imp{r r':R2}(h:KD X r)(i:∀x y H Q,r' x y H Q->r x y H Q):KD X r':=λvalue slice pins s σ H x y v u Q I rx ry q hs=>h value slice pins s σ H x y v u Q I rx ry (i _ _ _ _ q) hs
theorem cC.imp{f:Value}{r r':List V->Hp->VK->Prop}(h:cC X f r)(i:∀x H Q,r' x H Q->r x H Q):cC X f r':=λpins s σ H vs us Q I rv q=>h pins s σ H vs us Q I rv (i _ _ _ q)
theorem Sl.imp{id:String}{r r':V->List V->Hp->VK->Prop}(h:Sl X id r)(i:∀x xs H Q,r' x xs H Q->r x xs H Q):Sl X id r':=λpins s σ H x xs v us Q I rx rv q=>h pins s σ H x xs v us Q I rx rv (i _ _ _ _ q)
theorem K3.imp{r r':V->Option Int->Option Int->Hp->VK->Prop}(h:K3 X r)(i:∀x lo hi H Q,r' x lo hi H Q->r x lo hi H Q):K3 X r':=λpins s σ H x v vl vu lo hi sl Q I rx hs pl pu q=>h pins s σ H x v vl vu lo hi sl Q I rx hs pl pu (i _ _ _ _ _ q)
theorem bD{K:PySem.W.Frag}{H:Hp}{a:Addr}{xs:List V}(h:H a=some (.lst xs)):lG K H a xs:=lG.of h
theorem fM{K:PySem.W.Frag}{H:Hp}{a:Addr}{xs:List V}(h:H a=some (.tup xs)):pX K H a xs:=pX.of h
def Qa:R2:=λx y H Q=>∃p i,x=.ref p/\y=.int i/\∃xs,H p=some (.lst xs)/\∃v,m6 xs i=some v/\Q v H
theorem gy:KD X Qa:=M8.imp λx y H Q ⟨p,i,e1,e2,xs,h,v,e3,q⟩=>⟨p,xs,i,v,e1,e2,bD h,e3,q⟩
def Ud:R2:=λx y H Q=>∃p i,x=.ref p/\y=.int i/\∃xs,H p=some (.tup xs)/\∃v,m6 xs i=some v/\Q v H
theorem mM:KD X Ud:=QV.imp λx y H Q ⟨p,i,e1,e2,xs,h,v,e3,q⟩=>⟨p,xs,i,v,e1,e2,fM h,e3,q⟩
def Ue:R2:=λx y H Q=>∃z i,x=.str z/\y=.int i/\z.length<=sizeLine/\∃c,m6 z.cps.toList i=some c/\Q (.str ⟨#[c]⟩) H
theorem U9:KD X Ue:=QW.imp λx y H Q ⟨z,i,e1,e2,hz,c,e3,q⟩=>⟨z,i,c,e1,e2,hz,e3,q⟩
def Ub:V->Option Int->Option Int->Hp->VK->Prop:=λx lo hi H Q=>∃a,x=.ref a/\∃xs,H a=some (.lst xs)/\∀p,H p=none->Q (.ref p) (upd H p (.lst (iX xs lo hi)))
theorem TK:K3 X Ub:=Dc.imp λx lo hi H Q ⟨a,e,xs,h,q⟩=>⟨a,xs,e,bD h,q⟩
def Ua:V->Option Int->Option Int->Hp->VK->Prop:=λx lo hi H Q=>∃a,x=.ref a/\∃xs,H a=some (.tup xs)/\¬(HT.cH xs.length 0 lo=0/\HT.cH xs.length xs.length hi=xs.length)/\∀p,H p=none->Q (.ref p) (upd H p (.tup (iX xs lo hi)))
theorem TF:K3 X Ua:=PB.imp λx lo hi H Q ⟨a,e,xs,h,n,q⟩=>⟨a,xs,e,fM h,n,q⟩
def Oc:List V->Hp->VK->Prop:=λvs H Q=>∃p,vs=[.ref p]/\∃xs,H p=some (.lst xs)/\Q (.int xs.length) H
theorem cK:cC X (.builtin "len") Oc:=nQ.imp λx H Q ⟨p,e,xs,h,q⟩=>⟨p,xs,e,.inl (bD h),q⟩
def Ob:List V->Hp->VK->Prop:=λvs H Q=>∃p,vs=[.ref p]/\∃xs,H p=some (.tup xs)/\Q (.int xs.length) H
theorem lh:cC X (.builtin "len") Ob:=nQ.imp λx H Q ⟨p,e,xs,h,q⟩=>⟨p,xs,e,.inr (fM h),q⟩
def IW:List V->Hp->VK->Prop:=λvs H Q=>∃p,vs=[.ref p]/\∃xs,H p=some (.lst xs)/\∀l,H l=none->Q (.ref l) (upd H l (.lst xs))
theorem tq:cC X (.type "list") IW:=wB.imp λx H Q ⟨p,e,xs,h,q⟩=>⟨p,xs,e,.inl (bD h),q⟩
def P7:List V->Hp->VK->Prop:=λvs H Q=>∃p,vs=[.ref p]/\∃xs,H p=some (.tup xs)/\∀l,H l=none->Q (.ref l) (upd H l (.lst xs))
def Dj:List V->Hp->VK->Prop:=λvs H Q=>∃p,vs=[.ref p]/\∃xs,H p=some (.lst xs)/\∀l,H l=none->Q (.ref l) (upd H l (.tup xs))
theorem yJ:cC X (.type "tuple") Dj:=t9.imp λx H Q ⟨p,e,xs,h,q⟩=>⟨p,xs,e,.inl ⟨bD h,q⟩⟩
def P8:List V->Hp->VK->Prop:=λvs H Q=>∃a,vs=[.ref a]/\∃cu,H a=some (.dK cu)/\∀p,H p=none->Q (.ref p) (upd H p (.lst (cu.map λkv=>kV kv.1)))
def Qf:List V->Hp->VK->Prop:=λvs H Q=>∃a,vs=[.ref a]/\∃cu,H a=some (.dK cu)/\∀p,H p=none->Q (.ref p) (upd H p (.dK cu))
def L8:List V->Hp->VK->Prop:=λvs H Q=>∃a,vs=[.ref a]/\∃ss:List Str,H a=some (.lst (ss.map V.str))/\ss.length<64/\
 ∀ss':List Str,ss'.Perm ss->sortedS ss'=true->∀p,H p=none->Q (.ref p) (upd H p (.lst (ss'.map V.str)))
def Od:V->List V->Hp->VK->Prop:=λx vs H Q=>∃sep a,x=.str sep/\vs=[.ref a]/\∃ss:List Str,H a=some (.lst (ss.map V.str))/\JoinOk sep ss=true/\Q (.str (Txt.join sep ss)) H
theorem Jz:Sl X "str.join" Od:=M5.imp λx vs H Q ⟨sep,a,e1,e2,ss,h,n,q⟩=>⟨sep,a,ss,e1,e2,bD h,n,q⟩
def Qd(neg:Bool):R2:=λx y H Q=>∃p,y=.ref p/\∃xs,H p=some (.lst xs)/\fC x=true/\xs.all fC=true/\Q (.bl (if neg then !JP x xs else JP x xs)) H
theorem Al:jb X (compareOp .In) (Qd false):=Fx.imp λx y H Q ⟨p,e,xs,h,f1,f2,q⟩=>⟨p,xs,e,.inl (bD h),f1,f2,q⟩
theorem Fw:jb X (compareOp .NotIn) (Qd true):=wa.imp λx y H Q ⟨p,e,xs,h,f1,f2,q⟩=>⟨p,xs,e,.inl (bD h),f1,f2,q⟩
def Zg(neg:Bool):R2:=λx y H Q=>∃p,y=.ref p/\∃xs,H p=some (.tup xs)/\fC x=true/\xs.all fC=true/\Q (.bl (if neg then !JP x xs else JP x xs)) H
def Zh(neg:Bool):R2:=λx y H Q=>∃a b,x=.ref a/\y=.ref b/\∃xs,H a=some (.lst xs)/\∃ys,H b=some (.lst ys)/\xs.all fC=true/\ys.all fC=true/\Q (.bl (if neg then !V2 xs ys else V2 xs ys)) H
def Qb(K:PySem.W.Frag):List V->Hp->VK->Prop:=λvs H Q=>∃x n,vs=[x,.ty n]/\∃t,jr K H x t/\∃b,PySem.W.kitOne K t (.type n)=some b/\Q (.bl b) H
theorem cL:cC X (.builtin "isinstance") (Qb X.K):=(Kr .none).imp λx H Q ⟨y,n,e,t,ty,b,h,q⟩=>⟨y,t,b,n,e,ty,h,q⟩
def Uc:V->V->V->Hp->(Hp->Prop)->Prop:=λo i v H Q=>∃p k,o=.ref p/\i=.int k/\∃xs,H p=some (.lst xs)/\∃j,Bo xs.length k=some j/\Q (upd H p (.lst (xs.set j v)))
theorem lW:GP X Uc:=λpins s σ H o i v ov iv u Q I ro ri rv ⟨p,k,e1,e2,xs,h,j,hj,q⟩=>set_list pins s σ H o i v ov iv u Q I ro ri rv ⟨p,xs,k,j,e1,e2,h,hj,q⟩
theorem Ox:Si X (λo i H Q=>Qa o i H Q):=by
 intro pins s σ H o i ov iv Q I ro ri h
 refine hide λgG hG=>?_
 obtain⟨p,i,rfl,rfl,xs,hp,z,he,q⟩:=h
 refine hG ?_
 cases ro
 refine hide λgG hG=>?_
 obtain⟨t,rfl⟩:=ri
 obtain⟨its,r,pl,hz⟩:=I.list (bD hp)
 obtain⟨j,h1,h2,h3,h4,h5⟩:=qL he
 obtain⟨w,ew,P0⟩:=r.get h2
 refine hG ?_
 have hl:=r.length
 have hn:=mJ
 have fin:EP X pins σ Q w s:=⟨z,H,I,P0,q⟩
 by_cases h0:0<=i
 ·have hj:i.toNat=j:=by
   rw[qY h0 h5]at h1
   exact dm h1
  exact wpAny_getItem_list pl.isList h0 (by lia) (by rw[hj];simpa using ew) fin
 ·have hj:(i+(its.toArray.size:Int)).toNat=j:=by
   rw[seqIndex_neg (by lia) h4]at h1
   rw[cV,<-hl]
   exact dm h1
  exact wpAny_getItem_list_neg pl.isList (by lia) (by rw[cV] <;> lia) (by lia) (by rw[hj];simpa using ew) fin
end
end L2
namespace L2
open PySem PySem.Spec PyProof.Rows
theorem xU{α:Type}{C:List α->Prop}(h:∀a,C [a]):∀us:List α,us.length=1->C us
 | [a],_=>h a
theorem of2{α:Type}{C:List α->Prop}(h:∀a b,C [a,b]):∀us:List α,us.length=2->C us
 | [a,b],_=>h a b
theorem of3{α:Type}{C:List α->Prop}(h:∀a b c,C [a,b,c]):∀us:List α,us.length=3->C us
 | [a,b,c],_=>h a b c
structure HC(X:Cx)(N:List Str)(sc:Scope):Prop where
 n:X.N=N
 s:X.env.scope=sc
def ZM(N:List Str)(sc:Scope)(i:Nat)(x:Str):Bool:=
 N[i]? == some x&&(sc.names.lookup x==some .local||sc.names.lookup x==some .cell||sc.names.lookup x==some .free) && !(x==("__debug__" : Str)) && !(x==("__classdict__" : Str))
def Oj(N:List Str)(sc:Scope)(i:Nat)(x:Str):Bool:=N[i]? == some x&&(sc.names.lookup x==some .local||sc.names.lookup x==some .cell)
def Aw(N:List Str)(sc:Scope)(i:Nat)(x:Str):Bool:=N[i]? == some x&&sc.names.lookup x==some .local
def okG(sc:Scope)(x:Str):Bool:=sc.names.lookup x==some .globalImplicit
section
variable {X:Cx}{N:List Str}{sc:Scope}{x:Str}{pos:Pos}
theorem pvk(hc:HC X N sc)(i:Nat)(h:ZM N sc i x=true):PE X (.Name x pos) (qd i):=by
 unfold ZM at h
 simp only[dW,Bool.or_eq_true,beq_iff_eq,zl]at h
 obtain⟨⟨⟨h1,h2⟩,h3⟩,h4⟩:=h
 refine Jk (by rw[hc.n];exact h1) ?_ h3 h4
 unfold Tp
 rw[hc.s]
 rcases h2 with (h2 | h2) | h2
 ·exact .inl h2
 ·exact .inr (.inl h2)
 ·exact .inr (.inr h2)
theorem bG(hc:HC X N sc)(h:okG sc x=true:=by decide +kernel):Gl X x:=by
 show X.env.scope.names.lookup x=some .globalImplicit
 rw[hc.s];simpa [okG]using h
theorem kZ(hc:HC X N sc){i:Nat}(h:Oj N sc i x=true):X.N[i]?=some x/\Loc X.env.scope x:=by
 unfold Oj at h
 simp only[dW,Bool.or_eq_true,beq_iff_eq]at h
 refine⟨by rw[hc.n];exact h.1,?_⟩
 unfold Loc;rw[hc.s];exact h.2
theorem gY(hc:HC X N sc){i:Nat}(h:Aw N sc i x=true):X.N[i]?=some x/\X.env.scope.names.lookup x=some .local:=by
 unfold Aw at h
 simp only[dW,beq_iff_eq]at h
 exact⟨by rw[hc.n];exact h.1,by rw[hc.s];exact h.2⟩
theorem pgk(hc:HC X N sc)(nd:N.Nodup)(hf:∀x,X.fn x=true)(i:Nat)(h:Oj N sc i x=true):PG X (.Name x pos) (eH i):=
 Du (by rw[hc.n];exact nd) (kZ hc h).1 (kZ hc h).2 (.inl (hf x))
theorem pgb(hc:HC X N sc)(nd:N.Nodup)(i:Nat)(h:Aw N sc i x=true):PG X (.Name x pos) (eH i):=
 Du (by rw[hc.n];exact nd) (gY hc h).1 (.inl (gY hc h).2) (.inr (gY hc h).2)
theorem Dk{e:Expr}{te:TE}{pos':Pos}(hc:HC X N sc)(nd:N.Nodup)(hf:∀x,X.fn x=true)(i:Nat)(h:Oj N sc i x=true)(he:PE X e te)(hs:swapsWith e (some (.Name x pos')) pos.line X.env=pure false:=by rfl) :
  PS X (.Assign [.Name x pos'] e pos) (vT te (eH i)):=
 Qk (by rw[hc.n];exact nd) (kZ hc h).1 (kZ hc h).2 he hs (.inl (hf x))
theorem Mh{e:Expr}{te:TE}{op:Operator}{ti:N2}{pos':Pos}(hc:HC X N sc)(nd:N.Nodup)(hf:∀x,X.fn x=true)(i:Nat)(h:Oj N sc i x=true)(he:PE X e te)(ho:Sh X op ti):PS X (.AugAssign (.Name x pos') op e pos) (Lq i te ti):=
 Qn (by rw[hc.n];exact nd) (kZ hc h).1 (kZ hc h).2 he ho (.inl (hf x))
end
def cM(scope jk:Scope):Scope:=
 { scope with names:=scope.names.map λ(n,k)=>if (k == .free&&jk.kind == .function&&jk.names.lookup n==some .cell) then (n,.cell) else (n,k) }
theorem xD{scope jk:Scope}{env:Env}(h:env.scope=jk):relabel scope env=cM scope jk:=by
 subst h;rfl
theorem jm{X:Cx}{N:List Str}{jk scope:Scope}{xs:List Str}{idx:List Nat}(hc:HC X N jk)(c:CB):HC (jL X scope (xs++bS X.N idx) c) (xs++bS N idx) (cM scope jk):=
 ⟨by show xs++bS X.N idx=_;rw[hc.n],xD hc.s⟩
section
variable {X:Cx}{N:List Str}{jk:Scope}{elt target iter:Expr}{ifs:List Expr}{scope:Scope}{pos spos py:Pos}{xs:List Str}{idx:List Nat}{wi:TI}{g:CB->TG}{tt:CB->TT}{te:CB->TE}
theorem xO(hc:HC X N jk)(xs:List Str)(idx:List Nat)(J2:X.calm=true)(S:Gs jk N scope idx=true)(hi:PI X target iter wi)
  (hg:∀c,HC (jL X scope (xs++bS X.N idx) c) (xs++bS N idx) (cM scope jk)->PG (jL X scope (xs++bS X.N idx) c) target (g c))
  (ht:∀c,HC (jL X scope (xs++bS X.N idx) c) (xs++bS N idx) (cM scope jk)->wI (jL X scope (xs++bS X.N idx) c) ifs (tt c))
  (he:∀c,HC (jL X scope (xs++bS X.N idx) c) (xs++bS N idx) (cM scope jk)->PE (jL X scope (xs++bS X.N idx) c) elt (te c))
  (hs:∀x,foldedSetIterable iter X.env x=pure x:=by intro _;rfl):PE X (.ListComp elt [⟨target,iter,ifs,0⟩] scope pos) (se wi xs.length idx g tt te):=
 Mv J2 (u5 S hc.s hc.n) hi (λc=>hg c (jm hc c)) (λc=>ht c (jm hc c)) (λc=>he c (jm hc c)) hs
theorem xI{y:Str}(hc:HC X N jk)(nd:N.Nodup)(i:Nat)(h:Aw N jk i y=true)(xs:List Str)(idx:List Nat)(J2:X.calm=true)(S:Gs jk N scope idx=true)(hi:PI X target iter wi)
  (hg:∀c,HC (jL X scope (xs++bS X.N idx) c) (xs++bS N idx) (cM scope jk)->PG (jL X scope (xs++bS X.N idx) c) target (g c))
  (ht:∀c,HC (jL X scope (xs++bS X.N idx) c) (xs++bS N idx) (cM scope jk)->wI (jL X scope (xs++bS X.N idx) c) ifs (tt c))
  (he:∀c,HC (jL X scope (xs++bS X.N idx) c) (xs++bS N idx) (cM scope jk)->PE (jL X scope (xs++bS X.N idx) c) elt (te c))
  (hsw:swapsWith (.ListComp elt [⟨target,iter,ifs,0⟩] scope pos) (some (.Name y py)) spos.line X.env=pure true)
  (hs:∀x,foldedSetIterable iter X.env x=pure x:=by intro _;rfl):PS X (.Assign [.Name y py] (.ListComp elt [⟨target,iter,ifs,0⟩] scope pos) spos) (vT (se wi xs.length idx g tt te) (eH i)):=
 Mj (by rw[hc.n];exact nd) (gY hc h).1 (gY hc h).2 J2 (u5 S hc.s hc.n) hi (λc=>hg c (jm hc c)) (λc=>ht c (jm hc c)) (λc=>he c (jm hc c)) hsw hs
end
end L2
namespace L2
open PySem PySem.Spec PyProof.Rows
@[irreducible] def uf (X:Cx) (st:List Stmt) (t:TS):Prop:=tP X st t
theorem uf.to{X:Cx}{st:List Stmt}{t:TS}(h:uf X st t):tP X st t:=by unfold uf at h;exact h
theorem uf.of{X:Cx}{st:List Stmt}{t:TS}(h:tP X st t):uf X st t:=by unfold uf;exact h
section
variable {X:Cx}{st:Stmt}{rest:List Stmt}{t u:TS}{pos:Pos}
theorem L5:uf X [] CV:=.of Mf
theorem LW(h1:PS X st t):uf X [st] t:=.of (Md h1)
theorem Iw(h1:PS X st t)(h2:uf X rest u):uf X (st::rest) (tSeq t u):=.of (Jb h1 h2.to)
theorem L7(h1:PS X st t)(h2:uf X rest u):uf X (st::rest) (Pp t u):=.of (Mg h1 h2.to)
theorem T9{c:Expr}{a b:List Stmt}{tc:TT}(hc:PT X c tc)(ha:uf X a t)(hb:uf X b u):PS X (.If c a b pos) (Lj tc t u):=Uk hc ha.to hb.to
theorem Iy{c:Expr}{body:List Stmt}{tc:TT}{tb:TS}(hp:PassesOwn (model X.prog X.w) X.A X.env X.xe)(hc:PT X c tc)(hb:uf X body tb):PS X (.While c body [] pos) (zW tc tb):=Jc hp hc hb.to
theorem Iz{tg iter:Expr}{body:List Stmt}{wi:TI}{g:TG}{tb:TS}(hp:PassesOwn (model X.prog X.w) X.A X.env X.xe)(hc:X.calm=true)(hi:PI X tg iter wi)(hg:PG X tg g)(hb:uf X body tb)
  (hs:∀x,foldedSetIterable iter X.env x=pure x:=by intro _;rfl):PS X (.For tg iter body [] pos) (Ln wi g tb):=Qm hp hc hi hg hb.to hs
end
theorem jR.okK{P:Program}{w:World}{K:PySem.W.Frag}{mg:Str->Option Value}{base:Heap}{x qual:Str}{st:Stmt}{f:Addr}{fd:FuncData}{N ps:List Str}{k:Nat}{sp:Sp}(F:jR K x qual st f fd)(S:bp N ps (aq st))(len:∀vs H Q E,sp vs H Q E->vs.length=ps.length)
  (ko:∀(dB:Value) (A:Around) (outer:List Env) (s:Shared) (H:Hp) (vs:List V) (Q:VK) (E:XK),cS k (A.deeper (envOfC qual (aq st) s.heap.objs.size f dB))->sp vs H Q E->
   HC (jn iq P w K mg base N qual (aq st) f dB A outer s H E).KR N (aq st)->(∀x,(jn iq P w K mg base N qual (aq st) f dB A outer s H E).KR.fn x=true)->
   ∃t,uf (jn iq P w K mg base N qual (aq st) f dB A outer s H E).KR (aX st) t/\t { nx:=λ_ H'=>Q .non H',rt:=Q } (start N vs) H):cz P w K mg base iq (k+1) f fd ps sp:=
 F.ok S len λdB A outer s H vs Q E hr h=>let ⟨t,h1,h2⟩:=ko dB A outer s H vs Q E hr h ⟨rfl,rfl⟩ λ_=>rfl;⟨t,h1.to,h2⟩
end L2
namespace L2
open PySem PySem.Spec PyProof.Rows
def o9(J:It)(g:TG)(tb:TS)(D:Ends)(σ:St)(H:Hp):Prop:=∃W:Nat->Nat->St->Hp->Prop,(∃m,W 0 m σ H)/\∀i m σ H,W i m σ H->
 (J.stop i H/\D.nx σ H)\/(J.go i H/\∃N:St->Hp->Prop,(∀σ' H',N σ' H'->∃m',m'<m/\W (i+1) m' σ' H')/\∀x H',J.Ey i H x H'->g x σ H' λσ2 H2=>tb { D with nx:=N,ct:=N,bk:=D.nx } σ2 H2)
theorem Lk{wi:TI}{g:TG}{tb:TS}{D:Ends}{σ:St}{H:Hp}:Ln wi g tb D σ H=wi σ H (λJ H1=>o9 J g tb D σ H1):=rfl
def nZ(J:It)(k:Nat)(idx:List Nat)(g:CB->TG)(tt:CB->TT)(te:CB->TE)(σ:St)(Q:VK)(H1:Hp):Prop:=∀D,H1 D=none->∃W:Nat->Nat->List V->Hp->Prop,(∃m,W 0 m [] (upd H1 D (.lst [])))/\
 ∀i m ys H',W i m ys H'->(J.stop i H'/\Q (.ref D) H')\/(J.go i H'/\∃N:List V->Hp->Prop,(∀og pY,N og pY->∃m',m'<m/\W (i+1) m' og pY)/\∀(c:CB) (own:St),own.length=k->∀x H2,J.Ey i H' x H2->g c x (own++cw σ idx) H2 λσ3 H3=>
  (∃dA,dA.length=k/\σ3=dA++cw σ idx)/\tt c σ3 H3 λb H4=>if b=true then te c σ3 H4 λy H5=>H5 D=some (.lst ys)/\ys.length<sizeLine/\N (ys++[y]) (upd H5 D (.lst (ys++[y]))) else N ys H4)
theorem HQ{wi:TI}{k:Nat}{idx:List Nat}{g:CB->TG}{tt:CB->TT}{te:CB->TE}{σ:St}{H:Hp}{Q:VK}:se wi k idx g tt te σ H Q=wi σ H (λJ H1=>nZ J k idx g tt te σ Q H1):=rfl
theorem mR{lo:Int}{n:Nat}{g:TG}{tb:TS}{D:Ends}{σ:St}{H:Hp}(Pv:Nat->St->Hp->Prop)(h0:Pv 0 σ H)
  (hs:∀i σ H,i<n->Pv i σ H->g (.int (lo+i)) σ H λσ2 H2=>tb { D with nx:=Pv (i+1),ct:=Pv (i+1),bk:=D.nx } σ2 H2) (hd:∀σ H,Pv n σ H->D.nx σ H):o9 (Cv lo n) g tb D σ H:=Gn Pv h0 hs hd
theorem pR{K:PySem.W.Frag}{a:Addr}{xs:List V}{g:TG}{tb:TS}{D:Ends}{σ:St}{H:Hp}(Pv:Nat->St->Hp->Prop)(h0:Pv 0 σ H)(hl:∀i σ H,i<=xs.length->Pv i σ H->H a=some (.lst xs))
  (hs:∀i x σ H,xs[i]?=some x->Pv i σ H->g x σ H λσ2 H2=>tb { D with nx:=Pv (i+1),ct:=Pv (i+1),bk:=D.nx } σ2 H2) (hd:∀σ H,Pv xs.length σ H->D.nx σ H):o9 (GQ K a) g tb D σ H:=
 Kd Pv h0 (λi σ H hi p=>bD (hl i σ H hi p)) hs hd
theorem BG{K:PySem.W.Frag}{a:Addr}{xs:List V}{g:TG}{tb:TS}{D:Ends}{σ:St}{H:Hp}(Pv:Nat->St->Hp->Prop)(h0:Pv 0 σ H)(hl:∀i σ H,i<=xs.length->Pv i σ H->H a=some (.tup xs))
  (hs:∀i x σ H,xs[i]?=some x->Pv i σ H->g x σ H λσ2 H2=>tb { D with nx:=Pv (i+1),ct:=Pv (i+1),bk:=D.nx } σ2 H2) (hd:∀σ H,Pv xs.length σ H->D.nx σ H):o9 (Sn K a) g tb D σ H:=
 Nt Pv h0 (λi σ H hi p=>fM (hl i σ H hi p)) hs hd
theorem iL{lo:Int}{n:Nat}{idx:List Nat}{tt:CB->TT}{te:CB->TE}{σ:St}{Q:VK}{H1:Hp}(Pv:Addr->Nat->List V->Hp->Prop)(h0:∀D,H1 D=none->Pv D 0 [] (upd H1 D (.lst [])))
  (hs:∀D,H1 D=none->∀i ys H,i<n->Pv D i ys H->∀(c:CB),tt c (some (.int (lo+i))::cw σ idx) H λb H4=>if b=true then te c (some (.int (lo+i))::cw σ idx) H4 λy H5=>H5 D=some (.lst ys)/\ys.length<sizeLine/\Pv D (i+1) (ys++[y]) (upd H5 D (.lst (ys++[y]))) else Pv D (i+1) ys H4)
  (hd:∀D,H1 D=none->∀ys H,Pv D n ys H->Q (.ref D) H):nZ (Cv lo n) 1 idx (λ_=>eH 0) tt te σ Q H1:=
 λD hD=>yE (Pv D) (h0 D hD) (hs D hD) (hd D hD)
theorem gK{K:PySem.W.Frag}{a:Addr}{zs:List V}{idx:List Nat}{tt:CB->TT}{te:CB->TE}{σ:St}{Q:VK}{H1:Hp}(Pv:Addr->Nat->List V->Hp->Prop)(h0:∀D,H1 D=none->Pv D 0 [] (upd H1 D (.lst [])))
  (hl:∀D,H1 D=none->∀i ys H,i<=zs.length->Pv D i ys H->H a=some (.lst zs))
  (hs:∀D,H1 D=none->∀i x ys H,zs[i]?=some x->Pv D i ys H->∀(c:CB),tt c (some x::cw σ idx) H λb H4=>if b=true then te c (some x::cw σ idx) H4 λy H5=>H5 D=some (.lst ys)/\ys.length<sizeLine/\Pv D (i+1) (ys++[y]) (upd H5 D (.lst (ys++[y]))) else Pv D (i+1) ys H4)
  (hd:∀D,H1 D=none->∀ys H,Pv D zs.length ys H->Q (.ref D) H):nZ (GQ K a) 1 idx (λ_=>eH 0) tt te σ Q H1:=
 λD hD=>BW (Pv D) (h0 D hD) (λi ys H hi p=>bD (hl D hD i ys H hi p)) (hs D hD) (hd D hD)
end L2
namespace L2
open PySem PySem.Spec PyProof.Rows
def Pj(ss:List Str):TA:=λ_ H Q=>Q (List.map V.str ss) H
structure ZE(X:Cx)(e:Expr)(t:TE):Prop where
 to:PE X e t
structure ZT(X:Cx)(e:Expr)(t:TT):Prop where
 to:PT X e t
structure ZW(X:Cx)(e:Expr)(t:TT):Prop where
 to:PW X e t
structure ZA(X:Cx)(e:List Expr)(t:TA):Prop where
 to:PA X e t
structure ZS(X:Cx)(e:Stmt)(t:TS):Prop where
 to:PS X e t
structure En(X:Cx)(e:List Stmt)(t:TS):Prop where
 to:tP X e t
structure ZG(X:Cx)(e:Expr)(t:TG):Prop where
 to:PG X e t
structure Yg(X:Cx)(e:List Expr)(t:K1):Prop where
 to:WY X e t
structure N0(X:Cx)(e:List Expr)(t:TT):Prop where
 to:wI X e t
structure ZO(X:Cx)(e:Option Expr)(t:TO):Prop where
 to:PO X e t
structure ZI(X:Cx)(tg iter:Expr)(t:TI):Prop where
 to:PI X tg iter t
theorem gX{X:Cx}{b:Bool}{j:Nat}{pos:Pos}:ZE X (Expr.Constant (Const.bool b) j pos) (tC (V.bl b)):=⟨Uq⟩
theorem ah{X:Cx}{i:Int}{j:Nat}{pos:Pos}:ZE X (Expr.Constant (Const.int i) j pos) (tC (V.int i)):=⟨Qw⟩
theorem aL{X:Cx}{x:Str}{j:Nat}{pos:Pos}:ZE X (Expr.Constant (Const.str x) j pos) (tC (V.str x)):=⟨Qr⟩
theorem qA{X:Cx}{j:Nat}{pos:Pos}:ZE X (Expr.Constant Const.none j pos) (tC V.non):=⟨Qu⟩
theorem ao{X:Cx}{N:List Str}{sc:Scope}{x:Str}{pos:Pos}(h1:HC X N sc)(i:Nat)(h2:ZM N sc i x=true:=by decide +kernel):ZE X (Expr.Name x pos) (qd i):=⟨pvk h1 i h2⟩
theorem cY{X:Cx}{x:Str}{v:V}{u:Value}{pos:Pos}(h1:Gl X x)(h2:Cx.mg X x=none)(h3:bootBuiltins x=some u)(h4:RelV v u)(h5:autoParam (x≠Str.ofString "__name__") v9._auto_1)(h6:autoParam ((x==Str.ofString "__debug__")=false) v9._auto_2):ZE X (Expr.Name x pos) (tC v):=⟨v9 h1 h2 h3 h4 h5 h6⟩
theorem bK{X:Cx}{es:List Expr}{t:TA}{pos:Pos}(h1:ZA X es t):ZE X (Expr.List es pos) (Li t):=⟨Qv h1.to⟩
theorem aG{X:Cx}{es:List Expr}{t:TA}{pos:Pos}{x1:Nat}(h1:ZA X es t):ZE X (Expr.Tuple es x1 pos) (Lg t):=⟨Qq h1.to⟩
theorem uA{X:Cx}{pos:Pos}:ZE X (Expr.Dict [] [] pos) vS:=⟨Jo⟩
theorem aQ{X:Cx}{a b:Expr}{ta tb:TE}{pos:Pos}{op:Operator}{r:R2}(h1:jb X (binaryOp op) r)(h2:ZE X a ta)(h3:ZE X b tb):ZE X (Expr.BinOp a op b pos) (G7 r ta tb):=⟨Uo h1 h2.to h3.to⟩
theorem vM{X:Cx}{a:Expr}{ta:TE}{pos:Pos}(h1:ZE X a ta):ZE X (Expr.UnaryOp UnaryOp.Not a pos) (HD ta):=⟨Qt h1.to⟩
theorem zO{X:Cx}{a:Expr}{ta:TE}{pos:Pos}{op:UnaryOp}{r:V->Hp->VK->Prop}(h1:Yh X (unaryOp op) r)(h2:ZE X a ta):ZE X (Expr.UnaryOp op a pos) (W' r ta):=⟨Um h1 h2.to⟩
theorem uB{X:Cx}{a b c:Expr}{ta tb tc:TE}{pos:Pos}{op op':CmpOp}{r r':R2}(h1:jb X (compareOp op) r)(h2:jb X (compareOp op') r')(h3:ZE X a ta)(h4:ZE X b tb)(h5:ZE X c tc)(h6:autoParam (lastMarks [op,op'] [b,c]=false) xP._auto_1):ZE X (Expr.Compare a [op,op'] [b,c] pos) (mD r r' ta tb tc):=⟨xP h1 h2 h3.to h4.to h5.to h6⟩
theorem fZ{X:Cx}{a b:Expr}{ta tb:TE}{pos:Pos}{op:CmpOp}{r:R2}(h1:jb X (compareOp op) r)(h2:ZE X a ta)(h3:ZE X b tb)(h4:behindInMarks op b=false):ZE X (Expr.Compare a [op] [b] pos) (G7 r ta tb):=⟨Mw h1 h2.to h3.to h4⟩
theorem gD{X:Cx}{a:Expr}{pos:Pos}{op:BoolOp}{t:TE}(h1:ZE X a t):ZE X (Expr.BoolOp op [a] pos) t:=⟨Qs h1.to⟩
theorem dP{X:Cx}{a b:Expr}{ta tb:TE}{pos:Pos}{rest:List Expr}(h1:ZE X a ta)(h2:ZE X (Expr.BoolOp BoolOp.And (b::rest) pos) tb):ZE X (Expr.BoolOp BoolOp.And (a::b::rest) pos) (HW ta tb):=⟨Qx h1.to h2.to⟩
theorem jh{X:Cx}:ZO X none vR:=⟨Mp⟩
theorem jg{X:Cx}{e:Expr}{te:TE}(h1:ZE X e te):ZO X (some e) (Hz te):=⟨Ml h1.to⟩
theorem gL{X:Cx}{e:Expr}{te:TE}{lo hi:Option Expr}{tl th:TO}{pos p2:Pos}{r:V->Option Int->Option Int->Hp->VK->Prop}(h1:K3 X r)(h2:ZE X e te)(h3:ZO X lo tl)(h4:ZO X hi th):ZE X (Expr.Subscript e (Expr.Slice lo hi none p2) pos) (Yq r te tl th):=⟨Jl h1 h2.to h3.to h4.to⟩
theorem bj{X:Cx}{a b:Expr}{ta tb:TE}{pos:Pos}{r:R2}(h1:KD X r)(h2:ZE X a ta)(h3:ZE X b tb)(h4:Eo b):ZE X (Expr.Subscript a b pos) (G7 r ta tb):=⟨Up h1 h2.to h3.to h4⟩
theorem eT{X : Cx}{N : List Str}{jk : Scope}{elt target iter : Expr}{ifs : List Expr}{scope : Scope}{pos : Pos}{wi : TI}{g : CB → TG}{tt : CB → TT}{te : CB → TE}(h1 : HC X N jk)(xs : List Str)(idx : List Nat)(h2 : Cx.calm X=true)(h3 : Gs jk N scope idx=true)(h4 : ZI X target iter wi)(h5 : (∀ (c : CB),
                HC (jL X scope (xs++bS (Cx.N X) idx) c) (xs++bS N idx) (cM scope jk) →
                  ZG (jL X scope (xs++bS (Cx.N X) idx) c) target (g c))) (h6 : (∀ (c : CB),
                  HC (jL X scope (xs++bS (Cx.N X) idx) c) (xs++bS N idx) (cM scope jk) →
                    N0 (jL X scope (xs++bS (Cx.N X) idx) c) ifs (tt c))) (h7 : (∀ (c : CB),
                    HC (jL X scope (xs++bS (Cx.N X) idx) c) (xs++bS N idx) (cM scope jk) →
                      ZE (jL X scope (xs++bS (Cx.N X) idx) c) elt (te c))) (h8 : autoParam (∀ (x : Value), foldedSetIterable iter (Cx.env X) x=pure x) xO._auto_1) : ZE X (Expr.ListComp elt [{ target := target, iter := iter, ifs := ifs, is_async := 0 }] scope pos)
                      (se wi (List.length xs) idx g tt te) := ⟨xO h1 xs idx h2 h3 h4.to (λc z => (h5 c z).to) (λc z => (h6 c z).to) (λc z => (h7 c z).to) h8⟩
theorem ag{X:Cx}:ZA X [] xg:=⟨Aj⟩
theorem ae{X:Cx}{e:Expr}{es:List Expr}{te:TE}{t:TA}(h1:ZE X e te)(h2:ZA X es t)(h3:autoParam (starEach (e::es) (Cx.env X)=(false,eval e (Cx.env X))::starEach es (Cx.env X)) qE._auto_1):ZA X (e::es) (uH te t):=⟨qE h1.to h2.to h3⟩
theorem qz{X : Cx}{pos : Pos}{es : List Expr}{k : Nat}{t : K1}{n : Nat}(h1 : Cx.calm X=true)(h2 : Yg X es t)(h3 : autoParam (List.length (assignEach es (Cx.env X))=n) Ah._auto_1)(h4 : autoParam (List.findIdx? (λ(x : Bool × (Value → Sem Unit)) => Prod.fst x) (assignEach es (Cx.env X))=none)
            Ah._auto_2) : ZG X (Expr.Tuple es k pos) (Ry (Cx.K X) n t) := ⟨Ah h1 h2.to h3 h4⟩
theorem tQ{X:Cx}{N:List Str}{sc:Scope}{x:Str}{pos:Pos}(h1:HC X N sc)(h2:List.Nodup N)(i:Nat)(h3:Aw N sc i x=true):ZG X (Expr.Name x pos) (eH i):=⟨pgb h1 h2 i h3⟩
theorem dO{X:Cx}:N0 X [] Ph:=⟨Jg⟩
theorem Es{X:Cx}{e:Expr}{t:TT}(h1:ZT X e t):N0 X [e] t:=⟨Jf h1.to⟩
theorem ny{X:Cx}:Yg X [] RB:=⟨Mr⟩
theorem eR{X : Cx}{e : Expr}{es : List Expr}{t : TG}{u : K1}(h1 : ZG X e t)(h2 : Yg X es u)(h3 : autoParam
          (List.map (λ(x : Bool × (Value → Sem Unit)) => Prod.snd x) (assignEach (e::es) (Cx.env X)) =
            assign e (Cx.env X) ::
              List.map (λ(x : Bool × (Value → Sem Unit)) => Prod.snd x) (assignEach es (Cx.env X)))
          xM._auto_1) : Yg X (e::es) (J' t u) := ⟨xM h1.to h2.to h3⟩
theorem fJ{X:Cx}{tg a:Expr}{ta:TA}{p pos:Pos}(h1:Gl X (Str.ofString "range"))(h2:Cx.mg X (Str.ofString "range")=none)(h3:ZA X [a] ta)(h4:autoParam (starEach [a] (Cx.env X)=[(false,eval a (Cx.env X))]) uN._auto_1):ZI X tg (Expr.Call (Expr.Name (Str.ofString "range") p) [a] [] pos) (JR ta):=⟨uN h1 h2 h3.to h4⟩
theorem zN{X : Cx}{tg a b : Expr}{ta : TA}{p pos : Pos}(h1 : Gl X (Str.ofString "range"))(h2 : Cx.mg X (Str.ofString "range")=none)(h3 : ZA X [a, b] ta)(h4 : autoParam (starEach [a, b] (Cx.env X)=[(false, eval a (Cx.env X)), (false, eval b (Cx.env X))])
            oE._auto_1) (h5 : autoParam (starEach [b] (Cx.env X)=[(false, eval b (Cx.env X))]) oE._auto_2) : ZI X tg (Expr.Call (Expr.Name (Str.ofString "range") p) [a, b] [] pos) (JQ ta) := ⟨oE h1 h2 h3.to h4 h5⟩
theorem ji{X:Cx}{tg l:Expr}{tl:TE}(h1:ZE X l tl):ZI X tg l (JS (Cx.K X) tl):=⟨Mq h1.to⟩
theorem CK{X:Cx}{tg l:Expr}{tl:TE}(h1:ZE X l tl):ZI X tg l (Ra (Cx.K X) tl):=⟨Qo h1.to⟩
theorem Er{X:Cx}{a b c:Expr}{ta tb tc:TE}{pos:Pos}{op op':CmpOp}{r r':R2}(h1:jb X (compareOp op) r)(h2:jb X (compareOp op') r')(h3:ZE X a ta)(h4:ZE X b tb)(h5:ZE X c tc)(h6:autoParam (lastMarks [op,op'] [b,c]=false) xH._auto_1):ZT X (Expr.Compare a [op,op'] [b,c] pos) (xf (mD r r' ta tb tc)):=⟨xH h1 h2 h3.to h4.to h5.to h6⟩
theorem aV{X:Cx}{a b:Expr}{ta tb:TE}{pos:Pos}{op:CmpOp}{r:R2}(h1:jb X (compareOp op) r)(h2:ZE X a ta)(h3:ZE X b tb)(h4:behindInMarks op b=false):ZT X (Expr.Compare a [op] [b] pos) (xf (G7 r ta tb)):=⟨Mb h1 h2.to h3.to h4⟩
theorem fo{X:Cx}{a:Expr}{pos:Pos}{tA:TT}(h1:ZT X a tA):ZT X (Expr.UnaryOp UnaryOp.Not a pos) (Pm tA):=⟨Qi h1.to⟩
theorem lL{X:Cx}{e:Expr}{t:TT}(h1:ZW X e t):ZT X e t:=⟨PW.pt h1.to⟩
theorem fk{X:Cx}{e:Expr}{t:TE}(h1:ZE X e t)(h2:autoParam
    (∀(whole:Sem Value),
     PySem.isTrue e (Cx.env X) whole=do
      let v <-whole
      standAt (Expr.pos e)
      holding [v] (truthy v))
    Ja._auto_1):ZT X e (tB t):=⟨Ja h1.to h2⟩
theorem rH{X:Cx}{a:Expr}{pos:Pos}{tA:TT}(h1:ZT X a tA):ZW X (Expr.BoolOp BoolOp.And [a] pos) tA:=⟨Ma h1.to⟩
theorem jt{X:Cx}{a:Expr}{pos:Pos}{tA:TT}(h1:ZT X a tA):ZW X (Expr.BoolOp BoolOp.Or [a] pos) tA:=⟨Qg h1.to⟩
theorem vL{X:Cx}{a b:Expr}{pos:Pos}{tA KN:TT}{rest:List Expr}(h1:ZT X a tA)(h2:ZW X (Expr.BoolOp BoolOp.And (b::rest) pos) KN):ZW X (Expr.BoolOp BoolOp.And (a::b::rest) pos) (Pr tA KN):=⟨Qh h1.to h2.to⟩
theorem iQ{X:Cx}{a b:Expr}{pos:Pos}{tA KN:TT}{rest:List Expr}(h1:ZT X a tA)(h2:ZW X (Expr.BoolOp BoolOp.Or (b::rest) pos) KN):ZW X (Expr.BoolOp BoolOp.Or (a::b::rest) pos) (Ys tA KN):=⟨Uj h1.to h2.to⟩
theorem aD{X : Cx}{CX : Ep}{k : Nat}{f : Addr}{fd : FuncData}{ps : List Str}{sp : Sp}{y7 : List V}{ds : List Value}{E : XK}{x : Str}{p pos : Pos}{e : Expr}{es : List Expr}{t : TA}(h1 : cz (Cx.prog X) (Cx.w X) (Cx.K X) (Cx.mg X) (Cx.base X) CX k f fd ps sp)(h2 : cS k (Cx.A X))(h3 : Gl X x)(h4 : Cx.mg X x=some (Value.ref f))(h5 : W.keepIn (Cx.K X) (Value.ref f)=true)(h6 : Binds (Cx.K X) fd ps ds)(h7 : Vals y7 ds)(h8 : Passes CX X E)(h9 : ZA X (e::es) t)(uY : autoParam ((x==Str.ofString "__debug__")=false) qD._auto_1)(VP : autoParam (starEach (e::es) (Cx.env X)=(false, eval e (Cx.env X))::starEach es (Cx.env X))
                          qD._auto_2) (h12 : autoParam
                            ((List.any (backTo pos (starEach es (Cx.env X))) λ(x : Bool × Sem Value) => Prod.fst x) =
                              false)
                            qD._auto_3) : ZE X (Expr.Call (Expr.Name x p) (e::es) [] pos) (xh sp y7 E t) := ⟨qD h1 h2 h3 h4 h5 h6 h7 h8 h9.to uY VP h12⟩
theorem Ex{X:Cx}{CX:Ep}{k:Nat}{f:Addr}{fd:FuncData}{ps:List Str}{sp:Sp}{y7:List V}{ds:List Value}{E:XK}{x:Str}{p pos:Pos}(h1:cz (Cx.prog X) (Cx.w X) (Cx.K X) (Cx.mg X) (Cx.base X) CX k f fd ps sp)(h2:cS k (Cx.A X))(h3:Gl X x)(h4:Cx.mg X x=some (Value.ref f))(h5:W.keepIn (Cx.K X) (Value.ref f)=true)(h6:Binds (Cx.K X) fd ps ds)(h7:Vals y7 ds)(h8:Passes CX X E)(h9:autoParam ((x==Str.ofString "__debug__")=false) xQ._auto_1):ZE X (Expr.Call (Expr.Name x p) [] [] pos) (xh sp y7 E xg):=⟨xQ h1 h2 h3 h4 h5 h6 h7 h8 h9⟩
theorem fK{X : Cx}{x : Str}{p pos : Pos}{e : Expr}{es : List Expr}{t : TA}{T : String}{r : List V → Hp → VK → Prop}(h1 : cC X (Value.type T) r)(h2 : Gl X x)(h3 : Cx.mg X x=none)(h4 : bootBuiltins x=some (Value.type T))(h5 : ZA X (e::es) t)(h6 : autoParam (x ≠ Str.ofString "__name__") jj._auto_1)(h7 : autoParam ((x==Str.ofString "__debug__")=false) jj._auto_2)(h8 : autoParam (starEach (e::es) (Cx.env X)=(false, eval e (Cx.env X))::starEach es (Cx.env X))
                    jj._auto_3) (h9 : autoParam
                      ((List.any (backTo pos (starEach es (Cx.env X))) λ(x : Bool × Sem Value) => Prod.fst x) =
                        false)
                      jj._auto_4) : ZE X (Expr.Call (Expr.Name x p) (e::es) [] pos) (Sz r t) := ⟨jj h1 h2 h3 h4 h5.to h6 h7 h8 h9⟩
theorem aH{X : Cx}{x : Str}{p pos : Pos}{e : Expr}{es : List Expr}{t : TA}{id : String}{r : List V → Hp → VK → Prop}(h1 : cC X (Value.builtin id) r)(h2 : Gl X x)(h3 : Cx.mg X x=none)(h4 : bootBuiltins x=some (Value.builtin id))(h5 : ZA X (e::es) t)(h6 : autoParam (x ≠ Str.ofString "__name__") j7._auto_1)(h7 : autoParam ((x==Str.ofString "__debug__")=false) j7._auto_2)(h8 : autoParam (starEach (e::es) (Cx.env X)=(false, eval e (Cx.env X))::starEach es (Cx.env X))
                    j7._auto_3) (h9 : autoParam
                      ((List.any (backTo pos (starEach es (Cx.env X))) λ(x : Bool × Sem Value) => Prod.fst x) =
                        false)
                      j7._auto_4) : ZE X (Expr.Call (Expr.Name x p) (e::es) [] pos) (Sz r t) := ⟨j7 h1 h2 h3 h4 h5.to h6 h7 h8 h9⟩
theorem ju{X : Cx}{o e : Expr}{es : List Expr}{to : TE}{t : TA}{name : Str}{apos cy : Pos}{T id : String}{r : V → List V → Hp → VK → Prop}(h1 : PlainAttrs T)(h2 : Slot T name id)(h3 : typeOf (Value.builtin id)=pure (Value.type "method_descriptor"))(h4 : Sl X id r)(h5 : ZE X o to)(h6 : ZA X (e::es) t)(h7 : autoParam (attributeBase o name (Cx.env X) (eval o (Cx.env X))=eval o (Cx.env X)) uO._auto_1)(h8 : autoParam
                    ((((List.all (backTo cy (starEach (e::es) (Cx.env X))) λ(x : Bool × Sem Value) =>
                            !Prod.fst x) &&
                          List.all (backToKw cy (keywordEach [] (Cx.env X))) λ(x : Option Str × Sem Value) =>
                            Option.isSome (Prod.fst x)) &&
                        decide
                          ((List.length (e::es)+List.length ([] : List Keyword)+if List.isEmpty ([] : List Keyword)=true then 0 else 1)<30)) =
                      true)
                    uO._auto_2) (h9 : autoParam ((Pos.endLine apos==Pos.line cy)=true) uO._auto_3) (uY : autoParam (starEach (e::es) (Cx.env X)=(false, eval e (Cx.env X))::starEach es (Cx.env X))
                        uO._auto_4) (VP : autoParam
                          ((List.any (backTo cy (starEach es (Cx.env X))) λ(x : Bool × Sem Value) => Prod.fst x) =
                            false)
                          uO._auto_5) : ZE X (Expr.Call (Expr.Attribute o name apos) (e::es) [] cy) (Yu (Cx.K X) T r to t) := ⟨uO h1 h2 h3 h4 h5.to h6.to h7 h8 h9 uY VP⟩
theorem aS{X:Cx}{e:Expr}{te:TE}{pos:Pos}(h1:ZE X e te):ZS X (Stmt.Return (some e) pos) (Pl te):=⟨Ql h1.to⟩
theorem dy{X:Cx}{e:Expr}{te:TE}{pos:Pos}(h1:ZE X e te)(h2:autoParam (swapsWith e none (Pos.line pos) (Cx.env X)=pure false) Dl._auto_1):ZS X (Stmt.Expr e pos) (HJ te):=⟨Dl h1.to h2⟩
theorem uz{X : Cx}{N : List Str}{jk : Scope}{elt target iter : Expr}{ifs : List Expr}{scope : Scope}{pos spos py : Pos}{wi : TI}{g : CB → TG}{tt : CB → TT}{te : CB → TE}{y : Str}(h1 : HC X N jk)(h2 : List.Nodup N)(i : Nat)(h3 : Aw N jk i y=true)(xs : List Str)(idx : List Nat)(h4 : Cx.calm X=true)(h5 : Gs jk N scope idx=true)(h6 : ZI X target iter wi)(h7 : (∀ (c : CB),
                      HC (jL X scope (xs++bS (Cx.N X) idx) c) (xs++bS N idx) (cM scope jk) →
                        ZG (jL X scope (xs++bS (Cx.N X) idx) c) target (g c))) (h8 : (∀ (c : CB),
                        HC (jL X scope (xs++bS (Cx.N X) idx) c) (xs++bS N idx) (cM scope jk) →
                          N0 (jL X scope (xs++bS (Cx.N X) idx) c) ifs (tt c))) (h9 : (∀ (c : CB),
                          HC (jL X scope (xs++bS (Cx.N X) idx) c) (xs++bS N idx) (cM scope jk) →
                            ZE (jL X scope (xs++bS (Cx.N X) idx) c) elt (te c))) (uY : swapsWith
                              (Expr.ListComp elt [{ target := target, iter := iter, ifs := ifs, is_async := 0 }] scope
                                pos)
                              (some (Expr.Name y py)) (Pos.line spos) (Cx.env X) =
                            pure true) (VP : autoParam (∀ (x : Value), foldedSetIterable iter (Cx.env X) x=pure x) xI._auto_1) : ZS X
                              (Stmt.Assign [Expr.Name y py]
                                (Expr.ListComp elt [{ target := target, iter := iter, ifs := ifs, is_async := 0 }] scope
                                  pos)
                                spos)
                              (vT (se wi (List.length xs) idx g tt te) (eH i)) := ⟨xI h1 h2 i h3 xs idx h4 h5 h6.to (λc z => (h7 c z).to) (λc z => (h8 c z).to) (λc z => (h9 c z).to) uY VP⟩
theorem aF{X:Cx}{N:List Str}{sc:Scope}{x:Str}{pos:Pos}{e:Expr}{te:TE}{pos':Pos}(h1:HC X N sc)(h2:List.Nodup N)(h3:(∀(x:Str),Cx.fn X x=true))(i:Nat)(h4:Oj N sc i x=true)(h5:ZE X e te)(h6:autoParam (swapsWith e (some (Expr.Name x pos')) (Pos.line pos) (Cx.env X)=pure false) Dk._auto_1):ZS X (Stmt.Assign [Expr.Name x pos'] e pos) (vT te (eH i)):=⟨Dk h1 h2 h3 i h4 h5.to h6⟩
theorem fq{X : Cx}{pos : Pos}{tg e : Expr}{te : TE}{g : TG}(h1 : ZE X e te)(h2 : ZG X tg g)(h3 : autoParam (swapsWithSole [tg] e (Pos.line pos) (Cx.env X)=pure false) v8._auto_1)(h4 : autoParam (swappedStores [tg] e (Cx.env X)=pure none) v8._auto_2)(h5 : autoParam
              (List.map (λ(x : Bool × (Value → Sem Unit)) => Prod.snd x) (assignEach [tg] (Cx.env X)) =
                [assign tg (Cx.env X)])
              v8._auto_3) : ZS X (Stmt.Assign [tg] e pos) (vT te g) := ⟨v8 h1.to h2.to h3 h4 h5⟩
theorem iF{X : Cx}{pos : Pos}{o i : Expr}{to ti : TE}{t : Cq}(h1 : ZE X o to)(h2 : ZE X i ti)(h3 : GP X t)(h4 : autoParam
            (∀ (v : Value),
              assign (Expr.Subscript o i pos) (Cx.env X) v=do
                let ov ← holding [v] (eval o (Cx.env X))
                let iv ← holding [v, ov] (eval i (Cx.env X))
                standAt pos
                holding [v, ov, iv] (setItem ov iv v)
                release [v, ov, iv] [])
            Jj._auto_1) : ZG X (Expr.Subscript o i pos) (Rz to ti t) := ⟨Jj h1.to h2.to h3 h4⟩
theorem wU{X : Cx}{pos : Pos}{o i e : Expr}{to ti te : TE}{zV : V → V → Hp → VK → Prop}{Pb : N2}{zU : Cq}{op : Operator}{vP : Pos}(h1 : ZE X o to)(h2 : ZE X i ti)(h3 : Si X zV)(h4 : ZE X e te)(h5 : Sh X op Pb)(h6 : GP X zU)(h7 : autoParam
                  (∀ (ov iv new : Value),
                    augStore i ov iv new=do
                      holding [new, ov, iv] (setItem ov iv new)
                      release [new, ov, iv] []
                      pure Flow.next)
                  Dm._auto_1) : ZS X (Stmt.AugAssign (Expr.Subscript o i vP) op e pos) (HS to ti te zV Pb zU) := ⟨Dm h1.to h2.to h3 h4.to h5 h6 h7⟩
theorem Hn{X:Cx}{N:List Str}{sc:Scope}{x:Str}{pos:Pos}{e:Expr}{te:TE}{op:Operator}{ti:N2}{pos':Pos}(h1:HC X N sc)(h2:List.Nodup N)(h3:(∀(x:Str),Cx.fn X x=true))(i:Nat)(h4:Oj N sc i x=true)(h5:ZE X e te)(h6:Sh X op ti):ZS X (Stmt.AugAssign (Expr.Name x pos') op e pos) (Lq i te ti):=⟨Mh h1 h2 h3 i h4 h5.to h6⟩
theorem cj{X:Cx}{t u:TS}{pos:Pos}{c:Expr}{a b:List Stmt}{tc:TT}(h1:ZT X c tc)(h2:En X a t)(h3:En X b u):ZS X (Stmt.If c a b pos) (Lj tc t u):=⟨T9 h1.to (.of h2.to) (.of h3.to)⟩
theorem uy{X:Cx}{pos:Pos}{c:Expr}{body:List Stmt}{tc:TT}{tb:TS}(h1:PassesOwn (model (Cx.prog X) (Cx.w X)) (Cx.A X) (Cx.env X) (Cx.xe X))(h2:ZT X c tc)(h3:En X body tb):ZS X (Stmt.While c body [] pos) (zW tc tb):=⟨Iy h1 h2.to (.of h3.to)⟩
theorem mB{X:Cx}{N:List Str}{sc:Scope}{x:Str}{pos:Pos}(h1:HC X N sc)(h2:List.Nodup N)(h3:(∀(x:Str),Cx.fn X x=true))(i:Nat)(h4:Oj N sc i x=true):ZG X (Expr.Name x pos) (eH i):=⟨pgk h1 h2 h3 i h4⟩
theorem iE{X:Cx}{pos:Pos}{tg iter:Expr}{body:List Stmt}{wi:TI}{g:TG}{tb:TS}(h1:PassesOwn (model (Cx.prog X) (Cx.w X)) (Cx.A X) (Cx.env X) (Cx.xe X))(h2:Cx.calm X=true)(h3:ZI X tg iter wi)(h4:ZG X tg g)(h5:En X body tb)(h6:autoParam (∀(x:Value),foldedSetIterable iter (Cx.env X) x=pure x) Iz._auto_1):ZS X (Stmt.For tg iter body [] pos) (Ln wi g tb):=⟨Iz h1 h2 h3.to h4.to (.of h5.to) h6⟩
theorem bE{X:Cx}:En X [] CV:=⟨uf.to L5⟩
theorem ay{X:Cx}{st:Stmt}{t:TS}(h1:ZS X st t):En X [st] t:=⟨uf.to (LW h1.to)⟩
theorem aj{X:Cx}{st:Stmt}{rest:List Stmt}{t u:TS}(h1:ZS X st t)(h2:En X rest u):En X (st::rest) (tSeq t u):=⟨uf.to (Iw h1.to (.of h2.to))⟩
theorem eF{X:Cx}{st:Stmt}{rest:List Stmt}{t u:TS}(h1:ZS X st t)(h2:En X rest u):En X (st::rest) (Pp t u):=⟨uf.to (L7 h1.to (.of h2.to))⟩
theorem jR.oI{P:Program}{w:World}{K:PySem.W.Frag}{mg:Str->Option Value}{base:Heap}{x qual:Str}{st:Stmt}{f:Addr}{fd:FuncData}{N ps:List Str}{k:Nat}{sp:Sp}(F:jR K x qual st f fd)(S:bp N ps (aq st))(len:∀vs H Q E,sp vs H Q E->vs.length=ps.length)
  (ko:∀(dB:Value) (A:Around) (outer:List Env) (s:Shared) (H:Hp) (vs:List V) (Q:VK) (E:XK),cS k (A.deeper (envOfC qual (aq st) s.heap.objs.size f dB))->sp vs H Q E->
   HC (jn iq P w K mg base N qual (aq st) f dB A outer s H E).KR N (aq st)->(∀x,(jn iq P w K mg base N qual (aq st) f dB A outer s H E).KR.fn x=true)->
   ∃t,En (jn iq P w K mg base N qual (aq st) f dB A outer s H E).KR (aX st) t/\t { nx:=λ_ H'=>Q .non H',rt:=Q } (start N vs) H):cz P w K mg base iq (k+1) f fd ps sp:=
 F.okK S len λdB A outer s H vs Q E hr h hc hf=>let ⟨t,h1,h2⟩:=ko dB A outer s H vs Q E hr h hc hf;⟨t,.of h1.to,h2⟩
def yN(w:World):Bool:=w.params.followText "set-order"
theorem M6(t:SetTable)(es:Array (Int×Value))(h:Int)(x:Value):(layNew t es h x).2.1.led=t.led:=by
 unfold layNew
 split
 ·dsimp only;unfold SetTable.orStandIn
  split <;> rfl
 ·rfl
theorem FW(t:SetTable)(es:Array (Int×Value))(h:Int)(x:Value)(e:t.plain=false):(layNew t es h x).2.1.plain=false:=by
 unfold layNew
 split
 ·dsimp only;unfold SetTable.orStandIn
  split
  ·exact e
  ·rfl
 ·rfl
theorem ym{mask finger moves:Nat}{led plain:Bool}{hs:Array Int}{t':SetTable}{o:Array Nat}(h:SetTable.laid mask finger moves led plain hs=some (t',o)):t'.led=led/\t'.plain=plain:=by
 unfold SetTable.laid at h
 cases q:SetTable.layClean mask hs with
 | none=>rw[q]at h;cases h
 | some owner=>rw[q]at h;cases h;exact⟨rfl,rfl⟩
theorem Fq(t:SetTable)(es:Array (Int×Value))(k:Nat):(relayAll t es k).2.1.led=t.led:=by
 unfold relayAll
 split
 ·rename_i t' o q
  dsimp only
  split
  ·exact(ym q).1
  ·rfl
 ·rfl
theorem xC(t:SetTable)(es:Array (Int×Value))(k:Nat)(e:t.plain=false):(relayAll t es k).2.1.plain=false:=by
 unfold relayAll
 split
 ·rename_i t' o q
  dsimp only
  split
  ·show t'.plain=false
   rw[(ym q).2];exact e
  ·rfl
 ·rfl
def t8(w:World)(p:Str×Tok):Int×Value:=(hashStr w p.1,.str p.1 p.2)
def gu(es:Array (Int×Value))(ep:Nat)(t:SetTable):Obj:={ cls:=.type "set",dict:=none,data:=.set es ep t }
structure jQ(w:World)(h:Heap)(a:Addr)(l:List (Str×Tok)):Prop where
 ex:∃es ep t,h.get? a=some (gu es ep t)/\es.toList=l.map (t8 w)/\t.fits es.size=true/\t.led = !yN w/\(l≠[]->t.plain=false)
 nd:(l.map (·.1)).Nodup
 sz:l.length<scanBound
theorem jQ.at{w:World}{h h':Heap}{a:Addr}{l:List (Str×Tok)}(x:jQ w h a l)(k:∀o,h.get? a=some o->h'.get? a=some o):jQ w h' a l:=
 ⟨let ⟨es,ep,t,e,r⟩:=x.ex;⟨es,ep,t,k _ e,r⟩,x.nd,x.sz⟩
section
variable {P:Program}{w:World}{A:Around}{E:Value->Shared->Prop}{s:Shared}{a:Addr}{l:List (Str×Tok)}
theorem Kh(l:List (Str×Tok)):ElemsOf (PySem.strKind P w) (l.map (t8 w)):=by
 intro e he
 obtain⟨p,_,rfl⟩:=dw.mp he
 exact⟨⟨p.1,strKind_is P w _ _,rfl⟩,rfl⟩
theorem Kf(x:Str):∀l:List (Str×Tok),(∀j,(l.map (t8 w)).findIdx? (λe=>(PySem.strKind P w).is x e.2)=some j->x∈l.map (·.1))/\((l.map (t8 w)).findIdx? (λe=>(PySem.strKind P w).is x e.2)=none->x∉l.map (·.1)):=by
 intro l
 refine⟨λj h=>?_,λh hm=>?_⟩
 ·obtain⟨hj,hp,_⟩:=List.findIdx?_eq_some_iff_getElem.mp h
  rw[zb]at hp
  rw[aY]at hj
  have:(l[j]).1=x:=(PySem.strKind P w).inj _ _ _ (strKind_is P w _ _) hp
  exact dw.mpr ⟨l[j],List.getElem_mem hj,this⟩
 ·obtain⟨p,hp,rfl⟩:=dw.mp hm
  have:=List.findIdx?_eq_none_iff.mp h (t8 w p) (List.mem_map_of_mem hp)
  rw[show(PySem.strKind P w).is p.1 (t8 w p).2=true from strKind_is P w _ _]at this
  cases this
theorem xN{es':List (Int×Value)}{l:List (Str×Tok)}(p:es'.Perm (l.map (t8 w))):∃l':List (Str×Tok),es'=l'.map (t8 w)/\l'.Perm l:=by
 let back:Int×Value->Str×Tok:=λe=>match e.2 with | .str x t=>(x,t) | _=>(default,0)
 have hb:∀q:Str×Tok,back (t8 w q)=q:=λq=>rfl
 refine⟨es'.map back,?_,?_⟩
 ·rw[iz]
  conv=>lhs;rw[<-vo es']
  refine wL λe he=>?_
  obtain⟨q,_,rfl⟩:=dw.mp (p.mem_iff.mp he)
  rfl
 ·have:=p.map back
  rw[iz,show(back ∘ t8 w)=id from funext hb,vo]at this
  exact this
theorem NZ{x:Str}{tk:Tok}{Q:Bool->Shared->Prop}(S:jQ w s.heap a l)(room:l.length+1<scanBound)
  (q:∀h' l' b,Heap.SameBut a s.heap h'->jQ w h' a l'->(∀z,z∈l'.map (·.1)↔z∈l.map (·.1)\/z=x)->l'.length<=l.length+1->Q b { s with heap:=h' }) :
  wpAny (model P w) A (setAddHashed a (.str x tk) (hashStr w x)) Q E s:=by
 obtain⟨⟨es,ep,t,ho,Ot,hf,JW,qG⟩,nd,sz⟩:=S
 have mP:es.size=l.length:=by rw[<-dX,Ot,aY]
 have hE:ElemsOf (PySem.strKind P w) es.toList:=by rw[Ot];exact Kh l
 have hk:(PySem.strKind P w).is x (.str x tk)=true:=strKind_is P w _ _
 have hd:(gu es ep t).data=.set es ep t:=rfl
 unfold setAddHashed setAddHashedIn
 refine dG (au (um ho hd hf ?_))
 dsimp only
 rw[byScan_of (knd:=PySem.strKind P w) rfl (by rw[mP];exact sz) hE]
 simp only[↓reduceIte]
 unfold setAddByScan
 refine au (au (wpAny_rule (au (wpAny_setScan_of (knd:=PySem.strKind P w) hk ho hd hf hE ?_))))
 have hfi:=Kf (P:=P) (w:=w) x l
 rw[<-Ot]at hfi
 cases hr:List.findIdx? (λe=>(PySem.strKind P w).is x e.2) es.toList with
 | some j=>
  dsimp only
  have hm:=hfi.1 j hr
  refine aM (aM ?_)
  have e:s={ s with heap:=s.heap }:=by cases s;rfl
  rw[e]
  exact q s.heap l false (Heap.SameBut.refl a s.heap) ⟨⟨es,ep,t,ho,Ot,hf,JW,qG⟩,nd,sz⟩ (λz=>⟨.inl,λh=>h.elim id λe=>e ▸ hm⟩) (gU _)
 | none=>
  have hm:=hfi.2 hr
  dsimp only
  have pp:=layNew_perm t es (hashStr w x) (.str x tk)
  have pf:=layNew_fits t es (hashStr w x) (.str x tk)
  have pl:=M6 t es (hashStr w x) (.str x tk)
  have pq:=FW t es (hashStr w x) (.str x tk)
  generalize hL:layNew t es (hashStr w x) (.str x tk)=L at pp pf pl pq ⊢
  obtain⟨lF,t1,Yn,gave⟩:=L
  dsimp only at pp pf pl pq ⊢
  rw[Array.toList_push,Ot]at pp
  obtain⟨l1,e1,p1⟩:=xN (l:=l++[(x,tk)]) (w:=w) (es':=lF.toList) (by rw[cQ];exact pp)
  have U0:l1.length=l.length+1:=by rw[p1.length_eq,eN];rfl
  have nd1:(l1.map (·.1)).Nodup:=by
   rw[(p1.map (·.1)).nodup_iff,cQ,vE]
   refine⟨nd,by simp,λu hu v hv=>?_⟩
   rw[eB,oj,di]at hv
   rintro rfl
   rw[hv]at hu
   exact hm hu
  have UJ:∀z,z∈l1.map (·.1)↔z∈l.map (·.1)\/z=x:=λz=>by
   rw[(p1.map (·.1)).mem_iff,cQ,gW];simp
  have aAO:lF.size=l.length+1:=by rw[<-dX,e1,aY,U0]
  have gw:∀(b:Bool) {s₁:Shared} {Q':Unit->Shared->Prop},Q' () s₁->wpAny (model P w) A (match b with | true=>rule "set.scan.the-table-gave-way" | false=>pure ()) Q' E s₁:=
   λb s₁ Q' hq=>by cases b <;> first | exact aM hq | exact wpAny_rule hq
  refine au (gw _ ?_)
  have fin:∀t2:SetTable,t2.fits lF.size=true->t2.led=t.led->t2.plain=false->
    wpAny (model P w) A (do
     storeSet a lF t2
     if (!Yn&&t2.tooFull)=true then do
      (match (relayAll t2 lF (SetTable.grown lF.size)).2.2 with | true=>rule "set.scan.the-table-gave-way" | false=>pure ())
      storeSet a (relayAll t2 lF (SetTable.grown lF.size)).1 (relayAll t2 lF (SetTable.grown lF.size)).2.1
      pure (some true)
     else pure (some true)) (λr s'=>∃b,r=some b/\Q b s') E s:=by
   intro t2 f2 l2 p2
   refine au (wpAny_storeSet_of ho hd ?_ (by rw[aAO];exact vA room))
   have g1:(s.heap.update a (Obj.putSet lF t2)).get? a=some (gu lF (ep+1) t2):=by
    have:=lJ (Obj.putSet lF t2) ho (by rw[putSet_of lF t2 hd];rfl)
    rw[putSet_of lF t2 hd]at this;exact this
   have sb:=qU s.heap a (Obj.putSet lF t2)
   split
   ·have rp:=relayAll_perm t2 lF (SetTable.grown lF.size)
    have rf:=relayAll_fits t2 lF (SetTable.grown lF.size)
    have rl:=Fq t2 lF (SetTable.grown lF.size)
    have rq:=xC t2 lF (SetTable.grown lF.size) p2
    generalize hR:relayAll t2 lF (SetTable.grown lF.size)=R at rp rf rl rq ⊢
    obtain⟨RD,t3,aB3⟩:=R
    dsimp only at rp rf rl rq ⊢
    rw[e1]at rp
    obtain⟨l2',e2,ZJ⟩:=xN rp
    have UW:l2'.length=l.length+1:=by rw[ZJ.length_eq,U0]
    have aAN:RD.size=l.length+1:=by rw[<-dX,e2,aY,UW]
    refine au (gw _ ?_)
    refine au (wpAny_storeSet_of g1 rfl ?_ (by rw[aAN];exact vA room))
    have g2:((s.heap.update a (Obj.putSet lF t2)).update a (Obj.putSet RD t3)).get? a=some (gu RD (ep+1+1) t3):=by
     have:=lJ (Obj.putSet RD t3) g1 (by rw[putSet_of RD t3 (show(gu lF (ep+1) t2).data=_ from rfl)];rfl)
     rw[putSet_of RD t3 (show(gu lF (ep+1) t2).data=_ from rfl)]at this;exact this
    refine aM ⟨true,rfl,q _ l2' true (sb.trans (qU _ a _)) ⟨⟨RD,_,t3,g2,e2,rf,by rw[rl,l2,JW],λ_=>rq⟩,by rw[(ZJ.map (·.1)).nodup_iff];exact nd1,by lia⟩ (λz=>by rw[(ZJ.map (·.1)).mem_iff];exact UJ z) (by lia)⟩
   ·exact aM ⟨true,rfl,q _ l1 true sb ⟨⟨lF,_,t2,g1,e1,f2,by rw[l2,JW],λ_=>p2⟩,nd1,by lia⟩ UJ (by lia)⟩
  split
  ·rename_i Bt
   refine au ?_
   rw[hashByValue_scannable 8 (show(Value.str x tk).scannable=true from rfl)]
   refine aM ?_
   rw[show(if plainKind (Value.str x tk)=true then t1 else { t1 with plain:=false })={ t1 with plain:=false } from rfl]
   refine cP (fin { t1 with plain:=false } (SetTable.fits_plain_off pf) pl rfl) (λr s' h=>?_) λ_ _ h=>h
   obtain⟨b,rfl,hq⟩:=h
   exact aM hq
  ·rename_i Bt
   refine au (aM ?_)
   simp only[↓reduceIte]
   refine cP (fin t1 pf pl (by simpa using Bt)) (λr s' h=>?_) λ_ _ h=>h
   obtain⟨b,rfl,hq⟩:=h
   exact aM hq
end
section
variable {P:Program}{w:World}{A:Around}{R:Result->Shared->Prop}{I:Addr}{fp wr:List Addr}{G:Array GenState->Array GenState->Prop}{n:Nat}{Pv:Nat->Value->Prop}{St:Nat->Shared->Prop}
theorem JC(W:WalksS P w A.in1 I fp wr G n Pv St)(S:Addr)(XF:S∉fp)(val:Nat->Str)(hval:∀i v,Pv i v->∃t,v=.str (val i) t)(hb:n+1<scanBound) :
  ∀(k i:Nat) (s:Shared) (l:List (Str×Tok)),n-i=k->i<=n->St i s->jQ w s.heap S l->l.length<=i->(∀z,z∈l.map (·.1)↔∃j,j<i/\val j=z)->
   (∀s' l',Moved (S::wr) G s s'->jQ w s'.heap S l'->(∀z,z∈l'.map (·.1)↔∃j,j<n/\val j=z)->R (.ok (.ret .none)) s')->
   codeAny (model P w) A (.builtin "set.update.loop" ⟨[.ref S,.ref I],[]⟩) R s:=by
 have nw:S∉wr:=λz=>XF (W.sub _ z)
 have up:∀b∈wr,b∈S::wr:=λb z=>dY _ z
 intro k
 induction k with
 | zero=>
  intro i s l hk hi st hS hl hm r
  obtain rfl:i=n:=by lia
  refine qO F.entry_set_update_loop ?_
  rw[rG zk _]
  refine au (m:=pyNext (.ref I)) (W.done s _ _ st λs' mv=>?_)
  refine aM (r s' l (mv.mono up) (hS.at λo e=>mv.heap S o nw e) hm)
 | succ k ih=>
  intro i s l hk hi st hS hl hm r
  have lt:i<n:=by lia
  refine qO F.entry_set_update_loop ?_
  rw[rG zk _]
  refine au (m:=pyNext (.ref I)) (W.item i s _ _ lt st λv s' pv nk mv=>?_)
  obtain⟨t,rfl⟩:=hval i v pv
  have Rq:=hS.at (h':=s'.heap) λo e=>mv.heap S o nw e
  refine au (m:=holding [Value.str (val i) t] (setAdd S (.str (val i) t))) (dG ?_)
  unfold setAdd
  refine dG (au ((PySem.strKind P w).pyHash (k:=val i) (strKind_is _ _ _ _) ?_))
  refine NZ (s:={ s' with toks:=s'.toks+1 }) Rq (by lia) λh' l' b sb S2 m2 UW=>?_
  refine aM ⟨vp zk _,ih (i+1) _ l' (by lia) lt (W.frame _ s' _ _ nk (gU _) λc hc o e=>?_) S2 (by lia) (λz=>?_) λs2 l2 mv2 S3 m3=>?_⟩
  ·rw[sb.2 c (λq:c=S=>XF (by rw[<-q];exact hc))];exact e
  ·rw[m2 z,hm z]
   constructor
   ·rintro(⟨j,hj,e⟩ | e)
    ·exact⟨j,by lia,e⟩
    ·exact⟨i,by lia,e.symm⟩
   ·rintro⟨j,hj,e⟩
    by_cases q:j=i
    ·subst q;exact .inr e.symm
    ·exact .inl ⟨j,by lia,e⟩
  ·refine r s2 l2 (Moved.trans W.gtrans ((mv.mono up).then_heap (gU _) λc o hc e=>?_) mv2) S3 m3
   rw[sb.2 c (λq:c=S=>hc (by rw[q];exact dE))];exact e
end
theorem CW:∀{vs:List Value} {ss:List Str},StrsAre vs ss->∀(i:Nat) (v:Value),vs[i]?=some v->∃t,v=.str (ss.getD i "") t
 | _,_,.nil,i,v,h=>by cases i <;> cases h
 | _,_,.cons y t r,0,v,h=>by cases h;exact⟨t,rfl⟩
 | _,_,.cons y t r,i+1,v,h=>by
  obtain⟨u,e⟩:=CW r i v (by simpa using h)
  exact⟨u,by rw[e];rfl⟩
section
variable {P:Program}{w:World}{A:Around}{E:Value->Shared->Prop}{s:Shared}
theorem Ly{x:Value}{Q:Value->Shared->Prop}(h:Q (.ref s.heap.objs.size) { s with heap:=s.heap.push (gu #[] 0 (.fresh 0 0 (!yN w))) }) :
  codeAny (model P w) A (.call (.builtin "set.__new__") ⟨[.type "set",x],[]⟩) (wants Q E) s:=by
 refine vw ?_
 refine au (m:=checkBuiltinCall "set.__new__" ⟨[.type "set",x],[]⟩) (qZ (PySem.F.newCall_set_1 x) (aM ⟨vp PySem.F.plain_set_new _,qO PySem.F.entry_set_new ?_⟩))
 rw[rG PySem.F.plain_set_new _]
 unfold Builtin.«set.__new__» Builtin.Frozenset.newClass
 have Vd:=sub_set_self
 obtain⟨hp,g,d,tk,os⟩:=s
 dsimp only
 wp_walk
 refine wpAny_askSetting (aM ?_)
 dsimp only
 simp only[newObj]
 refine au (wpAny_alloc (aM (aM h)))
theorem Im{l:Addr}{items:Array Value}{ss:List Str}{Q:Value->Shared->Prop}(hh:A.handled=none)(hl:s.heap.IsList l items)(hi:StrsAre items.toList ss)(hb:items.size+1<scanBound)
  (h:∀(h':Heap) (tk:Nat) (ls:List (Str×Tok)),jQ w h' s.heap.objs.size ls->(∀z,z∈ls.map (·.1)↔z∈ss)->(∀b o,b<s.heap.objs.size->s.heap.get? b=some o->h'.get? b=some o)->Q (.ref s.heap.objs.size) { s with heap:=h',toks:=tk }) :
  wpAny (model P w) A (call (.type "set") [.ref l]) Q E s:=by
 have e:∀z:Str,(∃j,j<items.size/\ss.getD j "" = z)↔z∈ss:=λz=>by
  have hlen:items.size=ss.length:=by rw[<-dX];exact hi.length
  rw[hlen,zD]
  constructor
  ·rintro⟨j,hj,e⟩;exact⟨j,hj,by rw[<-e];simp[hj]⟩
  ·rintro⟨j,hj,e⟩;exact⟨j,hj,by rw[<-e];simp[hj]⟩
 obtain⟨c,tl,aAV⟩:=pB.mro
 have aB2:=pB.made
 have Vd:=pB.sub
 refine jS (vw (aM (a:=_) ⟨vB _ (by decide +kernel),qO PySem.F.entry_type_call ?_⟩))
 rw[Around.under_plain (weight_type_call_type "set" [.ref l] []) rfl]
 have h1:=pB.notType
 have h2:=pB.canCreate
 have hct:=PySem.F.typeCall_set_1 (.ref l)
 repeat (any_goals (first | assumption | wp_step))
 refine lH (Ly (x:=.ref l) (E:=E) (Q:=λobj s₁=>obj=.ref s.heap.objs.size/\s₁={ s with heap:=s.heap.push (gu #[] 0 (.fresh 0 0 (!yN w))) }) ⟨rfl,rfl⟩) λr s₁ hr=>?_
 cases r with
 | error e=>exact hr
 | ok fl=>
  cases fl with
  | ret obj=>
   obtain⟨rfl,rfl⟩:=hr
   have hS:(s.heap.push (gu #[] 0 (.fresh 0 0 (!yN w)))).get? s.heap.objs.size=some (gu #[] 0 (.fresh 0 0 (!yN w))):=dj _ rfl
   have hT:Shared.TypeIs { s with heap:=s.heap.push (gu #[] 0 (.fresh 0 0 (!yN w))) } (.ref s.heap.objs.size) "set":=⟨_,hS,rfl⟩
   have hli:=pB.init.lookup
   have hbi:=pB.init.bind (.ref s.heap.objs.size)
   repeat (any_goals (first | assumption | wp_step))
   refine lH (qV (R:=wants (λr s₂=>r=.none/\∃h' tk ls,s₂={ s with heap:=h',toks:=tk }/\jQ w h' s.heap.objs.size ls/\(∀z,z∈ls.map (·.1)↔z∈ss)/\
     (∀b o,b<s.heap.objs.size->s.heap.get? b=some o->h'.get? b=some o)) E) pB.init.plain PySem.F.entry_set_init (check_set_init_1 hT ?_)) λr₂ s₂ hr₂=>?_
   ·obtain⟨ol,hol,hcl,nl,hdl⟩:=hl
    obtain⟨aB5,Uu,aB0,Qy⟩:=ol
    simp only at hcl hdl
    subst hcl;subst hdl
    have aAQ:(s.heap.push (gu #[] 0 (.fresh 0 0 (!yN w)))).get? l=some { cls:=.type "list",dict:=Uu,data:=.seq items nl,slots:=Qy }:=cq _ hol
    have aB7:=PySem.F.sub_list_set
    have aB8:=PySem.F.sub_list_frozenset
    have qH:(Value.type "list" == Value.type "dict")=false:=by decide
    have hl1:(s.heap.push (gu #[] 0 (.fresh 0 0 (!yN w)))).IsList l items:=⟨_,aAQ,rfl,nl,rfl⟩
    unfold Builtin.«set.__init__» noKeywords Builtin.Frozenset.updateFrom
    unfold gu at *
    generalize hPI:pyIter=PI
    wp_walk
    subst hPI
    refine rB hl1 (au (wpAny_runValue ?_))
    have hlS:l<s.heap.objs.size:=bI hol
    have hh3:A.in1.in1.in1.handled=none:=by simp[hh]
    have mP:(s.heap.push (gu #[] 0 (.fresh 0 0 (!yN w)))).objs.size=s.heap.objs.size+1:=qM _ _
    have aAU:l≠(s.heap.push (gu #[] 0 (.fresh 0 0 (!yN w)))).objs.size:=by rw[mP];exact bJ (pz hlS)
    have XF:s.heap.objs.size∉[(s.heap.push (gu #[] 0 (.fresh 0 0 (!yN w)))).objs.size,l]:=by
     rw[mP];simp only[dh,di,nu,or_false,not_or];exact⟨bJ (zh _),pe hlS⟩
    refine JC ((Walks.list hh3 _ l aAU items).toS) s.heap.objs.size XF (λj=>ss.getD j "") (λi v hv=>?hv) hb (items.size-0) 0 _ [] (by lia) (dg _)
     ⟨⟨_,dj _ rfl,rfl,rfl⟩,(hl1.push _)⟩ ?hS0 (dg _) (λz=>⟨(λz=>nomatch z),λ⟨_,hj,_⟩=>absurd hj (Nat.not_lt_zero _)⟩) ?hR
    case hv=>exact CW hi i v (by rw[qW];exact hv)
    case hS0=>exact⟨⟨#[],0,_,cq _ hS,rfl,rfl,rfl,λz=>absurd rfl z⟩,qN,by decide⟩
    case hR=>
     intro s' l' hm Rq mem
     obtain⟨h',g',d',Yp,ZL⟩:=s'
     have eg:g'=s.gens:=hm.gens
     have ed:d'=s.drawn:=hm.drawn
     have eo:ZL=s.os:=hm.os
     subst eg;subst ed;subst eo
     refine aM (aM ⟨rfl,h',Yp,l',rfl,Rq,λz=>(mem z).trans (e z),λb o hb e=>?_⟩)
     refine hm.heap b o ?_ (cq _ (cq _ e))
     rw[mP]
     simp only[dh,di,nu,or_false,not_or];exact⟨bJ hb,bJ (pz hb)⟩
   ·cases r₂ with
    | error e=>exact hr₂
    | ok fl₂=>
     cases fl₂ with
     | ret r=>
      obtain⟨rfl,h',tk,ls,rfl,Rq,hm',JX⟩:=hr₂
      repeat (any_goals (first | assumption | wp_step))
      exact h _ _ _ Rq hm' JX
     | _=>exact hr₂.elim
  | _=>exact hr.elim
end
theorem dR:Slot "set_iterator" "__next__" "set_iterator.__next__":=
 .of (owner:="set_iterator") (n:="__next__") (by rw[typeLookup_type,builtinLookup_eq_fast];kernel_rfl) (by decide +kernel) (by decide +kernel) (by decide +kernel)
  (.inl (by decide +kernel)) (by rw[isSubtype_type];kernel_rfl)
theorem nE:Slot "set_iterator" "__iter__" "set_iterator.__iter__":=
 .of (owner:="set_iterator") (n:="__iter__") (by rw[typeLookup_type,builtinLookup_eq_fast];kernel_rfl) (by decide +kernel) (by decide +kernel) (by decide +kernel)
  (.inl (by decide +kernel)) (by rw[isSubtype_type];kernel_rfl)
theorem lU:entryFor table "set_iterator.__next__" = some Builtin.«set_iterator.__next__»:=entryFor_of_tree (by kernel_rfl)
theorem tT:entryFor table "set_iterator.__iter__" = some Builtin.«dict_keyiterator.__iter__»:=
 entryFor_alias (id':="dict_keyiterator.__iter__") (by kernel_rfl) rfl (by decide +kernel) (by kernel_rfl)
theorem tU:entryFor table "set.__iter__" = some Builtin.«frozenset.__iter__»:=
 entryFor_alias (id':="frozenset.__iter__") (by kernel_rfl) rfl (by decide +kernel) (by kernel_rfl)
theorem xm:Manifest.owners.lookup (String.ofList "rotareti_tes".toList.reverse)=some Manifest.sig_set_iterator:=by kernel_rfl
theorem nF(a:Value):argsOk "set_iterator.__next__" ⟨[a],[]⟩:=by
 unfold argsOk;rw[signature?_of (id:="set_iterator.__next__") (n:="__txen__".toList) (o:="rotareti_tes".toList) (by kernel_rfl) xm];kernel_rfl
theorem vW(a:Value):argsOk "set_iterator.__iter__" ⟨[a],[]⟩:=by
 unfold argsOk;rw[signature?_of (id:="set_iterator.__iter__") (n:="__reti__".toList) (o:="rotareti_tes".toList) (by kernel_rfl) xm];kernel_rfl
def lV(first:Value)(i n ep:Nat)(a:Addr):Obj:={ cls:=.type "set_iterator",data:=.fields #[first,.int i 0,.ref a,.int n 0,.int ep 0] }
section
variable {P:Program}{w:World}{A:Around}{E:Value->Shared->Prop}{s:Shared}{a I:Addr}{es:Array (Int×Value)}{t:SetTable}{ep i n:Nat}{first:Value}
theorem nC(hI:s.heap.get? I=some (lV first i n ep a)):s.TypeIs (.ref I) "set_iterator":=⟨_,hI,rfl⟩
theorem Dd{Q:Value->Shared->Prop}(hI:s.heap.get? I=some (lV first i n ep a))(q:Q (.ref I) s):wpAny (model P w) A (pyIter (.ref I)) Q E s:=by
 refine wpAny_pyIter_slot (nC hI) nE (qR nE (nC hI) tT ?_ (vW _))
 exact aM ⟨_,rfl,"set_iterator",_,nC hI,dR.lookup,q⟩
theorem Il{slot:Nat}{tk:Tok}{r:Option (Value×Nat)}{Q:Option Value->Shared->Prop}(hh:A.handled=none)(hI:s.heap.get? I=some (lV (.int slot tk) i n ep a))(hS:s.heap.get? a=some (gu es ep t))(hf:t.fits es.size=true)(hn:es.size=n)
  (hx:∀(B:Around) (E':Value->Shared->Prop) (Q':Option (Value×Nat)->Shared->Prop),Q' r s->wpAny (model P w) B (setNext a slot i ep) Q' E' s)
  (q:match r with
   | some (x,nx)=>∀h',h'.get? I=some (lV (.int (nx:Int) 0) (i+1) n ep a)->Heap.SameBut I s.heap h'->Q (some x) { s with heap:=h' }
   | none=>∀h',Heap.ExtBut I s.heap h'->Q none { s with heap:=h' }):wpAny (model P w) A (pyNext (.ref I)) Q E s:=by
 have hT:=nC hI
 unfold pyNext
 refine au (oi (zE (name:=Str.ofString "__next__") hT dR (qR dR hT lU ?_ (nF _))))
 unfold Builtin.«set_iterator.__next__»
 refine au (m:=slotArgs _ _ _) (aM ?_)
 refine au (wpAny_fieldsOf hI rfl ?_)
 refine au (m:=setEntries a) (zj hS rfl hf ?_)
 rw[aE (by rw[hn];simp)]
 refine au (m:=setNext a slot i ep) (hx _ _ _ ?_)
 cases r with
 | some p=>
  obtain⟨x,nx⟩:=p
  dsimp only at q ⊢
  refine au (m:=setField (.ref I) 0 (rawInt nx)) (uo hI (by simp) λh1 e1 TV=>?_)
  refine au (m:=setField (.ref I) 1 (rawInt (i+1))) (uo e1 (by simp) λh2 e2 YX=>?_)
  exact aM ⟨x,rfl,aM (q h2 (by rw[e2];rfl) (TV.trans YX))⟩
 | none=>
  dsimp only at q ⊢
  refine au (m:=setField (.ref I) 2 .none) (uo hI (by simp) λh1 e1 TV=>?_)
  refine au (m:=newExc (.type "StopIteration") []) ?_
  simp only[newExc,newTuple]
  refine au (jJ ?_ (by size_fits))
  refine au (m:=firstArgMember _ _) (qZ (a:=Value.none) (by first | rfl | (simp only[firstArgMember];rfl)) ?_)
  refine jJ (zi hh ?_) (by size_fits)
  refine au (wpAny_isInstance (T:="StopIteration") (b:=true) ⟨_,dj _ rfl,rfl⟩ isSubtype_stop ?_)
  exact aM (q _ ((TV.extBut.push _).push _))
theorem Ik{p:Addr}{vs:Array Value}{c:Nat}{r:Option Value}{Q:Option Value->Shared->Prop}(hh:A.handled=none)(hI:s.heap.get? I=some (lV (.ref p) i n ep a))(hS:s.heap.get? a=some (gu es ep t))(hf:t.fits es.size=true)(hn:es.size=n)
  (hp:s.heap.get? p=some { cls:=.type "tuple",data:=.seq vs c })
  (hv:match r with | some x=>∃(k:Nat) (z:Int),vs[i]?=some (.int k 0)/\es[k]?=some (z,x) | none=>vs[i]?=none)
  (q:match r with
   | some x=>∀h',h'.get? I=some (lV (.ref p) (i+1) n ep a)->Heap.SameBut I s.heap h'->Q (some x) { s with heap:=h' }
   | none=>∀h',Heap.ExtBut I s.heap h'->Q none { s with heap:=h' }):wpAny (model P w) A (pyNext (.ref I)) Q E s:=by
 have hT:=nC hI
 unfold pyNext
 refine au (oi (zE (name:=Str.ofString "__next__") hT dR (qR dR hT lU ?_ (nF _))))
 unfold Builtin.«set_iterator.__next__»
 refine au (m:=slotArgs _ _ _) (aM ?_)
 refine au (wpAny_fieldsOf hI rfl ?_)
 refine au (m:=setEntries a) (zj hS rfl hf ?_)
 rw[aE (by rw[hn];simp)]
 refine au (m:=seqItems? (.ref p)) (wpAny_seqItems hp rfl ?_)
 cases r with
 | some x=>
  obtain⟨k,z,e1,e2⟩:=hv
  dsimp only at q ⊢
  simp only[Int.toNat_natCast,e1]
  refine au (m:=setNextDrawn a k ep) ?_
  unfold setNextDrawn
  refine au (um hS rfl hf ?_)
  dsimp only
  rw[aE (by simp)]
  simp only[e2]
  refine aM ?_
  refine au (m:=setField (.ref I) 1 (rawInt (i+1))) (uo hI (by simp) λh2 e2 YX=>?_)
  exact aM ⟨x,rfl,aM (q h2 (by rw[e2];rfl) YX)⟩
 | none=>
  dsimp only at q hv ⊢
  simp only[Int.toNat_natCast,hv]
  refine au (m:=setField (.ref I) 0 (rawInt 0)) (uo hI (by simp) λh0 e0 sb0=>?_)
  refine au (m:=setField (.ref I) 2 .none) (uo e0 (by simp) λh1 e1 TV=>?_)
  refine au (m:=newExc (.type "StopIteration") []) ?_
  simp only[newExc,newTuple]
  refine au (jJ ?_ (by size_fits))
  refine au (m:=firstArgMember _ _) (qZ (a:=Value.none) (by first | rfl | (simp only[firstArgMember];rfl)) ?_)
  refine jJ (zi hh ?_) (by size_fits)
  refine au (wpAny_isInstance (T:="StopIteration") (b:=true) ⟨_,dj _ rfl,rfl⟩ isSubtype_stop ?_)
  exact aM (q _ (((sb0.trans TV).extBut.push _).push _))
end
theorem mS{α:Type}:∀(l:List α) (i:Nat) (x:α),l[i]?=some x->(x::l.eraseIdx i).Perm l
 | [],i,x,h=>by cases i <;> cases h
 | y::l,0,x,h=>by cases h;exact List.Perm.refl _
 | y::l,i+1,x,h=>by
  rw[List.getElem?_cons_succ]at h
  rw[List.eraseIdx_cons_succ]
  exact(List.Perm.swap y x _).trans ((mS l i x h).cons y)
theorem Dq{α:Type}(next:Nat->Nat):∀(f k:Nat) (l:List α) (out:Array α),l.length=f->(pickOrder.go next f k l out).toList.Perm (out.toList++l)
 | 0,k,l,out,h=>by
  rw[List.length_eq_zero_iff.mp h,ph]
  unfold pickOrder.go
  exact List.Perm.refl _
 | f+1,k,l,out,h=>by
  unfold pickOrder.go
  have lt:next k%l.length<l.length:=Nat.mod_lt _ (by lia)
  have e:l[next k%l.length]?=some l[next k%l.length]:=cD lt
  rw[e]
  dsimp only
  refine(Dq next f (k+1) _ _ (by rw[zJ lt];lia)).trans ?_
  rw[Array.toList_push,vD]
  exact(mS l _ _ e).append_left _
theorem uM{α:Type}(next:Nat->Nat)(xs:Array α):(pickOrder next xs).toList.Perm xs.toList:=by
 unfold pickOrder
 have:=Dq next xs.size 0 xs.toList #[] dX
 simpa using this
section
variable {P:Program}{w:World}{A:Around}{E:Value->Shared->Prop}
theorem uZ{α:Type}:∀(n:Nat) (xs:List α) (s:Shared) (Q:List α->Shared->Prop),xs.length=n->(∀ys d,ys.Perm xs->Q ys { s with drawn:=d })->wpAny (model P w) A (drawOrder n xs) Q E s
 | 0,xs,s,Q,h,q=>by
  have:xs=[]:=List.length_eq_zero_iff.mp h
  subst this
  unfold drawOrder
  exact aM (by cases s;exact q [] _ (List.Perm.refl _))
 | n+1,[],s,Q,h,q=>by cases h
 | n+1,x::xs,s,Q,h,q=>by
  unfold drawOrder
  have lt:w.draws .order (s.drawn.get .order)%(x::xs).length<(x::xs).length:=Nat.mod_lt _ (by simp)
  refine au (m:=choose .order (x::xs).length) (λΓ p hΓ=>?_)
  refine⟨by simp,?_⟩
  have e:(x::xs)[w.draws .order (s.drawn.get .order)%(x::xs).length]?=some (x::xs)[w.draws .order (s.drawn.get .order)%(x::xs).length]:=cD lt
  show wpAny (model P w) A (match (x::xs)[w.draws .order (s.drawn.get .order)%(x::xs).length]? with
   | some y=>do let r <-drawOrder n ((x::xs).eraseIdx (w.draws .order (s.drawn.get .order)%(x::xs).length));pure (y::r)
   | none=>unsupported "internal:drawOrder") Q E { s with drawn:=s.drawn.bump .order }
  rw[e]
  dsimp only
  refine au (uZ n _ _ _ (by rw[zJ lt];simp at h ⊢;lia) λys d hp=>aM ?_)
  exact q _ d ((hp.cons _).trans (mS _ _ _ e))
variable {s:Shared}{a:Addr}{es:Array (Int×Value)}{t:SetTable}{ep slot i:Nat}
theorem jC{Q:Bool->Shared->Prop}(q:Q (yN w) s):wpAny (model P w) A setsByText Q E s:=by
 unfold setsByText
 exact au (wpAny_askSetting (aM q))
theorem x9{Q:Option (Value×Nat)->Shared->Prop}(hb:yN w=true)(hS:s.heap.get? a=some (gu es ep t))(hf:t.fits es.size=true)(q:Q (((pickOrder (w.params.setOrder a ep) es)[i]?).map λe=>(e.2,slot)) s) :
  wpAny (model P w) A (setNext a slot i ep) Q E s:=by
 unfold setNext
 refine au (um hS rfl hf (au (jC ?_)))
 rw[hb]
 dsimp only
 rw[aI rfl,aE (by simp)]
 refine au ?_
 unfold setWalk
 refine au (um hS rfl hf (au (jC ?_)))
 rw[hb,aI rfl]
 exact au (wpAny_askSetting (aM (aM q)))
theorem Jw{Q:Option (Value×Nat)->Shared->Prop}(hb:yN w=false)(hl:t.led=true)(hz:es.size<=1)(hS:s.heap.get? a=some (gu es ep t))(hf:t.fits es.size=true)
  (q:Q (match es[SetTable.below t.place slot]?,t.place[SetTable.below t.place slot]? with | some (_,x),some j=>some (x,j+1) | _,_=>none) s):wpAny (model P w) A (setNext a slot i ep) Q E s:=by
 unfold setNext
 refine au (um hS rfl hf (au (jC ?_)))
 rw[hb]
 dsimp only
 rw[aE (by simp)]
 have d:(!t.plain&&decide (es.size > 1))=false:=by
  rw[Bool.and_eq_false_iff];right;simpa using hz
 show wpAny _ _ (if (!t.plain&&decide (es.size > 1))=true then _ else _) _ _ _
 rw[d,aE (by simp)]
 show wpAny _ _ ((if (!t.led && !es.isEmpty)=true then _ else _) >>= _) _ _ _
 rw[hl,Bool.not_true,vy,aE (by simp)]
 exact au (aM (aM q))
end
section
variable {P:Program}{w:World}{B:Around}{a I:Addr}{es:Array (Int×Value)}{t:SetTable}{ep n:Nat}{ord:List Value}
theorem uD(slotAt:Nat->Nat)(hh:B.handled=none)(qH:a≠I)(hf:t.fits es.size=true)(hn:es.size=n)(ho:ord.length=n)
  (hx:∀i,i<=n->∀(s:Shared) (C:Around) (E':Value->Shared->Prop) (Q':Option (Value×Nat)->Shared->Prop),s.heap.get? a=some (gu es ep t)->Q' ((ord[i]?).map λv=>(v,slotAt (i+1))) s->wpAny (model P w) C (setNext a (slotAt i) i ep) Q' E' s) :
  WalksS P w B I [I,a] [I] (λx y=>y=x) n (λi v=>ord[i]?=some v) (λi s=>s.heap.get? I=some (lV (.int (slotAt i) 0) i n ep a)/\s.heap.get? a=some (gu es ep t)) where
 sub:=λb hb=>by rw[di.mp hb];exact dE
 grefl:=λ_=>rfl
 gtrans:=λ_ _ _ h1 h2=>h2.trans h1
 frame:=λi s h' tk st _ k=>⟨k I (by simp) _ st.1,k a (by simp) _ st.2⟩
 item:=λi s Q E hi st q=>by
  have e:ord[i]?=some ord[i]:=cD (by rw[ho];exact hi)
  refine Il (r:=some (ord[i],slotAt (i+1))) hh st.1 st.2 hf hn (λC E' Q' hq=>hx i (pd hi) s C E' Q' st.2 (by rw[e];exact hq)) λh' h1 h2=>?_
  exact q _ _ e ⟨h1,h2.extBut a _ qH st.2⟩ ⟨λb o hb z=>h2.extBut b o (λy=>hb (by rw[y];exact di.mpr rfl)) z,rfl,rfl,rfl,bB _⟩
 done:=λs Q E st q=>by
  have e:ord[n]?=none:=qX (by rw[ho];exact bB _)
  refine Il (r:=none) hh st.1 st.2 hf hn (λC E' Q' hq=>hx n (bB _) s C E' Q' st.2 (by rw[e];exact hq)) λh' h1=>?_
  exact q _ ⟨λb o hb z=>h1 b o (λy=>hb (by rw[y];exact di.mpr rfl)) z,rfl,rfl,rfl,bB _⟩
 self:=λi s Q E st q=>Dd st.1 q
theorem Fb{p:Addr}{pl:List Nat}{c:Nat}(hh:B.handled=none)(qH:a≠I)(hnp:p≠I)(hf:t.fits es.size=true)(hn:es.size=n)(ho:ord.length=n)(hl:pl.length=n)
  (hx:∀i:Nat,i<n->∃(k:Nat) (z:Int) (x:Value),pl[i]?=some k/\es[k]?=some (z,x)/\ord[i]?=some x) :
  WalksS P w B I [I,a,p] [I] (λx y=>y=x) n (λi v=>ord[i]?=some v)
   (λi s=>s.heap.get? I=some (lV (.ref p) i n ep a)/\s.heap.get? a=some (gu es ep t)/\s.heap.get? p=some { cls:=.type "tuple",data:=.seq (pl.map λ(j:Nat)=>Value.int j 0).toArray c }) where
 sub:=λb hb=>by rw[di.mp hb];exact dE
 grefl:=λ_=>rfl
 gtrans:=λ_ _ _ h1 h2=>h2.trans h1
 frame:=λi s h' tk st _ k=>⟨k I (by simp) _ st.1,k a (by simp) _ st.2.1,k p (by simp) _ st.2.2⟩
 item:=λi s Q E hi st q=>by
  obtain⟨k,z,x,e1,e2,e3⟩:=hx i hi
  refine Ik (r:=some x) hh st.1 st.2.1 hf hn st.2.2 ⟨k,z,by simp[e1],e2⟩ λh' h1 h2=>?_
  exact q _ _ e3 ⟨h1,h2.extBut a _ qH st.2.1,h2.extBut p _ hnp st.2.2⟩ ⟨λb o hb z=>h2.extBut b o (λy=>hb (by rw[y];exact di.mpr rfl)) z,rfl,rfl,rfl,bB _⟩
 done:=λs Q E st q=>by
  refine Ik (r:=none) hh st.1 st.2.1 hf hn st.2.2 (by simp[hl]) λh' h1=>?_
  exact q _ ⟨λb o hb z=>h1 b o (λy=>hb (by rw[y];exact di.mpr rfl)) z,rfl,rfl,rfl,bB _⟩
 self:=λi s Q E st q=>Dd st.1 q
end
section
variable {P:Program}{w:World}{A:Around}{E:Value->Shared->Prop}{s:Shared}{a:Addr}{l:List (Str×Tok)}
theorem jQ.typeIs(S:jQ w s.heap a l):s.TypeIs (.ref a) "set":=let ⟨_,_,_,e,_⟩:=S.ex;⟨_,e,rfl⟩
def Ky(P:Program)(w:World)(z:Nat)(a:Addr)(l:List (Str×Tok))(I:Addr)(s':Shared):Prop:=
 ∃(ord:List Value) (fp:List Addr) (St:Nat->Shared->Prop),(∀B:Around,B.handled=none->WalksS P w B I fp [I] (λx y=>y=x) l.length (λi v=>ord[i]?=some v) St)/\St 0 s'/\
  (∀b∈fp,b<s'.heap.objs.size/\(b=a\/z<=b))/\I∈fp/\ord.Perm (l.map λp=>Value.str p.1 p.2)
theorem NP(x:Nat):SetTable.below #[x] 0=0:=by
 unfold SetTable.below SetTable.below.go
 simp[SetTable.below.go]
theorem below_1(x:Nat):SetTable.below #[x] (x+1)=1:=by
 unfold SetTable.below SetTable.below.go
 simp[SetTable.below.go]
theorem Io{Q:Value->Shared->Prop}(S:jQ w s.heap a l)
  (q:∀I s',s.heap.objs.size<=I->(∀b o,s.heap.get? b=some o->s'.heap.get? b=some o)->s'.gens=s.gens->s'.os=s.os->Ky P w s.heap.objs.size a l I s'->Q (.ref I) s'):wpAny (model P w) A (pyIter (.ref a)) Q E s:=by
 obtain⟨⟨es,ep,t,ho,Ot,hf,JW,qG⟩,nd,sz⟩:=id S
 have mP:es.size=l.length:=by rw[<-dX,Ot,aY]
 have hval:es.toList.map (·.2)=l.map λp=>Value.str p.1 p.2:=by rw[Ot,iz];rfl
 have lt:a<s.heap.objs.size:=bI ho
 refine wpAny_pyIter_slot S.typeIs PySem.F.slot_set_iter (qR PySem.F.slot_set_iter S.typeIs tU ?_ (PySem.F.args_set_iter_1 _))
 unfold Builtin.«frozenset.__iter__»
 refine au (m:=Builtin.Frozenset.slot0 "__iter__" ⟨[.ref a],[]⟩) (qZ (a:=a) rfl ?_)
 unfold Builtin.Frozenset.sizeOf
 refine au (au (zj ho rfl hf (aM ?_)))
 unfold setDrawn
 refine au (au (um ho rfl hf (au (jC (aM ?_)))))
 have last:∀(first:Value) (s1:Shared),s1.heap.get? a=some (gu es ep t)->(∀b o,s.heap.get? b=some o->s1.heap.get? b=some o)->s.heap.objs.size<=s1.heap.objs.size->s1.gens=s.gens->s1.os=s.os->
   (∀s',s'.heap.get? s1.heap.objs.size=some (lV first 0 es.size ep a)->(∀b o,s1.heap.get? b=some o->s'.heap.get? b=some o)->Ky P w s.heap.objs.size a l s1.heap.objs.size s')->
   wpAny (model P w) A.in1 (do let e <-setEpoch a;let v <-newFields "set_iterator" [first,rawInt 0,Value.ref a,rawInt es.size,rawInt e];ret v) (λfin s'=>∃v,fin=Fin.done (Flow.ret v)/\∃T' r,s'.TypeIs v T'/\typeLookup (Value.type T') (Str.ofString "__next__")=pure (some r)/\Q v s') E s1:=by
  intro first s1 h1 k1 z1 g1 o1 hw
  refine au (wpAny_setEpoch_of h1 rfl hf ?_)
  unfold newFields
  refine au (jJ ?_ (by size_fits))
  have hI:(s1.heap.push { cls:=.type "set_iterator",data:=.fields [first,rawInt 0,Value.ref a,rawInt es.size,rawInt ep].toArray }).get? s1.heap.objs.size=some (lV first 0 es.size ep a):=dj _ rfl
  refine aM ⟨_,rfl,"set_iterator",_,⟨_,hI,rfl⟩,dR.lookup,q _ _ z1 (λb o e=>cq _ (k1 b o e)) g1 o1 (hw _ hI λb o e=>cq _ e)⟩
 show wpAny _ _ (if (!yN w&&(!t.plain&&decide (es.size > 1)))=true then _ else _) _ _ _
 by_cases hd:(!yN w&&(!t.plain&&decide (es.size > 1)))=true
 ·rw[aI hd]
  refine au (uZ es.size (List.range es.size) _ _ (by simp) λys d hp=>?_)
  have Xn:ys.length=es.size:=by rw[hp.length_eq,ur]
  refine au (wpAny_newTuple ?_ (by rw[aY,Xn,mP];exact vA sz))
  refine last (.ref s.heap.objs.size) _ (cq _ ho) (λb o e=>cq _ e) (by show _<=(Heap.push _ _).objs.size;rw[qM];exact gU _) rfl rfl λs' hI k=>?_
  have e1:(Heap.push s.heap { cls:=.type "tuple",data:=.seq (ys.map λ(i:Nat)=>rawInt i).toArray }).objs.size=s.heap.objs.size+1:=qM _ _
  have Bu:=k s.heap.objs.size _ (dj _ rfl)
  have KZ:=k a _ (cq _ ho)
  have lts:∀j∈ys,j<es.size:=λj hj=>oo.mp (hp.mem_iff.mp hj)
  refine⟨ys.map λj=>(es.toList.map (·.2)).getD j .none,_,_,λC hC=>Fb (n:=l.length) (pl:=ys) (c:=0) (p:=s.heap.objs.size) (es:=es) (t:=t) (ep:=ep) (a:=a) hC (by rw[e1];exact bJ (pz lt)) (by rw[e1];exact bJ (zh _)) hf mP (by rw[aY,Xn,mP]) (by rw[Xn,mP]) λi hi=>?_,⟨by rw[<-mP];exact hI,KZ,Bu⟩,?_,by simp,?_⟩
  ·have G':i<ys.length:=by rw[Xn,mP];exact hi
   have hk:=lts ys[i] (List.getElem_mem G')
   refine⟨ys[i],es[ys[i]].1,es[ys[i]].2,cD G',lK hk,?_⟩
   rw[cW,cD G',Option.map_some,fX,cW,qW,lK hk]
   rfl
  ·intro b hb
   simp only[dh,nu,or_false]at hb
   rcases hb with rfl | rfl | rfl
   ·exact⟨bI hI,.inr (by rw[e1];exact gU _)⟩
   ·exact⟨bI KZ,.inl rfl⟩
   ·exact⟨bI Bu,.inr (bB _)⟩
  ·rw[<-hval]
   refine(hp.map _).trans ?_
   rw[show(List.range es.size).map (λj=>(es.toList.map (·.2)).getD j .none)=es.toList.map (·.2) from ?_]
   refine zm λi=>?_
   by_cases hi:i<es.size
   ·simp[hi]
   ·simp[hi]
 ·rw[aE hd]
  refine au (aM ?_)
  refine last (rawInt 0) s ho (λ_ _ e=>e) (bB _) rfl rfl λs' hI k=>?_
  have KZ:=k a _ ho
  have X7:∀b∈[s.heap.objs.size,a],b<s'.heap.objs.size/\(b=a\/s.heap.objs.size<=b):=λb hb=>by
   simp only[dh,nu,or_false]at hb
   rcases hb with rfl | rfl
   ·exact⟨bI hI,.inr (bB _)⟩
   ·exact⟨bI KZ,.inl rfl⟩
  cases hb:yN w with
  | true=>
   refine⟨(pickOrder (w.params.setOrder a ep) es).toList.map (·.2),_,_,λC hC=>uD (n:=l.length) (es:=es) (t:=t) (ep:=ep) (a:=a) (λ_=>0) hC (bJ lt) hf mP (by rw[aY,(uM _ es).length_eq,dX,mP]) λi _ s1 C' E' Q' h1 hq=>?_,⟨by rw[<-mP];exact hI,KZ⟩,X7,by simp,?_⟩
   ·refine x9 hb h1 hf ?_
    rw[cW,qW,Option.map_map]at hq
    exact hq
   ·rw[<-hval];exact(uM _ es).map _
  | false=>
   have few:es.size<=1:=by
    rw[hb]at hd
    rcases vt 1 es.size with h | h
    ·rw[qG (λz=>by rw[mP,z]at h;exact absurd h (by decide))]at hd
     simp[h]at hd
    ·exact h
   have led:t.led=true:=by rw[JW,hb];rfl
   have hpz:t.place.size=es.size:=by
    unfold SetTable.fits at hf
    rw[dW]at hf
    exact eq_of_beq hf.1
   refine⟨es.toList.map (·.2),_,_,λC hC=>uD (n:=l.length) (es:=es) (t:=t) (ep:=ep) (a:=a) (λi=>if i=0 then 0 else t.place.getD 0 0+1) hC (bJ lt) hf mP (by rw[aY,dX,mP]) λi hi s1 C' E' Q' h1 hq=>?_,⟨by rw[<-mP];exact hI,KZ⟩,X7,by simp,by rw[hval]⟩
   refine Jw hb led few h1 hf ?_
   rcases zr es.size with z | z
   ·have e1:es = #[]:=Hj z
    have e2:t.place = #[]:=Hj (by rw[hpz,z])
    have e0:i=0:=by lia
    subst e0
    rw[e1]at hq
    rw[e1,e2]
    exact hq
   ·have z1:es.size=1:=by lia
    obtain⟨x,hx⟩:∃x,es = #[x]:=⟨es[0],Array.ext (by simp[z1]) λj h1 h2=>by
     have:j=0:=by simp at h2;exact h2
     subst this;rfl⟩
    obtain⟨j,hj⟩:∃j,t.place = #[j]:=⟨t.place[0]'(by lia),Array.ext (by simp[hpz,z1]) λj h1 h2=>by
     have:j=0:=by simp at h2;exact h2
     subst this;rfl⟩
    rw[hx,hj]at hq
    rw[hx,hj]
    rcases zr i with e0 | e0
    ·subst e0
     rw[aI rfl,NP]
     exact hq
    ·have e1:i=1:=by lia
     subst e1
     rw[aE (by decide),show(#[j]:Array Nat).getD 0 0=j from rfl,below_1]
     exact hq
theorem Ip{Q:Bool->Shared->Prop}(hT:s.TypeIs (.ref a) "set")(q:Q false s):wpAny (model P w) A (Builtin.List.listLengthHint (.ref a)) Q E s:=by
 unfold Builtin.List.listLengthHint
 refine au (wpAny_specialOf hT PySem.F.slot_set_len.lookup ?_)
 generalize hid:("set.__len__" : String)=id0
 wp_delta
 rw[show splitId id0=some ("set","__len__") from by subst hid;decide +kernel]
 subst hid
 refine au (wpAny_isInstance (T:="set") (b:=true) hT (by rw[isSubtype_type];kernel_rfl) ?_)
 refine wpAny_ite_split (λz=>absurd z (by decide)) (λ_=>wpAny_ite_split (λ_=>?_) (λz=>absurd (by decide +kernel) z))
 exact au (wpAny_typeOf hT (aM q))
theorem yH{Q:List Value->Shared->Prop}(hh:A.handled=none)(S:jQ w s.heap a l)
  (q:∀(s':Shared) (vs:List Value),(∀b o,s.heap.get? b=some o->s'.heap.get? b=some o)->s.heap.objs.size<=s'.heap.objs.size->s'.gens=s.gens->s'.os=s.os->vs.Perm (l.map λp=>Value.str p.1 p.2)->Q vs s'):wpAny (model P w) A (collect (.ref a)) Q E s:=by
 have lt:a<s.heap.objs.size:=let ⟨_,_,_,e,_⟩:=S.ex;bI e
 unfold collect
 refine au (wpAny_runValue (qO entry_proto_collect' ?_))
 rw[rG PySem.F.plain_proto_collect _]
 refine au (m:=newList []) (jJ ?_)
 refine aM ⟨vp PySem.F.plain_list_iadd _,qO entry_list_iadd' ?_⟩
 rw[rG PySem.F.plain_list_iadd _]
 let L0:Obj:={ cls:=.type "list",data:=.seq ([]:List Value).toArray }
 have k0:∀b o,s.heap.get? b=some o->(s.heap.push L0).get? b=some o:=λb o e=>cq _ e
 have hL:(s.heap.push L0).get? s.heap.objs.size=some L0:=dj _ rfl
 have S0:jQ w (s.heap.push L0) a l:=S.at λo e=>k0 a o e
 show wpAny _ A.in1 (Builtin.List.listExtendWith (.ref s.heap.objs.size) (.ref a) (.ref s.heap.objs.size)) _ _ { s with heap:=s.heap.push L0 }
 unfold Builtin.List.listExtendWith
 refine au (wpAny_typeOf (T:="set") (jQ.typeIs (s:={ s with heap:=s.heap.push L0 }) S0) ?_)
 have h1:Builtin.List.listSameRef (.ref s.heap.objs.size) (.ref a)=false:=by simp[Builtin.List.listSameRef,pe lt]
 have h2:(Value.type "set" == Value.type "list")=false:=by decide
 have h3:(Value.type "set" == Value.type "tuple")=false:=by decide
 simp only[h1,h2,h3,Bool.or_false,qT,iP]
 refine au (Io (s:={ s with heap:=s.heap.push L0 }) S0 λI s1 zI k1 g1 o1 W=>?_)
 have S1:jQ w s1.heap a l:=S0.at λo e=>k1 a o e
 have Bx:=k1 _ _ hL
 have qH:s.heap.objs.size≠I:=by
  have:(s.heap.push L0).objs.size<=I:=zI
  rw[qM]at this
  exact bJ this
 refine au (dG (Ip (jQ.typeIs S1) ?_))
 refine hide λgG hG=>?_
 obtain⟨ord,fp,St,wk,st,X7,mI,po⟩:=W
 refine hG ?_
 have hlen:l.length<=sizeLine:=vA S.sz
 have z1:(s.heap.push L0).objs.size=s.heap.objs.size+1:=qM _ _
 have nf:s.heap.objs.size∉fp:=λz=>by
  rcases(X7 _ z).2 with e | e
  ·exact absurd e (pe lt)
  ·have e':(s.heap.push L0).objs.size<=s.heap.objs.size:=e
   rw[z1]at e'
   exact absurd e' (Nat.not_succ_le_self _)
 refine wpAny_ite_split (λ_=>?_) (λz=>absurd (by decide +kernel) z)
 refine au (wpAny_rule (au ?_))
 show wpAny _ _ (updateSeq s.heap.objs.size (·.push .none) >>= λ_=>updateSeq s.heap.objs.size (·.pop)) _ _ _
 refine au (wpAny_updateSeq Bx rfl ?_)
 have XS:=lJ (Obj.mapSeq (·.push Value.none)) Bx rfl
 refine wpAny_updateSeq (hz:=by seq_fits) XS rfl ?_
 have Ti:=lJ (Obj.mapSeq (·.pop)) XS rfl
 have jz:∀b o,b≠s.heap.objs.size->s1.heap.get? b=some o->((s1.heap.update s.heap.objs.size (Obj.mapSeq (·.push Value.none))).update s.heap.objs.size (Obj.mapSeq (·.pop))).get? b=some o:=
  λb o hb e=>(nv _ _ (fH hb)).trans ((nv _ _ (fH hb)).trans e)
 have W1:=wk A.in1 hh
 refine aM ⟨vp PySem.F.plain_extend_loop _,codeAny_extend_loopS W1 hlen _ nf _ l.length 0 _ #[] _ rfl (dg _) (W1.frame 0 s1 _ s1.toks st (bB _) λb hb o e=>jz b o (λz=>nf (z ▸ hb)) e) Ti (ItemsOf.nil _) λs2 acc c2 mv hS2 J3=>?_⟩
 refine au (m:=load s.heap.objs.size) (wpAny_load hS2 (aM ?_))
 refine q s2 acc.toList (λb o e=>mv.heap b o (λhm=>?_) (jz b o (bJ (bI e)) (k1 b o (k0 b o e)))) (pd (bI hS2)) (mv.gens.trans g1) (mv.os.trans o1) ?_
 ·have gS:b<s.heap.objs.size:=bI e
  rcases dh.mp hm with e1 | e1
  ·exact absurd e1 (bJ gS)
  ·rw[di.mp e1]at gS
   have:(s.heap.push L0).objs.size<=I:=zI
   rw[z1]at this
   exact absurd (cX gS (Nat.le_of_succ_le this)) (jI _)
 ·have e:acc.toList=ord:=by
   refine zm λj=>?_
   by_cases hj:j<l.length
   ·have h0:j<acc.size:=by rw[J3.1];exact hj
    have h1:acc[j]?=some acc[j]:=lK h0
    rw[qW,h1,J3.2 j _ h1]
   ·rw[qX (by rw[dX,J3.1];lia),qX (by rw[po.length_eq,aY];lia)]
  rw[e];exact po
theorem Fe{vs:List Value}{l:List (Str×Tok)}(po:vs.Perm (l.map λp=>Value.str p.1 p.2)):∃ts,StrsAre vs ts/\ts.Perm (l.map (·.1)):=by
 have:∃l':List (Str×Tok),vs=l'.map (λp:Str×Tok=>Value.str p.1 p.2)/\l'.Perm l:=by
  let back:Value->Str×Tok:=λe=>match e with | .str x t=>(x,t) | _=>(default,0)
  refine⟨vs.map back,?_,?_⟩
  ·rw[iz]
   conv=>lhs;rw[<-vo vs]
   refine wL λe he=>?_
   obtain⟨z,_,rfl⟩:=dw.mp (po.mem_iff.mp he)
   rfl
  ·have:=po.map back
   rw[iz,show(back ∘ λp:Str×Tok=>Value.str p.1 p.2)=id from rfl,vo]at this
   exact this
 obtain⟨l',rfl,pl⟩:=this
 refine⟨l'.map (·.1),?_,pl.map _⟩
 clear po pl
 induction l' with
 | nil=>exact .nil
 | cons p l' ih=>exact .cons p.1 p.2 ih
theorem Fn{x:Value}{us:List Str}{Q:Value->Shared->Prop}(By:us.length<64)
  (hc:∀(Q':List Value->Shared->Prop),(∀(s':Shared) (vs:List Value) (ts:List Str),(∀b o,s.heap.get? b=some o->s'.heap.get? b=some o)->s.heap.objs.size<=s'.heap.objs.size->s'.gens=s.gens->s'.os=s.os->StrsAre vs ts->ts.Perm us->Q' vs s')->wpAny (model P w) A.in1 (collect x) Q' E s)
  (q:∀(s':Shared) (D c:Nat) (vs:List Value) (ss:List Str),(∀b o,s.heap.get? b=some o->s'.heap.get? b=some o)->s.heap.objs.size<=D->s'.gens=s.gens->s'.os=s.os->s'.heap.get? D=some { cls:=.type "list",data:=.seq vs.toArray c }->StrsAre vs ss->
   ss.Perm us->sortedS ss=true->Q (.ref D) s'):wpAny (model P w) A (call (.builtin "sorted") [x]) Q E s:=by
 refine Calls.call_function_entry kind_sorted plain_sorted entry_sorted (args_sorted1 _) ?_
 unfold Builtin.«sorted»
 refine au (m:=checkCount "sorted" 1 1 _) (aM ?_)
 refine au (hc _ λs1 vs ts k1 old g1 o1 SM pts=>?_)
 have hl:vs.length=us.length:=by rw[SM.length,pts.length_eq]
 refine au (rg ?_ (by rw[hl];exact bH (by lia)))
 have Ge:(s1.heap.push (seqObj "list" vs.toArray 0)).get? s1.heap.objs.size=some (seqObj "list" vs.toArray 0):=dj _ rfl
 refine au (dG (qR slot_list_sort ⟨_,Ge,rfl⟩ entry_list_sort (list_sort_treeK strKind_oneLt Ge SM.keysOf (λv₁ v₂ rest e=>keyKind_strs (by rw[<-e];exact SM)) (by lia) λnk a1 a2=>⟨_,rfl,?_⟩) (args_list_sort _)))
 refine hide λgG hG=>?_
 obtain⟨ss',e1,e2,e3⟩:=sorted_out_str SM a1 a2
 obtain⟨c,hc⟩:=sortedHeap_at (out:=(arrOf nk).map (·.2)) Ge
 refine hG ?_
 refine aM ⟨_,rfl,q _ s1.heap.objs.size c ((arrOf nk).map (·.2)).toList ss' (λb o e=>?_) old g1 o1 (by rw[hc]) e1 (e2.trans pts) e3⟩
 have lt:=bI (k1 b o e)
 show(sortedHeap _ _ _ _).get? b=some o
 rw[sortedHeap_old (bJ lt) (by rw[size_push'];exact pz lt)]
 exact cq _ (k1 b o e)
end
theorem Inv.same{X:Cx}{pins:List (Addr×Obj)}{σ:List (Option V)}{H:Hp}{s s':Shared}(I:Inv X pins σ H s)(hh:s'.heap=s.heap)(hg:s'.gens=s.gens)(ho:s'.os=s.os):Inv X pins σ H s':=
 ⟨I.ok,by rw[ho];exact I.os,by rw[hg];exact I.bare,by rw[hh];exact I.base,by rw[hh];exact I.loc,by rw[hh];exact I.cell,I.free,I.fG,by rw[hh];exact I.pin,by rw[hh];exact I.bT,I.len⟩
def Hf(w:World)(p:Addr)(ss:List Str):HO:=.ext λh=>∃l,jQ w h p l/\∀z,z∈l.map (·.1)↔z∈ss
section
variable {X:Cx}
def T5(K:PySem.W.Frag)(w:World):List V->Hp->VK->Prop:=λvs H Q=>∃a ss,vs=[.ref a]/\lG K H a (ss.map V.str)/\ss.length<4000/\∀p,H p=none->Q (.ref p) (upd H p (Hf w p ss))
theorem Gw(hh:X.A.handled=none):cC X (.type "set") (T5 X.K X.w):=by
 intro pins s σ H vs us Q I rv h
 refine hide λgG hG=>?_
 obtain⟨a,ss,rfl,hq,hn,q⟩:=h
 obtain⟨u,rfl,ru⟩:=vals1 rv
 refine hG ?_
 cases ru
 refine hide λgG hG=>?_
 obtain⟨its,r,pl,hz⟩:=I.list hq
 refine hG ?_
 have hl:=r.length
 rw[aY]at hl
 refine Im (ss:=ss) hh pl.isList (zZ r) (by show its.toArray.size+1<4096;rw[cV];lia) λh' tk ls hS hm hk=>?_
 have JX:∀b o,s.heap.get? b=some o->h'.get? b=some o:=λb o e=>hk b o (bI e) e
 refine⟨.ref s.heap.objs.size,_,I.laid (t':=tk) (o:=Hf X.w s.heap.objs.size ss) JX (bB _) ?_,rfl,q _ I.fresh⟩
 exact⟨⟨ls,hS,hm⟩,(let ⟨_,_,_,e,_⟩:=hS.ex;⟨_,e⟩),λh1 h2 ⟨l1,x1,m1⟩ k=>⟨l1,x1.at k,m1⟩⟩
def Ab(w:World):List V->Hp->VK->Prop:=λvs H Q=>∃a ss,vs=[.ref a]/\H a=some (Hf w a ss)/\ss.length<64/\
 ∀ss':List Str,(∀z,z∈ss'↔z∈ss)->ss'.Nodup->sortedS ss'=true->∀p,H p=none->Q (.ref p) (upd H p (.lst (ss'.map V.str)))
theorem gQ{α:Type} [DecidableEq α]:∀{l m:List α},l.Nodup->(∀x∈l,x∈m)->l.length<=m.length
 | [],m,_,_=>dg _
 | x::l,m,h,k=>by
  have hx:=k x dE
  have:=gQ (m:=m.erase x) (jU.mp h).2 λy hy=>(List.mem_erase_of_ne (λ(e:y=x)=>(jU.mp h).1 (by rw[<-e];exact hy))).mpr (k y (dY _ hy))
  rw[List.length_erase_of_mem hx]at this
  have p:0<m.length:=List.length_pos_of_mem hx
  rw[dH];lia
theorem sY(hh:X.A.handled=none):cC X (.builtin "sorted") (Ab X.w):=by
 intro pins s σ H vs us Q I rv h
 refine hide λgG hG=>?_
 obtain⟨a,ss,rfl,hq,hn,q⟩:=h
 obtain⟨u,rfl,ru⟩:=vals1 rv
 refine hG ?_
 cases ru
 refine hide λgG hG=>?_
 obtain⟨⟨l,hS,hm⟩,_,_⟩:=I.bT a _ hq
 refine hG ?_
 have hl:(l.map (·.1)).length<=ss.length:=gQ hS.nd λx hx=>(hm x).mp hx
 refine Fn (us:=l.map (·.1)) (by lia) (λQ' hQ'=>yH (A:=X.A.in1) hh hS λs' vs k z g o po=>let ⟨ts,h1,h2⟩:=Fe po;hQ' s' vs ts k z g o h1 h2) λs' D c vs ss' k z g o hD Xp Zk Pu=>?_
 have Oq:H D=none:=I.bT.fresh z
 have I1:Inv X pins σ (upd H D (.lst (ss'.map V.str))) { s with heap:=s'.heap,toks:=s.toks }:=I.laid k z ⟨by rw[aY,Zk.length_eq];exact bH (by lia),vs,c,uE Xp,hD⟩
 refine⟨.ref D,_,I1.same rfl g o,rfl,q ss' (λz=>(Zk.mem_iff).trans (hm z)) (Zk.nodup_iff.mpr hS.nd) Pu _ Oq⟩
end
theorem NB(z:Str){v:Int}(h:0<=v):(sW z none (some v)).cps.toList=z.cps.toList.take v.toNat:=by
 have hl:z.cps.toList.length=z.length:=by simp[Str.length]
 unfold sW
 have e:HT.cH z.length z.length (some v)=min v.toNat z.length:=by
  show(if v<0 then _ else min v.toNat z.length)=_
  rw[aE (by lia)]
 rw[e]
 show(List.take (min v.toNat z.length-0) (List.drop 0 z.cps.toList))=_
 rw[vz,Nat.sub_zero,<-hl]
 by_cases hv:v.toNat<=z.cps.toList.length
 ·rw[Nat.min_eq_left hv]
 ·rw[Nat.min_eq_right (by lia),jf,zG (by lia)]
theorem Gm{g:Str}(hg:g.cps = #[]):∀ss:List Str,(Txt.join g ss).cps.toList=(ss.map λz=>z.cps.toList).flatten:=by
 have go:∀(l:List Str) (acc:Array Nat),(l.foldl (λacc p=>acc++g.cps++p.cps) acc).toList=acc.toList++(l.map λz=>z.cps.toList).flatten:=by
  intro l
  induction l with
  | nil=>intro acc;simp
  | cons z l ih=>intro acc;rw[qQ,ih,hg];simp
 intro ss
 show((ss.drop 1).foldl (λacc p=>acc++g.cps++p.cps) (ss.headD Str.empty).cps).toList=_
 cases ss with
 | nil=>rfl
 | cons z l=>rw[go];simp
theorem joinOk_of{sep:Str}{ss:List Str}{L n:Nat}(h:∀z∈ss,z.length<=L)(hn:ss.length<=n)(hb:n*(L+sep.length)<=16000000):JoinOk sep ss=true:=by
 have go:∀(l:List Str) (a:Nat),(∀z∈l,z.length<=L)->l.foldl (λa x=>a+x.length+sep.length) a<=a+l.length*(L+sep.length):=by
  intro l
  induction l with
  | nil=>intro a _;simp
  | cons z l ih=>
   intro a hz
   have h1:=ih (a+z.length+sep.length) (λy hy=>hz y (dY _ hy))
   have h2:=hz z dE
   rw[qQ,dH,Nat.add_mul]
   lia
 unfold JoinOk
 have e:ss.toArray.foldl (λa x=>a+x.length+sep.length) 0=ss.foldl (λa x=>a+x.length+sep.length) 0:=by simp
 rw[e]
 have h1:=go ss 0 h
 have h2:ss.length*(L+sep.length)<=n*(L+sep.length):=Nat.mul_le_mul_right _ hn
 have:¬(ss.foldl (λa x=>a+x.length+sep.length) 0 > sizeLine):=by rw[jT];lia
 unfold Builtin.Str.tooLong
 rw[decide_eq_false this];rfl
def Nm(s:Str):Prop:=1<=s.length/\s.length<=8/\∀c∈s.cps.toList,97<=c/\c<=122
theorem Bk:∀n:Nat,n<26->(Str.ofString "abcdefghijklmnopqrstuvwxyz").cps.toList[n]?=some (97+n):=by decide +kernel
theorem pV{i:Int}(h0:0<=i)(h:i<26):m6 (Str.ofString "abcdefghijklmnopqrstuvwxyz").cps.toList i=some (97+i.toNat):=by
 have ei:i=((i.toNat:Nat):Int):=by lia
 have q:m6 (Str.ofString "abcdefghijklmnopqrstuvwxyz").cps.toList ((i.toNat:Nat):Int)=some (97+i.toNat):=eK (Bk i.toNat (by lia))
 rwa [<-ei]at q
theorem Le(K:PySem.W.Frag)(z:Str)(H:Hp):W8 K "str" (.str z) H=True:=eq_true rfl
section
variable {X:Cx}
def Oa(w:World):List V->Hp->VK->Prop:=λvs H Q=>∃a,vs=[.ref a]/\∃ss:List Str,H a=some (.lst (ss.map V.str))/\ss.length<4000/\∀p,H p=none->Q (.ref p) (upd H p (Hf w p ss))
theorem va(hh:X.A.handled=none):cC X (.type "set") (Oa X.w):=(Gw hh).imp λx H Q ⟨p,e,ss,h,n,q⟩=>⟨p,ss,e,bD h,n,q⟩
def xG(w:World):List V->Hp->VK->Prop:=λvs H Q=>∃a,vs=[.ref a]/\∃ss:List Str,H a=some (Hf w a ss)/\ss.length<64/\
 ∀ss':List Str,(∀z,z∈ss'↔z∈ss)->ss'.Nodup->sortedS ss'=true->∀p,H p=none->Q (.ref p) (upd H p (.lst (ss'.map V.str)))
theorem ml(hh:X.A.handled=none):cC X (.builtin "sorted") (xG X.w):=(sY hh).imp λx H Q ⟨p,e,ss,h,n,q⟩=>⟨p,ss,e,h,n,q⟩
def Og:List V->Hp->VK->Prop:=λvs H Q=>∃a,vs=[.ref a]/\∃bs:List Bool,H a=some (.lst (bs.map V.bl))/\Q (.bl (bs.all id)) H
theorem Kt:∀{bs:List Bool} {us:List Value},Vals (bs.map V.bl) us->∀(i:Nat) (v:Value),us[i]?=some v->v=.bool (bs.getD i true):=by
 intro bs
 induction bs with
 | nil=>intro us r i v h;cases r;cases i <;> cases h
 | cons b bs ih=>
  intro us r i v h
  rw[eB]at r
  cases r with
  | cons r1 r2=>
   cases r1
   cases i with
   | zero=>cases h;rfl
   | succ i=>exact ih r2 i v (by simpa using h)
theorem all_range:∀(bs:List Bool),((List.range bs.length).all λi=>bs.getD i true)=bs.all id
 | []=>rfl
 | b::bs=>by
  rw[dH,List.range_succ_eq_map,om,vq,om,<-all_range bs]
  rfl
theorem vb(hh:X.A.handled=none):cC X (.builtin "all") Og:=by
 intro pins s σ H vs us Q I rv h
 obtain⟨a,rfl,bs,hq,q⟩:=h
 obtain⟨u,rfl,ru⟩:=vals1 rv
 cases ru
 obtain⟨its,r,pl,hz⟩:=I.list (bD hq)
 have hl:=r.length
 rw[aY]at hl
 have lt:a<s.heap.objs.size:=let ⟨_,e,_⟩:=pl.isList;bI e
 refine call_all_walkS (rB pl.isList ⟨s.heap.objs.size,_,_,_,its.toArray.size,_,_,λi=>bs.getD i true,rfl,(Walks.list (A:=X.A.in1) hh _ a (bJ lt) its.toArray).toS,⟨⟨_,dj _ rfl,rfl,rfl⟩,(pl.isList).push _⟩,?_,λs' mv=>?_⟩)
 ·intro i v s1 Q1 E1 hv hq1
  have:v=.bool (bs.getD i true):=Kt r i v (by simpa using hv)
  subst this
  exact aM hq1
 ·rw[cV,<-hl,all_range]
  have k:∀b o,s.heap.get? b=some o->s'.heap.get? b=some o:=λb o e=>mv.heap b o (λz=>absurd (bI e) (by rw[di.mp z];exact jI _)) (cq _ e)
  have I1:Inv X pins σ H { s with heap:=s'.heap,toks:=s.toks }:=I.un (Un.kept k) (I.bT.kept k)
  exact⟨.bl (bs.all id),H,I1.same rfl mv.gens mv.os,rfl,q⟩
def Zi(neg:Bool):R2:=λx y H Q=>∃a b,x=.ref a/\y=.ref b/\∃cu,H a=some (.dK cu)/\H b=some (.dK cu)/\(∀kv∈cu,∃c,kv.2=.bl c)/\Q (.bl (!neg)) H
end
def Yj(x:Str):It:=⟨λi _=>i<x.cps.size,λi H v H'=>H'=H/\∃c,x.cps[i]?=some c/\v=.str ⟨#[c]⟩,λi _=>i=x.cps.size⟩
theorem Hx{P:Program}{w:World}{K:PySem.W.Frag}{tg:Expr}(it:Addr)(x:Str)(t:Tok){n:String}(hn:n = "str_ascii_iterator"\/n = "str_iterator"):Turn P w K tg (Yj x) [it] it (λi h=>h.IsStrIter it n x t i) where
 mem:=by simp
 obj:=λi h st b hb=>by
  have e:b=it:=by simpa using hb
  subst e
  obtain⟨o,e,c,d⟩:=st
  exact⟨o,e,λv z=>by rw[d]at z;cases z⟩
 keep:=λi h h' st k=>let ⟨o,ho,r⟩:=st;⟨o,k it (by simp) o ho,r⟩
 item:=by
  intro X hP hw hK hc i pins s σ H E I hf st hg
  subst hP hw hK
  obtain⟨f0,f1,f2,f3,f4,f5⟩:=hf it (by simp)
  have W:Walks X.prog X.w X.A it [it] [it] x.cps.size (SignAt x) (λi h=>h.IsStrIter it n x t i):=by
   rcases hn with rfl | rfl
   ·exact Walks.strAscii (I.ok.hd hc) it x t
   ·exact Walks.strWide (I.ok.hd hc) it x t
  refine W.item i s _ _ hg st λv h' tk hv nk kk=>?_
  obtain⟨c,u,hx,rfl⟩:=hv
  have I1:Inv X pins σ H { s with heap:=h',toks:=tk }:=I.turned (λb o hb e=>kk b o (by simpa using hb) e) f0 f1 f3 f4 f5
  obtain⟨o,e,cc,d⟩:=id nk
  exact⟨_,rfl,DY (s:={ s with heap:=h',toks:=tk }) e cc d (by rcases hn with rfl | rfl <;> decide) ⟨.str ⟨#[c]⟩,H,I1,⟨u,rfl⟩,⟨rfl,c,hx,rfl⟩,nk,λb hb=>(hf b hb).1⟩⟩
 done:=by
  intro X hP hw hK hc i pins s σ H E I hf st hg
  subst hP hw hK
  have hg':i=x.cps.size:=hg
  subst hg'
  obtain⟨f0,f1,f2,f3,f4,f5⟩:=hf it (by simp)
  have W:Walks X.prog X.w X.A it [it] [it] x.cps.size (SignAt x) (λi h=>h.IsStrIter it n x t i):=by
   rcases hn with rfl | rfl
   ·exact Walks.strAscii (I.ok.hd hc) it x t
   ·exact Walks.strWide (I.ok.hd hc) it x t
  exact W.done s _ _ st λh' tk eb=>⟨rfl,I.turned (λb o hb e=>eb b o (by simpa using hb) e) f0 f1 f3 f4 f5⟩
 self:=λA i s Q E st h=>by
  rcases hn with rfl | rfl
  ·exact wpAny_pyIter_striter_ascii st h
  ·exact wpAny_pyIter_striter_wide st h
section
variable {X:Cx}{tg:Expr}
def Nb(tl:TE):TI:=λσ H R=>tl σ H λx H1=>∃z,x=.str z/\R (Yj z) H1
theorem Qp{l:Expr}{tl:TE}(hl:PE X l tl):PI X tg l (Nb tl):=by
 intro pins s σ H R I h
 refine cA (hl pins s σ H _ I h) λv s1 ⟨x,H1,I1,r1,q1⟩=>?_
 obtain⟨z,e,q⟩:=q1
 subst e
 obtain⟨t,rfl⟩:=r1
 have fin:∀n,(n = "str_ascii_iterator"\/n = "str_iterator")->PIE X pins σ tg R (.ref s1.heap.objs.size) { s1 with heap:=s1.heap.push { cls:=.type n,data:=.fields #[.str z t,.int 0 0] } }:=λn hn=>by
  refine⟨s1.heap.objs.size,[s1.heap.objs.size],_,_,H1,rfl,I1.kept (t':=s1.toks) λb o e=>cq _ e,Hx _ z t hn,⟨_,dj _ rfl,rfl,rfl⟩,λb hb=>?_,q⟩
  have e:b=s1.heap.objs.size:=by simpa using hb
  subst e
  exact I1.Kb (bB _) (I1.bT.fresh (bB _))
 cases ha:z.cps.all (· < 128)
 ·exact wpAny_pyIter_wide ha (fin _ (.inr rfl))
 ·exact wpAny_pyIter_ascii ha (fin _ (.inl rfl))
theorem CN{l:Expr}{tl:TE}(h1:ZE X l tl):ZI X tg l (Nb tl):=⟨Qp h1.to⟩
end
theorem yG{x:Str}{idx:List Nat}{tt:CB->TT}{te:CB->TE}{σ:St}{Q:VK}{H1:Hp}(Pv:Addr->Nat->List V->Hp->Prop)(h0:∀D,H1 D=none->Pv D 0 [] (upd H1 D (.lst [])))
  (hs:∀D,H1 D=none->∀i c0 ys H,x.cps[i]?=some c0->Pv D i ys H->∀(c:CB),tt c (some (.str ⟨#[c0]⟩)::cw σ idx) H λb H4=>if b=true then te c (some (.str ⟨#[c0]⟩)::cw σ idx) H4 λy H5=>H5 D=some (.lst ys)/\ys.length<sizeLine/\Pv D (i+1) (ys++[y]) (upd H5 D (.lst (ys++[y]))) else Pv D (i+1) ys H4)
  (hd:∀D,H1 D=none->∀ys H,Pv D x.cps.size ys H->Q (.ref D) H):nZ (Yj x) 1 idx (λ_=>eH 0) tt te σ Q H1:=by
 intro D hD
 refine⟨λi m ys H=>m=x.cps.size-i/\i<=x.cps.size/\Pv D i ys H,⟨x.cps.size,by simp,dg _,h0 D hD⟩,?_⟩
 rintro i m ys H ⟨rfl,hi,p⟩
 by_cases gS:i<x.cps.size
 ·refine .inr ⟨gS,Pv D (i+1),λog H' p'=>⟨x.cps.size-(i+1),by omega,rfl,gS,p'⟩,λc own ho y H' yl=>?_⟩
  obtain⟨e,c0,ec,ey⟩:=yl
  subst e ey
  show(∃dA,dA.length=1/\(own++cw σ idx).set 0 _=dA++cw σ idx)/\tt c ((own++cw σ idx).set 0 _) H' _
  rw[Mz ho]
  exact⟨⟨[_],rfl,rfl⟩,hs D hD i c0 ys H' ec p c⟩
 ·have e:i=x.cps.size:=by omega
  subst e
  exact .inl ⟨rfl,hd D hD ys H p⟩
def N1(K:PySem.W.Frag)(a:Addr)(D:List (Str×Int)):Prop:=
 ∃o es ep,K.lookup a=some o/\o.ExactDict/\o.data=.dict es ep/\(a==sysModules)=false/\KTD.Rows (λi v=>∃t,v=Value.int i t) es.toList D
section
variable {X:Cx}
def qB(D:List (Str×Int))(te:TE):TE:=λσ H Q=>te σ H λy H1=>∃z,y=.str z/\Q (match KTD.datumAt z D with | some i=>.int i | none=>.non) H1
theorem Gr{D:List (Str×Int)}{z:Str}{d:KTD.Dat}:KTD.datumAt z (D.map λp=>(p.1,KTD.Dat.flat (.int p.2)))=some d->∃i,KTD.datumAt z D=some i/\d=.flat (.int i):=by
 induction D with
 | nil=>intro h;cases h
 | cons p D ih=>
  intro h
  have h':(if decide (z=p.1)=true then some (KTD.Dat.flat (.int p.2)) else KTD.datumAt z (D.map λp=>(p.1,KTD.Dat.flat (.int p.2))))=some d:=h
  show ∃i,(if decide (z=p.1)=true then some p.2 else KTD.datumAt z D)=some i/\_
  split at h'
  ·rename_i hz
   rw[aI hz]
   exact⟨_,rfl,(dm h').symm⟩
  ·rename_i hz
   rw[aE hz]
   exact ih h'
theorem BP{D:List (Str×Int)}{z:Str}:KTD.datumAt z (D.map λp=>(p.1,KTD.Dat.flat (.int p.2)))=none->KTD.datumAt z D=none:=by
 induction D with
 | nil=>intro _;rfl
 | cons p D ih=>
  intro h
  have h':(if decide (z=p.1)=true then some (KTD.Dat.flat (.int p.2)) else KTD.datumAt z (D.map λp=>(p.1,KTD.Dat.flat (.int p.2))))=none:=h
  show(if decide (z=p.1)=true then some p.2 else KTD.datumAt z D)=none
  split at h'
  ·cases h'
  ·rename_i hz
   rw[aE hz]
   exact ih h'
theorem Fu{g:Str}{a:Addr}{D:List (Str×Int)}{e:Expr}{ty:TE}{pos apos cy:Pos}(hg:Gl X g)(hm:X.mg g=some (.ref a))(tab:N1 X.K a D)(he:PE X e ty)(m:M1 X (.Name g pos) "get" apos e cy)(hd:(g==("__debug__" : Str))=false:=by decide) :
  PE X (.Call (.Attribute (.Name g pos) "get" apos) [e] [] cy) (qB D ty):=by
 intro pins s σ H Q I h
 obtain⟨o,es,ep,hk,hx,Xw,lo,rows⟩:=tab
 refine wpAny_Call_method m.base m.few m.line PySem.F.plainAttrs_dict PySem.F.slot_dict_get PySem.F.type_dict_get (gH I hg hm ?_ hd)
 refine⟨⟨o,I.jP a o hk,hx.1⟩,λb q=>by cases q;exact⟨o,I.jP a o hk,hx.2.1⟩,?_⟩
 rw[m.trees]
 refine Calls.callWith_builtin rfl (Calls.evalArgs_plain (Calls.spliced_cons (cA (he pins s σ H _ I h) λiv s2 ⟨y,H2,I2,ry,z,ez,q⟩=>Calls.spliced_nil ?_)))
 subst ez
 obtain⟨t,rfl⟩:=ry
 have T:KTD.Here s2.heap s2.heap a (D.map λp=>(p.1,KTD.Dat.flat (.int p.2))):=
  ⟨⟨lo,o,es,ep,I2.jP a o hk,hx,Xw,rows.mono (R':=KTD.Dat.At s2.heap) (f:=λi=>KTD.Dat.flat (.int i)) λi v ⟨t,ht⟩=>by rw[ht];exact .int i t⟩,λ_ _ e=>e⟩
 refine call_meetsIn PySem.F.slot_dict_get T.typeIs PySem.F.entry_dict_get (PySem.F.args_dict_get_2 _ _) (KTD.meets_get1 (h₀:=s2.heap)) ⟨T,λd v ha hv=>?_,λhn=>?_⟩
 ·obtain⟨i,ei,rfl⟩:=Gr ha
  rw[ei]at q
  exact⟨.int i,H2,I2.tok _,by have hv2:=hv s2.heap;cases hv2;exact⟨_,rfl⟩,q⟩
 ·rw[BP hn]at q
  exact⟨.non,H2,I2.tok _,rfl,q⟩
theorem fY{x:Str}{v:V}{u:Value}{pos:Pos}(hg:Gl X x)(hm:X.mg x=some u)(r:RelV v u)(hd:(x==("__debug__" : Str))=false:=by decide):ZE X (.Name x pos) (tC v):=⟨Ms hg hm r hd⟩
theorem zP{g:Str}{a:Addr}{D:List (Str×Int)}{e:Expr}{ty:TE}{pos apos cy:Pos}(hg:Gl X g)(hm:X.mg g=some (.ref a))(tab:N1 X.K a D)(he:ZE X e ty)
  (h1:attributeBase (.Name g pos) "get" X.env (eval (.Name g pos) X.env)=eval (.Name g pos) X.env:=by rfl)
  (h2:((backTo cy (starEach [e] X.env)).all (λx=>!x.1)&&(backToKw cy (keywordEach [] X.env)).all (λx=>x.1.isSome)
  && decide (([e]:List Expr).length+([]:List Keyword).length+(if ([]:List Keyword).isEmpty then 0 else 1)<30))=true:=by rfl)
  (h3:(apos.endLine==cy.line)=true:=by rfl) (h4:backTo cy (starEach [e] X.env)=[(false,eval e X.env)]:=by rfl) (hd:(g==("__debug__" : Str))=false:=by decide) :
  ZE X (.Call (.Attribute (.Name g pos) "get" apos) [e] [] cy) (qB D ty):=⟨Fu hg hm tab he.to ⟨h1,h2,h3,h4⟩ hd⟩
end
def xc:List DictEntry->List (Str×Int)->Bool
 | [],[]=>true
 | e::es,(x,i)::D=>(match e.key,e.val with | .str y _,.int j _=>y==x&&j==i | _,_=>false)&&xc es D
 | _,_=>false
theorem rZ:∀{es:List DictEntry} {D:List (Str×Int)},xc es D=true->KTD.Rows (λi v=>∃t,v=Value.int i t) es D
 | [],[],_=>.nil
 | [],_::_,h=>by cases h
 | e::es,[],h=>by cases h
 | e::es,(x,i)::D,h=>by
  have h':((match e.key,e.val with | .str y _,.int j _=>y==x&&j==i | _,_=>false)&&xc es D)=true:=h
  rw[dW]at h'
  obtain⟨h1,h2⟩:=h'
  split at h1
  ·rename_i y t j u ek ev
   rw[dW,beq_iff_eq,beq_iff_eq]at h1
   exact .cons (t:=t) (by rw[ek,h1.1]) ⟨u,by rw[ev,h1.2]⟩ (rZ h2)
  ·cases h1
theorem tab_of{K:PySem.W.Frag}{a:Addr}{es:Array DictEntry}{ep:Nat}{D:List (Str×Int)}(l:K.lookup a=some ⟨.type "dict",none,.dict es ep,#[]⟩)(r:xc es.toList D=true)(n:(a==sysModules)=false):N1 K a D:=
 ⟨_,es,ep,l,⟨rfl,rfl,rfl⟩,rfl,n,rZ r⟩
theorem yF{K:PySem.W.Frag}{a:Addr}{zs:List V}{idx:List Nat}{tt:CB->TT}{te:CB->TE}{σ:St}{Q:VK}{H1:Hp}(Pv:Addr->Nat->List V->Hp->Prop)(h0:∀D,H1 D=none->Pv D 0 [] (upd H1 D (.lst [])))
  (hl:∀D,H1 D=none->∀i ys H,i<=zs.length->Pv D i ys H->H a=some (.tup zs))
  (hs:∀D,H1 D=none->∀i x ys H,zs[i]?=some x->Pv D i ys H->∀(c:CB),tt c (some x::cw σ idx) H λb H4=>if b=true then te c (some x::cw σ idx) H4 λy H5=>H5 D=some (.lst ys)/\ys.length<sizeLine/\Pv D (i+1) (ys++[y]) (upd H5 D (.lst (ys++[y]))) else Pv D (i+1) ys H4)
  (hd:∀D,H1 D=none->∀ys H,Pv D zs.length ys H->Q (.ref D) H):nZ (Sn K a) 1 idx (λ_=>eH 0) tt te σ Q H1:=by
 intro D hD
 refine⟨λi m ys H=>m=zs.length-i/\i<=zs.length/\Pv D i ys H,⟨zs.length,by simp,dg _,h0 D hD⟩,?_⟩
 rintro i m ys H ⟨rfl,hi,p⟩
 by_cases gS:i<zs.length
 ·refine .inr ⟨⟨zs,zs[i],fM (hl D hD i ys H hi p),cD gS⟩,Pv D (i+1),λog H' p'=>⟨zs.length-(i+1),by omega,rfl,gS,p'⟩,λc own ho y H' yl=>?_⟩
  obtain⟨e,hy⟩:=yl
  subst e
  have ey:=hy zs (fM (hl D hD i ys H' hi p))
  show(∃dA,dA.length=1/\(own++cw σ idx).set 0 _=dA++cw σ idx)/\tt c ((own++cw σ idx).set 0 _) H' _
  rw[Mz ho]
  exact⟨⟨[_],rfl,rfl⟩,hs D hD i y ys H' ey p c⟩
 ·have e:i=zs.length:=by omega
  subst e
  exact .inl ⟨⟨zs,fM (hl D hD _ ys H hi p),bB _⟩,hd D hD ys H p⟩
section
variable {X:Cx}
def P9:R2:=λx y H Q=>∃i,x=.str i/\∃j,y=.str j/\Q (.bl (!decide (j.cps.toList<i.cps.toList))) H
theorem uP:jb X (compareOp .LtE) P9:=by
 intro pins s σ H x y v u Q I rx ry h
 obtain⟨i,rfl,j,rfl,q⟩:=h
 obtain⟨t,rfl⟩:=rx
 obtain⟨t',rfl⟩:=ry
 exact PySem.P.le_str (bM I q rfl)
def Zf(neg:Bool):R2:=λx y H Q=>∃c d,x=.bl c/\y=.bl d/\Q (.bl (if neg then c != d else c==d)) H
def Ui:R2:=λx y H Q=>∃a b,x=.ref a/\y=.ref b/\∃xs,H a=some (.tup xs)/\∃ys,H b=some (.tup ys)/\xs.length+ys.length<=sizeLine/\
 ∀p H',bz H H'->(∀c,c≠p->H' c=H c)->H' p=some (.tup (xs++ys))->Q (.ref p) H'
def aBY(lo st:Int)(n:Nat):It:=⟨λi _=>i<n,λi H x H'=>H'=H/\x=.int (lo+i*st),λi _=>n<=i⟩
def Vc(ta:TA):TI:=λσ H R=>ta σ H λvs H1=>∃i j:Int,vs=[.int i,.int j,.int 2]/\(0<=i/\i<=1000/\-1<=j/\j<=1000)/\R (aBY i 2 ((j-i+1) / 2).toNat) H1
end
end L2
end
section
namespace L2
open PySem PySem.Spec PyProof.Rows Builtin Builtin.Str
section
variable {X:Cx}
def P5:V->List V->Hp->VK->Prop:=λx vs H Q=>∃z sep,x=.str z/\vs=[.str sep]/\(sep.length==0)=false/\z.length<=60000/\∀p,H p=none->Q (.ref p) (upd H p (.lst (List.map V.str (Txt.split z sep))))
end
end L2
end
section
namespace L2
open PySem PySem.W PyProof.Rows
def KG{α:Type}(b:Nat->Nat->Bool)(n:Nat)(P:α->Prop):KasT α->Prop
 | .ret a=>P a
 | .ask i j k=>i<n/\j<n/\KG b n P (k (b i j))
theorem KG.bind{α β:Type}{b:Nat->Nat->Bool}{n:Nat}{P:β->Prop}{f:α->KasT β}:∀{t:KasT α},KG b n (λa=>KG b n P (f a)) t->KG b n P (t.bind f)
 | .ret _,h=>h
 | .ask i j k,⟨h1,h2,h3⟩=>⟨h1,h2,KG.bind (t:=k (b i j)) h3⟩
theorem KG.mono{α:Type}{b:Nat->Nat->Bool}{n:Nat}{P P':α->Prop}(hp:∀a,P a->P' a):∀{t:KasT α},KG b n P t->KG b n P' t
 | .ret a,h=>hp a h
 | .ask i j k,⟨h1,h2,h3⟩=>⟨h1,h2,KG.mono hp (t:=k (b i j)) h3⟩
theorem KG.wp{α:Type}{b:Nat->Nat->Bool}{n:Nat}{P:α->Prop}{cmp:Nat->Nat->(Bool->Shared->Prop)->Shared->Prop}{Q:α->Shared->Prop}{s:Shared}(hc:∀i j C,i<n->j<n->C (b i j) s->cmp i j C s)(hq:∀a,P a->Q a s):∀{t:KasT α},KG b n P t->t.kasWp cmp Q s
 | .ret a,h=>hq a h
 | .ask i j k,⟨h1,h2,h3⟩=>hc i j _ h1 h2 (KG.wp hc hq (t:=k (b i j)) h3)
structure Ord(b:Nat->Nat->Bool)(n:Nat):Prop where
 tr:∀i j k,i<n->j<n->k<n->b i j=true->b j k=true->b i k=true
 asy:∀i j,i<n->j<n->b i j=true->b j i=false
 tot:∀i j,i<n->j<n->i≠j->b i j=true\/b j i=true
abbrev iy(p:Array Nat)(i:Nat):Nat:=p.getD i 0
structure lj(p:Array Nat)(n:Nat):Prop where
 perm:p.Perm (List.range n).toArray
theorem lj.size{p:Array Nat}{n:Nat}(h:lj p n):p.size=n:=by rw[h.perm.size_eq];simp
theorem lj.lt{p:Array Nat}{n:Nat}(h:lj p n)(hn:0<n)(i:Nat):iy p i<n:=by
 unfold iy
 rw[pF]
 by_cases hi:i<p.size
 ·rw[lK hi]
  have:=(h.perm.mem_iff (a:=p[i])).mp (Array.getElem_mem hi)
  simpa using this
 ·rw[Array.getElem?_eq_none (by lia)]
  exact hn
theorem lj.ne{p:Array Nat}{n:Nat}(h:lj p n){i j:Nat}(hi:i<n)(hj:j<n)(d:i≠j):iy p i≠iy p j:=by
 have nd:p.toList.Nodup:=(Array.perm_iff_toList_perm.mp h.perm).nodup_iff.mpr (by simpa using List.nodup_range)
 have hs:=h.size
 intro e
 unfold iy at e
 rw[pF,pF,lK (by lia:i<p.size),lK (by lia:j<p.size)]at e
 have e':p.toList[i]'(by simpa using by lia)=p.toList[j]'(by simpa using by lia):=by simpa using e
 exact d ((za nd).mp e')
def n6(b:Nat->Nat->Bool)(p:Array Nat)(m:Nat):Prop:=∀i,i+1<m->b (iy p i) (iy p (i+1))=true
def Dsc(b:Nat->Nat->Bool)(p:Array Nat)(m:Nat):Prop:=∀i,i+1<m->b (iy p (i+1)) (iy p i)=true
section
variable {b:Nat->Nat->Bool}{n:Nat}
theorem n6.all(O:Ord b n){p:Array Nat}(h:lj p n)(hn:0<n){m:Nat}(a:n6 b p m)(hm:m<=n):∀d i,i+(d+1)<m->b (iy p i) (iy p (i+(d+1)))=true
 | 0,i,hi=>a i hi
 | d+1,i,hi=>O.tr _ _ _ (h.lt hn _) (h.lt hn _) (h.lt hn _) (n6.all O h hn a hm d i (by lia)) (a (i+(d+1)) hi)
theorem n6.lt(O:Ord b n){p:Array Nat}(h:lj p n)(hn:0<n){m:Nat}(a:n6 b p m)(hm:m<=n){i j:Nat}(Rg:i<j)(hj:j<m):b (iy p i) (iy p j)=true:=by
 have:=n6.all O h hn a hm (j-i-1) i (by lia)
 rwa [show i+(j-i-1+1)=j by lia]at this
theorem Bm(O:Ord b n){p:Array Nat}(h:lj p n)(hn:0<n):∀(f m:Nat),1<=m->m+f<=n->n6 b p m->KG b n (λk=>m<=k/\k<=m+f/\n6 b p k/\(k<m+f->b (iy p k) (iy p (k-1))=true)) (kas_asc p f m)
 | 0,m,_,_,a=>⟨bB _,bB _,a,λz=>absurd z (jI _)⟩
 | f+1,m,h1,hf,a=>by
  refine⟨h.lt hn _,h.lt hn _,?_⟩
  show KG b n _ (if b (iy p m) (iy p (m-1))=true then _ else _)
  split
  ·rename_i hc
   exact⟨bB _,zf _ _,a,λ_=>hc⟩
  ·rename_i hc
   have ht:=(O.tot _ _ (h.lt hn m) (h.lt hn (m-1)) (h.ne (by lia) (by lia) (by lia))).resolve_left hc
   refine KG.mono (λk ⟨k1,k2,k3,k4⟩=>⟨by lia,by lia,k3,λz=>k4 (by lia)⟩) (Bm O h hn f (m+1) (by lia) (by lia) λi hi=>?_)
   by_cases e:i+1<m
   ·exact a i e
   ·have:i=m-1:=by lia
    subst this
    rwa [show m-1+1=m by lia]
theorem DN(O:Ord b n){p:Array Nat}(h:lj p n)(hn:0<n):∀(f m:Nat),1<=m->m+f<=n->Dsc b p m->KG b n (λr=>r.1=p/\r.2.2=0/\m<=r.2.1/\r.2.1<=m+f/\Dsc b p r.2.1) (kas_desc f p m 0)
 | 0,m,_,_,a=>⟨rfl,rfl,bB _,bB _,a⟩
 | f+1,m,h1,hf,a=>by
  refine⟨h.lt hn _,h.lt hn _,?_⟩
  show KG b n _ (if b (iy p m) (iy p (m-1))=true then (if 0 > 0 then _ else kas_desc f p (m+1) 0) else _)
  split
  ·rename_i hc
   rw[aE (by decide)]
   refine KG.mono (λr ⟨k0,k1,k2,k3,k4⟩=>⟨k0,k1,by lia,by lia,k4⟩) (DN O h hn f (m+1) (by lia) (by lia) λi hi=>?_)
   by_cases e:i+1<m
   ·exact a i e
   ·have:i=m-1:=by lia
    subst this
    rwa [show m-1+1=m by lia]
  ·rename_i hc
   have ht:=(O.tot _ _ (h.lt hn m) (h.lt hn (m-1)) (h.ne (by lia) (by lia) (by lia))).resolve_left hc
   refine⟨h.lt hn _,h.lt hn _,?_⟩
   show KG b n _ (if b (iy p (m-1)) (iy p m)=true then _ else _)
   rw[aI ht]
   exact⟨rfl,rfl,bB _,zf _ _,a⟩
theorem Ek{p:Array Nat}{m:Nat}(hm:m<=p.size){i:Nat}(hi:i<m):iy (kas_rev p 0 m) i=iy p (m-1-i):=by
 unfold iy kas_rev
 rw[pF,pF,getElem?_mirror_all hm,aI ⟨dg _,hi⟩]
 congr 2
 lia
theorem JG(O:Ord b n){p:Array Nat}(h:lj p n)(hn:0<n){m:Nat}(h1:1<=m)(hm:m<=n)(d:Dsc b p m):KG b n (λr=>lj r.2 n/\1<=r.1/\r.1<=n/\n6 b r.2 r.1) (kas_tail3 m n p):=by
 have h':lj (kas_rev p 0 m) n:=⟨(mirror_perm _ _ _ _).trans h.perm⟩
 refine KG.bind (KG.mono (λk ⟨k1,k2,k3,_⟩=>⟨h',by lia,by lia,k3⟩) (Bm O h' hn (n-m) m h1 (by lia) λi hi=>?_))
 rw[Ek (by rw[h.size];exact hm) (by lia),Ek (by rw[h.size];exact hm) (by lia)]
 have:=d (m-1-(i+1)) (by lia)
 rwa [show m-1-(i+1)+1=m-1-i by lia]at this
theorem JH(O:Ord b n){p:Array Nat}(h:lj p n)(hn:2<=n):KG b n (λr=>lj r.2 n/\1<=r.1/\r.1<=n/\n6 b r.2 r.1) (kas_count n p):=by
 refine KG.bind (KG.mono (λm ⟨m1,m2,m3,m4⟩=>?_) (Bm O h (by lia) (n-1) 1 (bB _) (by lia) λi hi=>by lia))
 split
 ·exact⟨h,m1,by show m<=n;lia,m3⟩
 ·rename_i qH
  have gS:m<n:=by
   have:m≠n:=λe=>qH (by rw[e];exact pj n)
   lia
  split
  ·rename_i hgt
   refine⟨h.lt (by lia) _,h.lt (by lia) _,?_⟩
   show KG b n _ (if b (iy p 0) (iy p (m-1))=true then _ else _)
   rw[aI (n6.lt O h (by lia) m3 (by lia) (by lia:0<m-1) (by lia))]
   exact⟨h,m1,by show m<=n;lia,m3⟩
  ·rename_i hgt
   have e:m=1:=by lia
   subst e
   have hb:=m4 (by lia)
   refine KG.bind (KG.mono (λr ⟨k0,k1,k2,k3,k4⟩=>?_) (DN O h (by lia) (n-2) 2 (by lia) (by lia) λi hi=>?_))
   ·have:i=0:=by lia
    subst this
    exact hb
   ·rw[k1,aE (by decide),k0]
    exact JG O h (by lia) (by lia) (by lia) k4
theorem sJ(O:Ord b n){p:Array Nat}(h:lj p n)(hn:0<n){k:Nat}(hk:k<n)(a:n6 b p k):∀(f l r:Nat),l<=r->r<=k->r-l<=f->(∀i,i<l->b (iy p i) (iy p k)=true)->(∀i,r<=i->i<k->b (iy p k) (iy p i)=true)->
  KG b n (λl'=>l'<=k/\(∀i,i<l'->b (iy p i) (iy p k)=true)/\∀i,l'<=i->i<k->b (iy p k) (iy p i)=true) (kas_place p k f l r)
 | 0,l,r,h1,h2,h3,lo,hi=>⟨by lia,lo,λi G' JX=>hi i (by lia) JX⟩
 | f+1,l,r,h1,h2,h3,lo,hi=>by
  unfold kas_place
  split
  ·exact⟨by lia,lo,λi G' JX=>hi i (by lia) JX⟩
  ·refine⟨h.lt hn _,h.lt hn _,?_⟩
   show KG b n _ (if b (iy p k) (iy p ((l+r) / 2))=true then _ else _)
   split
   ·rename_i hc
    refine sJ O h hn hk a f l ((l+r) / 2) (by lia) (by lia) (by lia) lo λi G' JX=>?_
    by_cases e:i=(l+r) / 2
    ·rw[e];exact hc
    ·exact O.tr _ _ _ (h.lt hn _) (h.lt hn _) (h.lt hn _) hc (n6.lt O h hn a (by lia) (by lia) JX)
   ·rename_i hc
    have ht:=(O.tot _ _ (h.lt hn k) (h.lt hn ((l+r) / 2)) (h.ne (by lia) (by lia) (by lia))).resolve_left hc
    refine sJ O h hn hk a f ((l+r) / 2+1) r (by lia) (by lia) (by lia) (λi G'=>?_) hi
    by_cases e:i=(l+r) / 2
    ·rw[e];exact ht
    ·exact O.tr _ _ _ (h.lt hn _) (h.lt hn _) (h.lt hn _) (n6.lt O h hn a (by lia) (by lia:i<(l+r) / 2) (by lia)) ht
theorem El{p:Array Nat}{k l:Nat}(hk:k<p.size)(hl:l<=k)(i:Nat):iy (bubble p k (k-l)) i=if i=l then iy p k else if l<i/\i<=k then iy p (i-1) else iy p i:=by
 have g:∀(x:Array Nat) (j:Nat),iy x j=x[j]?.getD 0:=λx j=>pF
 have e:k-(k-l)=l:=by lia
 rw[g,g,g,g,getElem?_bubble hk (k-l) (by lia) i,e]
 by_cases c1:i=l
 ·rw[aI c1,aI c1]
 ·rw[aE c1,aE c1]
  by_cases c2:l<i/\i<=k
  ·rw[aI c2,aI c2]
  ·rw[aE c2,aE c2]
theorem JK(O:Ord b n)(hn:0<n):∀(f k:Nat) {p:Array Nat},lj p n->1<=k->k+f=n->n6 b p k->KG b n (λp'=>lj p' n/\n6 b p' n) (kas_bin f p k)
 | 0,k,p,h,_,e,a=>⟨h,by
  have:k=n:=by lia
  subst this
  exact a⟩
 | f+1,k,p,h,h1,e,a=>by
  refine KG.bind (KG.mono (λl ⟨l1,l2,l3⟩=>?_) (sJ O h hn (by lia) a k 0 k (dg _) (bB _) (by lia) (λi hi=>absurd hi (Nat.not_lt_zero _)) λi hi hk=>by lia))
  refine JK O hn f (k+1) (p:=bubble p k (k-l)) ⟨(bubble_perm _ _ _).trans h.perm⟩ (by lia) (by lia) λi hi=>?_
  have hs:=h.size
  rw[El (by lia) l1,El (by lia) l1]
  by_cases c1:i=l
  ·rw[aI c1,aE (by lia),aI (by lia)]
   exact l3 _ (by lia) (by lia)
  ·rw[aE c1]
   by_cases c2:i+1=l
   ·rw[aE (by lia),aI c2]
    exact l2 i (by lia)
   ·rw[aE c2]
    by_cases c3:l<i
    ·rw[aI (by lia),aI (by lia)]
     have:=a (i-1) (by lia)
     rwa [show i-1+1=i+1-1 by lia]at this
    ·rw[aE (by lia),aE (by lia)]
     exact a i (by lia)
theorem DK(O:Ord b n)(hn:2<=n):KG b n (λp=>lj p n/\n6 b p n) (kas_sort n):=by
 refine KG.bind (KG.mono (λr ⟨r1,r2,r3,r4⟩=>?_) (JH O (p:=(List.range n).toArray) ⟨Array.Perm.refl _⟩ hn))
 split
 ·rw[Nat.max_eq_left r2]
  exact JK O (by lia) (n-r.1) r.1 r1 r2 (by lia) r4
 ·have:r.1=n:=by lia
  exact⟨r1,by rw[<-this];exact r4⟩
end
section
variable {r:Keyed->Int}{a b o:Array Keyed}{x y k:Nat}
abbrev tot(a b:Array Keyed):List Keyed:=a.toList++b.toList
end
section
variable {prog:Program}{w:World}{A:Around}{E:Value->Shared->Prop}{s:Shared}{κ:SortKind}{r:Keyed->Int}{a₀:Array Keyed}
structure SB(a₀:Array Keyed)(κ:SortKind)(st:SortSt):Prop where
 perm:(arrOf st).Perm a₀
 kind:kindOf st=κ
 ok:failedOf st=none
end
theorem j3{n:Nat}(h:n<=1000000):n<=sizeLine:=pd (vG h (by decide))
end L2
end
section
namespace L2
open PySem PySem.Spec PySem.W PyProof.Rows Builtin
section
variable {P:Program}{w:World}{H H1:Hp}{h h1 h2:Heap}{e a:Addr}{o:HO}{fs:List Addr}
theorem DS(x:jE P w H h)(hn:H e=none)(k:∀b u,b≠e->h.get? b=some u->h2.get? b=some u):jE P w H h2:=λa o ea=>
 (x a o ea).stay (λb u hb q=>k b u (λz=>by
  subst z
  rcases hb with rfl | hb
  ·rw[hn]at ea;cases ea
  ·rw[hn]at hb;cases hb) q) (λ_ q=>q) λ_ _ q=>q
theorem Hw(u:Un fs [] H H1 h h1)(he:h.objs.size<=e)(k:∀b u,b≠e->h1.get? b=some u->h2.get? b=some u):Un fs [] H H1 h h2:=
 have ne:∀b ob,h.get? b=some ob->b≠e:=λb ob q=>bJ (cX (bI q) he)
 ⟨λb ob q n hb hx=>k _ _ (ne b ob q) (u.keep b ob q n hb hx),λb ob q n hb hx=>let ⟨sl,r⟩:=u.slot b ob q n hb hx;⟨sl,k _ _ (ne b ob q) r⟩,u.free,λb ob q hx=>let ⟨o',r⟩:=u.there b ob q hx;⟨o',k _ _ (ne b ob q) r⟩,u.tups,u.frzs,u.tbls⟩
theorem Ng(x:jE P w H h)(hn:H a=none)(new:cO P w (upd H a o) h a o):jE P w (upd H a o) h:=λb u eb=>by
 by_cases hb:b=a
 ·subst hb;rw[ai]at eb;cases eb;exact new
 ·rw[aB hb]at eb
  exact(x b u eb).stay (λ_ _ _ q=>q) (λc q=>by rw[aB (az q hn)];exact q) λc xs q=>by rw[aB (az q hn)];exact q
theorem O'(u:Un fs [] H H1 h h1)(ha:h.objs.size<=a)(hn:H a=none):Un fs [] H (upd H1 a o) h h1:=
 have ne:∀b ob,h.get? b=some ob->b≠a:=λb ob q=>bJ (cX (bI q) ha)
 ⟨u.keep,u.slot,λb ob q n hx=>by rw[aB (ne b ob q)];exact u.free b ob q n hx,u.there,λb xs q=>by rw[aB (az q hn)];exact u.tups b xs q,λb ob xs q=>by rw[aB (az q hn)];exact u.frzs b ob xs q,λb ps q=>by rw[aB (az q hn)];exact u.tbls b ps q⟩
end
section
variable {X:Cx}{pins:List (Addr×Obj)}{σ:St}{H:Hp}{s:Shared}
structure Hg(X:Cx)(H:Hp)(s:Shared)(D S:Addr)(e1:Nat)(H':Hp)(s':Shared)(kA:Array Value):Prop where
 os:s'.os=s.os
 bare:AllBare s'.gens
 un:Un (lE X.stack) [] H H' s.heap s'.heap
 bT:jE X.prog X.w H' s'.heap
 same:bz H H'
 nD:H' D=none
 nS:H' S=none
 oD:s'.heap.get? D=some (seqObj "list" #[] e1)
 oS:∃e,s'.heap.get? S=some (seqObj "list" kA e)
theorem Hg.push{D S:Addr}{e1:Nat}{H':Hp}{s':Shared}{kA:Array Value}(m:Hg X H s D S e1 H' s' kA)(hS:s.heap.objs.size<=S)(Ow:D≠S)(g:Array Value->Array Value):Hg X H s D S e1 H' { s' with heap:=s'.heap.update S (Obj.mapSeq g) } (g kA):=by
 obtain⟨eS,oS⟩:=m.oS
 have sb:=qU s'.heap S (Obj.mapSeq g)
 have k:∀b u,b≠S->s'.heap.get? b=some u->(s'.heap.update S (Obj.mapSeq g)).get? b=some u:=λb u nb q=>(sb.2 b nb).trans q
 exact⟨m.os,m.bare,Hw m.un hS k,DS m.bT m.nS k,m.same,m.nD,m.nS,k _ _ Ow m.oD,_,get?_update_seq oS g⟩
end
section
variable {P:Program}{w:World}{H':Hp}{h:Heap}{p a:Addr}
theorem M7{l:Int}(bT:jE P w H' h)(e:H' p=some (.tup [.int l,.ref a])):∃t,IsTup h p #[.int l t,.ref a]:=by
 refine hide λgG hG=>?_
 obtain⟨_,its,r,ht⟩:=bT p _ e
 refine hG ?_
 cases r with
 | cons r1 r2=>
  obtain⟨t,rfl⟩:=r1
  cases r2 with
  | cons r3 r4=>
   cases r4
   cases r3
   exact⟨t,ht⟩
end
section
variable {X:Cx}{pins:List (Addr×Obj)}{σ:St}{H:Hp}{s:Shared}
structure Fin(X:Cx)(H:Hp)(s:Shared)(D:Addr)(H':Hp)(s':Shared)(bs:List Addr):Prop where
 os:s'.os=s.os
 bare:AllBare s'.gens
 un:Un (lE X.stack) [] H H' s.heap s'.heap
 bT:jE X.prog X.w H' s'.heap
 same:bz H H'
 nD:H' D=none
 oD:∃c,s'.heap.get? D=some (seqObj "list" (bs.map Value.ref).toArray c)
theorem uK{D S:Addr}{e1:Nat}{H':Hp}{s':Shared}{kA:Array Value}{bs:List Addr}{st:SortSt}{Pq:PySem.Fin->Shared->Prop}{E:Value->Shared->Prop}(m:Hg X H s D S e1 H' s' kA)(hD:s.heap.objs.size<=D)(hS:s.heap.objs.size<=S)(Ow:D≠S)(hk:kA.size<=100000)(hb:bs.length<=100000)
  (JT:(arrOf st).map (·.2)=(bs.map Value.ref).toArray) (hf:failedOf st=none) (q:∀s2,Fin X H s D H' s2 bs->Pq (.done (.ret .none)) s2):wpAny (model X.prog X.w) X.A.in1.in1 (ksk_tail D false e1 (.ref S) st) Pq E s':=by
 obtain⟨eS,oS⟩:=m.oS
 have m1:=m.push hS Ow (λ_=>#[])
 have sb:=qU (s'.heap.update S (Obj.mapSeq λ_=>(#[]:Array Value))) D (Obj.mapSeq λ_=>(bs.map Value.ref).toArray)
 have k:∀b u,b≠D->(s'.heap.update S (Obj.mapSeq λ_=>(#[]:Array Value))).get? b=some u->((s'.heap.update S (Obj.mapSeq λ_=>(#[]:Array Value))).update D (Obj.mapSeq λ_=>(bs.map Value.ref).toArray)).get? b=some u:=λb u nb q=>(sb.2 b nb).trans q
 unfold ksk_tail
 dsimp only
 refine au (my (xs:=kA) oS rfl ?_ (j3 (by lia)) (dg _))
 refine au (wpAny_letGo ?_)
 refine au (seqEpoch_at m1.oD rfl ?_)
 rw[JT]
 refine au (my m1.oD rfl ?_ (dg _) (by
  have z:((bs.map Value.ref).toArray).size<=sizeLine:=by rw[cV,aY];exact j3 (by lia)
  first | exact z | exact vF z))
 rw[hf]
 simp only[zq,qT,iP]
 exact aM (q _ ⟨m1.os,m1.bare,Hw m1.un hD k,DS m1.bT m1.nD k,m1.same,m1.nD,_,get?_update_seq m1.oD λ_=>(bs.map Value.ref).toArray⟩)
theorem sL{h:Heap}:∀{l:List Value},(∀v∈l,∃p a,∃k:Int,∃t,v=.ref p/\IsTup h p #[.int k t,.ref a])->∃fs,KatTups h l fs/\fs.length=l.length/\∀f∈fs,∃(k:Int) (t:Tok),f=.int k t
 | [],_=>⟨[],.nil,rfl,λ_ z=>nomatch z⟩
 | v::l,hv=>by
  refine hide λgG hG=>?_
  obtain⟨p,a,k,t,rfl,o,e,c,n,d⟩:=hv v dE
  obtain⟨fs,r1,r2,r3⟩:=sL (l:=l) λu hu=>hv u (dY _ hu)
  refine hG ?_
  exact⟨.int k t::fs,.cons e c d rfl r1,by rw[dH,dH,r2],λf hf=>by
   rcases dh.mp hf with rfl | hf
   ·exact⟨k,t,rfl⟩
   ·exact r3 f hf⟩
theorem getD_some{α:Type}{l:List α}{i:Nat}{x d:α}(h:l[i]?=some x):l.getD i d=x:=by rw[fX,h];rfl
end
theorem w5:∀l:List Addr,Vals (List.map V.ref l) (List.map Value.ref l)
 | []=>.nil
 | a::l=>.cons rfl (w5 l)
section
variable {X:Cx}{k:Nat}{f:Addr}{fd:FuncData}{pm g:Str}{e:Expr}{te:TE}{p kp kpos pos:Pos}
theorem Jm(hg:Gl X g)(hm:X.mg g=some (.ref f))(mQ:(g==("__debug__" : Str))=false):PE X (.Name g kp) (tC (.ref f)):=λpins s σ H Q I h=>gH I hg hm ⟨.ref f,H,I,rfl,h⟩ mQ
end
section
variable {X:Cx}
def W5(i j:Int):Prop:=0<j/\j<2 ^ 300
theorem Jr:jb X (binaryOp .FloorDiv) (rI W5 λi j=>.int (i / j)):=Xg λi j _ _ _ _ _ hc q=>by
 have h1:(0:Int)<j:=hc.1
 have h2:j<2 ^ 300:=hc.2
 refine floordiv_int (by omega) (by rw[Int.fdiv_eq_ediv_of_nonneg i (by omega)];exact q) (.inl (PyProof.noPylong_of_log2 ?_))
 have h3:j.natAbs<2 ^ 300:=by omega
 have h4:j.natAbs≠0:=by omega
 have:=(Nat.log2_lt h4).mpr h3
 omega
variable {k:Nat}{f:Addr}{fd:FuncData}{pm g:Str}{e:Expr}{te:TE}{p kp kpos pos:Pos}
end
end L2
namespace L2
open PySem PySem.Spec PySem.W PyProof.Rows Builtin
end L2
end
section
namespace L2
open PySem PySem.Spec PyProof.Rows
theorem Af{h:Heap}{c:Addr}{o x:Obj}(e:(h.push x).get? c=some o)(ne:c≠h.objs.size):h.get? c=some o:=by
 obtain⟨e1,e2⟩:=Heap.get?_some_iff.mp e
 refine Heap.get?_some_iff.mpr ⟨?_,e2⟩
 cases h
 have ne':¬c=_:=ne
 simpa [Heap.push,Array.getElem?_push,ne']using e1
theorem Inv.CT{X:Cx}{pins:List (Addr×Obj)}{σ:St}{H:Hp}{s:Shared}{h':Heap}{t':Nat}{ch:List Addr}(I:Inv X pins σ H s)(k:∀b o,b∉ch->s.heap.get? b=some o->h'.get? b=some o)(hf:∀b∈ch,ui X pins H b) :
  Inv X pins σ H { s with heap:=h',toks:=t' }:=by
 have Uz:∀b u,H b=some u->b∉ch:=λb u e z=>by rw[(hf b z).1]at e;cases e
 refine I.step (g':=s.gens) (d':=s.drawn) (ch:=ch) (λb hb=>⟨(hf b hb).2.2.2.1,(hf b hb).2.1,(hf b hb).2.2.2.2.1,(hf b hb).2.2.2.2.2⟩) (λb o _ _ hc e _=>k b o hc e) (λb o _ _ hc e _=>⟨o.slots,k b o hc e⟩) (λ_ _ _ _ n=>n)
  (λb o hc e=>⟨o,k b o hc e⟩) (λ_ _ e=>e) (λ_ _ _ e=>e) (λb ps e=>⟨#[],by rw[e];simp⟩) (λm hm=>?_) (λb u e=>?_) I.bare
 ·obtain⟨o,es,ep,ho,r⟩:=hm
  exact⟨o,es,ep,k _ o (λz=>(hf _ z).2.1 rfl) ho,r⟩
 ·refine(I.bT b u e).stay (λc v hc q=>k c v ?_ q) (λ_ q=>q) λ_ _ q=>q
  rcases hc with z | z
  ·rw[z];exact Uz b u e
  ·exact Uz c _ z
def Itz(K : PySem.W.Frag)(a b : Addr)(n : Nat) : It :=
  ⟨λi H => i<n ∧ ∃ xs ys, pX K H a xs ∧ pX K H b ys ∧ xs.length=n ∧ ys.length=n,
   λi H v H' => ∃ p, H p=none ∧ v=.ref p ∧ ∀ xs ys, pX K H a xs → pX K H b ys → ∃ x y, xs[i]?=some x ∧ ys[i]?=some y ∧ H'=upd H p (.tup [x, y]),
   λi H => i=n ∧ ∃ xs, pX K H a xs ∧ xs.length=n⟩
section
variable {X:Cx}
def aAM(K:PySem.W.Frag)(ta:TA):TI:=λσ H R=>ta σ H λvs H1=>∃a b,vs=[.ref a,.ref b]/\∃xs ys,pX K H1 a xs/\pX K H1 b ys/\xs.length=ys.length/\R (Itz K a b xs.length) H1
end
section
variable {P:Program}{w:World}{A:Around}{E:Value->Shared->Prop}{s:Shared}{a:Addr}{l:List (Int×Tok)}
end
end L2
end
section
namespace HT
open PySem PyProof.Rows L2
end HT
namespace L2
open PySem PySem.Spec PyProof.Rows
end L2
end
section
namespace L2
open PySem
theorem dI(K:PySem.W.Frag)(T:String):PySem.W.kitOne K (.type T) (.type T)=some true:=by
 unfold PySem.W.kitOne
 rw[aI (by simp)]
theorem bP{K:PySem.W.Frag}{A B:String}(h:(Value.type A==Value.type B)=false)(e:PySem.W.kitCls K (.type A) (.type B)=some false):PySem.W.kitOne K (.type A) (.type B)=some false:=by
 unfold PySem.W.kitOne
 rw[aE (by rw[h];exact cR)]
 exact e
theorem DG{K:PySem.W.Frag}{A B:String}(h:(Value.type A==Value.type B)=false)(e:PySem.W.kitCls K (.type A) (.type B)=some true):PySem.W.kitOne K (.type A) (.type B)=some true:=by
 unfold PySem.W.kitOne
 rw[aE (by rw[h];exact cR)]
 exact e
end L2
end
section
namespace L2
open PySem PySem.Spec PyProof.Rows
end L2
end
section
namespace L2
structure Nx(P R:St->Hp->Prop):Prop where
 to:∀σ H,P σ H->R σ H
theorem ck{t u:TS}{D:Ends}{σ:St}{H:Hp}(h:∀R:St->Hp->Prop,Nx (u D) R->t { D with nx:=R } σ H):tSeq t u D σ H:=h (u D) ⟨λ_ _ z=>z⟩
end L2
end
section
namespace L2
open PySem PySem.Spec PyProof.Rows
open PySem.W (Frag Looks)
abbrev Ts:List Value:=[.type "ValueError",.type "Exception",.type "BaseException",.type "object"]
def K6(K:Frag)(n:Addr):Bool:=match K.lookup n with
 | some o=>(match o.data with | .dict es _=>es.toList.all λe=>(match e.key with | .str _ _=>true | _=>false) | _=>false)
 | none=>false
theorem N5{K:Frag}{h:Heap}{n:Addr}(X:K.In h)(q:K6 K n=true):∃m,h.Ns n m:=by
 unfold K6 at q
 cases e:K.lookup n with
 | none=>rw[e]at q;cases q
 | some o=>
  rw[e]at q
  dsimp only at q
  cases d:o.data with
  | dict es ep=>
   rw[d]at q
   dsimp only at q
   refine⟨nsFind es,o,es,ep,X _ _ e,d,λx hx=>?_,λ_=>rfl⟩
   have:=qS.mp q x (Array.mem_toList_iff.mpr hx)
   cases k:x.key with
   | str y t=>exact⟨y,t,rfl⟩
   | _=>rw[k]at this;cases this
  | _=>rw[d]at q;cases q
def K5(K:Frag):List Value->Bool
 | .ref a::tl=>(match K.lookup a with
  | some o=>(match o.data with | .cls cd=>K6 K cd.ns&&(PySem.W.nsIn K cd.ns "__init__" == some none) | _=>false)
  | none=>false)&&K5 K tl
 | l=>l==Ts
theorem N4{K:Frag}{h:Heap}(X:K.In h):∀{l:List Value},K5 K l=true->OwnTail h Ts l
 | .ref a::tl,q=>by
  simp only[K5,dW]at q
  obtain⟨q,r⟩:=q
  cases e:K.lookup a with
  | none=>rw[e]at q;cases q
  | some o=>
   rw[e]at q
   obtain⟨oc,od,da,sl⟩:=o
   cases da with
   | cls cd=>
    simp only[dW,beq_iff_eq]at q
    obtain⟨m,hm⟩:=N5 X q.1
    exact .own (X _ _ e) hm (PySem.W.ns_none_of X hm q.2) (N4 X r)
   | _=>cases q
 | [],q=>by cases eq_of_beq q
 | .type n::tl,q=>by rw[show Value.type n::tl=Ts from eq_of_beq q];exact .base
 | .none::tl,q=>by cases eq_of_beq q
 | .bool _::tl,q=>by cases eq_of_beq q
 | .int _ _::tl,q=>by cases eq_of_beq q
 | .str _ _::tl,q=>by cases eq_of_beq q
 | .builtin _::tl,q=>by cases eq_of_beq q
 | .float _ _::tl,q=>by cases eq_of_beq q
 | .bytes _ _::tl,q=>by cases eq_of_beq q
 | .ellipsis::tl,q=>by cases eq_of_beq q
 | .notImplemented::tl,q=>by cases eq_of_beq q
def jO(K:Frag)(C:Addr):Bool:=match K.lookup C with
 | some o=>o.cls == .type "type" && (match o.data with
  | .cls cd=>!cd.hasDel&&cd.hasDict&&K6 K cd.ns&&(match cd.mro with | v::tl=>v == .ref C&&K5 K tl | []=>false) | _=>false)&&(match o.slots.toList with | [_,_,_,_,some v,_]=>v == .builtin "ValueError.__new__" | _=>false)
 | none=>false
theorem jY{K:Frag}{h:Heap}{C:Addr}(X:K.In h)(q:jO K C=true):∃nm qn N bs bm sn sub ab col dd k0 k1 k2 k3 k5 mN,h.get? C=some (excClassObj nm qn C N bs bm true sn sub ab col dd k0 k1 k2 k3 k5 "ValueError.__new__")/\h.Ns N mN/\OwnTail h Ts bm:=by
 unfold jO at q
 cases e:K.lookup C with
 | none=>rw[e]at q;cases q
 | some o=>
  rw[e]at q
  obtain⟨oc,od,da,sl⟩:=o
  simp only[dW,beq_iff_eq]at q
  obtain⟨⟨rfl,q1⟩,q2⟩:=q
  cases da with
  | cls cd=>
   obtain⟨nm,bs,mro,ns,qn,hd,sn,sub,ab,col,del⟩:=cd
   simp only[dW,zl]at q1
   obtain⟨⟨⟨rfl,rfl⟩,n1⟩,q1⟩:=q1
   cases mro with
   | nil=>cases q1
   | cons v tl=>
    simp only[dW,beq_iff_eq]at q1
    obtain⟨rfl,q1⟩:=q1
    obtain⟨l⟩:=sl
    match l,q2 with
    | [k0,k1,k2,k3,some v,k5],q2=>
     obtain⟨m,hm⟩:=N5 X n1
     have ev:v=.builtin "ValueError.__new__":=eq_of_beq q2
     subst ev
     exact⟨nm,qn,ns,bs,tl,sn,sub,ab,col,od,k0,k1,k2,k3,k5,m,X _ _ e,hm,N4 X q1⟩
  | _=>cases q1
section
variable {prog:Program}{w:World}{A:Around}{E:Value->Shared->Prop}{s:Shared}{K:Frag}{C fI:Addr}
theorem tR{rest:List Value}{Q:PySem.Fin->Shared->Prop}(X:K.In s.heap)(q:jO K C=true)(hi:PySem.W.findIn K (.ref C) "__init__" = some (some (.ref fI)))(hf:PySem.W.typeIn K (.ref fI)=some (.type "function"))
  (hq:∀h',Heap.MadeExcOf s.heap h' (s.heap.objs.size+1) (.ref C) rest->wpAny (model prog w) A (call (.ref fI) (.ref (s.heap.objs.size+1)::rest)) (λr s'=>r=.none/\Q (.done (.ret (.ref (s.heap.objs.size+1)))) s') E { s with heap:=h' }) (DR:rest.length<=sizeLine) :
  wpAny (model prog w) A (Builtin.«type.__call__» ⟨.ref C::rest,[]⟩) Q E s:=by
 obtain⟨nm,qn,N,bs,bm,sn,sub,ab,col,dd,k0,k1,k2,k3,k5,mN,hC,hN,T⟩:=jY X q
 obtain⟨h,g,d,t,os⟩:=s
 dsimp only at X hC hN T hq
 repeat (first | with_reducible refine uk hC ?_ | with_reducible refine wpAny_madeBy_exc hC ?_ | wp_step)
 have FF:=PySem.F.excBase_ValueError
 refine codeAny_call_builtin_code (vB _ FF.quiet) (wpAny_check_new_subU FF (by decide +kernel) T hC (codeAny_exc_new_subU FF (by decide +kernel) FF T hC ?_ DR))
 show wpAny _ _ _ _ _ _
 have kp:∀b o,h.get? b=some o->((h.push { cls:=.type "tuple",data:=.seq rest.toArray }).push { cls:=.ref C,data:=.fields #[.ref h.objs.size,.none,.none,.none,.bool false,.none] }).get? b=some o:=λb o e=>cq _ (cq _ e)
 have e1:((h.push { cls:=.type "tuple",data:=.seq rest.toArray }).push { cls:=.ref C,data:=.fields #[.ref h.objs.size,.none,.none,.none,.bool false,.none] }).get? (h.objs.size+1)=some { cls:=.ref C,data:=.fields #[.ref h.objs.size,.none,.none,.none,.bool false,.none] }:=by heap_get
 have mk:Heap.MadeExcOf h ((h.push { cls:=.type "tuple",data:=.seq rest.toArray }).push { cls:=.ref C,data:=.fields #[.ref h.objs.size,.none,.none,.none,.bool false,.none] }) (h.objs.size+1) (.ref C) rest:=⟨kp,uw (gU _),h.objs.size,e1,uw (bB _),cq _ (Heap.get?_push_at rfl rfl)⟩
 generalize ((h.push { cls:=.type "tuple",data:=.seq rest.toArray }).push { cls:=.ref C,data:=.fields #[.ref h.objs.size,.none,.none,.none,.bool false,.none] })=h2 at kp e1 mk ⊢
 have hC2:=kp _ _ hC
 have X2:K.In h2:=X.keeps kp
 have hcC:(Value.ref C::bm).contains (.ref C)=true:=by simp
 unfold isInstance
 repeat (first | with_reducible refine uk e1 ?_ | (with_reducible refine uv hC2 ?_;rw[hcC]) | wp_step)
 show wpAny _ _ (typeLookup (.ref C) _) _ _ _
 refine(ux (M:=model prog w) (h:=h2) X2 hi) _ _ _ _ (λ_ _ e=>e) (dG (au ((PySem.W.bind_fn (M:=model prog w) (h:=h2) X2 (.ref (h.objs.size+1)) hf) _ _ _ _ (λ_ _ e=>e) ?_)))
 refine au (cP (hq h2 mk) (λr s' hr=>?_) λ_ _ z=>z)
 obtain⟨rfl,z⟩:=hr
 wp_walk
 exact z
theorem Ko{rest:List Value}{Q:Value->Shared->Prop}(X:K.In s.heap)(q:jO K C=true)(hi:PySem.W.findIn K (.ref C) "__init__" = some (some (.ref fI)))(hf:PySem.W.typeIn K (.ref fI)=some (.type "function"))
  (hq:∀h',Heap.MadeExcOf s.heap h' (s.heap.objs.size+1) (.ref C) rest->wpAny (model prog w) (A.under (.builtin "type.__call__" ⟨.ref C::rest,[]⟩)) (call (.ref fI) (.ref (s.heap.objs.size+1)::rest)) (λr s'=>r=.none/\Q (.ref (s.heap.objs.size+1)) s') E { s with heap:=h' }) (DR:rest.length<=sizeLine) :
  wpAny (model prog w) A (call (.ref C) rest) Q E s:=by
 obtain⟨nm,qn,N,bs,bm,sn,sub,ab,col,dd,k0,k1,k2,k3,k5,mN,hC,hN,T⟩:=jY X q
 obtain⟨h,g,d,t,os⟩:=s
 dsimp only at X hC hN T hq
 have f1:=tc_lookup
 have f2:=tc_bind (.ref C)
 have hT:(⟨h,g,d,t,os⟩:Shared).TypeIs (.ref C) "type":=⟨_,hC,rfl⟩
 refine jS (vw (show wpAny _ _ (callAny (.ref C) _) _ _ _ from ?_))
 repeat (any_goals (first | assumption | with_reducible refine uk hC ?_ | wp_step))
 refine⟨rfl,codeAny_call_builtin_at (vB _ (by decide +kernel)) entry_typeCall (wpAny_check_type_call_sub hC (tR (s:=⟨h,g,d,t,os⟩) X q hi hf (λh' hm=>?_) DR))⟩
 exact hq h' hm
end
section
variable {prog:Program}{w:World}{A:Around}{E:Value->Shared->Prop}{s:Shared}{K:Frag}{C e:Addr}{oe:Obj}{vs:Array Value}
theorem Gz{t0:Addr}{rest:List Value}{Q:Value->Shared->Prop}(X:K.In s.heap)(q:jO K C=true)(he:s.heap.get? e=some { cls:=.ref C,data:=.fields #[.ref t0,.none,.none,.none,.bool false,.none] })
  (hq:Q .none { s with heap:=(s.heap.push { cls:=.type "tuple",data:=.seq rest.toArray }).update e (Obj.mapFields (·.setIfInBounds 0 (Value.ref s.heap.objs.size))) }) (DR:rest.length<=sizeLine) :
  wpAny (model prog w) A (call (.builtin "ValueError.__init__") (.ref e::rest)) Q E s:=by
 obtain⟨nm,qn,N,bs,bm,sn,sub,ab,col,dd,k0,k1,k2,k3,k5,mN,hC,hN,T⟩:=jY X q
 have FF:=PySem.F.excBase_ValueError
 obtain⟨h,g,d,t,os⟩:=s
 dsimp only at X hC hN T hq he
 have Ta:(h.push { cls:=.type "tuple",data:=.seq rest.toArray }).get? e=some { cls:=.ref C,data:=.fields #[.ref t0,.none,.none,.none,.bool false,.none] }:=cq _ he
 refine jS (qV FF.init.plain FF.initEntry (wpAny_check_init_subU FF T hC he rfl ?_))
 wp_walk
 exact hq
theorem xE(self:Value){h:Heap}{l:List Value}(T:OwnTail h Ts l):refuseLoop self "__setattr__" l=pure ():=by
 induction T with
 | base=>exact PySem.F.store_ValueError.passes self
 | own _ _ _ _ ih=>rw[refuseLoop_ref];exact ih
theorem Ez{name:Str}{tk:Tok}{v:Value}{R:Result->Shared->Prop}(X:K.In s.heap)(q:jO K C=true)(he:s.heap.get? e=some oe)(hc:oe.cls=.ref C)(ht:PySem.W.takerIn K C name=some none)
  (h:∀b,wpAny (model prog w) A.in1 (Builtin.ObjectAttr.storeInOwnDict (.ref e) (.ref C) (.str name tk) name v b) (λfin s'=>match fin with | .done f=>R (.ok f) s' | .again c'=>c'.quiet=true/\codeAny (model prog w) A c' R s') (λx s'=>R (.error x) s') s) :
  codeAny (model prog w) A (.call (.builtin "object.__setattr__") ⟨[.ref e,.str name tk,v],[]⟩) R s:=by
 obtain⟨nm,qn,N,bs,bm,sn,sub,ab,col,dd,k0,k1,k2,k3,k5,mN,hC,hN,T⟩:=jY X q
 have SF:=PySem.F.store_object
 have ty:Looks (model prog w) s.heap (typeOf (.ref e)) (.ref C):=hc ▸ (Looks.ld he).andThen .now
 have sub:Looks (model prog w) s.heap (isInstance (.ref e) (.type "object")) true:=ty.andThen (λA Q E s k z=>by
  obtain⟨h,g,d,t,os⟩:=s
  refine uv (k _ _ hC) ?_
  rw[rF,T.hasType (X:="object") (b:=true) (by decide +kernel),rh]
  exact z)
 refine qV SF.slot.plain SF.entry (@zx (model prog w) _ _ s "object.__setattr__" "object" "__setattr__" (.ref e) [.str name tk,v] [] _ SF.kind SF.split sub (SF.args (.ref e) (.str name tk) v) ?_)
 obtain⟨attr,ha,hr⟩:=Option.bind_eq_some_iff.mp ht
 have hm:Looks (model prog w) s.heap (mroOf (.ref C)) (.ref C::bm):=λA Q E s k z=>by
  obtain⟨h,g,d,t,os⟩:=s
  exact wpAny_mroOf_exc (k _ _ hC) z
 have L3:Looks (model prog w) s.heap (Builtin.ObjectAttr.storeTaker? attr) none:=by
  cases attr with
  | none=>exact .now
  | some a=>
   obtain⟨b,hb,z⟩:=Option.map_eq_some_iff.mp hr
   cases b with
   | true=>cases z
   | false=>exact(PySem.W.looks_takesIn X hb).andThen .now
 rw[PySem.W.osa_eq,refuse_eq]
 refine au (au (ty.here (au (hm.here ?_))))
 rw[refuseLoop_ref,xE _ T]
 exact aM (au (ty.here (au ((ux X ha).here (au (L3.here (h _)))))))
theorem Yl{name:Str}{v:Value}{Q:Unit->Shared->Prop}(X:K.In s.heap)(q:jO K C=true)(he:s.heap.get? e=some oe)(hc:oe.cls=.ref C)(hd:oe.dict=none)(Xp:oe.data=.fields vs)
  (hs:PySem.W.findIn K (.ref C) "__setattr__" = some (some (.builtin "object.__setattr__"))) (ht:PySem.W.takerIn K C name=some none)
  (h:∀h' tk,h'.get? e=some { oe with dict:=some s.heap.objs.size }->h'.Ns1 s.heap.objs.size (λy=>if y=name then some v else none)->(∀b o,b≠e->s.heap.get? b=some o->h'.get? b=some o)->Q () { s with heap:=h',toks:=tk }) :
  wpAny (model prog w) A (setAttr (.ref e) name v) Q E s:=by
 obtain⟨oc,od,oda,Fv⟩:=oe
 dsimp only at hc hd Xp
 subst hc hd Xp
 have J:PySem.W.InstAt s.heap e ⟨.ref C,none,.fields vs,Fv⟩ C none:=⟨he,rfl,rfl,True.intro⟩
 refine PySem.W.set_plain X J hs (Ez (s:={ s with toks:=s.toks+1 }) X q he rfl ht λb=>?_)
 obtain⟨nm,qn,N,bs,bm,sn,sub,ab,col,dd,k0,k1,k2,k3,k5,mN,hC,hN,T⟩:=jY X q
 have Bv:Looks (model prog w) s.heap (classData C) _:=(Looks.ld (part:=none) hC).andThen .now
 refine au (aM (au (au (wpAny_loadPart he (au (Looks.here (s:={ s with toks:=s.toks+1 }) Bv ?_))))))
 rw[aE (by simp)]
 dsimp only
 rw[aE (by simp[typeHasDict])]
 have Ta:(s.heap.push { cls:=.type "dict",data:=.dict #[] }).get? e=some ⟨.ref C,none,.fields vs,Fv⟩:=cq _ he
 have qH:e≠s.heap.objs.size:=bJ (bI he)
 refine au (wpAny_alloc' (au (wpAny_update' Ta ?_)))
 refine aM ?_
 have hx2:=lJ (λo:Obj=>{ cls:=o.cls,dict:=some s.heap.objs.size,data:=o.data,slots:=o.slots }) Ta rfl
 have kp2:∀b o,b≠e->(s.heap.push { cls:=.type "dict",data:=.dict #[] }).get? b=some o->((s.heap.push { cls:=.type "dict",data:=.dict #[] }).update e λo=>{ cls:=o.cls,dict:=some s.heap.objs.size,data:=o.data,slots:=o.slots }).get? b=some o:=λb o hb z=>(Heap.get?_update_ne _ _ _ _ hb).trans z
 have hgd:=kp2 _ _ qH.symm (Heap.get?_push_at (h:=s.heap) (o:={ cls:=.type "dict",data:=.dict #[] }) rfl rfl)
 have kp3:∀b o,b≠e->s.heap.get? b=some o->((s.heap.push { cls:=.type "dict",data:=.dict #[] }).update e λo=>{ cls:=o.cls,dict:=some s.heap.objs.size,data:=o.data,slots:=o.slots }).get? b=some o:=λb o hb z=>kp2 b o hb (cq _ z)
 generalize ((s.heap.push { cls:=.type "dict",data:=.dict #[] }).update e λo=>{ cls:=o.cls,dict:=some s.heap.objs.size,data:=o.data,slots:=o.slots })=h2 at hx2 hgd kp3 ⊢
 have hnd:h2.Ns s.heap.objs.size (λ_=>none):=⟨_,#[],_,hgd,rfl,λx hx=>absurd hx (by simp),λ_=>rfl⟩
 refine au (aM (au ?_))
 refine wpAny_nsSet1 (s:={ s with heap:=h2,toks:=s.toks+1 }) (Heap.Ns1.of_empty hnd) λh' Oq sb=>?_
 obtain⟨oD,esD,epD,hoD,hdD,hcD⟩:=Oq.count (Within.cons name v Within.nil)
 refine au (wpAny_lookBehind hoD (by rw[hdD];exact pastItsLine_dict (fF hcD (by rw[dH,rj,jT];omega))) ?_)
 exact aM (h h' _ ((sb.2 _ qH).trans hx2) Oq λb o hb z=>(sb.2 b (bJ (bI z))).trans (kp3 b o hb z))
theorem Ym{od:Option Obj}{name:Str}{v:Value}{expr:Bool}{Q:Value->Shared->Prop}(X:K.In s.heap)(q:jO K C=true)(I:PySem.W.InstAt s.heap e oe C od)
  (hga:PySem.W.findIn K (.ref C) "__getattribute__" = some (some (.builtin "BaseException.__getattribute__"))) (hgb:PySem.W.findIn K (.ref C) "__getattr__" = some none)
  (hf:PySem.W.findObj K C od name=some (.value v)) (hh:PySem.W.handedIn v=true) (h:Q v { s with toks:=s.toks+1 }):wpAny (model prog w) A (getAttr (.ref e) name expr) Q E s:=by
 obtain⟨nm,qn,N,bs,bm,sn,sub,ab,col,dd,k0,k1,k2,k3,k5,mN,hC,hN,T⟩:=jY X q
 obtain⟨hp,g,d,t,os⟩:=s
 dsimp only at X I hC
 have ty:=I.type (M:=model prog w)
 have L1:=ux (M:=model prog w) X hga
 have L2:=ux (M:=model prog w) X hgb
 have L3:=PySem.W.looks_find (M:=model prog w) X I hf
 have FA:=PySem.F.attr_ValueError
 unfold getAttr getAttrBy
 refine au (wpAny_mkText (dG (au (ty.at (au (L1.at ?_))))))
 dsimp only
 rw[show(onTheHeap (Value.ref C)&&Value.builtin "BaseException.__getattribute__" == Value.builtin "object.__getattribute__")=false from by rw[show(Value.builtin "BaseException.__getattribute__" == Value.builtin "object.__getattribute__")=false from by decide +kernel];rfl,aE (by decide)]
 refine au (L2.at (au (oi (dG ?_))))
 unfold callGetattribute
 rw[show(expr&&onTheHeap (Value.builtin "BaseException.__getattribute__"))=false from Bool.and_false _,aE (by decide)]
 unfold boundAndCalled
 rw[FA.ga.bind]
 refine au (aM (jS (qV FA.ga.plain PySem.F.entry_bexc_ga ?_)))
 have sub:Looks (model prog w) hp (isInstance (.ref e) (.type "BaseException")) true:=ty.andThen (λA Q E s k z=>by
  obtain⟨h,g,d,t,os⟩:=s
  refine uv (k _ _ hC) ?_
  rw[rF,T.hasType (X:="BaseException") (b:=true) (by decide +kernel),rh]
  exact z)
 refine @zx (model prog w) _ _ ⟨hp,g,d,t+1,os⟩ "BaseException.__getattribute__" "BaseException" "__getattribute__" (.ref e) [.str name t] [] _ (by decide +kernel) (by decide +kernel) sub (PySem.F.args_bexc_ga (.ref e) (.str name t)) ?_
 refine au (aM (au (aM (au (ty.at (au (L3.at ?_)))))))
 refine aM ?_
 show wpAny _ _ (handedOut v) _ _ _
 rw[PySem.W.handedOut_of hh]
 exact aM h
end
abbrev O6(C:Addr)(dx:Option Addr)(t:Addr):Obj:={ cls:=.ref C,dict:=dx,data:=.fields #[.ref t,.none,.none,.none,.bool false,.none] }
section
variable {M:Model}{A:Around}{E:Value->Shared->Prop}{s:Shared}{K:Frag}{C:Addr}{env:Env}
theorem O4{x:Sem Value}{Q:Flow->Shared->Prop}(q:jO K C=true)(hh:A.handled=none)(h:wpAny M A x (λv s₁=>∃e dx t,v=.ref e/\K.In s₁.heap/\s₁.heap.get? e=some (O6 C dx t)/\E (.ref e) s₁) E s) :
  wpAny M A (raiseStmt env (some x) none) Q E s:=by
 unfold raiseStmt
 refine au (cP h (λv s₁ h₁=>?_) λ_ _ z=>z)
 obtain⟨e,dx,t,rfl,X,he,hE⟩:=h₁
 obtain⟨nm,qn,N,bs,bm,sn,sub,ab,col,dd,k0,k1,k2,k3,k5,mN,hC,hN,T⟩:=jY X q
 have hb:(Value.ref C::bm).contains (.type "BaseException")=true:=by rw[rF,T.hasType (X:="BaseException") (b:=true) (by decide +kernel),rh]
 obtain⟨hp,g,d,tk,os⟩:=s₁
 dsimp only at hC he
 repeat (first | with_reducible refine uk he ?_ | (with_reducible refine uv hC ?_;rw[hb]) | wp_step)
 exact zi hh hE
end
def He(N:Addr->Prop)(h:Heap)(e C:Addr)(dx:Option Addr):Prop:=N e/\∃vs sl,h.get? e=some ⟨.ref C,dx,.fields vs,sl⟩/\vs[2]?=some .none/\(vs[1]?=some .none\/∃T oT ts,N T/\T≠e/\vs[1]?=some (.ref T)/\h.get? T=some oT/\oT.data=.fields ts/\ts[3]?=some .none)
structure Lv(fs ch:List Addr)(h h':Heap):Prop where
 keep:∀b o,b∉fs->b∉ch->h.get? b=some o->h'.get? b=some o
 slot:∀b o,b∈fs->h.get? b=some o->∃sl,h'.get? b=some { o with slots:=sl }
section
variable {M:Model}{A:Around}{E:Value->Shared->Prop}{s:Shared}{env:Env}{outer:List Env}{base:Heap}{N:Addr->Prop}{e C L:Addr}{dx:Option Addr}
theorem Hu{oe:Obj}{vs:Array Value}{head:Value}{Nj:Bool}{Q:Unit->Shared->Prop}(Ha:A.frames=some (env::outer))(hl:s.heap.FunFrames base (env::outer))(hf:env.frame=some L)
  (he:s.heap.get? e=some oe) (hd:oe.data=.fields vs) (hz:1<vs.size)
  (h:∀h' T oT ts,s.heap.objs.size<=T->T≠e->h'.get? e=some { oe with data:=.fields (vs.setIfInBounds 1 (.ref T)) }->h'.get? T=some oT->oT.data=.fields ts->ts[3]?=some (rawInt L)->
   (∀b o,b≠e->b∉lE (env::outer)->s.heap.get? b=some o->h'.get? b=some o)->(∀b o,b∈lE (env::outer)->s.heap.get? b=some o->∃sl,h'.get? b=some { o with slots:=sl })->h'.FunFrames base (env::outer)->Q () { s with heap:=h' }) :
  wpAny M A (do let a <-frameOf env;let pl <-entryPlaceOf L Nj;let b <-EntryCells.newEntry head a .none (rawInt L) .none pl;setField (.ref e) 1 b) Q E s:=by
 have nf:∀b,b∈lE (env::outer)->b≠e:=λb hb z=>by
  obtain⟨_,o,ho,nd⟩:=hl.mem hb
  rw[z,he]at ho;cases ho;exact nd vs hd
 refine au (wpAny_frameOf_fun Ha hl hf λh₁ so=>au (wpAny_entryPlaceOf λpl qG=>?_))
 unfold EntryCells.newEntry newFields
 refine au (jJ ?_ (qG.sizeOk5 _ _ _ _ _))
 have Ta:h₁.get? e=some oe:=(so.2.1 e λz=>nf e z rfl).trans he
 have k2:∀b o,h₁.get? b=some o->(h₁.push { cls:=.type "traceback",dict:=none,data:=.fields ([head,.ref L,.none,rawInt L,.none]++(if pl.isEmpty then List.replicate 6 Value.none else pl)).toArray }).get? b=some o:=λb o z=>cq _ z
 have t2:=dj h₁ (o:={ cls:=.type "traceback",dict:=none,data:=.fields ([head,.ref L,.none,rawInt L,.none]++(if pl.isEmpty then List.replicate 6 Value.none else pl)).toArray }) rfl
 have t3:([head,.ref L,.none,rawInt L,.none]++(if pl.isEmpty then List.replicate 6 Value.none else pl)).toArray[3]?=some (rawInt L):=by simp
 generalize ([head,.ref L,.none,rawInt L,.none]++(if pl.isEmpty then List.replicate 6 Value.none else pl)).toArray=ts at k2 t2 t3 ⊢
 generalize h₁.push { cls:=.type "traceback",dict:=none,data:=.fields ts }=h₂ at k2 t2 ⊢
 have KY:=k2 _ _ Ta
 have K0:h₁.objs.size≠e:=pe (bI Ta)
 refine wpAny_setField KY hd hz ?_
 have jz:∀b o,b≠e->h₂.get? b=some o->(h₂.update e (Obj.mapFields (·.setIfInBounds 1 (Value.ref h₁.objs.size)))).get? b=some o:=λb o hb z=>(nv _ _ hb.symm).trans z
 have d3:=rE hd (·.setIfInBounds 1 (Value.ref h₁.objs.size))
 have S9:=lJ (Obj.mapFields (·.setIfInBounds 1 (Value.ref h₁.objs.size))) KY (zt d3)
 have Yy:∀b o,b∈lE (env::outer)->s.heap.get? b=some o->∃sl,(h₂.update e (Obj.mapFields (·.setIfInBounds 1 (Value.ref h₁.objs.size)))).get? b=some { o with slots:=sl }:=λb o hb z=>by
  obtain⟨sl,e1⟩:=so.2.2 b o z
  exact⟨sl,jz _ _ (nf b hb) (k2 _ _ e1)⟩
 refine h _ h₁.objs.size _ ts (Nat.le_of_eq so.1.symm) K0 ?_ (jz _ _ K0 t2) rfl t3 (λb o hb hf z=>jz b o hb (k2 _ _ ((so.2.1 b hf).trans z))) Yy ?_
 ·rw[S9]
  obtain⟨oc,od,oda,Fv⟩:=oe
  dsimp only at hd
  subst hd
  rfl
 ·refine hl.of_keeps λb o hb nd=>?_
  obtain⟨sl,e1⟩:=so.2.2 b o hb
  refine⟨_,jz b _ (λz=>?_) (k2 _ _ e1),rfl⟩
  rw[z,he]at hb;cases hb;exact nd vs hd
theorem N6{T:Addr}{oe oT:Obj}{vs ts:Array Value}{Q:Unit->Shared->Prop}(he:s.heap.get? e=some oe)(hd:oe.data=.fields vs)(h1:vs[1]?=some (.ref T))(hT:s.heap.get? T=some oT)(hdT:oT.data=.fields ts)(hz:3<ts.size)
  (h:Q () { s with heap:=s.heap.update T (Obj.mapFields (·.setIfInBounds 3 Value.none)) }):wpAny M A (setFlight (.ref e) none) Q E s:=by
 unfold setFlight
 refine au (jX he hd h1 ?_)
 rw[aI (show(Value.ref T != Value.none)=true from by simp)]
 exact wpAny_setField hT hdT hz h
theorem Hs{Q:Unit->Shared->Prop}(Ha:A.frames=some (env::outer))(hl:s.heap.FunFrames base (env::outer))(hf:env.frame=some L)(hN:∀b,s.heap.objs.size<=b->N b)(x:He N s.heap e C dx)
  (h:∀h' ch,(∀b∈ch,N b/\∃o vs,s.heap.get? b=some o/\o.data=.fields vs)->He N h' e C dx->Lv (lE (env::outer)) ch s.heap h'->Q () { s with heap:=h' }):wpAny M A (noteFrame (.ref e) env) (λ_ s'=>wpAny M A (setFlight (.ref e) none) Q E s') E s:=by
 obtain⟨ne,vs,sl,he,c2,tb⟩:=x
 have fin:∀(ch:List Addr) (tZ:∀b∈ch,N b/\∃o vs,s.heap.get? b=some o/\o.data=.fields vs) (s1:Shared) (h':Heap) (T:Addr) (oT:Obj) (ts:Array Value),s1.heap.objs.size=s.heap.objs.size->s1.heap.objs.size<=T->T≠e->h'.get? e=some ⟨.ref C,dx,.fields (vs.setIfInBounds 1 (.ref T)),sl⟩->1<vs.size->h'.get? T=some oT->oT.data=.fields ts->ts[3]?=some (rawInt L)->
   (∀b o,b∉lE (env::outer)->b∉ch->s.heap.get? b=some o->h'.get? b=some o)->(∀b o,b∈lE (env::outer)->s.heap.get? b=some o->∃sl,h'.get? b=some { o with slots:=sl })->s1={ s with heap:=s1.heap }->
   wpAny M A (setFlight (.ref e) none) Q E { s1 with heap:=h' }:=λch tZ s1 h' T oT ts hs hT K0 e1 hz t1 t2 t3 k1 k2 es=>by
  have v1:(vs.setIfInBounds 1 (Value.ref T))[1]?=some (.ref T):=by simp[hz]
  have z3:=(pE.mp t3).1
  refine N6 (s:={ s1 with heap:=h' }) e1 rfl v1 t1 t2 z3 ?_
  have nT:N T:=hN T (by omega)
  have ot:∀b o,b≠T->h'.get? b=some o->(h'.update T (Obj.mapFields (·.setIfInBounds 3 Value.none))).get? b=some o:=λb o hb z=>(nv _ _ hb.symm).trans z
  have t4:=lJ (Obj.mapFields (·.setIfInBounds 3 Value.none)) t1 (zt (rE t2 _))
  have g:=h (h'.update T (Obj.mapFields (·.setIfInBounds 3 Value.none))) ch tZ ⟨ne,_,sl,ot _ _ K0.symm e1,(by simpa [Array.getElem?_setIfInBounds]using c2),.inr ⟨T,_,_,nT,K0,v1,t4,rE t2 _,by simp[z3]⟩⟩ ⟨λb o hb nb z=>ot b o (λy=>?_) (k1 b o hb nb z),λb o hb z=>?_⟩
  ·rw[es];exact g
  ·have:=bI z
   rw[y]at this
   exact absurd this (q0.mpr (by rw[<-hs];exact hT))
  ·obtain⟨TL,e2⟩:=k2 b o hb z
   refine⟨TL,ot b _ (λy=>?_) e2⟩
   obtain⟨_,o',wK,nd⟩:=hl.mem hb
   have:=bI wK
   rw[y]at this
   exact absurd this (q0.mpr (by rw[<-hs];exact hT))
 unfold noteFrame
 simp only[hf]
 rcases tb with h1 | ⟨T,oT,ts,nT,K0,h1,hT,dT,h3⟩
 ·have hz:=(pE.mp h1).1
  refine au (jX he rfl h1 ?_)
  rw[aE (by decide)]
  exact Hu Ha hl hf he rfl hz λh' T oT ts a1 a2 a3 a4 a5 a6 a7 a8 _=>fin [e] (λb hb=>by rw[di.mp hb];exact⟨ne,_,_,he,rfl⟩) s h' T oT ts rfl a1 a2 a3 hz a4 a5 a6 (λb o hb nb z=>a7 b o (λy=>nb (by rw[y];simp)) hb z) a8 rfl
 ·have hz:=(pE.mp h1).1
  refine au (jX he rfl h1 ?_)
  rw[aI (show(Value.ref T != Value.none)=true by simp)]
  refine au (jX hT dT h3 ?_)
  rw[aE (show ¬((Value.none==rawInt L)=true) by simp[rawInt])]
  refine au (wpAny_setField hT dT (pE.mp h3).1 ?_)
  have ot:∀b o,b≠T->s.heap.get? b=some o->(s.heap.update T (Obj.mapFields (·.setIfInBounds 3 Value.none))).get? b=some o:=λb o hb z=>(nv _ _ hb.symm).trans z
  have nfT:∀b o,s.heap.get? b=some o->(∀vs,o.data≠.fields vs)->b≠T:=λb o z nd y=>by rw[y,hT]at z;cases z;exact nd ts dT
  have Xu:(s.heap.update T (Obj.mapFields (·.setIfInBounds 3 Value.none))).FunFrames base (env::outer):=hl.of_keeps λb o z nd=>⟨o,ot b o (nfT b o z nd) z,rfl⟩
  have sz:(s.heap.update T (Obj.mapFields (·.setIfInBounds 3 Value.none))).objs.size=s.heap.objs.size:=by simp
  have KY:=ot _ _ K0.symm he
  generalize s.heap.update T (Obj.mapFields (·.setIfInBounds 3 Value.none))=hq at ot Xu sz KY ⊢
  refine Hu (s:={ s with heap:=hq }) Ha Xu hf KY rfl hz λh' T' oT' ts' a1 a2 a3 a4 a5 a6 a7 a8 _=>fin [e,T] (λb hb=>?_) { s with heap:=hq } h' T' oT' ts' sz a1 a2 a3 hz a4 a5 a6 (λb o hb nb z=>a7 b o (λy=>nb (by rw[y];simp)) hb (ot b o (λy=>nb (by rw[y];simp)) z)) (λb o hb z=>a8 b o hb (ot b o ?_ z)) rfl
  ·have:b=e\/b=T:=by simpa using hb
   rcases this with rfl | rfl
   ·exact⟨ne,_,_,he,rfl⟩
   ·exact⟨nT,_,_,hT,dT⟩
  ·obtain⟨_,o',wK,nd⟩:=hl.mem hb
   exact nfT b o' wK nd
theorem Hr{Q:Unit->Shared->Prop}(Ha:A.frames=some (env::outer))(hl:s.heap.FunFrames base (env::outer))(hf:env.frame=some L)(hN:∀b,s.heap.objs.size<=b->N b)(x:He N s.heap e C dx)
  (h:∀h' ch,(∀b∈ch,N b/\∃o vs,s.heap.get? b=some o/\o.data=.fields vs)->He N h' e C dx->Lv (lE (env::outer)) ch s.heap h'->Q () { s with heap:=h' }):wpAny M A (leaving env (.ref e)) Q E s:=au (Hs Ha hl hf hN x h)
end
structure XC(K:Frag)(C:Addr):Prop where
 is:jO K C=true
 hd:PySem.W.hasDictIn K C=true
 sa:PySem.W.findIn K (.ref C) "__setattr__" = some (some (.builtin "object.__setattr__"))
 ga:PySem.W.findIn K (.ref C) "__getattribute__" = some (some (.builtin "BaseException.__getattribute__"))
 gn:PySem.W.findIn K (.ref C) "__getattr__" = some none
 ca:PySem.W.findIn K (.ref C) "__class__" = some (some (.builtin "object.__class__"))
 cn:PySem.W.specialIn K (.builtin "object.__class__") "__get__" = some (some (.builtin "getset_descriptor.__get__"))
 ct:PySem.W.takesIn K (.builtin "object.__class__")=some true
 cm:PySem.W.mroIn K C (.type "object")=some true
section
variable {prog:Program}{w:World}{A:Around}{E:Value->Shared->Prop}{s:Shared}{K:Frag}{C e:Addr}{oe:Obj}{od:Option Obj}
theorem O8{Q:Option Value->Shared->Prop}(c:XC K C)(X:K.In s.heap)(I:PySem.W.InstAt s.heap e oe C od)(h:Q (some (.ref C)) { s with toks:=s.toks+1 }):wpAny (model prog w) A (getAttr? (.ref e) "__class__") Q E s:=by
 have hf:PySem.W.findObj K C od "__class__" = some (.bind (.builtin "getset_descriptor.__get__") (.builtin "object.__class__")):=by
  obtain⟨cd,hc,_⟩:=PySem.W.any_some c.hd
  unfold PySem.W.findObj
  rw[hc,vC,c.ca,vC]
  dsimp only
  rw[c.cn,vC]
  dsimp only
  rw[c.ct,vC]
 obtain⟨nm,qn,N,bs,bm,sn,sub,ab,col,dd,k0,k1,k2,k3,k5,mN,hC,hN,T⟩:=jY X c.is
 obtain⟨hp,g,d,t,os⟩:=s
 dsimp only at X I hC
 have ty:=I.type (M:=model prog w)
 have L1:=ux (M:=model prog w) X c.ga
 have L2:=ux (M:=model prog w) X c.gn
 have L3:=PySem.W.looks_find (M:=model prog w) X I hf
 have FA:=PySem.F.attr_ValueError
 unfold getAttr? getAttrBy? getAttrBy
 refine au (wpAny_mkText (au (oi (dG (au (ty.at (au (L1.at ?_))))))))
 dsimp only
 rw[show(onTheHeap (Value.ref C)&&Value.builtin "BaseException.__getattribute__" == Value.builtin "object.__getattribute__")=false from by rw[show(Value.builtin "BaseException.__getattribute__" == Value.builtin "object.__getattribute__")=false from by decide +kernel];rfl,aE (by decide)]
 refine au (L2.at (au (oi (dG ?_))))
 unfold callGetattribute
 rw[show(false&&onTheHeap (Value.builtin "BaseException.__getattribute__"))=false from rfl,aE (by decide)]
 unfold boundAndCalled
 rw[FA.ga.bind]
 refine au (aM (jS (qV FA.ga.plain PySem.F.entry_bexc_ga ?_)))
 have sub:Looks (model prog w) hp (isInstance (.ref e) (.type "BaseException")) true:=ty.andThen (λA Q E s k z=>by
  obtain⟨h,g,d,t,os⟩:=s
  refine uv (k _ _ hC) ?_
  rw[rF,T.hasType (X:="BaseException") (b:=true) (by decide +kernel),rh]
  exact z)
 refine @zx (model prog w) _ _ ⟨hp,g,d,t+1,os⟩ "BaseException.__getattribute__" "BaseException" "__getattribute__" (.ref e) [.str "__class__" t] [] _ (by decide +kernel) (by decide +kernel) sub (PySem.F.args_bexc_ga (.ref e) (.str "__class__" t)) ?_
 refine au (aM (au (aM (au (ty.at (au (L3.at ?_)))))))
 refine au (dG (jS (PySem.W.class_get (s:=⟨hp,g,d,t+1,os⟩) (ox:=oe) (od:=od) X I c.cm ?_)))
 refine aM ?_
 show wpAny _ _ (handedOut (.ref C)) _ _ _
 rw[PySem.W.handedOut_of rfl]
 exact aM (aM h)
theorem sI(c:XC K C):PySem.W.KitX K (.ref e) (.ref C) (λh=>∃oe od,PySem.W.InstAt h e oe C od) where
 ty:=λ_ _ _ ⟨_,_,I⟩=>I.type
 it:=λM h X _=>by
  obtain⟨nm,qn,N,bs,bm,sn,sub,ab,col,dd,k0,k1,k2,k3,k5,mN,hC,hN,T⟩:=jY X c.is
  intro A' Q' E' s' k q
  unfold isType loadHead
  exact au (wpAny_loadPart (k _ _ hC) (aM q))
 ne:=λh tp dd its n sl X htp=>by
  obtain⟨nm,qn,N,bs,bm,sn,sub,ab,col,dd,k0,k1,k2,k3,k5,mN,hC,hN,T⟩:=jY X c.is
  refine Bool.eq_false_iff.mpr λq=>?_
  have e:C=tp:=Value.ref.inj (beq_iff_eq.mp q)
  subst e
  rw[hC]at htp
  exact absurd (gT (λo:Obj=>o.cls) (dm htp)) (show ¬Value.type "type" = Value.type "tuple" by decide)
 ca:=λX ⟨_,_,I⟩ k=>O8 c X I k
end
def CG(P:Program)(w:World):Ep:=λouter H s E x s'=>∃e C dx H',x=.ref e/\s'.os=s.os/\AllBare s'.gens/\Un (lE outer) [] H H' s.heap s'.heap/\jE P w H' s'.heap/\He (λb=>s.heap.objs.size<=b/\H' b=none) s'.heap e C dx/\E (.ref C) dx H'
def XN(X:Cx)(pins:List (Addr×Obj))(H:Hp)(b:Addr):Prop:=X.s₀.heap.objs.size<=b/\H b=none/\b≠X.env.locals/\(∀x c,X.env.cells.lookup x=some c->c≠b)/\∀p∈X.pn++pins,p.1≠b
theorem XN.new{X:Cx}{pins:List (Addr×Obj)}{σ:St}{H H':Hp}{s:Shared}(I:Inv X pins σ H s){b:Addr}(hb:s.heap.objs.size<=b)(hn:H' b=none):XN X pins H' b:=by
 have nb:∀{c:Addr} {o:Obj},s.heap.get? c=some o->c≠b:=λz y=>absurd (bI z) (by rw[y];exact q0.mpr hb)
 refine⟨fF I.sz hb,hn,λy=>?_,λx c e=>?_,λp hp=>nb (I.pin p hp).1⟩
 ·obtain⟨m,⟨o,_,_,ho,_⟩,_⟩:=I.loc
  exact nb ho y.symm
 ·obtain⟨v,o,ho,_⟩:=I.cell x c e
  exact nb ho
def jM(X:Cx)(EH:St->XK):Prop:=∀(pins:List (Addr×Obj)) (σ:St) (H:Hp) (s:Shared) (e C:Addr) (dx:Option Addr),Inv X pins σ H s->He (XN X pins H) s.heap e C dx->EH σ (.ref C) dx H->X.xe (.ref e) s
theorem He.mono{N N':Addr->Prop}{h:Heap}{e C:Addr}{dx:Option Addr}(k:∀b,N b->N' b)(x:He N h e C dx):He N' h e C dx:=by
 obtain⟨n,vs,sl,he,c2,tb⟩:=x
 refine⟨k _ n,vs,sl,he,c2,tb.imp id ?_⟩
 rintro⟨T,oT,ts,nT,r⟩
 exact⟨T,oT,ts,k _ nT,r⟩
theorem jM.pass{X:Cx}{EH:St->XK}(L:jM X EH){pins:List (Addr×Obj)}{σ:St}{H:Hp}{s s':Shared}{x:Value}(I:Inv X pins σ H s)(h:CG X.prog X.w X.stack H s (EH σ) x s'):X.xe x s':=by
 obtain⟨e,C,dx,H',rfl,os,bare,un,bT,xa,q⟩:=h
 have I':Inv X pins σ H' s':=I.call' os un bT bare (λb z=>absurd z (by simp))
 exact L pins σ H' s' e C dx I' (xa.mono λb hb=>.new I hb.1 hb.2) q
section
variable {P:Program}{w:World}{K:Frag}{mg:Str->Option Value}{base:Heap}
theorem JF{N:List Str}{qual:Str}{scope:Scope}{f:Addr}{cd:Value}{A:Around}{outer:List Env}{s:Shared}{H:Hp}{E:XK}:jM (jn (CG P w) P w K mg base N qual scope f cd A outer s H E) (λ_=>E):=by
 intro pins σ H1 s1 e C dx I xa hE
 have mP:s.heap.objs.size<=s1.heap.objs.size:=I.sz
 refine Hr (L:=s.heap.objs.size) (N:=λb=>s.heap.objs.size<=b/\H1 b=none) (base:=base) I.ok.frames I.stack rfl (λb hb=>⟨fF mP hb,I.bT.fresh hb⟩) (xa.mono λb hb=>⟨hb.1,hb.2.1⟩) λh' ch tZ Sx lv=>?_
 have nn:∀b o,s.heap.get? b=some o->b∉ch:=λb o z y=>absurd (bI z) (q0.mpr (tZ b y).1.1)
 have nf:∀b o,s.heap.get? b=some o->b∉lE outer->b∉lE (envOfC qual scope s.heap.objs.size f cd::outer):=λb o z hb y=>by
  rcases dh.mp (show b∈s.heap.objs.size::lE outer from y) with y | y
  ·have:=bI z
   rw[y]at this
   exact jI _ this
  ·exact hb y
 have sub:∀b,b∈lE outer->b∈lE (envOfC qual scope s.heap.objs.size f cd::outer):=λb hb=>dY (a:=b) s.heap.objs.size hb
 have un:Un (lE outer) [] H H1 s.heap s1.heap:=I.base
 refine⟨e,C,dx,H1,rfl,I.os,I.bare,⟨λb o z n hb hx=>lv.keep b o (nf b o z hb) (nn b o z) (un.keep b o z n hb hx),λb o z n hb hx=>?_,un.free,λb o z hx=>?_,un.tups,un.frzs,un.tbls⟩,λa u z=>?_,Sx,hE⟩
 ·obtain⟨sl,z1⟩:=un.slot b o z n hb hx
  obtain⟨SJ,z2⟩:=lv.slot b _ (sub b hb) z1
  exact⟨SJ,z2⟩
 ·obtain⟨o',z1⟩:=un.there b o z hx
  by_cases hb:b∈lE (envOfC qual scope s.heap.objs.size f cd::outer)
  ·obtain⟨SJ,z2⟩:=lv.slot b _ hb z1
   exact⟨_,z2⟩
  ·exact⟨o',lv.keep b o' hb (nn b o z) z1⟩
 ·refine(I.bT a u z).stay (λb v hb y=>?_) (λ_ q=>q) λ_ _ q=>q
  have hn:¬H1 b=none:=λy=>by
   rcases hb with rfl | hb
   ·rw[z]at y;cases y
   ·rw[hb]at y;cases y
  exact lv.keep b v (λy=>hn (I.qC b y)) (λy=>hn (tZ b y).1.2) y
theorem jR.okE{x qual:Str}{st:Stmt}{f:Addr}{fd:FuncData}{N ps:List Str}{k:Nat}{sp:Sp}(F:jR K x qual st f fd)(S:bp N ps (aq st))(len:∀vs H Q E,sp vs H Q E->vs.length=ps.length)
  (ko:∀(dB:Value) (A:Around) (outer:List Env) (s:Shared) (H:Hp) (vs:List V) (Q:VK) (E:XK),cS k (A.deeper (envOfC qual (aq st) s.heap.objs.size f dB))->sp vs H Q E->
   HC (jn (CG P w) P w K mg base N qual (aq st) f dB A outer s H E) N (aq st)->(∀x,(jn (CG P w) P w K mg base N qual (aq st) f dB A outer s H E).fn x=true)->
   jM (jn (CG P w) P w K mg base N qual (aq st) f dB A outer s H E) (λ_=>E)->PassesOwn (model P w) (jn (CG P w) P w K mg base N qual (aq st) f dB A outer s H E).A (jn (CG P w) P w K mg base N qual (aq st) f dB A outer s H E).env (jn (CG P w) P w K mg base N qual (aq st) f dB A outer s H E).xe->
   ∃t,En (jn (CG P w) P w K mg base N qual (aq st) f dB A outer s H E) (aX st) t/\t { nx:=λ_ H'=>Q .non H',rt:=Q } (start N vs) H):cz P w K mg base (CG P w) (k+1) f fd ps sp:=by
 obtain⟨oc,od,kV,doc,pm,an,dB,ct,Fv,rfl,lk,Bv⟩:=F.ex
 refine Oy lk Bv S len λA outer s H vs Q E hr KS=>?_
 obtain⟨t,h,q⟩:=ko dB A outer s H vs Q E hr KS ⟨rfl,rfl⟩ (λ_=>rfl) JF PassesOwn.leaving
 exact⟨t,h.to,q⟩
end
section
variable {X:Cx}{k:Nat}{f C:Addr}{fd:FuncData}{ps:List Str}{sp:Sp}{EH:St->XK}{x:Str}{p pos:Pos}{e:Expr}{es:List Expr}{t:TA}
def zY(sp:Sp)(EH:St->XK)(t:TA):TE:=λσ H Q=>t σ H λvs H1=>sp vs H1 Q (EH σ)
theorem LK{pins:List (Addr×Obj)}{σ:St}{H:Hp}{s:Shared}{Q:VK}{us:List Value}{vs:List V}(F:cz X.prog X.w X.K X.mg X.base (CG X.prog X.w) k f fd ps sp)(hr:cS k X.A)(hb:Binds X.K fd ps [])(hx:jM X EH)
  (I:Inv X pins σ H s) (r:Vals vs us) (h:sp vs H Q (EH σ)):wpAny (model X.prog X.w) X.A (call (.ref f) us) (EP X pins σ Q) X.xe s:=by
 have hl:us.length=ps.length:=by rw[<-r.length];exact F.len _ _ _ _ h
 have b:=hb s us I.jP (by rw[ph];exact hl)
 rw[ph]at b
 refine jS (lH (F.run X.A X.stack s H ⟨us,[]⟩ us vs Q (EH σ) hr I.Nv b r h) λr s' hq=>?_)
 cases r with
 | error e=>exact hx.pass I hq
 | ok fl=>
  cases fl with
  | ret u=>exact I.after hq
  | _=>exact False.elim hq
theorem Jp(F:cz X.prog X.w X.K X.mg X.base (CG X.prog X.w) k f fd ps sp)(hr:cS k X.A)(hg:Gl X x)(hm:X.mg x=some (.ref f))(hk:PySem.W.keepIn X.K (.ref f)=true)(hb:Binds X.K fd ps [])(hx:jM X EH)
  (ha:PA X (e::es) t) (mQ:(x==("__debug__" : Str))=false:=by decide) (he:starEach (e::es) X.env=(false,eval e X.env)::starEach es X.env:=by rfl) (qG:(backTo pos (starEach es X.env)).any (·.1)=false:=by rfl) :
  PE X (.Call (.Name x p) (e::es) [] pos) (zY sp EH t):=by
 intro pins s σ H Q I h
 refine pA (gH I hg hm ?_ mQ)
 exact zu (h₀:=X.base) I.ok.mod.U5 hk (cA (ha pos pins s σ H _ I h) λus s1 ⟨vs,H1,I1,r,q⟩=>⟨I1.jP,LK F hr hb hx I1 r q⟩) he qG
theorem Ew(F:cz X.prog X.w X.K X.mg X.base (CG X.prog X.w) k f fd ps sp)(hr:cS k X.A)(hg:Gl X x)(hm:X.mg x=some (.ref f))(hk:PySem.W.keepIn X.K (.ref f)=true)(hb:Binds X.K fd ps [])(hx:jM X EH)
  (ha:ZA X (e::es) t) (mQ:(x==("__debug__" : Str))=false:=by decide) (he:starEach (e::es) X.env=(false,eval e X.env)::starEach es X.env:=by rfl) (qG:(backTo pos (starEach es X.env)).any (·.1)=false:=by rfl) :
  ZE X (.Call (.Name x p) (e::es) [] pos) (zY sp EH t):=⟨Jp F hr hg hm hk hb hx ha.to mQ he qG⟩
end
section
variable {X:Cx}{k:Nat}{fI C:Addr}{fd:FuncData}{ps:List Str}{sp:Sp}{EH:St->XK}{x:Str}{np cy pos:Pos}{a:Expr}{t:TA}
def Lh(C:Addr)(t:TA)(EH:St->XK):TS:=λ_ σ H=>t σ H λvs H1=>vs.length<=sizeLine/\EH σ (.ref C) none H1
def il(e C:Addr)(dx:Option Addr)(t:Addr):Heap->Prop:=λh=>h.get? e=some (O6 C dx t)
theorem vN{P:Program}{w:World}{H:Hp}{h:Heap}{e C t:Addr}{dx:Option Addr}(z:h.get? e=some (O6 C dx t)):cO P w H h e (.ext (il e C dx t)):=⟨z,⟨_,z⟩,λh1 h2 a b=>b _ a⟩
def vU(C:Addr)(fld:Str):Sp:=λvs H Q _=>∃e v t,vs=[.ref e,v]/\H e=some (.ext (il e C none t))/\∀dx t',H dx=none->dx≠e->Q .non (upd (upd H e (.ext (il e C (some dx) t'))) dx (.xd [(fld,v)]))
def Gq(H:Hp)(e:Addr):Hp:=λb=>if b=e then none else H b
theorem oR{H:Hp}{e:Addr}:Gq H e e=none:=aI rfl
theorem iK{H:Hp}{e b:Addr}(h:b≠e):Gq H e b=H b:=aE h
theorem lg{H:Hp}{e b:Addr}(h:H b=none):Gq H e b=none:=by
 by_cases hb:b=e
 ·rw[hb];exact oR
 ·rw[iK hb];exact h
theorem Inv.forget{pins:List (Addr×Obj)}{σ:St}{H:Hp}{s:Shared}{e:Addr}{φ:Heap->Prop}(I:Inv X pins σ H s)(he:H e=some (.ext φ)):Inv X pins σ (Gq H e) s:=by
 have ne:∀{b:Addr} {u:HO},H b=some u->(HO.ext φ≠u)->b≠e:=λz n=>(sy he z n).symm
 have ok:jE X.prog X.w (Gq H e) s.heap:=λb u z=>by
  by_cases hb:b=e
  ·rw[hb,oR]at z;cases z
  ·rw[iK hb]at z
   refine(I.bT b u z).stay (λ_ _ _ q=>q) (λc q=>?_) λc xs q=>?_
   ·rw[iK (ne q (by intro z;cases z))];exact q
   ·rw[iK (ne q (by intro z;cases z))];exact q
 refine⟨I.ok,I.os,I.bare,⟨I.base.keep,I.base.slot,λb ob z n hx=>lg (I.base.free b ob z n hx),I.base.there,λb xs z=>?_,λb ob u z=>?_,λb ps z=>?_⟩,I.loc,I.cell,lg I.free,λx c z=>lg (I.fG x c z),λp hp=>?_,ok,I.len⟩
 ·have e1:=I.base.tups b xs z
  rw[iK (ne e1 (by intro z;cases z))];exact e1
 ·have e1:=I.base.frzs b ob u z
  rw[iK (ne e1 (by intro z;cases z))];exact e1
 ·obtain⟨m,e1⟩:=I.base.tbls b ps z
  exact⟨m,by rw[iK (ne e1 (by intro z;cases z))];exact e1⟩
 ·obtain⟨p1,p2,p3⟩:=I.pin p hp
  exact⟨p1,lg p2,p3⟩
def vQ(C:Addr)(fld:Str)(t:TE)(EH:St->XK):TS:=λ_ σ H=>t σ H λv H1=>∀dx,H1 dx=none->EH σ (.ref C) (some dx) (upd H1 dx (.xd [(fld,v)]))
theorem Fs{fld:Str}{te:TE}(c:XC X.K C)(hi:PySem.W.findIn X.K (.ref C) "__init__" = some (some (.ref fI)))(hf:PySem.W.typeIn X.K (.ref fI)=some (.type "function"))(hk:PySem.W.keepIn X.K (.ref C)=true)
  (F:cz X.prog X.w X.K X.mg X.base iq k fI fd ps (vU C fld)) (hb:Binds X.K fd ps []) (hr:cS (k+1) X.A) (hg:Gl X x) (hm:X.mg x=some (.ref C)) (hc:X.calm=true) (L:jM X EH) (ha:PE X a te)
  (mQ:(x==("__debug__" : Str))=false:=by decide) (he:starEach [a] X.env=(false,eval a X.env)::starEach [] X.env:=by rfl) (qG:(backTo cy (starEach [] X.env)).any (·.1)=false:=by rfl) :
  PS X (.Raise (some (.Call (.Name x np) [a] [] cy)) none pos) (vQ C fld te EH):=by
 intro pins s σ H D I h
 rw[arm_exec_Raise]
 refine au (mz (O4 c.is (I.ok.hd hc) ?_))
 refine au (pA (gH I hg hm ?_ mQ))
 refine zu (h₀:=X.base) I.ok.mod.U5 hk (cA (qE ha Aj he cy pins s σ H (λvs H1=>match vs with | [v]=>(∀dx,H1 dx=none->EH σ (.ref C) (some dx) (upd H1 dx (.xd [(fld,v)]))) | _=>False) I h) λus s1 ⟨vs,H1,I1,r,q⟩=>⟨I1.jP,?_⟩) he qG
 match vs,q,r with
 | [v],q,r=>
  have ul:us.length<=sizeLine:=by rw[<-r.length];show 1<=sizeLine;decide
  refine Ko I1.jP c.is hi hf (λh' mk=>?_) ul
  obtain⟨t,e1,_,_⟩:=mk.there
  have fe:H1 (s1.heap.objs.size+1)=none:=I1.bT.fresh (gU _)
  have I2:=I1.laid (a:=s1.heap.objs.size+1) (o:=.ext (il (s1.heap.objs.size+1) C none t)) (t':=s1.toks) mk.keeps (gU _) (vN e1)
  have fe2:∀H':Hp,H' (s1.heap.objs.size+1)=none->XN X pins H' (s1.heap.objs.size+1):=λH' z=>.new I1 (gU _) z
  generalize s1.heap.objs.size+1=e at e1 fe I2 fe2
  have hq:vU C fld [.ref e,v] (upd H1 e (.ext (il e C none t))) (λu H2=>u=.non/\∃dx t',H1 dx=none/\dx≠e/\H2=upd (upd (upd H1 e (.ext (il e C none t))) e (.ext (il e C (some dx) t'))) dx (.xd [(fld,v)])) E0:=⟨e,v,t,rfl,ai,λdx t' hd qH=>⟨rfl,dx,t',by rwa [aB qH]at hd,qH,rfl⟩⟩
  have r2:Vals [V.ref e,v] (Value.ref e::us):=.cons rfl r
  have hl:(Value.ref e::us).length=ps.length:=by rw[<-r2.length];exact F.len _ _ _ _ hq
  have b:=hb _ (Value.ref e::us) I2.jP (by rw[ph];exact hl)
  rw[ph]at b
  refine jS (lH (F.run _ X.stack _ _ ⟨Value.ref e::us,[]⟩ (Value.ref e::us) _ _ E0 (hr.make C us []) (I2.Nv.make C us []) b r2 hq) λr s' hq'=>?_)
  cases r with
  | error e=>exact False.elim hq'
  | ok fl=>
   cases fl with
   | ret u=>
    obtain⟨v',H3,I3,rv,rfl,dx,t',Nh,qH,rfl⟩:=I2.after hq'
    have e3:upd (upd (upd H1 e (.ext (il e C none t))) e (.ext (il e C (some dx) t'))) dx (.xd [(fld,v)]) e=some (.ext (il e C (some dx) t')):=by rw[aB qH.symm,ai]
    have o3:il e C (some dx) t' s'.heap:=(I3.bT e _ e3).1
    have I4:=Inv.forget I3 e3
    have eh:Gq (upd (upd (upd H1 e (.ext (il e C none t))) e (.ext (il e C (some dx) t'))) dx (.xd [(fld,v)])) e=upd H1 dx (.xd [(fld,v)]):=by
     funext b
     by_cases hb:b=e
     ·rw[hb,oR,aB qH.symm,fe]
     ·rw[iK hb]
      by_cases hd:b=dx
      ·rw[hd,ai,ai]
      ·rw[aB hd,aB hd,aB hb,aB hb]
    rw[eh]at I4
    refine⟨rv,au (mz (aM ⟨e,some dx,t',rfl,I4.jP,o3,L pins σ _ _ e C (some dx) I4 ⟨fe2 _ (by rw[aB qH.symm];exact fe),_,_,o3,rfl,.inl rfl⟩ (q dx Nh)⟩))⟩
   | _=>exact False.elim hq'
end
section
variable {X:Cx}{B:Addr}{x:Str}{np cy apos pos pos':Pos}{a b o value:Expr}{t:TA}{ta tv:TE}{fld:Str}
def HR(K:Frag)(t:TA):TE:=λσ H Q=>t σ H λvs H1=>∃e C t0 v,vs=[.ref e,v]/\H1 e=some (.ext (il e C none t0))/\XC K C/\∀t',Q .non (upd H1 e (.ext (il e C none t')))
theorem NR{pins:List (Addr×Obj)}{σ:St}{H1:Hp}{s1:Shared}{us:List Value}{vs:List V}{Q:VK}{A:Around}{E:Value->Shared->Prop}(I1:Inv X pins σ H1 s1)(r:Vals vs us)
  (h:∃e C t0 v,vs=[.ref e,v]/\H1 e=some (.ext (il e C none t0))/\XC X.K C/\∀t',Q .non (upd H1 e (.ext (il e C none t')))):wpAny (model X.prog X.w) A (call (.builtin "ValueError.__init__") us) (EP X pins σ Q) E s1:=by
 obtain⟨e,C,t0,v,rfl,he,c,q⟩:=h
 obtain⟨u1,u2,rfl,r1,r2⟩:=r.two
 obtain rfl:u1=Value.ref e:=r1
 have o1:s1.heap.get? e=some (O6 C none t0):=(I1.bT e _ he).1
 have e1:(s1.heap.push { cls:=.type "tuple",data:=.seq [u2].toArray }).get? e=some (O6 C none t0):=cq _ o1
 have e2:((s1.heap.push { cls:=.type "tuple",data:=.seq [u2].toArray }).update e (Obj.mapFields (·.setIfInBounds 0 (Value.ref s1.heap.objs.size)))).get? e=some (O6 C none s1.heap.objs.size):=(lJ _ e1 rfl).trans rfl
 have k2:∀b ob,b≠e->s1.heap.get? b=some ob->((s1.heap.push { cls:=.type "tuple",data:=.seq [u2].toArray }).update e (Obj.mapFields (·.setIfInBounds 0 (Value.ref s1.heap.objs.size)))).get? b=some ob:=λb ob hb z=>(nv _ _ hb.symm).trans (cq _ z)
 refine Gz I1.jP c.is o1 ?_ (show 1<=sizeLine by decide)
 generalize ((s1.heap.push { cls:=.type "tuple",data:=.seq [u2].toArray }).update e (Obj.mapFields (·.setIfInBounds 0 (Value.ref s1.heap.objs.size))))=h2 at e2 k2 ⊢
 exact⟨.non,_,I1.write (x:=e) (e:=e) (o:=.ext (il e C none s1.heap.objs.size)) (t':=s1.toks) (by rw[he];trivial) (.inl rfl) (λb ob hb z=>k2 b ob hb z) ⟨_,e2⟩ (vN e2),rfl,q _⟩
theorem Mx{pl:Sem Bool}(hr:PySem.W.readsIn X.K B (.type "type")=true)(hf:PySem.W.findCls X.K (.ref B) (.type "type") "__init__" = some (.val (.builtin "ValueError.__init__")))
  (hs:PySem.W.specialIn X.K (.ref B) "__getattribute__" = some (some (.builtin "type.__getattribute__"))) (hg:Gl X x) (hm:X.mg x=some (.ref B)) (ha:PA X [a,b] t)
  (mQ:(x==("__debug__" : Str))=false:=by decide) (G9:starEach [a,b] X.env=(false,eval a X.env)::starEach [b] X.env:=by rfl) (qG:(backTo cy (starEach [b] X.env)).any (·.1)=false:=by rfl)
  (ht:eval (.Call (.Attribute (.Name x np) "__init__" apos) [a,b] [] cy) X.env=(do
   let ov <-eval (.Name x np) X.env
   standAt apos.atName
   let (f,first) <-holding [ov] (getMethod ov "__init__" pl)
   callWith cy f first (backTo cy (starEach [a,b] X.env)) (backToKw cy (keywordEach [] X.env))):=by rfl) :
  PE X (.Call (.Attribute (.Name x np) "__init__" apos) [a,b] [] cy) (HR X.K t):=by
 intro pins s σ H Q I h
 refine PySem.W.methodCall_KW (pl:=pl) (gH I hg hm ?_ mQ) ht
 refine PySem.W.method_cls I.jP hs (PySem.W.cls_value I.jP hr hf rfl ?_)
 have I0:Inv X pins σ H { s with toks:=s.toks+1 }:=I.tok _
 show wpAny _ _ (callWith cy (.builtin "ValueError.__init__") [] (backTo cy (starEach [a,b] X.env)) []) _ _ _
 exact Hl (cA (ha cy pins _ σ H _ I0 h) λus s1 ⟨vs,H1,I1,r,q⟩=>NR I1 r q) G9 qG
def Iq(K:Frag)(ta tv:TE)(fld:Str):TS:=λD σ H=>tv σ H λy H1=>ta σ H1 λx H2=>∃e C t,x=.ref e/\H2 e=some (.ext (il e C none t))/\XC K C/\PySem.W.takerIn K C fld=some none/\
 ∀dx,H2 dx=none->dx≠e->D.nx σ (upd (upd H2 e (.ext (il e C (some dx) t))) dx (.xd [(fld,y)]))
theorem Mi(ha:PE X o ta)(hv:PE X value tv)(hs:swapsWith value (some (.Attribute o fld pos')) pos.line X.env=pure false):PS X (.Assign [.Attribute o fld pos'] value pos) (Iq X.K ta tv fld):=by
 intro pins s σ H D I h
 refine plainObj_wpAny_Assign_Attribute (cA (hv pins s σ H _ I h) λu s1 ⟨y,H1,I1,ry,q⟩=>cA (ha pins s1 σ H1 _ I1 q) λov s2 ⟨x,H2,I2,rx,e,C,t,ex,he,c,tk,q2⟩=>?_) hs
 subst ex
 obtain rfl:ov=Value.ref e:=rx
 have o2:s2.heap.get? e=some (O6 C none t):=(I2.bT e _ he).1
 refine Yl I2.jP c.is o2 rfl rfl rfl c.sa tk λh' Yp e3 n3 k3=>?_
 have hd:H2 s2.heap.objs.size=none:=I2.bT.fresh (bB _)
 have Xy:s2.heap.objs.size≠e:=pe (bI o2)
 have hdn:s2.heap.get? s2.heap.objs.size=none:=uw (bB _)
 generalize s2.heap.objs.size=dx at e3 n3 hd Xy hdn
 have U:∀{b:Addr},b≠e->b≠dx->upd (upd H2 e (.ext (il e C (some dx) t))) dx (.xd [(fld,y)]) b=H2 b:=λh1 h2=>by rw[aB h2,aB h1]
 have ne:∀{b:Addr} {z:HO},H2 b=some z->(HO.ext (il e C none t)≠z)->b≠e:=λz n=>(sy he z n).symm
 have nd:∀{b:Addr} {z:HO},H2 b=some z->b≠dx:=λz y=>by rw[y,hd]at z;cases z
 have nb:∀{b:Addr} {z:Obj},s2.heap.get? b=some z->b≠dx:=λz y=>by rw[y,hdn]at z;cases z
 have nn:∀{b:Addr},H2 b=none->b≠e:=λz y=>by rw[y,he]at z;cases z
 refine⟨σ,_,I2.un (H':=upd (upd H2 e (.ext (il e C (some dx) t))) dx (.xd [(fld,y)])) (t':=Yp) ⟨λb ob z n _ _=>k3 b ob (nn n) z,λb ob z n _ _=>⟨ob.slots,k3 b ob (nn n) z⟩,λb ob z n _=>by rw[U (nn n) (nb z)];exact n,λb ob z _=>?_,λb xs z=>?_,λb ob z' z=>?_,λb ps z=>⟨#[],?_⟩⟩ λb z hz=>?_,q2 dx hd Xy⟩
 ·by_cases hb:b=e
  ·rw[hb];exact⟨_,e3⟩
  ·exact⟨ob,k3 b ob hb z⟩
 ·rw[U (ne z (by intro z;cases z)) (nd z)];exact z
 ·rw[U (ne z (by intro z;cases z)) (nd z)];exact z
 ·rw[U (ne z (by intro z;cases z)) (nd z),z];simp
 ·by_cases hb:b=dx
  ·rw[hb,ai]at hz
   cases hz
   rw[hb]
   refine⟨_,n3,λf=>?_⟩
   by_cases hf:f=fld
   ·rw[hf,aI rfl]
    simp only[List.lookup,pj]
    exact ry
   ·rw[aE hf]
    have:(f==fld)=false:=zB.mpr hf
    simp only[List.lookup,this]
    trivial
  ·rw[aB hb]at hz
   by_cases Xz:b=e
   ·rw[Xz,ai]at hz
    cases hz
    rw[Xz]
    exact vN e3
   ·rw[aB Xz]at hz
    refine(I2.bT b z hz).stay (λc v hc y=>k3 c v ?_ y) (λc y=>?_) λc xs y=>?_
    ·rcases hc with rfl | hc
     ·exact Xz
     ·exact ne hc (by intro z;cases z)
    ·rw[U (ne y (by intro z;cases z)) (nd y)];exact y
    ·rw[U (ne y (by intro z;cases z)) (nd y)];exact y
end
def y8(e C:Addr)(dx:Option Addr):Heap->Prop:=λh=>∃vs sl,h.get? e=some ⟨.ref C,dx,.fields vs,sl⟩/\vs[2]?=some .none
section
variable {X:Cx}{pins:List (Addr×Obj)}{σ:St}{H:Hp}{s:Shared}{e C:Addr}{dx:Option Addr}
theorem Inv.left{ch:List Addr}{h':Heap}(I:Inv X pins σ H s)(tZ:∀b∈ch,XN X pins H b)(lv:Lv (lE X.stack) ch s.heap h'):Inv X pins σ H { s with heap:=h' }:=by
 refine I.call (H':=H) (g':=s.gens) (t':=s.toks) (d':=s.drawn) (ch:=ch) ⟨λb o z n hb hc=>lv.keep b o hb hc z,λb o z n hb hc=>lv.slot b o hb z,λ_ _ _ n _=>n,λb o z hc=>?_,λ_ _ z=>z,λ_ _ _ z=>z,λb ps z=>⟨#[],by rw[z];simp⟩⟩ (λa u z=>?_) I.bare λb hb=>?_
 ·by_cases hb:b∈lE X.stack
  ·obtain⟨sl,q⟩:=lv.slot b o hb z
   exact⟨_,q⟩
  ·exact⟨o,lv.keep b o hb hc z⟩
 ·refine(I.bT a u z).stay (λb v hb y=>?_) (λ_ q=>q) λ_ _ q=>q
  have hn:¬H b=none:=λy=>by
   rcases hb with rfl | hb
   ·rw[z]at y;cases y
   ·rw[hb]at y;cases y
  exact lv.keep b v (λy=>hn (I.qC b y)) (λy=>hn (tZ b y).2.1) y
 ·obtain⟨a,b,c,d,e⟩:=tZ b hb
  exact⟨.inr a,c,d,e⟩
theorem Inv.adopt{φ:Heap->Prop}(I:Inv X pins σ H s)(n:XN X pins H e)(hφ:cO X.prog X.w (upd H e (.ext φ)) s.heap e (.ext φ)):Inv X pins σ (upd H e (.ext φ)) s:=by
 obtain⟨n1,n2,n3,n4,n5⟩:=n
 have ne:∀{b:Addr} {u:HO},H b=some u->b≠e:=λz y=>by rw[y,n2]at z;cases z
 have n0:∀{b:Addr} {o:Obj},X.s₀.heap.get? b=some o->b≠e:=λz y=>absurd (bI z) (by rw[y];exact q0.mpr n1)
 refine⟨I.ok,I.os,I.bare,⟨I.base.keep,I.base.slot,λb ob z n hx=>by rw[aB (n0 z)];exact I.base.free b ob z n hx,I.base.there,λb xs z=>?_,λb ob u z=>?_,λb ps z=>?_⟩,I.loc,I.cell,by rw[aB n3.symm];exact I.free,λx c z=>by rw[aB (n4 x c z)];exact I.fG x c z,λp hp=>?_,λb u z=>?_,I.len⟩
 ·have e1:=I.base.tups b xs z
  rw[aB (ne e1)];exact e1
 ·have e1:=I.base.frzs b ob u z
  rw[aB (ne e1)];exact e1
 ·obtain⟨m,e1⟩:=I.base.tbls b ps z
  exact⟨m,by rw[aB (ne e1)];exact e1⟩
 ·obtain⟨p1,p2,p3⟩:=I.pin p hp
  exact⟨p1,by rw[aB (n5 p hp)];exact p2,p3⟩
 ·by_cases hb:b=e
  ·subst hb;rw[ai]at z;cases z;exact hφ
  ·rw[aB hb]at z
   exact(I.bT b u z).stay (λ_ _ _ q=>q) (λc q=>by rw[aB (ne q)];exact q) λc xs q=>by rw[aB (ne q)];exact q
theorem O5{P:Program}{w:World}{H:Hp}{h:Heap}(z:y8 e C dx h):cO P w H h e (.ext (y8 e C dx)):=⟨z,let ⟨_,_,q,_⟩:=z;⟨_,q⟩,λh1 h2 ⟨vs,sl,a,c⟩ b=>⟨vs,sl,b _ a,c⟩⟩
theorem Inv.unbound{i:Nat}{x:Str}{m:Str->Option Value}{u:Option Value}{h':Heap}(I:Inv X pins σ H s)(hN:X.N.Nodup)(hi:X.N[i]?=some x)(hk:X.env.scope.names.lookup x=some .local)
  (hm:s.heap.Ns X.env.locals m) (hn:h'.Ns X.env.locals (λy=>if y=x then u else m y)) (hs:Heap.SameBut X.env.locals s.heap h'):Inv X pins (σ.set i none) H { s with heap:=h' }:=by
 have SQ:i<σ.length:=by rw[I.len];exact(eQ.mp hi).1
 obtain⟨m0,hn0,hl⟩:=id I.loc
 have nL:∀{b:Addr} {o:Obj},X.s₀.heap.get? b=some o->b≠X.env.locals:=λz=>bJ (cX (bI z) I.ok.above)
 have em:∀y,m0 y=m y:=λy=>by
  obtain⟨o,es,ep,ho,hd,_,r⟩:=hn0
  obtain⟨o',es',X8,wK,Td,_,r'⟩:=hm
  rw[ho]at wK;cases wK
  rw[hd]at Td;cases Td
  rw[<-r y,<-r' y]
 refine⟨I.ok,I.os,I.bare,⟨λb o z n hb hx=>(hs.2 b (nL z)).trans (I.base.keep b o z n hb hx),λb o z n hb hx=>?_,I.base.free,λb o z hx=>?_,I.base.tups,I.base.frzs,I.base.tbls⟩,⟨_,hn,λj y v e1 e2 e3=>?_⟩,λy c z=>?_,I.free,I.fG,λp hp=>?_,λb ob z=>?_,by rw[List.length_set];exact I.len⟩
 ·obtain⟨sl,q⟩:=I.base.slot b o z n hb hx
  exact⟨sl,(hs.2 b (nL z)).trans q⟩
 ·obtain⟨o',q⟩:=I.base.there b o z hx
  exact⟨o',(hs.2 b (nL z)).trans q⟩
 ·by_cases hj:j=i
  ·subst hj
   rw[vK SQ]at e2
   cases e2
  ·rw[zC (fH hj)]at e2
   obtain⟨u',r',q⟩:=hl j y v e1 e2 e3
   refine⟨u',r',?_⟩
   rcases q with ⟨k,z⟩ | ⟨k,c,z,y'⟩
   ·refine .inl ⟨k,?_⟩
    have:y≠x:=λz=>hj (su hN e1 (z ▸ hi))
    dsimp only
    rw[aE this,<-em];exact z
   ·exact .inr ⟨k,c,z,y'.sameBut hs (I.NC y c z)⟩
 ·obtain⟨w',q⟩:=I.cell y c z
  exact⟨w',q.sameBut hs (I.NC y c z)⟩
 ·obtain⟨p1,p2,p3,p4⟩:=I.pin p hp
  exact⟨(hs.2 _ p3).trans p1,p2,p3,p4⟩
 ·refine(I.bT b ob z).stay (λc v hc q=>(hs.2 c λy=>?_).trans q) (λ_ q=>q) λ_ _ q=>q
  rcases hc with rfl | hc
  ·rw[y,I.free]at z;cases z
  ·rw[y,I.free]at hc;cases hc
theorem O7{prog:Program}{w:World}{A:Around}{E:Value->Shared->Prop}{K:Frag}{B:Addr}{Q:Bool->Shared->Prop}(X:K.In s.heap)(q:jO K B=true)(hs:PySem.W.subIn K (.ref C) (.ref B)=some true)(he:y8 e C dx s.heap)(h:Q true s) :
  wpAny (model prog w) A (excMatches (.ref e) (.ref B)) Q E s:=by
 obtain⟨nm,qn,N,bs,bm,sn,sub,ab,col,dd,k0,k1,k2,k3,k5,mN,hC,hN,T⟩:=jY X q
 have hb:(Value.ref B::bm).contains (.type "BaseException")=true:=by rw[rF,T.hasType (X:="BaseException") (b:=true) (by decide +kernel),rh]
 obtain⟨vs,sl,o1,_⟩:=he
 have L:=PySem.W.looks_subIn (M:=model prog w) X hs
 obtain⟨hp,g,d,tk,os⟩:=s
 dsimp only at hC o1 L
 have f:=tc_notTuple
 unfold excMatches
 repeat (first | with_reducible refine uk o1 ?_ | with_reducible refine uk hC ?_ | (with_reducible refine uv hC ?_;rw[hb]) | with_reducible refine L.at ?_ | wp_step)
 exact h
end
@[reducible] def Cx.tri (X:Cx) (xe:Value->Shared->Prop) (pn:List (Addr×Obj)):Cx:={ X with xe:=xe,pn:=pn }
@[reducible] def Cx.G8 (X:Cx) (e:Addr):Cx:={ X with A:=X.A.mark (some (.ref e)),calm:=false,xe:=λ_ _=>False }
section
variable {X:Cx}{pins xK:List (Addr×Obj)}{σ:St}{H:Hp}{s:Shared}{e:Addr}{xe:Value->Shared->Prop}
theorem Inv.tri(I:Inv X pins σ H s):Inv (X.tri xe (X.pn++pins)) [] σ H s:=
 ⟨⟨I.ok.mod,I.ok.kind,I.ok.glob,I.ok.blt,I.ok.above,I.ok.inj,I.ok.has,I.ok.Oz,I.ok.hd,I.ok.frames,I.ok.Pt,I.ok.V1,I.ok.bs,I.ok.Gx,I.ok.xW,I.ok.BK,I.ok.lD,I.ok.Ka⟩,I.os,I.bare,I.base,I.loc,I.cell,I.free,I.fG,λp hp=>I.pin p (by rw[ph]at hp;exact hp),I.bT,I.len⟩
theorem Inv.w6(I:Inv (X.tri xe (X.pn++pins)) xK σ H s):Inv X pins σ H s:=
 ⟨⟨I.ok.mod,I.ok.kind,I.ok.glob,I.ok.blt,I.ok.above,I.ok.inj,I.ok.has,I.ok.Oz,I.ok.hd,I.ok.frames,I.ok.Pt,I.ok.V1,I.ok.bs,I.ok.Gx,I.ok.xW,I.ok.BK,I.ok.lD,I.ok.Ka⟩,I.os,I.bare,I.base,I.loc,I.cell,I.free,I.fG,λp hp=>I.pin p (pC _ hp),I.bT,I.len⟩
theorem Inv.G8(I:Inv X pins σ H s):Inv (X.G8 e) pins σ H s:=
 ⟨⟨I.ok.mod,I.ok.kind,I.ok.glob,I.ok.blt,I.ok.above,I.ok.inj,I.ok.has,I.ok.Oz,λz=>Bool.noConfusion z,I.ok.frames,I.ok.Pt,I.ok.V1,I.ok.bs,I.ok.Gx,I.ok.xW,I.ok.BK,I.ok.lD,I.ok.Ka⟩,I.os,I.bare,I.base,I.loc,I.cell,I.free,I.fG,I.pin,I.bT,I.len⟩
theorem Inv.CQ(ok:X.Ok)(I:Inv (X.G8 e) pins σ H s):Inv X pins σ H s:=⟨ok,I.os,I.bare,I.base,I.loc,I.cell,I.free,I.fG,I.pin,I.bT,I.len⟩
end
def Ends.W7(D:Ends)(i:Nat):Ends:={ nx:=λσ H=>D.nx (σ.set i none) H,rt:=D.rt,bk:=λσ H=>D.bk (σ.set i none) H,ct:=λσ H=>D.ct (σ.set i none) H }
def Pk(K:Frag)(i:Nat)(B:Addr)(tb:(St->XK)->TS)(ts:TS):TS:=λD σ H=>∃EH:St->XK,tb EH D σ H/\∀σ' C dx H',EH σ' (.ref C) dx H'->PySem.W.subIn K (.ref C) (.ref B)=some true/\∀e,H' e=none->ts (D.W7 i) (σ'.set i (some (.ref e))) (upd H' e (.ext (y8 e C dx)))
section
variable {X:Cx}{B:Addr}{x n:Str}{np Br pos:Pos}{body suite:List Stmt}{b₀:Stmt}{tb:(St->XK)->TS}{ts:TS}{i:Nat}
theorem kX{pins:List (Addr×Obj)}{σ:St}{H:Hp}{s:Shared}{M:Model}{A:Around}{E:Value->Shared->Prop}{Q:Unit->Shared->Prop}(I:Inv X pins σ H s)(hN:X.N.Nodup)(hi:X.N[i]?=some n)(hk:X.env.scope.names.lookup n=some .local)
  (h:∀s',Inv X pins (σ.set i none) H s'->Q () s'):wpAny M A (do bindName X.env n .none;unbindBehindTheSuite X.env n Br) Q E s:=by
 have Rh:(X.env.scope.kind == .class||(X.env.scope.kind == .module&&X.env.locals != X.env.globals))=false:=by rw[I.ok.kind];rfl
 unfold bindName
 refine au (au (dG (wpAny_point (au (j2 (v:=.non) I hN hi (.inl hk) rfl (λs1 I1=>wpAny_point ?_) (.inr hk))))))
 unfold unbindBehindTheSuite
 refine wpAny_onRaise ?_
 obtain⟨m,hm,hl⟩:=id I1.loc
 have SQ:i<σ.length:=by rw[I.len];exact(eQ.mp hi).1
 obtain⟨u,ru,lk⟩:=hl i n .non hi (by rw[vK SQ]) (.inl hk)
 have hv:∃v,m n=some v:=by
  rcases lk with ⟨_,z⟩ | ⟨k,_⟩
  ·exact⟨_,z⟩
  ·exfalso
   rcases k with k | k
   ·rw[show X.env.kindOf n=X.env.scope.names.lookup n from rfl,hk]at k;cases k
   ·rw[show X.env.kindOf n=X.env.scope.names.lookup n from rfl,hk]at k;cases k
 obtain⟨v,hv⟩:=hv
 refine wpAny_unbindName_local hk hm hv Rh λh' u Oq hs'=>h _ ?_
 have I2:=I1.unbound hN hi hk hm Oq hs'
 rwa [List.set_set]at I2
theorem La{M:Model}{A:Around}{E:Value->Shared->Prop}{s:Shared}{N:Addr->Prop}{e C:Addr}{dx:Option Addr}{fs:List Addr}{Q:Unit->Shared->Prop}(hfs:∀b∈fs,∀o vs,s.heap.get? b=some o->o.data≠.fields vs)(x:He N s.heap e C dx)
  (h:∀h' ch,(∀b∈ch,N b)->He N h' e C dx->Lv fs ch s.heap h'->Q () { s with heap:=h' }):wpAny M A (setFlight (.ref e) none) Q E s:=by
 obtain⟨ne,vs,sl,he,c2,tb⟩:=x
 rcases tb with h1 | ⟨T,oT,ts,nT,K0,h1,hT,dT,h3⟩
 ·unfold setFlight
  refine au (jX he rfl h1 ?_)
  rw[aE (by decide)]
  exact aM (h s.heap [] (λb hb=>absurd hb (by simp)) ⟨ne,vs,sl,he,c2,.inl h1⟩ ⟨λb o _ _ z=>z,λb o _ z=>⟨o.slots,z⟩⟩)
 ·have z3:=(pE.mp h3).1
  refine N6 he rfl h1 hT dT z3 ?_
  have ot:∀b o,b≠T->s.heap.get? b=some o->(s.heap.update T (Obj.mapFields (·.setIfInBounds 3 Value.none))).get? b=some o:=λb o hb z=>(nv _ _ hb.symm).trans z
  have t4:=lJ (Obj.mapFields (·.setIfInBounds 3 Value.none)) hT (zt (rE dT _))
  refine h _ [T] (λb hb=>by rw[di.mp hb];exact nT) ⟨ne,vs,sl,ot _ _ K0.symm he,c2,.inr ⟨T,_,_,nT,K0,h1,t4,rE dT _,by simp[z3]⟩⟩ ⟨λb o _ hb z=>ot b o (λy=>hb (by rw[y];simp)) z,λb o hb z=>⟨o.slots,ot b o (λy=>?_) z⟩⟩
  subst y
  rw[hT]at z
  cases z
  exact hfs b hb oT ts hT dT
theorem RW{pins:List (Addr×Obj)}{σ:St}{H:Hp}{s:Shared}{e C:Addr}{dx:Option Addr}{D:Ends}(I:Inv X pins σ H s)(G9:X.stack=X.env::X.outer)(Ha:X.env.frame=some X.env.locals)(hN:X.N.Nodup)(hi:X.N[i]?=some n)(hk:X.env.scope.names.lookup n=some .local)(q:jO X.K B=true)(hg:Gl X x)(hm:X.mg x=some (.ref B))
  (hs:∀e,tP (X.G8 e) (b₀::suite) ts) (xa:He (XN X pins H) s.heap e C dx) (sb:PySem.W.subIn X.K (.ref C) (.ref B)=some true) (h:ts (D.W7 i) (σ.set i (some (.ref e))) (upd H e (.ext (y8 e C dx)))) (mQ:(x==("__debug__" : Str))=false:=by decide) :
  wpAny (model X.prog X.w) X.A (noteFrame (.ref e) X.env) (λ_ s₂=>wpAny (model X.prog X.w) X.A (setFlight (.ref e) none) (λ_ s₃=>wpAny (model X.prog X.w) X.A (handleBy (.ref e) X.env [.ExceptHandler (some (.Name x np)) (some n) (b₀::suite) Br]) (SP X pins D) X.xe s₃) X.xe s₂) X.xe s:=by
 have hf0:=I.ok.frames
 have st0:=I.stack
 rw[G9]at hf0 st0
 refine Hs (L:=X.env.locals) (base:=X.base) hf0 st0 Ha (λb hb=>.new I hb (I.bT.fresh hb)) xa λh' ch tZ Sx lv=>?_
 rw[<-G9]at lv
 have I1:=I.left (λb hb=>(tZ b hb).1) lv
 obtain⟨ne,vs,sl,o1,c1,tb1⟩:=Sx
 refine wpAny_handleBy_cons (codeAny_handlers_test (gH (X:=X.G8 e) I1.G8 hg hm (O7 I1.jP q sb ⟨vs,sl,o1,c1⟩ ?_) mQ)) (by intro z;cases z)
 show codeAny _ _ _ _ _
 refine codeAny_handlers_suite_as (La (fs:=lE X.stack) (N:=XN X pins H) (λb hb o ws z=>?_) ⟨ne,vs,sl,o1,c1,tb1⟩ λh2 ch2 aA4 xa2 lv2=>?_)
 ·obtain⟨_,o',z',nd⟩:=I1.stack.mem hb
  rw[z]at z';cases z'
  exact nd ws
 have I2:=I1.left aA4 lv2
 obtain⟨ne2,vs2,SJ,o2,c2,_⟩:=xa2
 have I3:=(I2.adopt (φ:=y8 e C dx) ne2 (O5 ⟨vs2,SJ,o2,c2⟩)).G8 (e:=e)
 refine j2 (X:=X.G8 e) (v:=.ref e) I3 hN hi (.inl hk) rfl (λs4 I4=>?_) (.inr hk)
 refine cP (hs e pins s4 _ _ (D.W7 i) I4 h) (λf s5 q5=>?_) λ_ _ z=>False.elim z
 show wpAny _ _ (do bindName X.env n .none;unbindBehindTheSuite X.env n Br) _ _ _
 cases f with
 | next=>
  obtain⟨σ5,H5,I5,q5⟩:=q5
  exact kX (I5.CQ I.ok) hN hi hk λs6 I6=>⟨_,H5,I6,q5⟩
 | brk=>
  obtain⟨σ5,H5,I5,q5⟩:=q5
  exact kX (I5.CQ I.ok) hN hi hk λs6 I6=>⟨_,H5,I6,q5⟩
 | cont=>
  obtain⟨σ5,H5,I5,q5⟩:=q5
  exact kX (I5.CQ I.ok) hN hi hk λs6 I6=>⟨_,H5,I6,q5⟩
 | ret u=>
  obtain⟨v,σ5,H5,I5,ru,q5⟩:=q5
  exact kX (I5.CQ I.ok) hN hi hk λs6 I6=>⟨v,_,H5,I6,ru,q5⟩
theorem Qj(G9:X.stack=X.env::X.outer)(Ha:X.env.frame=some X.env.locals)(hN:X.N.Nodup)(hi:X.N[i]?=some n)(hk:X.env.scope.names.lookup n=some .local)(q:jO X.K B=true)(hg:Gl X x)(hm:X.mg x=some (.ref B))
  (hb:∀(EH:St->XK) (xe:Value->Shared->Prop) (pn:List (Addr×Obj)),jM (X.tri xe pn) EH->PassesOwn (model X.prog X.w) X.A X.env xe->tP (X.tri xe pn) body (tb EH)) (hs:∀e,tP (X.G8 e) (b₀::suite) ts) (mQ:(x==("__debug__" : Str))=false:=by decide) :
  PS X (.Try body [.ExceptHandler (some (.Name x np)) (some n) (b₀::suite) Br] [] [] pos) (Pk X.K i B tb ts):=by
 intro pins s σ H D I h
 obtain⟨EH,h1,h2⟩:=h
 refine wpAny_Try_except ?_
 have L:jM (X.tri (λv s₁=>wpAny (model X.prog X.w) X.A (noteFrame v X.env) (λ_ s₂=>wpAny (model X.prog X.w) X.A (setFlight v none) (λ_ s₃=>wpAny (model X.prog X.w) X.A (handleBy v X.env [.ExceptHandler (some (.Name x np)) (some n) (b₀::suite) Br]) (SP X pins D) X.xe s₃) X.xe s₂) X.xe s₁) (X.pn++pins)) EH:=by
  intro xK σ' H' s' e C dx I' Sx q'
  obtain⟨sb,SM⟩:=h2 σ' C dx H' q'
  refine RW I'.w6 G9 Ha hN hi hk q hg hm hs (Sx.mono λb hb=>⟨hb.1,hb.2.1,hb.2.2.1,hb.2.2.2.1,λp hp=>hb.2.2.2.2 p (pC _ hp)⟩) sb (SM e Sx.1.2.1) mQ
 refine cP (hb EH _ _ L PassesOwn.looking [] s σ H D I.tri h1) (λf s1 q1=>?_) λ_ _ z=>z
 cases f with
 | next=>
  obtain⟨σ1,H1,I1,q1⟩:=q1
  exact aM ⟨σ1,H1,I1.w6,q1⟩
 | brk=>
  obtain⟨σ1,H1,I1,q1⟩:=q1
  exact⟨σ1,H1,I1.w6,q1⟩
 | cont=>
  obtain⟨σ1,H1,I1,q1⟩:=q1
  exact⟨σ1,H1,I1.w6,q1⟩
 | ret u=>
  obtain⟨v,σ1,H1,I1,ru,q1⟩:=q1
  exact⟨v,σ1,H1,I1.w6,ru,q1⟩
end
def yW(H:Hp)(dx:Option Addr):Prop:=∀d,dx=some d->∃fs,H d=some (.xd fs)
section
variable {X:Cx}{pins:List (Addr×Obj)}{σ:St}{H:Hp}{s:Shared}{e C:Addr}{dx:Option Addr}
theorem Ht(I:Inv X pins σ H s)(he:H e=some (.ext (y8 e C dx)))(hd:yW H dx):∃oe od,PySem.W.InstAt s.heap e oe C od:=by
 obtain⟨vs,sl,o1,_⟩:=(I.bT e _ he).1
 cases dx with
 | none=>exact⟨_,none,o1,rfl,rfl,True.intro⟩
 | some d=>
  obtain⟨fs,hd⟩:=hd d rfl
  obtain⟨mA,n,_⟩:=I.bT d _ hd
  obtain⟨od,ho,_⟩:=oO n
  exact⟨_,some od,o1,rfl,rfl,ho⟩
def Ac(K:Frag):List V->Hp->VK->Prop:=λvs H Q=>∃e T,vs=[.ref e,.ty T]/\∃C dx,H e=some (.ext (y8 e C dx))/\yW H dx/\XC K C/\∃b,PySem.W.kitOne K (.ref C) (.type T)=some b/\Q (.bl b) H
theorem BX:cC X (.builtin "isinstance") (Ac X.K):=by
 intro pins s σ H vs us Q I r h
 obtain⟨e,T,rfl,C,dx,he,hd,c,b,hb,q⟩:=h
 obtain⟨u1,u2,rfl,r1,r2⟩:=r.two
 obtain rfl:u1=Value.ref e:=r1
 obtain rfl:u2=Value.type T:=r2
 exact jd (sI c) I.jP (Ht I he hd) hb (λz=>by cases z) λtk=>⟨.bl b,H,I.tok _,rfl,q⟩
def Ad(K:Frag):List V->Hp->VK->Prop:=λvs H Q=>∃e D,vs=[.ref e,.ref D]/\∃C dx,H e=some (.ext (y8 e C dx))/\yW H dx/\XC K C/\∃b,PySem.W.kitOne K (.ref C) (.ref D)=some b/\Q (.bl b) H
theorem BZ:cC X (.builtin "isinstance") (Ad X.K):=by
 intro pins s σ H vs us Q I r h
 obtain⟨e,D,rfl,C,dx,he,hd,c,b,hb,q⟩:=h
 obtain⟨u1,u2,rfl,r1,r2⟩:=r.two
 obtain rfl:u1=Value.ref e:=r1
 obtain rfl:u2=Value.ref D:=r2
 exact jd (sI c) I.jP (Ht I he hd) hb (λz=>by cases z) λtk=>⟨.bl b,H,I.tok _,rfl,q⟩
def Ae(K:Frag):List V->Hp->VK->Prop:=λvs H Q=>∃e p,vs=[.ref e,.ref p]/\∃Ds:List Addr,H p=some (.tup (Ds.map V.ref))/\∃C dx,H e=some (.ext (y8 e C dx))/\yW H dx/\XC K C/\∃b,PySem.W.kitAny K (.ref C) (Ds.map Value.ref)=some b/\Q (.bl b) H
theorem uF:∀{Ds:List Addr} {us:List Value},Vals (Ds.map V.ref) us->us=Ds.map Value.ref
 | [],_,.nil=>rfl
 | D::Ds,_,.cons r t=>by rw[uF t,show _=Value.ref D from r];rfl
theorem Ca:cC X (.builtin "isinstance") (Ae X.K):=by
 intro pins s σ H vs us Q I r h
 obtain⟨e,p,rfl,Ds,hp,C,dx,he,hd,c,b,hb,q⟩:=h
 obtain⟨u1,u2,rfl,r1,r2⟩:=r.two
 obtain rfl:u1=Value.ref e:=r1
 obtain rfl:u2=Value.ref p:=r2
 obtain⟨_,its,rv,⟨oc,od,da,sl⟩,ho,hc,n,Xw⟩:=I.bT p _ hp
 dsimp only at hc Xw
 subst hc Xw
 have:=uF rv
 subst this
 exact PySem.W.kia_tup (sI c) I.jP (Ht I he hd) ho hb (λz=>by cases z) λtk=>⟨.bl b,H,I.tok _,rfl,q⟩
def HF(K:Frag)(ta:TE)(f:Str):TE:=λσ H Q=>ta σ H λx H1=>∃e,x=.ref e/\∃C dx,H1 e=some (.ext (y8 e C (some dx)))/\XC K C/\PySem.W.findIn K (.ref C) f=some none/\∃fs,H1 dx=some (.xd fs)/\∃v,fs.lookup f=some v/\Q v H1
theorem Mt{o:Expr}{f:Str}{pos:Pos}{ta:TE}(he:PE X o ta)(hb:attributeBase o f X.env (eval o X.env)=eval o X.env):PE X (.Attribute o f pos) (HF X.K ta f):=by
 intro pins s σ H Q I h
 refine NT hb (cA (he pins s σ H _ I h) λu s1 ⟨x,H1,I1,rx,e,ex,C,dx,ee,c,nf,fs,hd,v,lk,q⟩=>?_)
 subst ex
 obtain rfl:u=Value.ref e:=rx
 obtain⟨vs,sl,o1,_⟩:=(I1.bT e _ ee).1
 obtain⟨mA,n,rel⟩:=I1.bT dx _ hd
 obtain⟨od,ho,hl⟩:=oO n
 obtain⟨u,hu,ru⟩:=GL.some_of (v:=v) (o:=mA f) (by rw[<-lk];exact rel f)
 exact Ym I1.jP c.is ⟨o1,rfl,rfl,ho⟩ c.ga c.gn (PySem.W.findObj_own c.hd nf rfl (by rw[hl,hu])) (Gi ru) ⟨v,H1,I1.tok _,ru,q⟩
end
theorem Oh{X:Cx}{P:Program}{w:World}:Passes (CG P w) X E0:=λ_ _ _ _ _ _ _ h=>by
 obtain⟨_,_,_,_,_,_,_,_,_,_,q⟩:=h
 exact q.elim
section
variable {X:Cx}{N:List Str}{sc:Scope}
theorem hcT{xe:Value->Shared->Prop}{pn:List (Addr×Obj)}(h:HC X N sc):HC (X.tri xe pn) N sc:=⟨h.n,h.s⟩
theorem hfT{xe:Value->Shared->Prop}{pn:List (Addr×Obj)}(h:∀x,X.fn x=true):∀x,(X.tri xe pn).fn x=true:=h
theorem hfS{e:Addr}(h:∀x,X.fn x=true):∀x,(X.G8 e).fn x=true:=h
theorem hcS{e:Addr}(h:HC X N sc):HC (X.G8 e) N sc:=⟨h.n,h.s⟩
variable {k:Nat}{fI C B:Addr}{fd:FuncData}{ps:List Str}{sp:Sp}{EH:St->XK}{x n fld:Str}{np cy apos Br pos pos':Pos}{a b o value:Expr}{t:TA}{te ta tv:TE}{body suite:List Stmt}{b₀:Stmt}{tb:(St->XK)->TS}{ts:TS}
theorem rJ(c:XC X.K C)(hi:PySem.W.findIn X.K (.ref C) "__init__" = some (some (.ref fI)))(hf:PySem.W.typeIn X.K (.ref fI)=some (.type "function"))(hk:PySem.W.keepIn X.K (.ref C)=true)
  (F:cz X.prog X.w X.K X.mg X.base iq k fI fd ps (vU C fld)) (hb:Binds X.K fd ps []) (hr:cS (k+1) X.A) (hg:Gl X x) (hm:X.mg x=some (.ref C)) (hc:X.calm=true) (L:jM X EH) (ha:ZE X a te)
  (mQ:(x==("__debug__" : Str))=false:=by decide) (he:starEach [a] X.env=(false,eval a X.env)::starEach [] X.env:=by rfl) (qG:(backTo cy (starEach [] X.env)).any (·.1)=false:=by rfl) :
  ZS X (.Raise (some (.Call (.Name x np) [a] [] cy)) none pos) (vQ C fld te EH):=⟨Fs c hi hf hk F hb hr hg hm hc L ha.to mQ he qG⟩
theorem Hq{pl:Sem Bool}(hr:PySem.W.readsIn X.K B (.type "type")=true)(hf:PySem.W.findCls X.K (.ref B) (.type "type") "__init__" = some (.val (.builtin "ValueError.__init__")))
  (hs:PySem.W.specialIn X.K (.ref B) "__getattribute__" = some (some (.builtin "type.__getattribute__"))) (hg:Gl X x) (hm:X.mg x=some (.ref B)) (ha:ZA X [a,b] t)
  (mQ:(x==("__debug__" : Str))=false:=by decide) (G9:starEach [a,b] X.env=(false,eval a X.env)::starEach [b] X.env:=by rfl) (qG:(backTo cy (starEach [b] X.env)).any (·.1)=false:=by rfl)
  (ht:eval (.Call (.Attribute (.Name x np) "__init__" apos) [a,b] [] cy) X.env=(do
   let ov <-eval (.Name x np) X.env
   standAt apos.atName
   let (f,first) <-holding [ov] (getMethod ov "__init__" pl)
   callWith cy f first (backTo cy (starEach [a,b] X.env)) (backToKw cy (keywordEach [] X.env))):=by rfl) :
  ZE X (.Call (.Attribute (.Name x np) "__init__" apos) [a,b] [] cy) (HR X.K t):=⟨Mx (pl:=pl) hr hf hs hg hm ha.to mQ G9 qG ht⟩
theorem Ho(ha:ZE X o ta)(hv:ZE X value tv)(hs:swapsWith value (some (.Attribute o fld pos')) pos.line X.env=pure false):ZS X (.Assign [.Attribute o fld pos'] value pos) (Iq X.K ta tv fld):=⟨Mi ha.to hv.to hs⟩
theorem wW{K:Frag}{f:Str}(hK:X.K=K)(he:ZE X o ta)(hb:attributeBase o f X.env (eval o X.env)=eval o X.env):ZE X (.Attribute o f pos) (HF K ta f):=hK ▸ ⟨Mt he.to hb⟩
theorem yK{K:Frag}(hK:X.K=K):cC X (.builtin "isinstance") (Ac K):=hK ▸ BX
theorem yL{K:Frag}(hK:X.K=K):cC X (.builtin "isinstance") (Ad K):=hK ▸ BZ
theorem yM{K:Frag}(hK:X.K=K):cC X (.builtin "isinstance") (Ae K):=hK ▸ Ca
theorem Hm(hc:HC X N sc)(nd:N.Nodup)(i:Nat)(h:Aw N sc i n=true)(G9:X.stack=X.env::X.outer)(Ha:X.env.frame=some X.env.locals)(q:jO X.K B=true)(hg:Gl X x)(hm:X.mg x=some (.ref B))
  (hb:∀(EH:St->XK) (xe:Value->Shared->Prop) (pn:List (Addr×Obj)),jM (X.tri xe pn) EH->PassesOwn (model X.prog X.w) X.A X.env xe->En (X.tri xe pn) body (tb EH)) (hs:∀e,En (X.G8 e) (b₀::suite) ts) (mQ:(x==("__debug__" : Str))=false:=by decide) :
  ZS X (.Try body [.ExceptHandler (some (.Name x np)) (some n) (b₀::suite) Br] [] [] pos) (Pk X.K i B tb ts):=
 ⟨Qj G9 Ha (by rw[hc.n];exact nd) (gY hc h).1 (gY hc h).2 q hg hm (λEH xe pn l p=>(hb EH xe pn l p).to) (λe=>(hs e).to) mQ⟩
end
section
variable {X:Cx}
def Uh(neg:Bool):R2:=λx y H Q=>∃p q,x=.ref p/\y=.ref q/\∃xs ys:List Str,H p=some (.tup (List.map V.str xs))/\H q=some (.tup (List.map V.str ys))/\Q (.bl (if neg then !decide (xs=ys) else decide (xs=ys))) H
end
end L2
end
section
namespace L2
open PySem PySem.Spec PySem.W PyProof.Rows Builtin
theorem xJ{α:Type}{l:List α}{p:Array Nat}{d:α}(hp:lj p l.length):(p.toList.map λi=>l.getD i d).Perm l:=by
 have h1:p.toList.Perm (List.range l.length):=by simpa using Array.perm_iff_toList_perm.mp hp.perm
 have h2:=h1.map λi=>l.getD i d
 have e:(List.range l.length).map (λi=>l.getD i d)=l:=by
  apply zm
  intro i
  rw[cW]
  by_cases hi:i<l.length
  ·rw[List.getElem?_range hi,cD hi]
   simp[fX,cD hi]
  ·rw[qX (by simpa using hi),qX (by lia)]
   rfl
 rwa [e]at h2
theorem yV{α:Type}{l:List α}{p:Array Nat}{d:α}{R:α->α->Bool}(hp:lj p l.length)(O:Ord (λi j=>R (l.getD i d) (l.getD j d)) l.length)(a:n6 (λi j=>R (l.getD i d) (l.getD j d)) p l.length):(p.toList.map λi=>l.getD i d).Pairwise λx y=>R x y=true:=by
 rw[zp,zH]
 intro i j hi hj Rg
 have hs:=hp.size
 rw[dX]at hi hj
 have:=n6.lt O hp (by lia) a (bB _) Rg (by lia)
 have e:∀k (hk:k<p.size),iy p k=p.toList[k]'(by simpa using hk):=λk hk=>by
  unfold iy
  rw[pF,lK hk]
  simp
 rw[e i hi,e j hj]at this
 exact this
section
variable {prog:Program}{w:World}{A:Around}{E:Value->Shared->Prop}{s:Shared}
theorem tX{a:Addr}{vs:List Value}{n:Nat}{κ:SortKind}{b:Nat->Nat->Bool}{P:PySem.Fin->Shared->Prop}(ho:s.heap.get? a=some (seqObj "list" vs.toArray n))(By:vs.length<64)(O:Ord b vs.length)
  (hk:∀h',(∀c o,c≠a->s.heap.get? c=some o->h'.get? c=some o)->2<=vs.length->wpAny (model prog w) A (keyKind' vs.toArray) (λk s'=>k=κ/\s'={ s with heap:=h' }) (λ_ _=>False) { s with heap:=h' })
  (hc:∀h',(∀c o,c≠a->s.heap.get? c=some o->h'.get? c=some o)->∀i j C,i<vs.length->j<vs.length->C (b i j) { s with heap:=h' }->kas_ask prog w A κ vs i j C { s with heap:=h' })
  (h:∀p,lj p vs.length->n6 b p vs.length->P (.done (.ret .none)) { s with heap:=sortedHeap s.heap a vs (p.toList.map λi=>vs.getD i Value.none).toArray }) :
  wpAny (model prog w) A (Builtin.«list.sort» ⟨[.ref a],[]⟩) P E s:=by
 rw[list_sort_plain]
 have ha:a<s.heap.objs.size:=bI ho
 have sb:=qU s.heap a (Obj.mapSeq λ_=>(#[]:Array Value))
 obtain⟨e1,ho1⟩:∃e1,(s.heap.update a (Obj.mapSeq λ_=>(#[]:Array Value))).get? a=some (seqObj "list" #[] e1):=⟨_,get?_update_seq ho λ_=>#[]⟩
 have mP:vs.toArray.size=vs.length:=by simp
 refine au (listItems_at ho rfl ?_)
 refine au (my ho rfl ?_ (by rw[mP,jT];lia) (dg _))
 refine au (seqEpoch_at ho1 rfl ?_)
 refine au (wpAny_newTuple ?_ (by show vs.length<=_;rw[jT];lia))
 refine au (rg ?_ (dg _))
 refine dG ?_
 have Xs:(((s.heap.update a (Obj.mapSeq λ_=>(#[]:Array Value))).push (seqObj "tuple" vs.toArray 0)).push (seqObj "list" #[] 0)).get? a=some (seqObj "list" #[] e1):=cq _ (cq _ ho1)
 have keep:∀c o,c≠a->s.heap.get? c=some o->(((s.heap.update a (Obj.mapSeq λ_=>(#[]:Array Value))).push (seqObj "tuple" vs.toArray 0)).push (seqObj "list" #[] 0)).get? c=some o:=λc o nc e=>
  cq _ (cq _ ((sb.2 c nc).trans e))
 show wpAny (model prog w) A _ P E { s with heap:=((s.heap.update a (Obj.mapSeq λ_=>(#[]:Array Value))).push (seqObj "tuple" vs.toArray 0)).push (seqObj "list" #[] 0) }
 dsimp only
 by_cases h2:vs.toArray.size<2
 ·rw[aI h2,aI h2]
  refine au (aM ?_)
  rw[StateT.run_pure]
  refine au (aM ?_)
  dsimp only
  refine au (seqEpoch_at Xs rfl ?_)
  have hp:lj (List.toArray (List.range vs.length)) vs.length:=⟨Array.Perm.refl _⟩
  have JT:(arrOf (SortSt.mk' general' (vs.toArray.zip vs.toArray) #[] 7 none)).map (·.2)=((List.toArray (List.range vs.length)).toList.map λi=>vs.getD i Value.none).toArray:=by
   have z:=kat_snds (ks:=vs) (vs:=vs) rfl (st:=SortSt.mk' general' (vs.toArray.zip vs.toArray) #[] 7 none) (p:=List.toArray (List.range vs.length)) (by
    have e:=kas_range (vs.toArray.zip vs.toArray)
    rw[show(vs.toArray.zip vs.toArray).size=vs.length by simp]at e
    exact e.symm)
   exact z
  rw[JT]
  refine au (my Xs rfl ?_ (dg _) (by
   have z:(((List.toArray (List.range vs.length)).toList.map λi=>vs.getD i Value.none).toArray).size<=sizeLine:=by rw[jT];simp;lia
   exact vF z))
  simp only[zq,qT,iP]
  exact aM (h _ hp λi hi=>by lia)
 ·rw[aE h2,aE h2]
  have Rx:2<=vs.length:=by lia
  refine au (cP (hk _ keep Rx) (λk s' ⟨e2,e3⟩=>?_) λ_ _ x=>x.elim)
  subst e2 e3
  have g:(kas_sort vs.length).kasWp (kas_ask prog w A k vs) (λp Lz=>(lj p vs.length/\n6 b p vs.length)/\Lz={ s with heap:=((s.heap.update a (Obj.mapSeq λ_=>(#[]:Array Value))).push (seqObj "tuple" vs.toArray 0)).push (seqObj "list" #[] 0) }) { s with heap:=((s.heap.update a (Obj.mapSeq λ_=>(#[]:Array Value))).push (seqObj "tuple" vs.toArray 0)).push (seqObj "list" #[] 0) }:=
   KG.wp (λi j C hi hj hC=>hc _ keep i j C hi hj hC) (λp hp=>⟨hp,rfl⟩) (DK O Rx)
  refine au (cP (kat_run (Q:=λnk s'=>∃p:Array Nat,arrOf nk=p.map (kas_item (vs.toArray.zip vs.toArray))/\failedOf nk=none/\(lj p vs.length/\n6 b p vs.length)/\s'=_) rfl Rx By (λp' nk s' _ a2 a3 a4=>⟨p',a2,a3,a4.1,a4.2⟩) g) ?_ λ_ _ e=>e)
  rintro⟨⟨⟩,nk⟩ s' ⟨p,har,hf,⟨hp,aA6⟩,rfl⟩
  dsimp only
  have JT:=kat_snds rfl har
  rw[JT]
  refine au (seqEpoch_at Xs rfl ?_)
  refine au (my Xs rfl ?_ (dg _) (by
   have z:((p.toList.map λi=>vs.getD i Value.none).toArray).size<=sizeLine:=by rw[jT,cV,aY,dX,hp.size];lia
   exact vF z))
  rw[hf]
  simp only[zq,qT,iP]
  exact aM (h p hp aA6)
theorem z7{l:Addr}{vs:List Value}{κ:SortKind}{b:Nat->Nat->Bool}{Q:Value->Shared->Prop}(hl:s.heap.IsList l vs.toArray)(By:vs.length<64)(O:Ord b vs.length)
  (hk:∀h',(∀c o,s.heap.get? c=some o->h'.get? c=some o)->2<=vs.length->wpAny (model prog w) A.in1.in1 (keyKind' vs.toArray) (λk s'=>k=κ/\s'={ s with heap:=h' }) (λ_ _=>False) { s with heap:=h' })
  (hc:∀h',(∀c o,s.heap.get? c=some o->h'.get? c=some o)->∀i j C,i<vs.length->j<vs.length->C (b i j) { s with heap:=h' }->kas_ask prog w A.in1.in1 κ vs i j C { s with heap:=h' })
  (h:∀p,lj p vs.length->n6 b p vs.length->Q (.ref (s.heap.objs.size+1)) { s with heap:=sortedAll s.heap vs (p.toList.map λi=>vs.getD i Value.none).toArray }) :
  wpAny (model prog w) A (call (.builtin "sorted") [.ref l]) Q E s:=by
 refine Calls.call_function_entry kind_sorted plain_sorted entry_sorted (args_sorted1 _) ?_
 unfold Builtin.«sorted»
 refine au (m:=checkCount "sorted" 1 1 _) (aM ?_)
 refine au (collect_list hl ?_ (by rw[jT];lia))
 refine au (rg ?_ (by rw[jT];lia))
 have mP:((s.heap.push (seqObj "list" #[] 0)).update s.heap.objs.size (Obj.mapSeq (· ++ vs.toArray))).objs.size=s.heap.objs.size+1:=by
  rw[Heap.size_update,size_push']
 have Ge:(((s.heap.push (seqObj "list" #[] 0)).update s.heap.objs.size (Obj.mapSeq (· ++ vs.toArray))).push (seqObj "list" vs.toArray 0)).get? (s.heap.objs.size+1)=some (seqObj "list" vs.toArray 0):=by
  rw[<-mP];exact dj _ rfl
 have keep:∀b o,s.heap.get? b=some o->b≠s.heap.objs.size+1/\(((s.heap.push (seqObj "list" #[] 0)).update s.heap.objs.size (Obj.mapSeq (· ++ vs.toArray))).push (seqObj "list" vs.toArray 0)).get? b=some o:=λb o q=>by
  have gS:b<s.heap.objs.size:=bI q
  refine⟨bJ (pz gS),?_⟩
  rw[Heap.get?_push_ne _ _ _ (by rw[mP];exact bJ (pz gS)),Heap.get?_update_ne _ _ _ _ (bJ gS),Heap.get?_push_ne _ _ _ (bJ gS)]
  exact q
 show wpAny _ _ _ _ _ { s with heap:=((s.heap.push (seqObj "list" #[] 0)).update s.heap.objs.size (Obj.mapSeq (· ++ vs.toArray))).push (seqObj "list" vs.toArray 0) }
 rw[mP]
 refine au (dG (qR slot_list_sort ⟨_,Ge,rfl⟩ entry_list_sort (tX (κ:=κ) Ge By O (λh' k h2=>?_) (λh' k=>?_) λp a1 a2=>⟨_,rfl,?_⟩) (args_list_sort _)))
 ·exact hk h' (λc o e=>k c o (keep c o e).1 (keep c o e).2) h2
 ·exact hc h' (λc o e=>k c o (keep c o e).1 (keep c o e).2)
 ·exact aM ⟨_,rfl,h p a1 a2⟩
end
section
variable {X:Cx}{pins:List (Addr×Obj)}{s:Shared}{σ:St}{H:Hp}{A:Around}
theorem oB:∀{l:List Addr} {us:List Value},Vals (List.map V.ref l) us->us=l.map Value.ref
 | [],_,.nil=>rfl
 | a::l,_,.cons r1 r2=>by rw[oB r2,r1];rfl
theorem nz:∀l:List Addr,Vals (List.map V.ref l) (List.map Value.ref l)
 | []=>.nil
 | a::l=>.cons rfl (nz l)
end
section
open PySem.SeqAt
open PySem.AutoSeq1 (wpAny_loadPart')
open PySem.MeetsSeq PySem.MeetsSeq2 PySem.MeetsSeq3
end
section
variable {prog:Program}{w:World}{A:Around}{E:Value->Shared->Prop}{s:Shared}{κ:SortKind}
theorem JL{ks vs:List Value}{b:Nat->Nat->Bool}(hl:ks.length=vs.length)(O:Ord b vs.length)(hn:2<=vs.length)(By:vs.length<64)
  (hc:∀i j (Q:Bool->Shared->Prop),i<vs.length->j<vs.length->Q (b i j) s->wpAny (model prog w) A (keyLt' κ (kas_item (ks.toArray.zip vs.toArray) i).1 (kas_item (ks.toArray.zip vs.toArray) j).1) Q (λ_ _=>False) s) :
  wpAny (model prog w) A (sortRuns'.run (SortSt.mk' κ (ks.toArray.zip vs.toArray) #[] 7 none)) (λr s3=>s3=s/\∃p,lj p vs.length/\n6 b p vs.length/\arrOf r.2=p.map (kas_item (ks.toArray.zip vs.toArray))/\failedOf r.2=none) E s:=by
 have g:(kas_sort vs.length).kasWp (kas_ask prog w A κ ks) (λp Lz=>(lj p vs.length/\n6 b p vs.length)/\Lz=s) s:=
  KG.wp (λi j C hi hj hC=>by rw[kat_ask_eq hl];exact hc i j C hi hj hC) (λp hp=>⟨hp,rfl⟩) (DK O hn)
 exact kat_run (Q:=λnk s'=>s'=s/\∃p,lj p vs.length/\n6 b p vs.length/\arrOf nk=p.map (kas_item (ks.toArray.zip vs.toArray))/\failedOf nk=none) hl hn By (λp' nk s' _ a2 a3 a4=>⟨a4.2,p',a4.1.1,a4.1.2,a2,a3⟩) g
end
section
variable {X:Cx}{tg:Expr}
def Qe:R2:=λx y H Q=>∃a b,x=.ref a/\y=.ref b/\∃xs,H a=some (.lst xs)/\H b=some (.lst [])/\Q (.bl (decide (xs=[]))) H
end
end L2
end
section
namespace L2
open PySem PySem.Spec PyProof.Rows Builtin Builtin.Str
section
variable {X:Cx}
def Qc(neg:Bool):R2:=λx y H Q=>∃(c:Nat) (z:Str),x=.str ⟨#[c]⟩/\y=.str z/\Q (.bl (if neg then !decide (c∈z.cps.toList) else decide (c∈z.cps.toList))) H
def T8:R2:=λx y H Q=>∃(z:Str) (n:Int),x=.str z/\y=.int n/\2<=n/\n<=10000/\1<=z.length/\z.length<=100/\∀u:Str,u.cps.toList=(List.replicate n.toNat z.cps.toList).flatten->Q (.str u) H
end
theorem BJ{x:Str}{g:TG}{tb:TS}{D:Ends}{σ:St}{H:Hp}(Pv:Nat->St->Hp->Prop)(h0:Pv 0 σ H)
  (hs:∀i c σ H,x.cps[i]?=some c->Pv i σ H->g (.str ⟨#[c]⟩) σ H λσ2 H2=>tb { D with nx:=Pv (i+1),ct:=Pv (i+1),bk:=D.nx } σ2 H2) (hd:∀σ H,Pv x.cps.size σ H->D.nx σ H):o9 (Yj x) g tb D σ H:=by
 refine⟨λi m σ H=>m=x.cps.size-i/\i<=x.cps.size/\Pv i σ H,⟨x.cps.size,by simp,dg _,h0⟩,?_⟩
 rintro i m σ H ⟨rfl,hi,p⟩
 by_cases gS:i<x.cps.size
 ·refine .inr ⟨gS,Pv (i+1),λσ' H' p'=>⟨x.cps.size-(i+1),by omega,rfl,gS,p'⟩,λv H' y=>?_⟩
  obtain⟨e,c0,ec,ey⟩:=y
  subst e ey
  exact hs i c0 σ _ ec p
 ·have e:i=x.cps.size:=by omega
  subst e
  exact .inl ⟨rfl,hd σ H p⟩
end L2
end
section
namespace L2
open PySem PySem.Spec PyProof.Rows
section
variable {X:Cx}{pins:List (Addr×Obj)}{s:Shared}{σ:St}{H:Hp}{A:Around}
def W0(v:V):Prop:=fC v=true\/∃a,v=.ref a
def Ze:R2:=λx y H Q=>∃a b l l' m m' c,x=.ref a/\y=.ref b/\H a=some (.tup [.ref l,.ref m,.bl c])/\H b=some (.tup [.ref l',.ref m',.bl c])/\∃us vs,H l=some (.lst us)/\H l'=some (.lst us)/\H m=some (.lst vs)/\H m'=some (.lst vs)/\
 (∀v∈us,W0 v)/\(∀v∈vs,W0 v)/\Q (.bl false) H
def HN(tk tv:TE):TE:=λσ H Q=>∀p,H p=none->tk σ (upd H p (.dK [])) λx H1=>tv σ H1 λy H2=>H2 p=some (.dK [])/\∃cu:List (Key×V),[(x,y)]=cu.map (λkv=>(kV kv.1,kv.2))/\cu.length<=15/\Q (.ref p) (upd H2 p (.dK (iS [] cu)))
theorem Eu{pos:Pos}{k v:Expr}{tk tv:TE}(hk:ZE X k tk)(hv:ZE X v tv):ZE X (.Dict [some k] [v] pos) (HN tk tv):=⟨Mu (Jd hk.to hv.to Mk) rfl rfl (by simp) (by simp)⟩
end
section
variable {X:Cx}
def IK:List V->Hp->VK->Prop:=λvs H Q=>∃n:Int,vs=[.int n]/\n.natAbs.log2<1920/\Q (.str (Str.ofString (toString n))) H
theorem Gv:cC X (.type "str") IK:=by
 intro pins s σ H vs us Q I rv h
 obtain⟨n,rfl,hn,q⟩:=h
 obtain⟨u,rfl,ru⟩:=vals1 rv
 obtain⟨t,rfl⟩:=ru
 exact PySem.P.str_of_int hn ⟨.str _,H,I.tok _,⟨_,rfl⟩,q⟩
def Ug:List V->Hp->VK->Prop:=λvs H Q=>∃x n,vs=[.str x]/\PySem.intText? x=some n/\x.length<=640/\Q (.int n) H
end
section
variable {X:Cx}{v v₁ v₂:Expr}{rest:List Expr}{pos:Pos}{tv:TE}
abbrev TJ:=St->Hp->Str->(Str->Hp->Prop)->Prop
def aAK:TJ:=λ_ H out Q=>out.length<=sizeLine/\Q out H
def U8(tv:TE)(t:TJ):TJ:=λσ H out Q=>tv σ H λx H1=>∃y,x=.str y/\(out++y).length<=sizeLine/\t σ H1 (out++y) Q
def Tz(t:TE):TE:=λσ H Q=>t σ H λx H1=>∃n:Int,x=.int n/\n.natAbs.log2<1920/\Q (.str (Str.ofString (toString n))) H1
def Tx(t:TE):TE:=λσ H Q=>t σ H λx H1=>∃y:Str,x=.str y/\y.length<=sizeLine/\Q (.str y) H1
def Tw(t:TJ):TE:=λσ H Q=>t σ H Str.empty λy H'=>Q (.str y) H'
end
end L2
end
section
namespace L2
open PySem PySem.Spec PyProof.Rows
open PySem.W (Frag Looks)
end L2
end
section
namespace L2
open PySem PySem.Spec PyProof.Rows
end L2
end
section
namespace L2
open PySem
theorem cI{H H1:Hp}{p:Addr}{o:HO}(a:bz H H1)(hn:H p=none):bz H (upd H1 p o):=λb u e=>by rw[aB (az e hn)];exact a b u e
theorem oC{qs:List Addr}{i:Nat}{x:V}(h:(List.map V.ref qs)[i]?=some x):∃q,qs[i]?=some q/\x=.ref q:=by
 rw[cW]at h
 cases e:qs[i]? with
 | none=>rw[e]at h;cases h
 | some q=>rw[e]at h;exact⟨q,rfl,(dm h).symm⟩
theorem ak{H:Hp}{p:Addr}(h:H p=none)(o:HO):bz H (upd H p o):=λb u q=>by rw[aB (az q h)];exact q
theorem kl(m:Int)(y:List Int):JP (.int m) (List.map V.int y)=decide (m∈y):=by
 unfold JP
 rw[List.any_map,nr,List.any_eq_true,iA]
 constructor
 ·rintro⟨z,hz,e⟩
  have:z=m:=by simpa [Ea]using e
  rw[<-this];exact hz
 ·intro h
  exact⟨m,h,by simp[Ea]⟩
def hv(l:Addr)(a b c d e:Int):HO:=.lst [.ref l,.int a,.int b,.int c,.int d,.int e]
def KH(l:Addr)(o:HO):Prop:=∃a b c d e,o=hv l a b c d e/\0<=a
def z5:Sp:=λvs H Q _=>∃h,vs=[.ref h]/\∃l a b c d e,H h=some (hv l a b c d e)/\Q (.int (d*48271%2147483647+e*40693%2147483399)) (upd H h (hv l a b c (d*48271%2147483647) (e*40693%2147483399)))
def Ie:Sp:=λvs H Q _=>∃h,vs=[.ref h]/\∃l ns o,H h=some o/\KH l o/\H l=some (.lst (List.map V.int ns))/\∀o',KH l o'->Q .non (upd H h o')
def vV:Sp:=λvs H Q _=>∃h m,vs=[.ref h,.int m]/\1<=m/\m<2 ^ 300/\∃l ns o,H h=some o/\KH l o/\H l=some (.lst (List.map V.int ns))/\∀r o',0<=r->r<m->KH l o'->Q (.int r) (upd H h o')
def Hd(H:Hp)(h l:Addr):Prop:=∃ns o,H h=some o/\KH l o/\H l=some (.lst (List.map V.int ns))
def bX(H:Hp)(h:Addr):Prop:=∃l,Hd H h l
structure Dr(h:Addr)(H H':Hp):Prop where
 keep:∀b o,b≠h->H b=some o->H' b=some o
 hand:∀l,Hd H h l->Hd H' h l
theorem Dr.refl{h:Addr}{H:Hp}:Dr h H H:=⟨λ_ _ _ e=>e,λ_ x=>x⟩
theorem Dr.trans{h:Addr}{H H1 H2:Hp}(a:Dr h H H1)(b:Dr h H1 H2):Dr h H H2:=⟨λc o hc e=>b.keep c o hc (a.keep c o hc e),λl x=>b.hand l (a.hand l x)⟩
theorem Dr.aR{h:Addr}{H H1:Hp}(a:Dr h H H1)(x:bX H h):bX H1 h:=let ⟨l,y⟩:=x;⟨l,a.hand l y⟩
theorem Hd.apart{H:Hp}{h l:Addr}(x:Hd H h l):l≠h:=by
 obtain⟨ns,o,e1,⟨a,b,c,d,e,rfl,_⟩,e3⟩:=x
 intro z
 rw[z,e1]at e3
 have q:=dm e3
 unfold hv at q
 injection q with q
 match ns,q with
 | [],q=>cases q
 | n::_,q=>injection q with q1 _;cases q1
theorem Dr.new{h p:Addr}{H H1:Hp}{o:HO}(a:Dr h H H1)(hp:H1 p=none):Dr h H (upd H1 p o):=by
 refine⟨λc o' hc e=>?_,λl x=>?_⟩
 ·rw[aB (az (a.keep c o' hc e) hp)];exact a.keep c o' hc e
 ·obtain⟨ns,oh,e1,e2,e3⟩:=a.hand l x
  exact⟨ns,oh,by rw[aB (az e1 hp)];exact e1,e2,by rw[aB (az e3 hp)];exact e3⟩
theorem Dr.put{h p:Addr}{H H1:Hp}{o':HO}(a:Dr h H H1)(hn:H p=none):Dr h H (upd H1 p o'):=by
 refine⟨λc o' hc e=>?_,λl x=>?_⟩
 ·rw[aB (az e hn)];exact a.keep c o' hc e
 ·obtain⟨ns,oh,e1,e2,e3⟩:=a.hand l x
  obtain⟨_,_,f1,_,f3⟩:=x
  exact⟨ns,oh,by rw[aB (az f1 hn)];exact e1,e2,by rw[aB (az f3 hn)];exact e3⟩
theorem bX.ne{h p:Addr}{H:Hp}(x:bX H h)(hp:H p=none):p≠h:=by
 obtain⟨l,ns,oh,e1,_,_⟩:=x
 exact(az e1 hp).symm
theorem Dr.free{h p:Addr}{H H1:Hp}(a:Dr h H H1)(x:bX H h)(hp:H1 p=none):H p=none:=by
 cases e:H p with
 | none=>rfl
 | some o=>
  have n:=(a.aR x).ne hp
  have:=a.keep p o n e
  rw[hp]at this;cases this
theorem bQ{h:Addr}{m:Int}{H0 H:Hp}{Q:VK}{E:XK}(hd:bX H0 h)(d:Dr h H0 H)(h1:1<=m)(h2:m<2 ^ 300)(q:∀r H',0<=r->r<m->Dr h H0 H'->(∀b,b≠h->H' b=H b)->Q (.int r) H'):vV [.ref h,.int m] H Q E:=by
 obtain⟨l,x⟩:=hd
 have x':=d.hand l x
 have ap:=x'.apart
 obtain⟨ns,oh,e1,e2,e3⟩:=x'
 refine⟨h,m,rfl,h1,h2,l,ns,oh,e1,e2,e3,λr o' r0 r1 ho=>q r _ r0 r1 ⟨λc o hc e=>?_,λl' x'=>?_⟩ (λb hb=>aB hb)⟩
 ·rw[aB hc];exact d.keep c o hc e
 ·have y:=d.hand l' x'
  have ap':=y.apart
  obtain⟨ns',oh',f1,f2,f3⟩:=y
  have el:l'=l:=by
   obtain⟨a,b,c,d,e,rfl,_⟩:=e2
   obtain⟨a',b',c',d',e',rfl,_⟩:=f2
   rw[e1]at f1
   have:=dm f1
   unfold hv at this
   injection this with this
   injection this with this _
   exact(V.ref.inj this).symm
  subst el
  exact⟨ns,o',ai,ho,by rw[aB ap];exact e3⟩
theorem sV{α:Type}(f:α->V)(xs:List α)(lo hi:Option Int):iX (xs.map f) lo hi=((xs.drop (HT.cH xs.length 0 lo)).take (HT.cH xs.length xs.length hi-HT.cH xs.length 0 lo)).map f:=by
 unfold iX;rw[aY,List.map_take,List.map_drop]
def Ij(K:PySem.W.Frag):Sp:=λvs H Q _=>∃a ns,vs=[.ref a]/\lG K H a (List.map V.int ns)/\∀h H',bz H H'->H h=none->bX H' h->Q (.ref h) H'
def Cr(x:List Int):Prop:=x.Pairwise (· < ·)
def aAs(k:Nat):V:=.int (k:Int)
theorem Jx{ks:List Nat}{i:Nat}{x:V}(h:(List.map aAs ks)[i]?=some x):∃k,ks[i]?=some k/\x=.int (k:Int):=by
 rw[cW]at h
 cases e:ks[i]? with
 | none=>rw[e]at h;cases h
 | some k=>rw[e]at h;exact⟨k,rfl,(dm h).symm⟩
theorem bX.oJ{h b:Addr}{H:Hp}{xs:List V}(x:bX H h)(e:H b=some (.tup xs)):b≠h:=by
 obtain⟨l,ns,o,e1,⟨_,_,_,_,_,rfl,_⟩,_⟩:=x
 exact sy e e1 (by intro z;cases z)
theorem qJ(xs:List V){k:Int}(hk:0<=k):iX xs none (some k)=xs.take k.toNat:=by
 have e:HT.cH xs.length xs.length (some k)=min k.toNat xs.length:=by
  show(if k<0 then _ else min k.toNat xs.length)=_
  rw[aE (by lia)]
 have e0:HT.cH xs.length 0 none=0:=rfl
 unfold iX
 rw[e,e0,vz,Nat.sub_zero]
 exact(List.take_eq_take_min ..).symm
end L2
end
section
namespace L2
open PySem PySem.Spec PyProof.Rows
section
variable {X:Cx}
theorem Gy:bootBuiltins "enumerate" = some (.type "enumerate"):=by decide +kernel
end
section
variable {prog:Program}{w:World}{A:Around}{E:Value->Shared->Prop}{s:Shared}
theorem V3(a:Value)(t:Tok):checkTypeCall "enumerate" ⟨[a],[(Str.ofString "start",.int 1 t)]⟩=pure ():=by kernel_rfl
theorem V4(a:Value)(t:Tok):checkBuiltinCall "enumerate.__new__" ⟨[.type "enumerate",a],[(Str.ofString "start",.int 1 t)]⟩=pure ():=by kernel_rfl
theorem Nw(o a:Value)(t:Tok):argsOk "object.__init__" ⟨[o,a],[(Str.ofString "start",.int 1 t)]⟩:=by unfold argsOk;kernel_rfl
abbrev X9(a b:Addr)(c:Int):Obj:={ cls:=.type "enumerate",data:=.fields #[.none,.bool false,.ref b,rawInt c,.none,.none] }
theorem RJ(l:Addr)(items:Array Value)(n:Nat)(dct:Option Addr)(sl:Array (Option Value))(t:Tok) :
  Meets (Builtin.«enumerate.__new__» ⟨[.type "enumerate",.ref l],[(Str.ofString "start",.int 1 t)]⟩) (λ_ R s=>s.heap.get? l=some { cls:=.type "list",dict:=dct,data:=.seq items n,slots:=sl }/\
   R (.ok (.ret (.ref (s.heap.push { cls:=.type "list_iterator",data:=.fields #[.ref l,.int 0 0] }).objs.size))) { s with heap:=(s.heap.push { cls:=.type "list_iterator",data:=.fields #[.ref l,.int 0 0] }).push (X9 0 s.heap.objs.size 1) }):=
 .of_wp λprog w A R s h=>by
  obtain⟨hp,g,d,tk,os⟩:=s
  obtain⟨hl,h⟩:=h
  have Vd:=sub_enumerate
  have hL:Heap.IsList (Shared.heap ⟨hp,g,d,tk,os⟩) l items:=⟨_,hl,rfl,n,rfl⟩
  wp_walk using zF hl
  refine wpAny_stack_any λst=>aM ?_
  split
  ·rename_i c _ _ _ _ _
   cases (c==Value.type "enumerate") <;> (wp_walk using zF hl,rB hL;exact⟨_,rfl,h⟩)
  ·wp_walk using zF hl,rB hL
   exact⟨_,rfl,h⟩
theorem RG(l:Addr)(t:Tok)(o:Value):Meets (Builtin.«object.__init__» ⟨[o,.ref l],[(Str.ofString "start",.int 1 t)]⟩) (λ_ R s=>s.TypeIs o "enumerate"/\R (.ok (.ret .none)) s):=
 .of_wp λprog w A R s h=>by
  obtain⟨hT,hq⟩:=h
  have k1:=F.called_enumerate.init.lookup
  have k2:=F.called_enumerate.made
  have k3:(some "enumerate.__new__" != some "object.__new__")=true:=by decide
  repeat (any_goals (first | assumption | wp_step))
  exact⟨_,rfl,hq⟩
theorem Ny{l:Addr}{items:Array Value}{t:Tok}{Q:Value->Shared->Prop}(hL:s.heap.IsList l items)
  (h:∀h',IsEnum h' (s.heap.objs.size+1) s.heap.objs.size 1 .none->h'.IsListIter s.heap.objs.size l 0->(∀b o,s.heap.get? b=some o->h'.get? b=some o)->Q (.ref (s.heap.objs.size+1)) { s with heap:=h' }) :
  wpAny (model prog w) A (call (.type "enumerate") [.ref l] [(Str.ofString "start",.int 1 t)]) Q E s:=by
 obtain⟨⟨c,dct,dt,sl⟩,hl,hc,n,hd⟩:=hL
 obtain rfl:c=.type "list":=hc
 obtain rfl:dt=.seq items n:=hd
 have z1:(s.heap.push { cls:=.type "list_iterator",data:=.fields #[.ref l,.int 0 0] }).objs.size=s.heap.objs.size+1:=qM ..
 have ft:=F.called_enumerate
 obtain⟨c1,tl,aAV⟩:=ft.mro
 have k1:=ft.made
 have k2:=ft.sub
 have k3:=ft.notType
 have k4:=ft.canCreate
 have k5:=V3 (.ref l) t
 refine jS (vw ?_)
 show wpAny _ _ (callAny (.type "enumerate") _) _ _ _
 refine aM ⟨vB _ (by decide +kernel),qO F.entry_type_call ?_⟩
 rw[Around.under_plain (weight_type_call_type "enumerate" [.ref l] _) (units_type_call_type "enumerate" [.ref l] _)]
 repeat (any_goals (first | assumption | wp_step))
 have he:IsEnum ((s.heap.push { cls:=.type "list_iterator",data:=.fields #[.ref l,.int 0 0] }).push (X9 0 s.heap.objs.size 1)) (s.heap.objs.size+1) s.heap.objs.size 1 .none:=by
  have:=dj (s.heap.push { cls:=.type "list_iterator",data:=.fields #[.ref l,.int 0 0] }) (o:=X9 0 s.heap.objs.size 1) rfl
  rw[z1]at this
  exact this
 have hq:=h _ he ⟨_,cq _ (dj _ rfl),rfl,rfl⟩ λb o x=>cq _ (cq _ x)
 generalize eG:(s.heap.push { cls:=.type "list_iterator",data:=.fields #[.ref l,.int 0 0] }).push (X9 0 s.heap.objs.size 1)=G at he hq
 refine lH (qV ft.plain F.entry_enumerate_new (qZ (V4 _ t) (RJ l items n dct sl t prog w A.in1 (wants (λo s1=>o=.ref (s.heap.objs.size+1)/\s1={ s with heap:=G }) E) s ⟨hl,by rw[z1,eG];exact⟨rfl,rfl⟩⟩))) λr s1 hr=>?_
 cases r with
 | error e=>exact hr
 | ok fl=>
  cases fl with
  | ret o=>
   obtain⟨rfl,rfl⟩:=hr
   have hT:({ s with heap:=G }:Shared).TypeIs (.ref (s.heap.objs.size+1)) "enumerate":=⟨_,he,rfl⟩
   have k6:=ft.init.lookup
   have k7:=ft.init.bind (.ref (s.heap.objs.size+1))
   repeat (any_goals (first | assumption | wp_step))
   refine lH (qV ft.init.plain F.entry_object_init (ft.init.check _ _ _ _ _ _ _ _ hT (Nw _ _ t) (RG l t _ prog w A.in1 (wants (λv s2=>v=.none/\s2={ s with heap:=G }) E) _ ⟨hT,rfl,rfl⟩))) λr s2 hr2=>?_
   cases r with
   | error e=>exact hr2
   | ok fl2=>
    cases fl2 with
    | ret v=>
     obtain⟨rfl,rfl⟩:=hr2
     repeat (any_goals (first | assumption | wp_step))
    | _=>exact hr2.elim
  | _=>exact hr.elim
end
def Sq(K : PySem.W.Frag)(a : Addr)(n : Nat) : It :=
  ⟨λi H => i<n ∧ ∃ xs, lG K H a xs ∧ xs.length=n,
   λi H v H' => ∃ p, H p=none ∧ v=.ref p ∧ ∀ xs, lG K H a xs → ∃ x, xs[i]?=some x ∧ H'=upd H p (.tup [.int ((i : Int)+1), x]),
   λi H => i=n ∧ ∃ xs, lG K H a xs ∧ xs.length=n⟩
theorem Kj{prog:Program}{w:World}{A:Around}(hh:A.handled=none)(it l:Addr)(qH:l≠it)(items:Array Value) :
  Draws prog w A it [it,l] (items.size+1) (λi v=>∃k,i=k+1/\items[k]?=some v) (λi h=>∃k,i=k+1/\h.IsListIter it l k/\h.IsList l items):=by
 have D:=Draws.list (prog:=prog) (w:=w) hh it l qH items
 refine⟨λi h ⟨k,_,st⟩=>D.live k h st,λi h h' ⟨k,e,st⟩ kp=>⟨k,e,D.frame k h h' st kp⟩,λi s Q E hi ⟨k,e,st⟩ hQ=>?_,λs Q E ⟨k,e,st⟩ hE=>?_⟩
 ·exact D.item k s Q E (by omega) st λx h' tk p nk sb=>hQ x h' tk ⟨k,e,p⟩ ⟨k+1,by omega,nk⟩ sb
 ·obtain rfl:k=items.size:=by omega
  exact D.done s Q E st hE
theorem zT{P:Program}{w:World}{K:PySem.W.Frag}{elts:List Expr}{kk:Nat}{vP:Pos}{e it a:Addr}(hei:e≠it)(hea:e≠a)(hai:a≠it)(n:Nat) :
  Turn P w K (.Tuple elts kk vP) (Sq K a n) [e,it] e (λi h=>(∃old,IsEnum h e it ((i:Int)+1) old)/\h.IsListIter it a i) where
 mem:=by simp
 obj:=λi h st c hc=>by
  obtain⟨⟨old,he⟩,o1,e1,r1⟩:=st
  have Gh:c=e\/c=it:=by simpa using hc
  rcases Gh with rfl | rfl
  ·exact⟨_,he,λv q=>by cases q⟩
  ·obtain⟨_,d1⟩:=r1
   exact⟨_,e1,λv q=>by rw[d1]at q;cases q⟩
 keep:=λi h h' st k=>by
  obtain⟨⟨old,he⟩,j1⟩:=st
  exact⟨⟨old,k e (by simp) _ he⟩,j1.at λo e=>k it (by simp) o e⟩
 item:=by
  intro X hP hw hK hc i pins s σ H E I hf st hg
  subst hP hw hK
  obtain⟨hi,xs,Xo,lx⟩:=hg
  obtain⟨its,rv,p,_⟩:=I.list Xo
  have ex:xs[i]?=some (xs[i]'(by omega)):=cD (by omega)
  obtain⟨u,hu,ru⟩:=rv.get ex
  obtain⟨⟨old,he⟩,hit⟩:=st
  have he':IsEnum s.heap e it ((i+1:Nat):Int) old:=by push_cast;exact he
  refine wpAny_pyNext_enum_itemD (Kj (A:=X.A.in1) (I.ok.hd hc) it a hai its.toArray) he' ⟨i,rfl,hit,p.isList⟩ (by have:=rv.length;simp;omega) hei (by simp[hei,hea]) λx' h' tk px ho nk hT mP kp=>?_
  obtain⟨k,ek,hk⟩:=px
  obtain rfl:i=k:=by omega
  obtain rfl:u=x':=by
   have:its[i]?=some x':=by simpa using hk
   rw[hu]at this
   exact dm this
  obtain⟨k',ek',aAX,_⟩:=nk
  obtain rfl:i+1=k':=by omega
  refine⟨_,rfl,wpAny_letOwnedTupleGo_enum (s:={ s with heap:=h',toks:=tk+1 }) ho λh2 KY sb=>?_⟩
  have fr:∀c∈[e,it],c<s.heap.objs.size:=λc hc=>by
   have Gh:c=e\/c=it:=by simpa using hc
   rcases Gh with rfl | rfl
   ·exact bI he
   ·obtain⟨_,e1,_⟩:=hit;exact bI e1
  have I1:Inv X pins σ (upd H s.heap.objs.size (.tup [.int ((i:Int)+1),xs[i]'(by omega)])) { s with heap:=s.heap.push { cls:=.type "tuple",data:=.seq #[.int ((i+1:Nat):Int) tk,u] },toks:=tk+1 }:=
   I.laid (t':=tk+1) (λc o e=>cq _ e) (bB _) ⟨by show 2<=sizeLine;decide,[.int ((i+1:Nat):Int) tk,u],.cons ⟨tk,by push_cast;rfl⟩ (.cons ru .nil),_,dj _ rfl,rfl,_,rfl⟩
  have fn:∀c∈[e,it],(upd H s.heap.objs.size (.tup [.int ((i:Int)+1),xs[i]'(by omega)])) c=none:=λc hc=>by
   rw[aB (bJ (fr c hc))];exact(hf c hc).1
  have I2:Inv X pins σ (upd H s.heap.objs.size (.tup [.int ((i:Int)+1),xs[i]'(by omega)])) { s with heap:=h2,toks:=tk+1 }:=by
   refine Inv.CT (s:={ s with heap:=s.heap.push { cls:=.type "tuple",data:=.seq #[.int ((i+1:Nat):Int) tk,u] },toks:=tk+1 }) (h':=h2) (t':=tk+1) (ch:=[e,it]) I1 (λc o hc e1=>?_) (λc hc=>⟨fn c hc,(hf c hc).2⟩)
   have n1:c≠e:=λq=>hc (by simp[q])
   have n2:c≠it:=λq=>hc (by simp[q])
   by_cases Vr:c=s.heap.objs.size
   ·subst Vr
    have e':(s.heap.push { cls:=.type "tuple",data:=.seq #[.int ((i+1:Nat):Int) tk,u] }).get? s.heap.objs.size=some { cls:=.type "tuple",data:=.seq #[.int ((i+1:Nat):Int) tk,u] }:=dj _ rfl
    have e2:(s.heap.push { cls:=.type "tuple",data:=.seq #[.int ((i+1:Nat):Int) tk,u] }).get? s.heap.objs.size=some o:=e1
    rw[e']at e2;cases e2
    exact sb.extBut _ _ n1 hT
   ·have e0:s.heap.get? c=some o:=Af e1 Vr
    exact sb.extBut _ _ n1 (kp c o n1 n2 e0)
  refine⟨.ref s.heap.objs.size,_,I2,rfl,⟨_,I.bT.fresh (bB _),rfl,λxs' h1=>?_⟩,⟨⟨_,by simpa using KY⟩,aAX.extBut sb.extBut hei.symm⟩,fn⟩
  rw[I.yj h1 Xo]
  exact⟨_,ex,rfl⟩
 done:=by
  intro X hP hw hK hc i pins s σ H E I hf st hg
  subst hP hw hK
  obtain⟨hi,xs,Xo,lx⟩:=hg
  obtain⟨its,rv,p,_⟩:=I.list Xo
  have hl:=rv.length
  obtain⟨⟨old,he⟩,hit⟩:=st
  refine wpAny_pyNext_enum_endD (Kj (A:=X.A.in1) (I.ok.hd hc) it a hai its.toArray) he ⟨i,by simp;omega,hit,p.isList⟩ λh' kp=>⟨rfl,?_⟩
  exact I.CT (t':=s.toks) (ch:=[e,it]) (λc o hc e=>kp c o (λq=>hc (by simp[q])) e) hf
 self:=λ_ _ _ _ _ st h=>let ⟨⟨_,he⟩,_⟩:=st;wpAny_pyIter_enum he h
section
variable {X:Cx}
theorem Km{M:Model}{A:Around}{E:Value->Shared->Prop}{s:Shared}{env:Env}{pos:Pos}{T:String}{e:Expr}{rest:List Expr}{kws:List Keyword}{Q:Value->Shared->Prop}
  (h:wpAny M A (spliced (backTo pos (starEach (e::rest) env))) (λvs s₁=>wpAny M A (evalAll ((backToKw pos (keywordEach kws env)).map (·.2))) (λks s₂=>wpAny M A (call (.type T) vs (((backToKw pos (keywordEach kws env)).filterMap (·.1)).zip ks)) Q E s₂) E s₁) E s)
  (he:starEach (e::rest) env=(false,eval e env)::starEach rest env:=by rfl) (Bs:(backTo pos (starEach (e::rest) env)).any (·.1)=false:=by rfl) (t7:(backToKw pos (keywordEach kws env)).all (·.1.isSome)=true:=by rfl) (hkw:(backToKw pos (keywordEach kws env)).any (·.1.isNone)=false:=by rfl) :
  wpAny M A (callWith pos (.type T) [] (backTo pos (starEach (e::rest) env)) (backToKw pos (keywordEach kws env))) Q E s:=by
 unfold callWith
 refine au (dG (cP (evalArgs_kw2 (Q:=λa s₁=>wpAny M A (call (.type T) ([]++a.pos) a.kw) Q E s₁) t7 h he) (λa s1 h1=>au (mz ?_)) λ_ _ x=>x))
 simp only[Bs,hkw,Bool.or_false]
 refine au (aM ?_)
 exact au (cP h1 (λr s2 hr=>au (dG (wpAny_point (aM hr)))) λ_ _ x=>x)
def Bq(K:PySem.W.Frag)(ta:TA):TI:=λσ H R=>ta σ H λvs H1=>∃a,vs=[.ref a]/\∃xs,lG K H1 a xs/\R (Sq K a xs.length) H1
theorem Ji{a k:Expr}{elts:List Expr}{kk:Nat}{vP kp:Pos}{ta:TA}{p pos:Pos}(hg:Gl X "enumerate")(hm:X.mg "enumerate" = none)(ha:PA X [a] ta)(hk:PE X k (tC (.int 1)))(hs:starEach [a] X.env=[(false,eval a X.env)]:=by rfl) :
  PI X (.Tuple elts kk vP) (.Call (.Name "enumerate" p) [a] [⟨some "start",k,kp⟩] pos) (Bq X.K ta):=by
 intro pins s σ H R I h
 refine pA (mK I hg hm Gy ?_)
 refine Km (cA (ha pos pins s σ H _ I h) λus s1 ⟨vs,H1,I1,r1,q1⟩=>?_) hs (by rw[hs];rfl)
 obtain⟨t1,e,xs,hx,q⟩:=q1
 subst e
 obtain⟨u,rfl,ru⟩:=vals1 r1
 cases ru
 refine cA ((Dn (nm:=some (Str.ofString "start")) (kpos:=kp) hk Je) pos pins s1 σ H1 (λzs H2=>zs=[.int 1]/\H2=H1) I1 ⟨rfl,rfl⟩) λws s2 ⟨zs,H2,I2,r2,ez,eh⟩=>?_
 subst ez eh
 obtain⟨u2,rfl,Y0⟩:=vals1 r2
 obtain⟨tk,rfl⟩:=Y0
 obtain⟨its,rv,p1,_⟩:=I2.list hx
 have l1:t1<s2.heap.objs.size:=let ⟨_,e,_⟩:=p1.isList;bI e
 show wpAny _ _ (call (.type "enumerate") [.ref t1] [(Str.ofString "start",.int 1 tk)]) _ _ _
 refine Ny p1.isList λh' hE hI k=>?_
 refine wpAny_pyIter_enum hE ?_
 refine⟨_,[_,_],_,_,H2,rfl,I2.kept (t':=s2.toks) k,zT (e:=s2.heap.objs.size+1) (it:=s2.heap.objs.size) (a:=t1) (Nat.succ_ne_self _) (pe (pz l1)) (bJ l1) xs.length,⟨⟨_,by simpa using hE⟩,hI⟩,λc hc=>?_,q⟩
 have Gh:c=s2.heap.objs.size+1\/c=s2.heap.objs.size:=by simpa using hc
 have le:s2.heap.objs.size<=c:=by
  rcases Gh with e | e <;> (rw[e];first | exact zf _ _ | exact bB _)
 exact I2.Kb le (I2.bT.fresh le)
theorem Et{a k:Expr}{elts:List Expr}{kk:Nat}{vP kp:Pos}{ta:TA}{p pos:Pos}(hg:Gl X (Str.ofString "enumerate"))(hm:X.mg (Str.ofString "enumerate")=none)(ha:ZA X [a] ta)(hk:ZE X k (tC (.int 1)))(hs:starEach [a] X.env=[(false,eval a X.env)]:=by rfl) :
  ZI X (.Tuple elts kk vP) (.Call (.Name (Str.ofString "enumerate") p) [a] [⟨some (Str.ofString "start"),k,kp⟩] pos) (Bq X.K ta):=⟨Ji hg hm ha.to hk.to hs⟩
theorem wz{K:PySem.W.Frag}{a:Addr}{xs:List V}{g:TG}{tb:TS}{D:Ends}{σ:St}{H:Hp}(Pv:Nat->St->Hp->Prop)(h0:Pv 0 σ H)(ha:∀i σ H,i<=xs.length->Pv i σ H->H a=some (.lst xs))
  (hs:∀i x p σ H,xs[i]?=some x->H p=none->Pv i σ H->g (.ref p) σ (upd H p (.tup [.int ((i:Int)+1),x])) λσ2 H2=>tb { D with nx:=Pv (i+1),ct:=Pv (i+1),bk:=D.nx } σ2 H2) (hd:∀σ H,Pv xs.length σ H->D.nx σ H):o9 (Sq K a xs.length) g tb D σ H:=by
 refine⟨λi m σ H=>m=xs.length-i/\i<=xs.length/\Pv i σ H,⟨xs.length,by simp,dg _,h0⟩,?_⟩
 rintro i m σ H ⟨rfl,hi,p⟩
 have hA:=ha i σ H hi p
 by_cases gS:i<xs.length
 ·refine .inr ⟨⟨gS,xs,bD hA,rfl⟩,Pv (i+1),λσ' H' p'=>⟨xs.length-(i+1),by omega,rfl,gS,p'⟩,λv H' yl=>?_⟩
  obtain⟨pp,hp,rfl,hx⟩:=yl
  obtain⟨x,ex,rfl⟩:=hx xs (bD hA)
  exact hs i x pp σ H ex hp p
 ·have e:i=xs.length:=by omega
  subst e
  exact .inl ⟨⟨rfl,xs,bD hA,rfl⟩,hd σ H p⟩
end
end L2
end
section
namespace L2
open PySem PySem.Spec PySem.W PyProof.Rows Builtin
def uJ:Sp:=λvs H Q _=>∃a,vs=[.ref a]/\∃(l:Int) (x:List V),H a=some (.tup (.int l::x))/\Q (.int l) H
def lB(ss:List Int)(i j:Nat):Bool:=decide (ss.getD i 0<ss.getD j 0)
theorem yn{ss:List Int}(nd:ss.Nodup):Ord (lB ss) ss.length where
 tr:=λi j k hi hj hk h1 h2=>by
  unfold lB at *
  simp only[iA]at *
  lia
 asy:=λi j hi hj h=>by
  unfold lB at *
  simp only[iA,decide_eq_false_iff_not]at *
  lia
 tot:=λi j hi hj d=>by
  have ne:ss.getD i 0≠ss.getD j 0:=by
   rw[fX,fX,cD hi,cD hj]
   exact λe=>d ((za nd).mp e)
  unfold lB
  simp only[iA]
  lia
section
variable {X:Cx}{pins:List (Addr×Obj)}{σ:St}{H:Hp}{s:Shared}
theorem Hg.Wy{D S:Addr}{e1:Nat}{H':Hp}{s':Shared}{kA:Array Value}(I:Inv X pins σ H s)(m:Hg X H s D S e1 H' s' kA)(hD:s.heap.objs.size<=D)(hS:s.heap.objs.size<=S){k:Nat}{f:Addr}{fd:FuncData}{pm:Str}(F:cz X.prog X.w X.K X.mg X.base iq k f fd [pm] uJ)(hr:cS k X.A.in1.in1)
  (hb:Binds X.K fd [pm] []) {a:Addr} {l:Int} {xs:List V} (ha:H a=some (.tup (.int l::xs))) {Q:Value->Shared->Prop} {E:Value->Shared->Prop}
  (q:∀t s2,Hg X H s D S e1 H' s2 kA->Q (.int l t) s2):wpAny (model X.prog X.w) X.A.in1.in1 (PySem.call (.ref f) [.ref a]) Q E s':=by
 have I':Inv X pins σ H' s':=I.call' (ch:=[]) m.os m.un m.bT m.bare (λb z=>absurd z (by simp))
 have nfD:∀b,s.heap.objs.size<=b->b∉lE X.stack:=λb hb z=>by
  rcases dh.mp (I.sg b z) with z | z
  ·exact absurd (cX I.lt hb) (by rw[z];exact jI _)
  ·exact I.Uw hb z
 refine jS (lH (F.run X.A.in1.in1 X.stack s' H' ⟨[.ref a],[]⟩ [.ref a] [.ref a] (λv H2=>v=.int l/\H2=H') (λ_ _ _=>False) hr I'.Nv.in1.in1 (hb s' [.ref a] I'.jP rfl) (.cons rfl .nil) ⟨a,rfl,l,xs,m.same _ _ ha,rfl,rfl⟩) λr s2 hq=>?_)
 cases r with
 | error e=>exact False.elim hq
 | ok fl=>
  cases fl with
  | next=>exact False.elim hq
  | brk=>exact False.elim hq
  | cont=>exact False.elim hq
  | ret u=>
   refine hide λgG hG=>?_
   obtain⟨v,H2,os,bare,un,bT,rv,rfl,rfl⟩:=hq
   refine hG ?_
   obtain⟨t,rfl⟩:=(rv:∃t,u=.int l t)
   obtain⟨eS,oS⟩:=m.oS
   exact q t s2 ⟨os.trans m.os,bare,m.un.trans un,bT,m.same,un.free D _ m.oD m.nD (by simp),un.free S _ oS m.nS (by simp),un.keep D _ m.oD m.nD (nfD D hD) (by simp),eS,un.keep S _ oS m.nS (nfD S hS) (by simp)⟩
def KC(ss:List Int)(n:Nat)(kA:Array Value):Prop:=kA.size=n/\∀(j:Nat) v,kA[j]?=some v->∃l t,v=.int l t/\ss[j]?=some l
theorem Bn{D S:Addr}{e1:Nat}{H0:Hp}{s0:Shared}(I:Inv X pins σ H s)(m:Hg X H s D S e1 H0 s0 #[])(hD:s.heap.objs.size<=D)(hS:s.heap.objs.size<=S)(Ow:D≠S){k:Nat}{f:Addr}{fd:FuncData}{pm:Str}(F:cz X.prog X.w X.K X.mg X.base iq k f fd [pm] uJ)(hr:cS k X.A.in1.in1)
  (hb:Binds X.K fd [pm] []) {as:List Addr} {ss:List Int} (ls:as.length=ss.length) (By:as.length<64) (hs:∀(i:Nat) a l,as[i]?=some a->ss[i]?=some l->∃x,H a=some (.tup (.int l::x))) {Q:PUnit->Shared->Prop} {E:Value->Shared->Prop} {body:Value->PUnit->Sem (ForInStep PUnit)}
  (ko:∀a R s1,wpAny (model X.prog X.w) X.A.in1.in1 (PySem.call (.ref f) [.ref a]) (λv s2=>wpAny (model X.prog X.w) X.A.in1.in1 (Builtin.List.listUpdate (.ref S) (·.push v)) (λ_ s3=>R (.yield ⟨⟩) s3) E s2) (λ_ _=>False) s1->wpAny (model X.prog X.w) X.A.in1.in1 (body (.ref a) ⟨⟩) R E s1)
  (q:∀H' s' kA,Hg X H s D S e1 H' s' kA->KC ss as.length kA->Q ⟨⟩ s'):wpAny (model X.prog X.w) X.A.in1.in1 (forIn (as.map Value.ref) PUnit.unit body) Q E s0:=by
 refine ksk_fold (λi s'=>∃H' kA,Hg X H s D S e1 H' s' kA/\KC ss i kA) (as.map Value.ref) 0 s0 ⟨H0,#[],m,rfl,λj v e=>by simp at e⟩ (λj x s1 hx hJ=>?_) λs' hd=>?_
 ·refine hide λgG hG=>?_
  obtain⟨H',kA,m1,ks,kk⟩:=hJ
  refine hG ?_
  rw[cW]at hx
  cases ea:as[j]? with
  | none=>rw[ea]at hx;cases hx
  | some a=>
   rw[ea]at hx
   cases hx
   have hj:j<as.length:=(eQ.mp ea).1
   have es:ss[j]?=some ss[j]:=cD (by lia)
   obtain⟨qs,hqs⟩:=hs j a _ ea es
   refine ko a _ s1 (m1.Wy I hD hS F hr hb hqs λt s2 m2=>?_)
   obtain⟨eS,oS⟩:=m2.oS
   have z1:kA.size<=sizeLine:=j3 (by lia)
   have z2:(kA.push (.int ss[j] t)).size<=sizeLine:=by rw[Array.size_push];exact j3 (by lia)
   refine my (xs:=kA) oS rfl ⟨rfl,_,kA.push (.int ss[j] t),m2.push hS Ow (·.push (.int ss[j] t)),by rw[Array.size_push,ks],λi v ev=>?_⟩ z1 (vF z2)
   by_cases hi:i<kA.size
   ·rw[Array.getElem?_push_lt hi]at ev
    exact kk i v (by rw[lK hi];exact ev)
   ·have hi2:i=kA.size:=by
     have:=(pE.mp ev).1
     rw[Array.size_push]at this
     lia
    subst hi2
    rw[Array.getElem?_push_size]at ev
    cases ev
    rw[ks,Nat.zero_add]
    exact⟨_,t,rfl,es⟩
 ·refine hide λgG hG=>?_
  obtain⟨H',kA,m1,ks,kk⟩:=hd
  refine hG ?_
  rw[aY,Nat.zero_add]at ks
  exact q H' s' kA m1 ⟨ks,kk⟩
theorem Fo{D S:Addr}{e1:Nat}{H':Hp}{s':Shared}{kA:Array Value}{as:List Addr}{ss:List Int}{Pq:PySem.Fin->Shared->Prop}{E:Value->Shared->Prop}(m:Hg X H s D S e1 H' s' kA)(hD:s.heap.objs.size<=D)(hS:s.heap.objs.size<=S)(Ow:D≠S)
  (kk:KC ss as.length kA) (ls:as.length=ss.length) (By:as.length<64) (nd:ss.Nodup)
  (q:∀s2 p,lj p as.length->n6 (lB ss) p as.length->Fin X H s D H' s2 (p.toList.map λi=>as.getD i 0)->Pq (.done (.ret .none)) s2):wpAny (model X.prog X.w) X.A.in1.in1 (ksk_end D false (as.map Value.ref).toArray e1 (.ref S) kA) Pq E s':=by
 obtain⟨ks,kv⟩:=kk
 have hzs:(kA.zip (as.map Value.ref).toArray).size=as.length:=by rw[Array.size_zip,ks,cV,aY,Nat.min_self]
 have itm:∀i,i<as.length->∃l t,kas_item (kA.zip (as.map Value.ref).toArray) i=(.int l t,.ref (as.getD i 0))/\ss[i]?=some l:=λi hi=>by
  have hi1:i<kA.size:=by lia
  obtain⟨l,t,e1,e3⟩:=kv i kA[i] (lK hi1)
  obtain⟨a,e2⟩:∃a,as[i]?=some a:=⟨_,cD hi⟩
  refine⟨l,t,?_,e3⟩
  unfold kas_item
  rw[pF,lK (by rw[hzs];exact hi),Option.getD_some,Array.getElem_zip,e1,getD_some e2]
  congr 1
  have:(as.map Value.ref)[i]?=some (.ref a):=by rw[cW,e2];rfl
  have h2:=eQ.mp this
  simpa using h2.2
 have Ur:∀p:Array Nat,lj p as.length->(p.map (kas_item (kA.zip (as.map Value.ref).toArray))).map (·.2)=((p.toList.map λi=>as.getD i 0).map Value.ref).toArray:=λp hp=>by
  apply Array.ext'
  rw[Array.toList_map,Array.toList_map,zA,iz,iz]
  refine wL λi hi=>?_
  have gS:i<as.length:=by
   have:=(hp.perm.mem_iff (a:=i)).mp (by simpa using hi)
   simpa using this
  obtain⟨l',t',e,_⟩:=itm i gS
  show(kas_item _ i).2=_
  rw[e]
  rfl
 have Wz:∀p:Array Nat,lj p as.length->(p.toList.map λi=>as.getD i 0).length<=100000:=λp hp=>by rw[aY,dX,hp.size];lia
 unfold ksk_end
 dsimp only
 simp only[qT,iP]
 by_cases h2:(as.map Value.ref).toArray.size<2
 ·rw[aI h2,aI h2]
  refine au (aM ?_)
  rw[StateT.run_pure]
  refine au (aM ?_)
  dsimp only
  have hp:lj (List.toArray (List.range as.length)) as.length:=⟨Array.Perm.refl _⟩
  rw[cV,aY]at h2
  refine uK (st:=SortSt.mk' general' (kA.zip (as.map Value.ref).toArray) #[] 7 none) m hD hS Ow (by lia) (Wz _ hp) ?_ rfl λs2 f=>q s2 _ hp (λi hi=>by lia) f
  rw[<-Ur _ hp]
  have:(List.toArray (List.range as.length)).map (kas_item (kA.zip (as.map Value.ref).toArray))=kA.zip (as.map Value.ref).toArray:=by
   have:=kas_range (kA.zip (as.map Value.ref).toArray)
   rwa [hzs]at this
  rw[this]
 ·rw[aE h2,aE h2]
  rw[cV,aY]at h2
  have Rx:2<=as.length:=by lia
  have kind:wpAny (model X.prog X.w) X.A.in1.in1 (keyKind' kA) (λκ s2=>κ=oneType'/\s2=s') E s':=by
   have:=kas_kind (M:=model X.prog X.w) (A:=X.A.in1.in1) (E:=E) (s:=s') (vs:=kA.toList) (T:=Value.type "int") (Q:=λκ s2=>κ=oneType'/\s2=s') (by rw[dX];lia) (λv hv=>by
    obtain⟨i,hi,rfl⟩:=zD.mp hv
    obtain⟨l,t,e1,_⟩:=kv i (kA.toList[i]) (by rw[<-qW];exact cD hi)
    rw[e1]
    exact .now) (by decide) (by decide) ⟨rfl,rfl⟩
   rwa [Array.toArray_toList]at this
  refine au (cP kind (λκ s2 ⟨e1,e2⟩=>?_) λ_ _ x=>x)
  subst e1 e2
  have hn:0<as.length:=by lia
  have ssD:∀i,i<as.length->ss[i]?=some (ss.getD i 0):=λi hi=>by
   rw[fX,cD (by lia)];rfl
  have ek:kA.toList.toArray=kA:=by simp
  have run:=JL (prog:=X.prog) (w:=X.w) (A:=X.A.in1.in1) (E:=E) (κ:=oneType') (ks:=kA.toList) (vs:=as.map Value.ref) (b:=lB ss) (s:=s2) (by rw[dX,aY];exact ks)
   (by have:=yn nd;rw[<-ls]at this;rw[aY];exact this) (by rw[aY];exact Rx) (by rw[aY];exact By) (λi j C hi hj hC=>by
    rw[aY]at hi hj
    refine hide λgG hG=>?_
    obtain⟨l,t,e1,s1⟩:=itm i hi
    obtain⟨l',t',Yc,s1'⟩:=itm j hj
    refine hG ?_
    rw[ek,e1,Yc]
    refine kat_lt_int ?_
    have:lB ss i j=decide (l<l'):=by unfold lB;rw[getD_some s1,getD_some s1']
    rw[this]at hC
    exact hC)
  rw[aY,ek]at run
  refine au (cP run (λr s3 ⟨e,p,hp,ha,e1,e2⟩=>?_) λ_ _ x=>x)
  obtain⟨⟨⟩,nk⟩:=r
  subst e
  dsimp only
  exact uK m hD hS Ow (by lia) (Wz _ hp) (by rw[e1];exact Ur p hp) e2 λs4 f=>q s4 p hp ha f
theorem xk{k:Nat}{f:Addr}{fd:FuncData}{pm:Str}{x:Value}{as:List Addr}{ss:List Int}{Q:VK}(I:Inv X pins σ H s)(F:cz X.prog X.w X.K X.mg X.base iq k f fd [pm] uJ)(hr:cS k X.A.in1.in1)(hb:Binds X.K fd [pm] [])
  (ls:as.length=ss.length) (By:as.length<64) (nd:ss.Nodup) (hs:∀(i:Nat) a l,as[i]?=some a->ss[i]?=some l->∃x,H a=some (.tup (.int l::x)))
  (hc:∀(Q':List Value->Shared->Prop),(∀s',(∀b o,s.heap.get? b=some o->s'.heap.get? b=some o)->s.heap.objs.size<=s'.heap.objs.size->s'.gens=s.gens->s'.os=s.os->Q' (as.map Value.ref) s')->wpAny (model X.prog X.w) X.A.in1 (collect x) Q' X.xe s)
  (q:∀D H' p,bz H H'->H D=none->lj p as.length->n6 (lB ss) p as.length->H' D=some (.lst (List.map V.ref (p.toList.map λi=>as.getD i 0)))->Q (.ref D) H') :
  wpAny (model X.prog X.w) X.A (PySem.call (.builtin "sorted") [x] [(Str.ofString "key",.ref f)]) (EP X pins σ Q) X.xe s:=by
 refine call_function_entry_kw kind_sorted plain_sorted entry_sorted (ksk_s1 _ _) ?_
 unfold Builtin.«sorted»
 refine au (m:=checkCount "sorted" 1 1 _) (aM ?_)
 refine au (hc _ λs1 k1 z1 g1 o1=>?_)
 refine au (rg ?_ (by rw[aY];exact j3 (by lia)))
 have Ge:(s1.heap.push (seqObj "list" (as.map Value.ref).toArray 0)).get? s1.heap.objs.size=some (seqObj "list" (as.map Value.ref).toArray 0):=dj _ rfl
 refine au (dG (wpAny_call_entry_kw slot_list_sort ⟨_,Ge,rfl⟩ entry_list_sort ?body (ksk_l1 _ _)))
 case body=>
  show wpAny (model X.prog X.w) X.A.in1.in1 (Builtin.«list.sort» ⟨[.ref s1.heap.objs.size],[(Str.ofString "key",.ref f)]⟩) _ _ _
  rw[ksk_t1]
  unfold ksk_tree
  have lv:(as.map Value.ref).toArray.size<=sizeLine:=by rw[cV,aY];exact j3 (by lia)
  obtain⟨e1,Vi⟩:∃e1,((s1.heap.push (seqObj "list" (as.map Value.ref).toArray 0)).update s1.heap.objs.size (Obj.mapSeq λ_=>(#[]:Array Value))).get? s1.heap.objs.size=some (seqObj "list" #[] e1):=⟨_,get?_update_seq Ge λ_=>#[]⟩
  have sb:=qU (s1.heap.push (seqObj "list" (as.map Value.ref).toArray 0)) s1.heap.objs.size (Obj.mapSeq λ_=>(#[]:Array Value))
  have TQ:((s1.heap.push (seqObj "list" (as.map Value.ref).toArray 0)).update s1.heap.objs.size (Obj.mapSeq λ_=>(#[]:Array Value))).objs.size=s1.heap.objs.size+1:=by rw[Heap.size_update,size_push']
  refine au (listItems_at Ge rfl ?_)
  refine au (my Ge rfl ?_ lv (dg _))
  refine au (seqEpoch_at Vi rfl ?_)
  refine au (wpAny_newTuple ?_ (by rw[zA,aY];exact j3 (by lia)))
  refine au (rg ?_ (dg _))
  refine dG ?_
  have N7:(((s1.heap.push (seqObj "list" (as.map Value.ref).toArray 0)).update s1.heap.objs.size (Obj.mapSeq λ_=>(#[]:Array Value))).push (seqObj "tuple" (as.map Value.ref).toArray 0)).objs.size=s1.heap.objs.size+2:=by rw[size_push',TQ]
  have keep:∀b o,s.heap.get? b=some o->((((s1.heap.push (seqObj "list" (as.map Value.ref).toArray 0)).update s1.heap.objs.size (Obj.mapSeq λ_=>(#[]:Array Value))).push (seqObj "tuple" (as.map Value.ref).toArray 0)).push (seqObj "list" #[] 0)).get? b=some o:=λb o e=>by
   have lb:b<s1.heap.objs.size:=cX (bI e) z1
   exact cq _ (cq _ ((sb.2 b (bJ lb)).trans (cq _ (k1 b o e))))
  have m0:Hg X H s s1.heap.objs.size (s1.heap.objs.size+2) e1 H { s1 with heap:=(((s1.heap.push (seqObj "list" (as.map Value.ref).toArray 0)).update s1.heap.objs.size (Obj.mapSeq λ_=>(#[]:Array Value))).push (seqObj "tuple" (as.map Value.ref).toArray 0)).push (seqObj "list" #[] 0) } #[]:=
   ⟨o1,by show AllBare s1.gens;rw[g1];exact I.bare,Un.kept keep,I.bT.kept keep,bz.refl H,I.bT.fresh z1,I.bT.fresh (by lia),cq _ (cq _ Vi),0,by rw[<-N7];exact dj _ rfl⟩
  unfold ksk_rest
  refine au (wpAny_rule ?_)
  rw[<-Array.forIn_toList,zA]
  show wpAny (model X.prog X.w) X.A.in1.in1 _ _ X.xe { s1 with heap:=(((s1.heap.push (seqObj "list" (as.map Value.ref).toArray 0)).update s1.heap.objs.size (Obj.mapSeq λ_=>(#[]:Array Value))).push (seqObj "tuple" (as.map Value.ref).toArray 0)).push (seqObj "list" #[] 0) }
  rw[N7]
  refine au (Bn I m0 z1 (by lia:s.heap.objs.size<=s1.heap.objs.size+2) (by lia:s1.heap.objs.size≠s1.heap.objs.size+2) F hr hb ls By hs (λa R s2 hw=>?_) λH' s' kA m kk=>?_)
  ·refine au (oi (cP hw (λv s3 h3=>?_) λ_ _ hF=>hF.elim))
   dsimp only
   exact au (cP h3 (λ_ s4 h4=>aM h4) λ_ _ x=>x)
  ·obtain⟨eS,oS⟩:=m.oS
   refine au (listItems_at oS rfl ?_)
   refine Fo m z1 (by lia:s.heap.objs.size<=s1.heap.objs.size+2) (by lia:s1.heap.objs.size≠s1.heap.objs.size+2) kk ls By nd λs2 p hp ha fin=>⟨_,rfl,?_⟩
   obtain⟨c,oD⟩:=fin.oD
   have hn:H s1.heap.objs.size=none:=I.bT.fresh z1
   have bl:(List.map V.ref (p.toList.map λi=>as.getD i 0)).length<=sizeLine:=by rw[aY,aY,dX,hp.size];exact j3 (by lia)
   have I2:Inv X pins σ (upd H' s1.heap.objs.size (.lst (List.map V.ref (p.toList.map λi=>as.getD i 0)))) s2:=I.call' (ch:=[]) fin.os (O' fin.un z1 hn) (Ng fin.bT fin.nD ⟨bl,_,c,w5 _,oD⟩) fin.bare (λb z=>absurd z (by simp))
   exact aM ⟨_,rfl,.ref s1.heap.objs.size,_,I2,rfl,q _ _ p (fin.same.trans λb u eb=>by rw[aB (az eb fin.nD)];exact eb) hn hp ha ai⟩
end
section
variable {P:Program}{w:World}{A:Around}{E:Value->Shared->Prop}{s:Shared}
theorem yB{a:Addr}{Q:Bool->Shared->Prop}(h:Q true s):wpAny (model P w) A (eqBool (.ref a) (.ref a)) Q E s:=by
 unfold eqBool
 refine dG ?_
 rw[aI (by simp)]
 exact au (wpAny_rule (aM h))
theorem NK{p q a c:Addr}{k l:Int}{t u:Tok}{C:Bool->Shared->Prop}(hp:IsTup s.heap p #[.int k t,.ref a])(hq:IsTup s.heap q #[.int l u,.ref c])(qH:k=l->a=c)(h:C (decide (k<l)) s):wpAny (model P w) A (keyLt' (tuples' true) (.ref p) (.ref q)) C E s:=by
 obtain⟨o1,e1,c1,n1,d1⟩:=id hp
 obtain⟨o2,e2,c2,n2,d2⟩:=id hq
 refine kat_lt e1 d1 e2 d2 ?_
 show KatLex P w A true _ C [(.int k t,.int l u),(.ref a,.ref c)] 0 s
 refine kat_cons ((fw P w).eqBool (a:=Sum.inl k) (b:=Sum.inl l) (by show(k==k)=true;simp) (by show(l==l)=true;simp) ?_)
 refine kat_go (λe=>?_) λe=>kat_no (oneLt_int h)
 have el:k=l:=Sum.inl.inj (of_decide_eq_true e)
 obtain rfl:=qH el
 refine kat_yes (kat_cons (yB ?_))
 refine kat_go (λ_=>kat_yes (kat_nil ?_)) λe'=>absurd e' (by simp)
 rw[decide_eq_false (by omega)]at h
 exact h
end
def Kz(H:Hp)(zs:List (Addr×Int)):Prop:=∀z∈zs,∃r:Addr,H z.1=some (.tup [.int z.2,.ref r])
def sj(x:V)(H:Hp)(Q:VK):Prop:=∃d,x=.ref d/\∃zs:List (Addr×Int),H d=some (.lst (zs.map λz=>V.ref z.1))/\Kz H zs/\zs.length<64/\(zs.map (·.2)).Nodup/\
 ∀(D:Addr) (H':Hp) (ws:List (Addr×Int)),bz H H'->H D=none->H' D=some (.lst (ws.map λz=>V.ref z.1))->ws.Perm zs->ws.Pairwise (λa b=>a.2<b.2)->Q (.ref D) H'
def IV:List V->Hp->VK->Prop:=λvs H Q=>∃x,vs=[x]/\sj x H Q
theorem qF{zs:List (Addr×Int)}(nd:(zs.map (·.2)).Nodup):Ord (λi j=>decide ((zs.getD i (0,0)).2<(zs.getD j (0,0)).2)) zs.length:=by
 have O:=yn nd
 rw[aY]at O
 have e:∀i,i<zs.length->(zs.map (·.2)).getD i 0=(zs.getD i (0,0)).2:=λi hi=>by
  rw[fX,fX,cW,cD hi];rfl
 refine⟨λi j k hi hj hk h1 h2=>?_,λi j hi hj h=>?_,λi j hi hj d=>?_⟩
 ·have:=O.tr i j k hi hj hk (by unfold lB;rw[e i hi,e j hj];exact h1) (by unfold lB;rw[e j hj,e k hk];exact h2)
  unfold lB at this
  rw[e i hi,e k hk]at this
  exact this
 ·have:=O.asy i j hi hj (by unfold lB;rw[e i hi,e j hj];exact h)
  unfold lB at this
  rw[e i hi,e j hj]at this
  exact this
 ·have:=O.tot i j hi hj d
  unfold lB at this
  rw[e i hi,e j hj]at this
  exact this
section
variable {X:Cx}
theorem tj:cC X (.builtin "sorted") IV:=by
 intro pins s σ H vs us Q I rv h
 obtain⟨x,rfl,d,rfl,zs,hL,la,By,nd,q⟩:=h
 obtain⟨u,rfl,ru⟩:=vals1 rv
 cases ru
 have em:∀l:List (Addr×Int),(l.map λz=>V.ref z.1)=List.map V.ref (l.map (·.1)):=λl=>by rw[iz];rfl
 rw[em]at hL
 obtain⟨its,r,pl,hz⟩:=I.list (bD hL)
 have ei:=oB r
 subst ei
 have ll:((zs.map (·.1)).map Value.ref).length=zs.length:=by rw[aY,aY]
 have obj:∀i,i<zs.length->∃t r,IsTup s.heap (zs.getD i (0,0)).1 #[.int (zs.getD i (0,0)).2 t,.ref r]/\((zs.map (·.1)).map Value.ref).getD i Value.none=.ref (zs.getD i (0,0)).1:=λi hi=>by
  have e1:zs[i]?=some zs[i]:=cD hi
  obtain⟨r,hr⟩:=la _ (iC e1)
  obtain⟨t,ht⟩:=M7 I.bT hr
  refine⟨t,r,?_,?_⟩
  ·rw[fX,e1];exact ht
  ·rw[fX,cW,cW,e1,fX,e1];rfl
 have up:∀{h':Heap} {p:Addr} {xs:Array Value},(∀c o,s.heap.get? c=some o->h'.get? c=some o)->IsTup s.heap p xs->IsTup h' p xs:=λk z=>by
  obtain⟨o,e,c,n,d⟩:=z
  exact⟨o,k _ _ e,c,n,d⟩
 refine z7 (κ:=tuples' true) (b:=λi j=>decide ((zs.getD i (0,0)).2<(zs.getD j (0,0)).2)) pl.isList (by omega) (by rw[ll];exact qF nd) (λh' k h2=>?_) (λh' k i j C hi hj hC=>?_) λp hp ha=>?_
 ·obtain⟨fs,kt,lf,hf⟩:=sL (h:=h') (l:=(zs.map (·.1)).map Value.ref) λv hv=>by
   obtain⟨i,hi,rfl⟩:=zD.mp hv
   rw[ll]at hi
   obtain⟨t,r,ht,e⟩:=obj i hi
   refine⟨_,r,_,t,?_,up k ht⟩
   rw[<-e,fX,cD (by rw[ll];exact hi)]
   rfl
  exact kat_kind (M:=model X.prog X.w) (A:=X.A.in1.in1) (s:={ s with heap:=h' }) (T:=Value.type "int") (Q:=λκ s2=>κ=tuples' true/\s2={ s with heap:=h' }) kt (by rw[lf];omega) (λv hv=>by
   obtain⟨x,t,rfl⟩:=hf v hv
   exact .now) (by decide) ⟨by congr 1,rfl⟩
 ·rw[ll]at hi hj
  obtain⟨t,r,ht,e⟩:=obj i hi
  obtain⟨t',r',Xq,e'⟩:=obj j hj
  unfold kas_ask
  rw[e,e']
  refine NK (s:={ s with heap:=h' }) (up k ht) (up k Xq) (λz=>?_) hC
  have Rg:i=j:=Classical.byContradiction λd=>by
   rcases(qF nd).tot i j hi hj d with y | y
   ·have:=of_decide_eq_true y;omega
   ·have:=of_decide_eq_true y;omega
  subst Rg
  obtain⟨o1,g1,_,n1,d1⟩:=ht
  obtain⟨o2,g2,_,n2,d2⟩:=Xq
  rw[g1]at g2
  cases g2
  rw[d1]at d2
  have d2:=(Data.seq.inj d2).1
  have:=gT (λa:Array Value=>a[1]?) d2
  simpa using this
 ·rw[ll]at hp ha
  have gS:∀i∈p.toList,i<zs.length:=λi hi=>by
   have:=(hp.perm.mem_iff (a:=i)).mp (by simpa using hi)
   simpa using this
  obtain⟨c,hc⟩:=sortedAll_at s.heap ((zs.map (·.1)).map Value.ref) ((p.toList.map λi=>((zs.map (·.1)).map Value.ref).getD i Value.none).toArray)
  have eo:(p.toList.map λi=>((zs.map (·.1)).map Value.ref).getD i Value.none)=((p.toList.map λi=>zs.getD i (0,0)).map (·.1)).map Value.ref:=by
   have e0:((p.toList.map λi=>zs.getD i (0,0)).map (·.1)).map Value.ref=p.toList.map λi=>Value.ref (zs.getD i (0,0)).1:=by rw[iz,iz];rfl
   rw[e0]
   exact wL λi hi=>let ⟨_,_,_,e⟩:=obj i (gS i hi);e
  have hn:H (s.heap.objs.size+1)=none:=I.bT.fresh (gU _)
  have lw:(p.toList.map λi=>zs.getD i (0,0)).length=zs.length:=by rw[aY,dX,hp.size]
  have ew:((p.toList.map λi=>zs.getD i (0,0)).map λz=>V.ref z.1)=List.map V.ref ((p.toList.map λi=>zs.getD i (0,0)).map (·.1)):=em _
  refine⟨.ref (s.heap.objs.size+1),upd H (s.heap.objs.size+1) (.lst ((p.toList.map λi=>zs.getD i (0,0)).map λz=>V.ref z.1)),I.laid (t':=s.toks) (λb ob e=>sortedAll_old e) (gU _) ?_,rfl,q _ _ (p.toList.map λi=>zs.getD i (0,0)) (λb u eb=>by rw[aB (az eb hn)];exact eb) hn ai (xJ hp) (yV (l:=zs) (d:=((0,0):Addr×Int)) (R:=λa b=>decide (a.2<b.2)) hp (qF nd) ha |>.imp λh=>of_decide_eq_true h)⟩
  refine⟨by rw[aY,lw];exact bH (by omega),((p.toList.map λi=>zs.getD i (0,0)).map (·.1)).map Value.ref,c,by rw[ew];exact nz _,?_⟩
  have Gh:=hc
  rw[eo]at Gh ⊢
  exact Gh
end
section
variable {X:Cx}{k:Nat}{f:Addr}{fd:FuncData}{pm g:Str}{e:Expr}{te:TE}{p kp kpos pos:Pos}
def sd(te:TE):TE:=λσ H Q=>te σ H λx H1=>sj x H1 Q
theorem Ai(F:cz X.prog X.w X.K X.mg X.base iq k f fd [pm] uJ)(hr:cS (k+2) X.A)(hg:Gl X "sorted")(hm:X.mg "sorted" = none)(hv:bootBuiltins "sorted" = some (.builtin "sorted"))(hgf:Gl X g)(hmf:X.mg g=some (.ref f))(hb:Binds X.K fd [pm] [])(ha:PE X e te)
  (mQ:(g==("__debug__" : Str))=false:=by decide) (he:starEach [e] X.env=[(false,eval e X.env)]:=by rfl) :
  PE X (.Call (.Name "sorted" p) [e] [⟨some "key",.Name g kp,kpos⟩] pos) (sd te):=by
 intro pins s σ H Q I h
 refine pA (mK I hg hm hv ?_)
 refine callWith_kw (cA ((qE ha Aj he) pos pins s σ H (λvs H1=>match vs with | [x]=>sj x H1 Q | _=>False) I h) λus s1 ⟨vs,H1,I1,r1,q1⟩=>?_) (by rw[he];rfl) (by rw[he];rfl)
 match vs,r1,q1 with
 | [x],r1,q1=>
  obtain⟨u,rfl,ru⟩:=vals1 r1
  refine cA ((Dn (nm:=some (Str.ofString "key")) (kpos:=kpos) (Jm (kp:=kp) hgf hmf mQ) Je) pos pins s1 σ H1 (λzs H2=>zs=[.ref f]/\H2=H1) I1 ⟨rfl,rfl⟩) λws s2 ⟨zs,H2,I2,r2,ez,eh⟩=>?_
  subst ez eh
  obtain⟨u2,rfl,Y0⟩:=vals1 r2
  cases Y0
  obtain⟨d,rfl,zs,hL,la,By,nd,q⟩:=q1
  cases ru
  have em:∀l:List (Addr×Int),(l.map λz=>V.ref z.1)=List.map V.ref (l.map (·.1)):=λl=>by rw[iz];rfl
  rw[em]at hL
  obtain⟨its,r,pl,hz⟩:=I2.list (bD hL)
  have ei:=oB r
  subst ei
  have lz:(zs.map (·.1)).length=(zs.map (·.2)).length:=by rw[aY,aY]
  have at':∀(i:Nat) a l,(zs.map (·.1))[i]?=some a->(zs.map (·.2))[i]?=some l->∃x,H2 a=some (.tup (.int l::x)):=λi a l ha hl=>by
   rw[cW]at ha hl
   cases ez:zs[i]? with
   | none=>rw[ez]at ha;cases ha
   | some z=>
    rw[ez]at ha hl
    cases ha
    cases hl
    obtain⟨r,hr⟩:=la z (iC ez)
    exact⟨_,hr⟩
  refine xk (as:=zs.map (·.1)) (ss:=zs.map (·.2)) I2 F hr.in1.in1 hb lz (by rw[aY];exact By) nd at' (λQ' hQ'=>?_) λD H' p sm hD hp ha hl=>?_
  ·have sb:=qU (s2.heap.push (seqObj "list" #[] 0)) s2.heap.objs.size (Obj.mapSeq (· ++ ((zs.map (·.1)).map Value.ref).toArray))
   refine collect_list pl.isList (hQ' _ (λb o eb=>?_) ?_ rfl rfl) (by rw[aY,aY,jT];omega)
   ·exact(sb.2 b (bJ (bI eb))).trans (cq _ eb)
   ·show s2.heap.objs.size<=((s2.heap.push (seqObj "list" #[] 0)).update s2.heap.objs.size _).objs.size
    rw[Heap.size_update,size_push']
    exact gU _
  ·rw[aY]at hp ha
   have eb:∀i,i<zs.length->(zs.map (·.1)).getD i 0=(zs.getD i (0,0)).1:=λi hi=>by
    rw[fX,fX,cW,cD hi];rfl
   have ec:∀i,i<zs.length->(zs.map (·.2)).getD i 0=(zs.getD i (0,0)).2:=λi hi=>by
    rw[fX,fX,cW,cD hi];rfl
   have gS:∀i∈p.toList,i<zs.length:=λi hi=>by
    have:=(hp.perm.mem_iff (a:=i)).mp (by simpa using hi)
    simpa using this
   have ew:(p.toList.map λi=>(zs.map (·.1)).getD i 0)=(p.toList.map λi=>zs.getD i (0,0)).map (·.1):=by
    rw[iz]
    exact wL λi hi=>eb i (gS i hi)
   rw[ew,<-em]at hl
   have KZ:n6 (λi j=>decide ((zs.getD i (0,0)).2<(zs.getD j (0,0)).2)) p zs.length:=λi hi=>by
    have:=ha i hi
    unfold lB at this
    have h1:=hp.lt (by omega) i
    have h2:=hp.lt (by omega) (i+1)
    rw[ec _ h1,ec _ h2]at this
    exact this
   exact q D H' _ sm hD hl (xJ hp) (yV (l:=zs) (d:=((0,0):Addr×Int)) (R:=λa b=>decide (a.2<b.2)) hp (qF nd) KZ |>.imp λh=>of_decide_eq_true h)
theorem wV(F:cz X.prog X.w X.K X.mg X.base iq k f fd [pm] uJ)(hr:cS (k+2) X.A)(hg:Gl X "sorted")(hm:X.mg "sorted" = none)(hv:bootBuiltins "sorted" = some (.builtin "sorted"))(hgf:Gl X g)(hmf:X.mg g=some (.ref f))(hb:Binds X.K fd [pm] [])(ha:ZE X e te)
  (mQ:(g==("__debug__" : Str))=false:=by decide) (he:starEach [e] X.env=[(false,eval e X.env)]:=by rfl) :
  ZE X (.Call (.Name "sorted" p) [e] [⟨some "key",.Name g kp,kpos⟩] pos) (sd te):=⟨Ai F hr hg hm hv hgf hmf hb ha.to mQ he⟩
end
def M'(v:V):Prop:=(∃r,v=.ref r)\/v=.non\/∃i,v=.int i
def Oe(neg:Bool):R2:=λx y H Q=>∃a b,x=.ref a/\y=.ref b/\∃xs,H a=some (.lst xs)/\H b=some (.lst xs)/\(∀v∈xs,M' v)/\Q (.bl (!neg)) H
theorem Eb{A:Around}{s:Shared}{xs:List V}{us ws:List Value}(r:Vals xs us)(q:Vals xs ws)(hv:∀v∈xs,M' v)(j:Nat)(h1:j<us.toArray.size)(h2:j<ws.toArray.size):SeqAt.EqAt A s us.toArray[j] ws.toArray[j] true:=by
 have h1':j<us.length:=by simpa using h1
 have Rx:j<ws.length:=by simpa using h2
 have l1:=r.length
 have ex:xs[j]?=some xs[j]:=cD (by omega)
 obtain⟨u,eu,ru⟩:=r.get ex
 obtain⟨v,ev,rv⟩:=q.get ex
 have e1:us.toArray[j]=u:=by
  have:=cD h1'
  rw[eu]at this;simpa using (dm this).symm
 have e2:ws.toArray[j]=v:=by
  have:=cD Rx
  rw[ev]at this;simpa using (dm this).symm
 rw[e1,e2]
 have hx:=hv _ (iC ex)
 generalize xs[j]'(by omega)=x at ru rv hx
 rcases hx with ⟨r,rfl⟩ | rfl | ⟨i,rfl⟩
 ·cases ru
  cases rv
  exact λprog w E Q h=>yB h
 ·have:=BM (A:=A) (s:=s) ru rv rfl rfl
  exact this
 ·have:=BM (A:=A) (s:=s) ru rv rfl rfl
  simpa [Ea]using this
section
variable {X:Cx}
theorem wc(hu:X.A.units<cLine):jb X (compareOp .Eq) (Oe false):=by
 intro pins s σ H x y v u Q I rx ry h
 obtain⟨a,b,rfl,rfl,xs,h1,h2,hv,q⟩:=h
 cases rx;cases ry
 obtain⟨us,r1,t1,_⟩:=I.list (bD h1)
 obtain⟨ws,r2,t2,_⟩:=I.list (bD h2)
 have l1:=r1.length
 have l2:=r2.length
 refine SeqAt.eq_listAt (e:=λ_=>true) t1.isList t2.isList (by rw[cV,cV];omega) hu (λj h1 h2=>Eb r1 r2 hv j h1 h2) ⟨.bl true,H,I,?_,q⟩
 show _=Value.bool true
 rw[show((List.range us.toArray.size).all λ_=>true)=true by simp]
theorem Dv(hu:X.A.units<cLine):jb X (compareOp .NotEq) (Oe true):=by
 intro pins s σ H x y v u Q I rx ry h
 obtain⟨a,b,rfl,rfl,xs,h1,h2,hv,q⟩:=h
 cases rx;cases ry
 obtain⟨us,r1,t1,_⟩:=I.list (bD h1)
 obtain⟨ws,r2,t2,_⟩:=I.list (bD h2)
 have l1:=r1.length
 have l2:=r2.length
 refine SeqAt.RcNeAt.lists (e:=λ_=>true) t1.isList t2.isList (by rw[cV,cV];omega) hu (λj h1 h2=>Eb r1 r2 hv j h1 h2) _ _ _ _ ⟨.bl false,H,I,?_,q⟩
 show _=Value.bool false
 rw[show((List.range us.toArray.size).all λ_=>true)=true by simp]
 rfl
end
end L2
end
namespace My
open PySem L2
abbrev Az:List Str:=["thing"]
abbrev Ay:List Str:=["thing"]
abbrev x8:List Str:=["thing","deepest"]
abbrev qh:List Str:=["word"]
abbrev xY:List Str:=["rule"]
abbrev ql:List Str:=["rules","names","rule"]
abbrev qi:List Str:=["rule","names","part"]
abbrev mG:List Str:=["thing"]
abbrev Ba:List Str:=["thing","heap","place","saying"]
abbrev x6:List Str:=["thing"]
abbrev wd:List Str:=["thing"]
abbrev M3:List Str:=["saying","heap","names"]
abbrev xZ:List Str:=["saying"]
abbrev Ax:List Str:=["saying"]
abbrev wq:List Str:=["_law_script"]
abbrev wm:List Str:=["_law_hand_here"]
abbrev wj:List Str:=["_law_hand_here","_law_cell"]
abbrev wt:List Str:=["_law_hand_here","_law_many","_law_got","_law_value","_law_size"]
abbrev sx:List Str:=["_law_hand_here","_law_many","_law_step","_law_at","_law_row","_law_k","_law_mixed"]
abbrev wg:List Str:=["_law_hand_here","_law_names","_law_many","_law_at","_law_rule","_law_k","_law_word","_law_one"]
abbrev oK:List Str:=["_law_deep","_law_wide_here","_law_name"]
abbrev sv:List Str:=["_law_hand_here","_law_saying","_law_before","_law_label","_law_rule","_law_some"]
abbrev wo:List Str:=["_law_hand_here","_law_letters","_law_tail","_law_names","_law_labels_here","_law_heap","_law_used","_law_due","_law_bad","_law_k","_law_rule","_law_places","_law_thing"]
abbrev qm:List Str:=["_law_thing","_law_place","_law_told","e"]
abbrev QF:List Str:=["_law_script","_law_hand_here","_law_heap","_law_due","_law_some","_law_handed","_law_told","_law_thing"]
abbrev cx:List Str:=["self","place"]
def aW:List (Str×Int):=[(Str.ofString "yes",0),(Str.ofString "no",0),(Str.ofString "not",1),(Str.ofString "and",2),(Str.ofString "or",2),(Str.ofString "then",2),(Str.ofString "same",2)]
structure Adr where
 o6:Addr
 oW:FuncData
 o5:Addr
 oV:FuncData
 ng:Addr
 mX:FuncData
 ic:Addr
 g7:FuncData
 m7:Addr
 mU:FuncData
 ig:Addr
 g9:FuncData
 ie:Addr
 g8:FuncData
 fE:Addr
 fD:FuncData
 o7:Addr
 oX:FuncData
 m9:Addr
 mW:FuncData
 kJ:Addr
 kr:FuncData
 Cp:Addr
 BR:FuncData
 m8:Addr
 mV:FuncData
 o4:Addr
 oU:FuncData
 kP:Addr
 kB:FuncData
 kM:Addr
 ky:FuncData
 kL:Addr
 kx:FuncData
 kQ:Addr
 kE:FuncData
 iZ:Addr
 iW:FuncData
 kK:Addr
 ku:FuncData
 gB:Addr
 gA:FuncData
 iY:Addr
 iV:FuncData
 kO:Addr
 kz:FuncData
 ik:Addr
 hV:FuncData
 Kx:Addr
 Kl:FuncData
 sN:Tok
 yo:Tok
 wx:Tok
 kj:Addr
 sM:Tok
 lC:Tok
 aK:Addr
 aC:Addr
 bx:Addr
 eO:FuncData
 aZ:Addr
 bC:Addr
structure Txt(K:PySem.W.Frag)(mg:Str->Option Value)(t:Adr):Prop where
 vn:jR K "is_name" "is_name" gO t.o6 t.oW
 GJ:Binds K t.oW ["thing"] []
 FT:mg "is_name" = some (.ref t.o6)
 vm:jR K "is_rule" "is_rule" gN t.o5 t.oV
 GF:Binds K t.oV ["thing"] []
 FQ:mg "is_rule" = some (.ref t.o5)
 jG:jR K "has_form" "has_form" fQ t.ng t.mX
 tE:Binds K t.mX ["thing","deepest"] []
 sH:mg "has_form" = some (.ref t.ng)
 kS:jR K "rules_behind" "rules_behind" cZ t.ic t.g7
 tu:Binds K t.g7 ["word"] []
 sE:mg "rules_behind" = some (.ref t.ic)
 tM:jR K "names_of" "names_of" fN t.m7 t.mU
 Cg:Binds K t.mU ["rule"] []
 Bg:mg "names_of" = some (.ref t.m7)
 kW:jR K "names_of_all" "names_of_all" de t.ig t.g9
 tD:Binds K t.g9 ["rules"] []
 sF:mg "names_of_all" = some (.ref t.ig)
 dN:jR K "names_within" "names_within" dc t.ie t.g8
 ia:Binds K t.g8 ["rule"] []
 g0:mg "names_within" = some (.ref t.ie)
 iO:jR K "is_whole_number" "is_whole_number" cv t.fE t.fD
 nU:Binds K t.fD ["thing"] []
 nM:mg "is_whole_number" = some (.ref t.fE)
 ly:jR K "heap_of" "heap_of" gP t.o7 t.oX
 oZ:Binds K t.oX ["thing"] []
 oM:mg "heap_of" = some (.ref t.o7)
 tN:jR K "is_label" "is_label" fP t.m9 t.mW
 Ci:Binds K t.mW ["thing"] []
 Bh:mg "is_label" = some (.ref t.m9)
 pZ:jR K "is_saying" "is_saying" eV t.kJ t.kr
 yO:Binds K t.kr ["thing"] []
 ye:mg "is_saying" = some (.ref t.kJ)
 KJ:jR K "fits" "fits" oz t.Cp t.BR
 Se:Binds K t.BR ["saying","heap"] []
 QH:mg "fits" = some (.ref t.Cp)
 ni:jR K "label_of" "label_of" fO t.m8 t.mV
 mZ:Binds K t.mV ["saying"] []
 mH:mg "label_of" = some (.ref t.m8)
 vk:jR K "rule_of" "rule_of" gM t.o4 t.oU
 GD:Binds K t.oU ["saying"] []
 FP:mg "rule_of" = some (.ref t.o4)
 qc:jR K "_law_hand" "_law_hand" fh t.kP t.kB
 yS:Binds K t.kB ["_law_script"] []
 yi:mg "_law_hand" = some (.ref t.kP)
 gp:jR K "_law_next" "_law_next" e9 t.kM t.ky
 iM:Binds K t.ky ["_law_hand_here"] []
 iI:mg "_law_next" = some (.ref t.kM)
 p9:jR K "_law_take" "_law_take" e8 t.kL t.kx
 yQ:Binds K t.kx ["_law_hand_here"] []
 yg:mg "_law_take" = some (.ref t.kL)
 aN:jR K "_law_draw" "_law_draw" fj t.kQ t.kE
 aP:Binds K t.kE ["_law_hand_here","_law_many"] []
 aO:mg "_law_draw" = some (.ref t.kQ)
 mr:jR K "_law_labels" "_law_labels" dD t.iZ t.iW
 uc:Binds K t.iW ["_law_hand_here","_law_many"] []
 tW:mg "_law_labels" = some (.ref t.iZ)
 p8:jR K "_law_wide" "_law_wide" eZ t.kK t.ku
 yP:Binds K t.ku ["_law_hand_here","_law_names"] []
 yf:mg "_law_wide" = some (.ref t.kK)
 jN:jR K "_law_no_rules" "_law_no_rules" cJ t.gB t.gA
 qv:Binds K t.gA [] []
 qo:mg "_law_no_rules" = some (.ref t.gB)
 mq:jR K "_law_spoilt" "_law_spoilt" dC t.iY t.iV
 ua:Binds K t.iV ["_law_hand_here","_law_saying","_law_before"] []
 tV:mg "_law_spoilt" = some (.ref t.iY)
 qb:jR K "_law_made" "_law_made" fc t.kO t.kz
 yR:Binds K t.kz ["_law_hand_here"] []
 yh:mg "_law_made" = some (.ref t.kO)
 ip:jR K "_law_refused" "_law_refused" df t.ik t.hV
 kI:Binds K t.hV ["_law_thing","_law_place"] []
 ke:mg "_law_refused" = some (.ref t.ik)
 W4:jR K "law" "law" nG t.Kx t.Kl
 aB4:Binds K t.Kl ["_law_script"] []
 aB1:mg "law" = some (.ref t.Kx)
 gE:mg "ValueError" = none
 CP:mg "abs" = none
 wZ:mg "all" = none
 oq:mg "bool" = none
 iG:mg "enumerate" = none
 wY:mg "int" = none
 aT:mg "isinstance" = none
 eU:mg "len" = none
 mC:mg "list" = none
 fS:mg "range" = none
 wX:mg "set" = none
 gd:mg "sorted" = none
 uC:mg "str" = none
 jv:mg "tuple" = none
 fB:mg "MOST_LETTERS" = some (.int 8 t.sN)
 iJ:mg "MOST_DEEP" = some (.int 6 t.yo)
 gJ:mg "MOST_NAMES" = some (.int 5 t.wx)
 fz:mg "RULES_BEHIND" = some (.ref t.kj)
 aW:N1 K t.kj aW
 fA:mg "MOST_SAYINGS" = some (.int 10 t.sM)
 cU:mg "MOST_NAMES_IN_ALL" = some (.int 12 t.lC)
 nO:mg "TruceError" = some (.ref t.aK)
 vO:XC K t.aK
 iT:PySem.W.keepIn K (.ref t.aK)=true
 iU:PySem.W.findIn K (.ref t.aK) "__init__" = some (some (.builtin "ValueError.__init__"))
 fU:PySem.W.readsIn K t.aK (.type "type")=true
 fW:PySem.W.findCls K (.ref t.aK) (.type "type") "__init__" = some (.val (.builtin "ValueError.__init__"))
 fT:PySem.W.specialIn K (.ref t.aK) "__getattribute__" = some (some (.builtin "type.__getattribute__"))
 oN:mg "BadHeap" = some (.ref t.aC)
 dQ:XC K t.aC
 g4:PySem.W.keepIn K (.ref t.aC)=true
 nj:jR K "__init__" "BadHeap.__init__" bW t.bx t.eO
 ib:Binds K t.eO cx []
 g5:PySem.W.findIn K (.ref t.aC) "__init__" = some (some (.ref t.bx))
 g6:PySem.W.typeIn K (.ref t.bx)=some (.type "function")
 jw:PySem.W.takerIn K t.aC "place" = some none
 gZ:PySem.W.findIn K (.ref t.aC) "place" = some none
 Bi:mg "BadLabel" = some (.ref t.aZ)
 O9:XC K t.aZ
 kh:PySem.W.keepIn K (.ref t.aZ)=true
 km:PySem.W.findIn K (.ref t.aZ) "__init__" = some (some (.builtin "ValueError.__init__"))
 FV:mg "BadRule" = some (.ref t.bC)
 Sy:XC K t.bC
 mL:PySem.W.keepIn K (.ref t.bC)=true
 mO:PySem.W.findIn K (.ref t.bC) "__init__" = some (some (.builtin "ValueError.__init__"))
 cG:PySem.W.subIn K (.ref t.aC) (.ref t.aK)=some true
 du:PySem.W.kitOne K (.ref t.aC) (.ref t.aC)=some true
 cT:PySem.W.kitOne K (.ref t.aC) (.ref t.aZ)=some false
 dq:PySem.W.kitOne K (.ref t.aC) (.ref t.bC)=some false
 jB:PySem.W.kitOne K (.ref t.aC) (.type "ValueError")=some true
local macro_rules | `(tactic| walk_at "r") => `(tactic| repeat (walk_at "rl"))
local macro_rules | `(tactic| walk_at "s") => `(tactic| exact ⟨rfl,rfl,rfl,by decide +kernel,rfl,by decide +kernel,by decide +kernel⟩)
theorem lA:bp cx cx (aq bW):=by walk_at "s"
theorem Aa:bp Az ["thing"] (aq gO):=by walk_at "s"
theorem z9:bp Ay ["thing"] (aq gN):=by walk_at "s"
theorem pO:bp x8 ["thing","deepest"] (aq fQ):=by walk_at "s"
theorem qf:bp qh ["word"] (aq cZ):=by walk_at "s"
theorem xq:bp xY ["rule"] (aq fN):=by walk_at "s"
theorem gq:bp ql ["rules"] (aq de):=by walk_at "s"
theorem eI:bp qi ["rule"] (aq dc):=by walk_at "s"
theorem mE:bp mG ["thing"] (aq cv):=by walk_at "s"
theorem jx:bp Ba ["thing"] (aq gP):=by walk_at "s"
theorem xt:bp x6 ["thing"] (aq fP):=by walk_at "s"
theorem vX:bp wd ["thing"] (aq eV):=by walk_at "s"
theorem De:bp M3 ["saying","heap"] (aq oz):=by walk_at "s"
theorem xr:bp xZ ["saying"] (aq fO):=by walk_at "s"
theorem z8:bp Ax ["saying"] (aq gM):=by walk_at "s"
theorem vZ:bp wq ["_law_script"] (aq fh):=by walk_at "s"
theorem vY:bp wm ["_law_hand_here"] (aq e9):=by walk_at "s"
theorem jy:bp wj ["_law_hand_here"] (aq e8):=by walk_at "s"
theorem dS:bp wt ["_law_hand_here","_law_many"] (aq fj):=by walk_at "s"
theorem cF:bp sx ["_law_hand_here","_law_many"] (aq dD):=by walk_at "s"
theorem bZ:bp wg ["_law_hand_here","_law_names"] (aq eZ):=by walk_at "s"
theorem cE:bp oK [] (aq cJ):=by walk_at "s"
theorem bO:bp sv ["_law_hand_here","_law_saying","_law_before"] (aq dC):=by walk_at "s"
theorem aU:bp wo ["_law_hand_here"] (aq fc):=by walk_at "s"
theorem dz:bp qm ["_law_thing","_law_place"] (aq df):=by walk_at "s"
theorem j5:bp QF ["_law_script"] (aq nG):=by walk_at "s"
theorem wG:bootBuiltins "ValueError" = some (.type "ValueError"):=by decide +kernel
theorem WN:bootBuiltins "abs" = some (.builtin "abs"):=by decide +kernel
theorem O2:bootBuiltins "all" = some (.builtin "all"):=by decide +kernel
theorem Cj:bootBuiltins "bool" = some (.type "bool"):=by decide +kernel
theorem O1:bootBuiltins "enumerate" = some (.type "enumerate"):=by decide +kernel
theorem O0:bootBuiltins "int" = some (.type "int"):=by decide +kernel
theorem bu:bootBuiltins "isinstance" = some (.builtin "isinstance"):=by decide +kernel
theorem gi:bootBuiltins "len" = some (.builtin "len"):=by decide +kernel
theorem wF:bootBuiltins "list" = some (.type "list"):=by decide +kernel
theorem OJ:bootBuiltins "set" = some (.type "set"):=by decide +kernel
theorem kG:bootBuiltins "sorted" = some (.builtin "sorted"):=by decide +kernel
theorem Kv:bootBuiltins "str" = some (.type "str"):=by decide +kernel
theorem qK:bootBuiltins "tuple" = some (.type "tuple"):=by decide +kernel
def hv(l:Addr)(a b c d e:Int):HO:=.lst [.ref l,.int a,.int b,.int c,.int d,.int e]
def KH(l:Addr)(o:HO):Prop:=∃a b c d e,o=hv l a b c d e/\0<=a
def z5:Sp:=λvs H Q _=>∃h,vs=[.ref h]/\∃l a b c d e,H h=some (hv l a b c d e)/\Q (.int (d*48271%2147483647+e*40693%2147483399)) (upd H h (hv l a b c (d*48271%2147483647) (e*40693%2147483399)))
def Ie:Sp:=λvs H Q _=>∃h,vs=[.ref h]/\∃l ns o,H h=some o/\KH l o/\H l=some (.lst (List.map V.int ns))/\∀o',KH l o'->Q .non (upd H h o')
def vV:Sp:=λvs H Q _=>∃h m,vs=[.ref h,.int m]/\1<=m/\m<2 ^ 300/\∃l ns o,H h=some o/\KH l o/\H l=some (.lst (List.map V.int ns))/\∀r o',0<=r->r<m->KH l o'->Q (.int r) (upd H h o')
local macro_rules | `(tactic| walk_at "rd") => `(tactic| walk_at "rc")
local macro_rules | `(tactic| walk_at "rl") => `(tactic| first | (refine ck fun R hR => ?_) | walk_at "ry" | (refine Nx.to (by assumption) _ _ ?_))
local macro_rules | `(tactic| walk_at $s:str) => do
  unless s.getString == "rc" || s.getString == "ry" do Lean.Macro.throwUnsupported
  let ids := (((if s.getString == "rc" then "tSeq " else "") ++ "L2.start CV Lj xf tB G7 W' qd tC vT eH Rz Pl Tv HJ xh uH xg Sz Pj IK Ug Tz Tx Tw aAK U8 vS Li Lg KQ rI rU rEq rNe PL HS ipI Qa Ud Ue Ub Ua Oc Ob IW P7 Dj P8 Qf L8 Oa xG Og Zi Od Qd Zg Zh Qb Uc Yq Hz vR T4 Yu Yt Di Dh P6 Pr Ys Pm HW Yr HD tIf List.map_cons List.map_nil List.cons_append List.nil_append List.append_nil List.length_cons List.length_nil List.replicate List.getElem?_cons_zero List.getElem?_cons_succ List.set_cons_zero List.set_cons_succ Nat.reduceAdd Nat.reduceSub Nat.reduceLeDiff Option.some.injEq V.int.injEq V.ref.injEq V.str.injEq V.bl.injEq V.ty.injEq List.cons.injEq HO.lst.injEq HO.tup.injEq HO.dK.injEq exists_eq_left exists_eq_left' exists_and_left and_true true_and and_assoc exists_const reduceCtorEq ai Ld decide_eq_true_eq List.length_map ite_true ite_false Bool.false_eq_true Bool.true_and Bool.and_true vi tF yU Ej WR WQ Q6 Q5 Q0 QZ QX Wh Wg Wf Wd RT RQ RP RN Kn cw Option.join_some Option.join_none HQ Lk JR JQ Vc Ui JS Ra Le Ph Int.zero_add Int.reduceMul Int.reduceAdd Int.reduceSub Int.reduceLT Int.reduceLE Int.reducePow Int.reduceToNat Int.reduceNeg gt_iff_lt ge_iff_le z5 hv Qe HO.ext.injEq Lq Pn zY Lh vQ HR Iq Pk Ends.W7 Ac Ad Ae HF Uh HO.xd.injEq P5 aAM mD P9 Nb Qc T8 qB Bq sd IV Iv Ry J' RB HN Ze Zf Lp").splitOn " ").toArray.map fun x => Lean.mkIdent x.toName
  `(tactic| simp only [$[$ids:ident],*])
section
variable {P:Program}{w:World}{K:PySem.W.Frag}{mg:Str->Option Value}{base:Heap}{t:Adr}
theorem Dy(T:Txt K mg t):cz P w K mg base iq 1 t.kM t.ky ["_law_hand_here"] z5:=by
 refine T.gp.oI vY (λvs H Q E h=>?_) (λdB A outer s H vs Q E hr h hc hf=>?_)
 ·obtain⟨h,rfl,_⟩:=h;rfl
 obtain⟨h,rfl,l,a,b,c,d,e,hh,q⟩:=h
 refine⟨_,(by apply aj;exact(fq (aQ iR (aQ oG (bj gy (ao hc 0) ah (λ_ _=>rfl)) ah) ah) (iF (ao hc 0) ah lW));apply aj;exact(fq (aQ iR (aQ oG (bj gy (ao hc 0) ah (λ_ _=>rfl)) ah) ah) (iF (ao hc 0) ah lW));exact ay (aS (aQ fu (bj gy (ao hc 0) ah (λ_ _=>rfl)) (bj gy (ao hc 0) ah (λ_ _=>rfl))))),?_⟩
 unfold hv at *
 walk_at "rd"
 simp only[hh]
 walk_at "rd"
 exact q
theorem MK(T:Txt K mg t):cz P w K mg base iq 2 t.kL t.kx ["_law_hand_here"] Ie:=by
 have gk:=Dy (P:=P) (w:=w) (base:=base) T
 refine T.p9.oI jy (λvs H Q E h=>?_) (λdB A outer s H vs Q E hr h hc hf=>?_)
 ·obtain⟨h,rfl,_⟩:=h;rfl
 obtain⟨h,rfl,l,ns,o,hh,⟨a,b,c,d,e,rfl,ha⟩,hl,q⟩:=h
 refine⟨_,(by apply aj;exact(aF hc jy.nd hf 1 (by decide +kernel) ah);apply eF;exact(cj (aV Jq (bj gy (ao hc 0) ah (λ_ _=>rfl)) (aH cK (bG hc) T.eU gi (ae (bj gy (ao hc 0) ah (λ_ _=>rfl)) ag)) (bF _)) (by exact ay (aF hc jy.nd hf 1 (by decide +kernel) (aH Ks (bG hc) T.CP WN (ae (bj gy (bj gy (ao hc 0) ah (λ_ _=>rfl)) (bj gy (ao hc 0) ah (λ_ _=>rfl)) (λ_ _=>rfl)) ag)))) bE);apply aj;exact(wU (ao hc 0) ah Ox ah JM lW);apply eF;exact(cj (aV Oi (ao hc 1) (aQ oF ah ah) (bF _)) (by exact ay (fq (ao hc 1) (iF (ao hc 0) ah lW))) (by exact ay (fq ah (iF (ao hc 0) ah lW))));apply aj;exact(fq (aQ fu (aQ iR (aQ fu (bj gy (ao hc 0) ah (λ_ _=>rfl)) (aQ iR (ao hc 1) ah)) ah) ah) (iF (ao hc 0) ah lW));apply aj;exact(fq (aQ fu (aQ iR (aQ fu (aQ oG (bj gy (ao hc 0) ah (λ_ _=>rfl)) ah) (aQ iR (ao hc 1) ah)) ah) ah) (iF (ao hc 0) ah lW));apply aj;exact(dy (aD gk hr.mono (bG hc) T.iI T.gp.kp T.iM .nil bA (ae (ao hc 0) ag)));exact ay (dy (aD gk hr.mono (bG hc) T.iI T.gp.kp T.iM .nil bA (ae (ao hc 0) ag)))),?_⟩
 unfold hv at *
 walk_at "rd"
 refine⟨λσ' H'=>∃z,σ'=[some (.ref h),some (.int z)]/\H'=H,?_,?_⟩
 ·repeat (first | walk_at "rd" | simp only[hh,hl])
  split
  ·rename_i gS
   obtain⟨v,hv'⟩:=Kw ha gS
   rw[hv']
   walk_at "rd"
   exact⟨_,rfl⟩
  ·exact⟨_,rfl⟩
 ·rintro σ' H' ⟨z,e1,e2⟩
  subst e1 e2
  repeat (first | walk_at "rd" | simp only[hh,hl])
  refine⟨λσ' pY=>∃b' c',σ'=[some (.ref h),some (.int z)]/\pY=upd H' h (.lst [.ref l,.int (a+1),.int b',.int c',.int d,.int e]),?_,?_⟩
  ·repeat (first | walk_at "rd" | simp only[hh,hl])
   split
   ·exact⟨_,_,rfl⟩
   ·exact⟨_,_,rfl⟩
  ·rintro σ' pY ⟨b',c',e1,e2⟩
   subst e1 e2
   repeat (first | walk_at "rd" | simp only[hh,hl])
   exact q _ ⟨_,_,_,_,_,rfl,by omega⟩
theorem nJ(T:Txt K mg t):cz P w K mg base iq 3 t.kQ t.kE ["_law_hand_here","_law_many"] vV:=by
 have gk:=Dy (P:=P) (w:=w) (base:=base) T
 have y2:=MK (P:=P) (w:=w) (base:=base) T
 refine T.aN.oI dS (λvs H Q E h=>?_) (λdB A outer s H vs Q E hr h hc hf=>?_)
 ·obtain⟨h,m,rfl,_⟩:=h;rfl
 obtain⟨h,m,rfl,hm,hm2,l,ns,o,hh,⟨a,b,c,d,e,rfl,ha⟩,hl,q⟩:=h
 refine⟨_,(by apply eF;exact(cj (lL (vL (aV iH (bj gy (ao hc 0) ah (λ_ _=>rfl)) ah (bF _)) (rH (aV iH (bj gy (ao hc 0) ah (λ_ _=>rfl)) ah (bF _))))) (by exact ay (dy (aD y2 hr.mono (bG hc) T.yg T.p9.kp T.yQ .nil bA (ae (ao hc 0) ag)))) bE);apply aj;exact(cj (aV sq (bj gy (ao hc 0) ah (λ_ _=>rfl)) ah (bF _)) (by apply aj;exact(aF hc dS.nd hf 2 (by decide +kernel) (aQ iR (bj gy (ao hc 0) ah (λ_ _=>rfl)) (ao hc 1)));apply aj;exact(fq (aQ Jr (bj gy (ao hc 0) ah (λ_ _=>rfl)) (ao hc 1)) (iF (ao hc 0) ah lW));exact ay (aS (ao hc 2))) bE);apply aj;exact(wU (ao hc 0) ah Ox ah Q7 lW);apply aj;exact(aF hc dS.nd hf 3 (by decide +kernel) (aD gk hr.mono (bG hc) T.iI T.gp.kp T.iM .nil bA (ae (ao hc 0) ag)));apply aj;exact(aF hc dS.nd hf 4 (by decide +kernel) ah);apply aj;exact(uy nq (aV Jq (ao hc 4) (ao hc 1) (bF _)) (by apply aj;exact(aF hc dS.nd hf 3 (by decide +kernel) (aQ fu (aQ oG (ao hc 3) ah) (aD gk hr.mono (bG hc) T.iI T.gp.kp T.iM .nil bA (ae (ao hc 0) ag))));exact ay (aF hc dS.nd hf 4 (by decide +kernel) (aQ oG (ao hc 4) ah))));exact ay (aS (aQ iR (ao hc 3) (ao hc 1)))),?_⟩
 unfold hv at *
 walk_at "rd"
 refine⟨λσ' H'=>∃a b c d e,σ'=[some (.ref h),some (.int m),none,none,none]/\H'=upd H h (hv l a b c d e)/\0<=a,?_,?_⟩
 ·have same:H=upd H h (hv l a b c d e):=by
   funext x;unfold upd;split
   ·rename_i e;rw[e,hh];rfl
   ·rfl
  repeat (first | walk_at "rd" | simp only[hh,hl])
  by_cases hb:b=0
  ·by_cases hc:c=0
   ·simp only[hb,hc,mw]
    repeat (first | walk_at "rd" | simp only[hh,hl])
    refine⟨h,rfl,l,ns,_,hh,⟨a,b,c,d,e,by rw[hb,hc];rfl,ha⟩,hl,?_⟩
    rintro o' ⟨a',b',c',d',e',rfl,KZ⟩
    exact⟨a',b',c',d',e',rfl,KZ⟩
   ·simp only[hb,hc,mw,iP,qT]
    exact⟨a,b,c,d,e,same,ha⟩
  ·simp only[hb,iP,qT]
   exact⟨a,b,c,d,e,same,ha⟩
 ·rintro σ' H' ⟨a,b,c,d,e,e1,e2,ha⟩
  subst e1 e2
  repeat (first | walk_at "rd" | simp only[hh,hl])
  split
  ·rename_i hb
   refine⟨by omega,⟨by omega,hm2⟩,q _ _ (Int.emod_nonneg _ (by omega)) (Int.emod_lt_of_pos _ (by omega)) ⟨_,_,_,_,_,rfl,ha⟩⟩
  ·rename_i hb
   obtain⟨W,hW⟩:∃W:Nat->St->Hp->Prop,∀μ σ' H',W μ σ' H'↔∃v z a b c d e:Int,μ=(m-z).toNat/\σ'=[some (.ref h),some (.int m),none,some (.int v),some (.int z)]/\H'=upd H h (hv l a b c d e)/\0<=a/\1<=z:=⟨_,λ_ _ _=>dZ⟩
   refine⟨W,⟨_,(hW _ _ _).mpr ⟨_,_,_,_,_,_,_,rfl,rfl,rfl,ha,by omega⟩⟩,?_⟩
   intro μ σ' H' hw'
   obtain⟨v,z,a,b,c,d,e,rfl,e1,e2,ha,hz⟩:=(hW _ _ _).mp hw'
   subst e1 e2
   walk_at "rd"
   split
   ·rename_i gS
    obtain⟨N,hN⟩:∃N:St->Hp->Prop,∀σ' H',N σ' H'↔∃v z' a b c d e:Int,σ'=[some (.ref h),some (.int m),none,some (.int v),some (.int z')]/\H'=upd H h (hv l a b c d e)/\0<=a/\z'=z*4294967296:=⟨_,λ_ _=>dZ⟩
    refine⟨N,λσ' H' hn=>?_,?_⟩
    ·obtain⟨v,z',a,b,c,d,e,e1,e2,ha,e3⟩:=(hN _ _).mp hn
     exact⟨(m-z').toNat,by omega,(hW _ _ _).mpr ⟨v,z',a,b,c,d,e,rfl,e1,e2,ha,by omega⟩⟩
    ·repeat (first | walk_at "rd" | simp only[hh,hl])
     exact(hN _ _).mpr ⟨_,_,_,_,_,_,_,rfl,rfl,ha,rfl⟩
   ·refine⟨by omega,q _ _ (Int.emod_nonneg _ (by omega)) (Int.emod_lt_of_pos _ (by omega)) ⟨_,_,_,_,_,rfl,ha⟩⟩
local macro_rules | `(tactic| walk_at "rd") => `(tactic| walk_at "rc")
local macro_rules | `(tactic| walk_at "rl") => `(tactic| first | (refine ck fun R hR => ?_) | walk_at "ry" | (refine Nx.to (by assumption) _ _ ?_))
def Hd(H:Hp)(h l:Addr):Prop:=∃ns o,H h=some o/\KH l o/\H l=some (.lst (List.map V.int ns))
def bX(H:Hp)(h:Addr):Prop:=∃l,Hd H h l
structure Dr(h:Addr)(H H':Hp):Prop where
 keep:∀b o,b≠h->H b=some o->H' b=some o
 hand:∀l,Hd H h l->Hd H' h l
theorem Dr.refl{h:Addr}{H:Hp}:Dr h H H:=⟨λ_ _ _ e=>e,λ_ x=>x⟩
theorem Dr.trans{h:Addr}{H H1 H2:Hp}(a:Dr h H H1)(b:Dr h H1 H2):Dr h H H2:=⟨λc o hc e=>b.keep c o hc (a.keep c o hc e),λl x=>b.hand l (a.hand l x)⟩
theorem Dr.aR{h:Addr}{H H1:Hp}(a:Dr h H H1)(x:bX H h):bX H1 h:=let ⟨l,y⟩:=x;⟨l,a.hand l y⟩
theorem Hd.apart{H:Hp}{h l:Addr}(x:Hd H h l):l≠h:=by
 obtain⟨ns,o,e1,⟨a,b,c,d,e,rfl,_⟩,e3⟩:=x
 intro z
 rw[z,e1]at e3
 have q:=dm e3
 unfold hv at q
 injection q with q
 match ns,q with
 | [],q=>cases q
 | n::_,q=>injection q with q1 _;cases q1
theorem Dr.new{h p:Addr}{H H1:Hp}{o:HO}(a:Dr h H H1)(hp:H1 p=none):Dr h H (upd H1 p o):=by
 refine⟨λc o' hc e=>?_,λl x=>?_⟩
 ·rw[aB (az (a.keep c o' hc e) hp)];exact a.keep c o' hc e
 ·obtain⟨ns,oh,e1,e2,e3⟩:=a.hand l x
  exact⟨ns,oh,by rw[aB (az e1 hp)];exact e1,e2,by rw[aB (az e3 hp)];exact e3⟩
theorem Dr.put{h p:Addr}{H H1:Hp}{o':HO}(a:Dr h H H1)(hn:H p=none):Dr h H (upd H1 p o'):=by
 refine⟨λc o' hc e=>?_,λl x=>?_⟩
 ·rw[aB (az e hn)];exact a.keep c o' hc e
 ·obtain⟨ns,oh,e1,e2,e3⟩:=a.hand l x
  obtain⟨_,_,f1,_,f3⟩:=x
  exact⟨ns,oh,by rw[aB (az f1 hn)];exact e1,e2,by rw[aB (az f3 hn)];exact e3⟩
theorem bX.ne{h p:Addr}{H:Hp}(x:bX H h)(hp:H p=none):p≠h:=by
 obtain⟨l,ns,oh,e1,_,_⟩:=x
 exact(az e1 hp).symm
theorem Dr.free{h p:Addr}{H H1:Hp}(a:Dr h H H1)(x:bX H h)(hp:H1 p=none):H p=none:=by
 cases e:H p with
 | none=>rfl
 | some o=>
  have n:=(a.aR x).ne hp
  have:=a.keep p o n e
  rw[hp]at this;cases this
theorem bQ{h:Addr}{m:Int}{H0 H:Hp}{Q:VK}{E:XK}(hd:bX H0 h)(d:Dr h H0 H)(h1:1<=m)(h2:m<2 ^ 300)(q:∀r H',0<=r->r<m->Dr h H0 H'->(∀b,b≠h->H' b=H b)->Q (.int r) H'):vV [.ref h,.int m] H Q E:=by
 obtain⟨l,x⟩:=hd
 have x':=d.hand l x
 have ap:=x'.apart
 obtain⟨ns,oh,e1,e2,e3⟩:=x'
 refine⟨h,m,rfl,h1,h2,l,ns,oh,e1,e2,e3,λr o' r0 r1 ho=>q r _ r0 r1 ⟨λc o hc e=>?_,λl' x'=>?_⟩ (λb hb=>aB hb)⟩
 ·rw[aB hc];exact d.keep c o hc e
 ·have y:=d.hand l' x'
  have ap':=y.apart
  obtain⟨ns',oh',f1,f2,f3⟩:=y
  have el:l'=l:=by
   obtain⟨a,b,c,d,e,rfl,_⟩:=e2
   obtain⟨a',b',c',d',e',rfl,_⟩:=f2
   rw[e1]at f1
   have:=dm f1
   unfold hv at this
   injection this with this
   injection this with this _
   exact(V.ref.inj this).symm
  subst el
  exact⟨ns,o',ai,ho,by rw[aB ap];exact e3⟩
theorem ak{H:Hp}{p:Addr}(h:H p=none)(o:HO):bz H (upd H p o):=λb u q=>by rw[aB (az q h)];exact q
theorem sV{α:Type}(f:α->V)(xs:List α)(lo hi:Option Int):iX (xs.map f) lo hi=((xs.drop (HT.cH xs.length 0 lo)).take (HT.cH xs.length xs.length hi-HT.cH xs.length 0 lo)).map f:=by
 unfold iX;rw[aY,List.map_take,List.map_drop]
def Ij(K:PySem.W.Frag):Sp:=λvs H Q _=>∃a ns,vs=[.ref a]/\lG K H a (List.map V.int ns)/\∀h H',bz H H'->H h=none->bX H' h->Q (.ref h) H'
theorem MP(T:Txt K mg t):cz P w K mg base iq 1 t.kP t.kB ["_law_script"] (Ij K):=by
 refine T.qc.oI vZ (λvs H Q E h=>?_) (λdB A outer s H vs Q E hr h hc hf=>?_)
 ·obtain⟨a,ns,rfl,_⟩:=h;rfl
 obtain⟨a,ns,rfl,hS,q⟩:=h
 refine⟨_,(by exact ay (aS (bK (ae (fK tq (bG hc) T.mC wF (ae (gL Dc (ao hc 0) jh (jg ah)) ag)) (ae ah (ae ah (ae ah (ae ah (ae ah ag))))))))),?_⟩
 walk_at "rd"
 refine⟨a,List.map V.int ns,rfl,hS,λp hp=>?_⟩
 rw[sV]
 walk_at "rd"
 refine λl hl=>⟨by decide,λh hh=>?_⟩
 have s1:=ak hp (.lst (List.map V.int ((ns.drop (HT.cH ns.length 0 none)).take (HT.cH ns.length ns.length (some 63)-HT.cH ns.length 0 none))))
 have s2:=ak hl (.lst (List.map V.int ((ns.drop (HT.cH ns.length 0 none)).take (HT.cH ns.length ns.length (some 63)-HT.cH ns.length 0 none))))
 have s3:=ak hh (hv l 0 0 0 20011 40009)
 exact q h _ (s1.trans (s2.trans s3)) ((s1.trans s2).free hh) ⟨l,_,_,ai,⟨_,_,_,_,_,rfl,Int.le_refl 0⟩,s3 _ _ ai⟩
local macro_rules | `(tactic| walk_at "rd") => `(tactic| walk_at "rc")
local macro_rules | `(tactic| walk_at "rl") => `(tactic| first | (refine ck fun R hR => ?_) | walk_at "ry" | (refine Nx.to (by assumption) _ _ ?_))
inductive Rl where
 | yes | no | var (x:Str) | neg (a:Rl) | two (k:Str) (a b:Rl)
def bw:List Str:=[Str.ofString "and",Str.ofString "or",Str.ofString "then",Str.ofString "same"]
def cg(H:Hp):Rl->Addr->Prop
 | .yes,p=>H p=some (.tup [.str (Str.ofString "yes")])
 | .no,p=>H p=some (.tup [.str (Str.ofString "no")])
 | .var x,p=>H p=some (.tup [.str (Str.ofString "is"),.str x])
 | .neg a,p=>∃q,H p=some (.tup [.str (Str.ofString "not"),.ref q])/\cg H a q
 | .two k a b,p=>k∈bw/\∃q r,H p=some (.tup [.str k,.ref q,.ref r])/\cg H a q/\cg H b r
def Rl.deep:Rl->Nat
 | .neg a=>a.deep+1
 | .two _ a b=>max a.deep b.deep+1
 | _=>1
def Rl.names:Rl->List Str
 | .var x=>[x]
 | .neg a=>a.names
 | .two _ a b=>a.names++b.names
 | _=>[]
def qw(H H':Hp):Prop:=∀q xs,H q=some (.tup xs)->H' q=some (.tup xs)
theorem av{H H':Hp}(s:bz H H'):qw H H':=λq xs e=>s q _ e
theorem bX.oJ{H:Hp}{h q:Addr}{xs:List V}(x:bX H h)(e:H q=some (.tup xs)):q≠h:=by
 obtain⟨l,ns,o,e1,⟨a,b,c,d,f,rfl,_⟩,_⟩:=x
 exact sy e e1 (by intro z;cases z)
theorem Dr.tups{h:Addr}{H H':Hp}(d:Dr h H H')(x:bX H h):qw H H':=λq xs e=>d.keep q _ (x.oJ e) e
theorem cg.mono{H H':Hp}(k:qw H H'):∀{r:Rl} {p:Addr},cg H r p->cg H' r p
 | .yes,p,h=>k _ _ h
 | .no,p,h=>k _ _ h
 | .var x,p,h=>k _ _ h
 | .neg a,p,⟨q,e,x⟩=>⟨q,k _ _ e,cg.mono k x⟩
 | .two w a b,p,⟨m,q,r,e,x,y⟩=>⟨m,q,r,k _ _ e,cg.mono k x,cg.mono k y⟩
theorem Rl.len:∀r:Rl,r.names.length*2<=2 ^ r.deep
 | .yes=>by decide
 | .no=>by decide
 | .var x=>by show 1*2<=2 ^ 1;decide
 | .neg a=>fF a.len (vH (by decide) (gU _))
 | .two k a b=>by
  show(a.names++b.names).length*2<=2 ^ (max a.deep b.deep+1)
  have h1:=fF a.len (vH (show 0<2 by decide) (Nat.le_max_left a.deep b.deep))
  have h2:=fF b.len (vH (show 0<2 by decide) (Nat.le_max_right a.deep b.deep))
  rw[eN,Nat.pow_succ];lia
theorem Rl.QL{r:Rl}(h:r.deep<=6):r.names.length<=32:=by
 have h1:=r.len
 have h2:2 ^ r.deep<=2 ^ 6:=vH (by decide) h
 have h3:(2:Nat) ^ 6=64:=by decide
 lia
theorem Rl.pos:∀r:Rl,1<=r.deep
 | .yes=>bB _
 | .no=>bB _
 | .var _=>bB _
 | .neg _=>rz _ _
 | .two _ _ _=>rz _ _
theorem OD:∀k∈bw,k≠Str.ofString "is":=by decide
theorem cg.kids{H:Hp}:∀{r:Rl} {p:Addr},cg H r p->(∃x,r=.var x/\H p=some (.tup [.str (Str.ofString "is"),.str x]))\/
  ∃(k:Str) (qs:List Addr) (rs:List Rl),H p=some (.tup (.str k::qs.map V.ref))/\k≠Str.ofString "is"/\qs.length=rs.length/\rs.length<=2/\(∀(i:Nat) q r',qs[i]?=some q->rs[i]?=some r'->cg H r' q/\r'.deep+1<=r.deep)/\r.names=(rs.map Rl.names).flatten
 | .yes,p,h=>.inr ⟨_,[],[],h,by decide,rfl,by decide,(λi q r' e=>by simp at e),rfl⟩
 | .no,p,h=>.inr ⟨_,[],[],h,by decide,rfl,by decide,(λi q r' e=>by simp at e),rfl⟩
 | .var x,p,h=>.inl ⟨x,rfl,h⟩
 | .neg a,p,⟨q,e,x⟩=>.inr ⟨_,[q],[a],e,by decide,rfl,by simp,(λi q' r' e1 e2=>by
   cases i with
   | zero=>cases e1;cases e2;exact⟨x,bB _⟩
   | succ n=>cases e1),by simp[Rl.names]⟩
 | .two w a b,p,⟨m,q,r,e,x,y⟩=>.inr ⟨_,[q,r],[a,b],e,OD _ m,rfl,by simp,(λi q' r' e1 e2=>by
   match i with
   | 0=>cases e1;cases e2;exact⟨x,rC (Nat.le_max_left _ _)⟩
   | 1=>cases e1;cases e2;exact⟨y,rC (Nat.le_max_right _ _)⟩
   | n+2=>cases e1),by simp[Rl.names]⟩
theorem u3(x:V)(xs:List V):iX (x::xs) (some 1) none=xs:=by
 unfold iX HT.cH
 simp
def Ib(d:Nat):Sp:=λvs H Q _=>∃p,vs=[.ref p]/\∃r,cg H r p/\r.deep<=d/\r.deep<=6/\∀L H',bz H H'->H L=none->H' L=some (.lst (List.map V.str r.names))->Q (.ref L) H'
theorem kY{rs:List Rl}{i:Nat}{r:Rl}(h:rs[i]?=some r):((rs.take (i+1)).map Rl.names).flatten=((rs.take i).map Rl.names).flatten++r.names:=by
 rw[jW,h]
 simp
theorem oC{qs:List Addr}{i:Nat}{x:V}(h:(List.map V.ref qs)[i]?=some x):∃q,qs[i]?=some q/\x=.ref q:=by
 rw[cW]at h
 cases e:qs[i]? with
 | none=>rw[e]at h;cases h
 | some q=>rw[e]at h;exact⟨q,rfl,(dm h).symm⟩
theorem oH(T:Txt K mg t):∀d:Nat,cz P w K mg base iq (d+1) t.ie t.g8 ["rule"] (Ib d)
 | 0=>T.dN.oI (k:=0) eI (λvs H Q E h=>by obtain⟨p,rfl,_⟩:=h;rfl) (λdB A outer s H vs Q E hr h hc hf=>by obtain⟨p,rfl,r,_,h1,_⟩:=h;have:=r.pos;lia)
 | d+1=>by
  have dM:=oH T d
  refine T.dN.oI (k:=d+1) eI (λvs H Q E h=>?_) (λdB A outer s H vs Q E hr h hc hf=>?_)
  ·obtain⟨p,rfl,_⟩:=h;rfl
  obtain⟨p,rfl,r,ra,hd,h6,q⟩:=h
  refine⟨_,(by apply aj;exact(cj (aV iH (bj mM (ao hc 0) ah (λ_ _=>rfl)) aL (bF _)) (by exact ay (aS (bK (ae (bj mM (ao hc 0) ah (λ_ _=>rfl)) ag)))) bE);apply aj;exact(aF hc eI.nd hf 1 (by decide +kernel) (bK ag));apply aj;exact(iE nq rfl (CK (gL TF (ao hc 0) (jg ah) jh)) (mB hc eI.nd hf 2 (by decide +kernel)) (by exact ay (dy (ju pD PySem.F.slot_list_extend PySem.F.type_list_extend uT (ao hc 1) (ae (aD dM hr.mono (bG hc) T.g0 T.dN.kp T.ia .nil bA (ae (ao hc 2) ag)) ag)))));exact ay (aS (ao hc 1))),?_⟩
  rcases ra.kids with ⟨x,rfl,hp⟩ | ⟨k,qs,rs,hp,kis,hl,l2,kid,nm⟩
  ·repeat (first | walk_at "rl" | simp only[hp])
   refine⟨by decide,λL hL=>q L _ (ak hL _) hL ai⟩
  ·repeat (first | walk_at "rl" | simp only[hp,kis])
   refine⟨by decide,λL hL=>?_⟩
   have pL:p≠L:=az hp hL
   walk_at "r"
   refine⟨_,by rw[aB pL];exact hp,by simp[HT.cH],λC hC=>?_⟩
   rw[u3]
   have LC:L≠C:=az ai hC
   have sC:bz H (upd (upd H L (.lst [])) C (.tup (List.map V.ref qs))):=(ak hL _).trans (ak hC _)
   refine⟨⟨_,fM ai⟩,?_⟩
   obtain⟨Pv,iu⟩:∃Pv:Nat->St->Hp->Prop,∀i σ' H',Pv i σ' H'↔∃x:Option V,σ'=[some (.ref p),some (.ref L),x]/\bz H H'/\H' L=some (.lst (List.map V.str ((rs.take i).map Rl.names).flatten))/\H' C=some (.tup (List.map V.ref qs)):=⟨_,λ_ _ _=>dZ⟩
   refine BG (xs:=List.map V.ref qs) Pv ((iu _ _ _).mpr ⟨none,rfl,sC,by rw[aB LC,ai];rfl,ai⟩) (λi σ' H1 _ pv=>?_) (λi x σ' H1 hx pv=>?_) (λσ' H1 pv=>?_)
   ·obtain⟨_,_,_,_,h⟩:=(iu _ _ _).mp pv
    exact h
   ·obtain⟨y,rfl,s1,Bx,hC1⟩:=(iu _ _ _).mp pv
    obtain⟨a,ea,rfl⟩:=oC hx
    have hi:i<rs.length:=by rw[<-hl];exact(eQ.mp ea).1
    have er:rs[i]?=some rs[i]:=cD hi
    obtain⟨ka,kd⟩:=kid i a _ ea er
    have len:((rs.take i).map Rl.names).flatten.length+(rs[i]).names.length<=32:=by
     have:=Rl.QL h6
     have e2:r.names=((rs.take (i+1)).map Rl.names).flatten++((rs.drop (i+1)).map Rl.names).flatten:=by
      rw[nm,<-List.flatten_append,<-cQ,List.take_append_drop]
     rw[e2,kY er,eN,eN]at this
     lia
    walk_at "r"
    refine⟨.inl ⟨rfl,_,bD Bx⟩,a,rfl,rs[i],ka.mono (av s1),by lia,by lia,λM H2 s2 hM Gj=>?_⟩
    repeat (first | walk_at "rl" | simp only[Gj,s2 _ _ Bx])
    refine⟨bH (by lia),(iu _ _ _).mpr ⟨_,rfl,?_,?_,?_⟩⟩
    ·exact λb u e=>by rw[aB (az e hL)];exact s2 _ _ (s1 _ _ e)
    ·rw[ai,kY er,cQ]
    ·rw[aB LC.symm];exact s2 _ _ hC1
   ·obtain⟨y,rfl,s1,Bx,hC1⟩:=(iu _ _ _).mp pv
    walk_at "r"
    refine q L H1 s1 hL ?_
    rw[Bx,aY,hl,jf,<-nm]
def Fi:Sp:=λvs H Q _=>∃p,vs=[.ref p]/\∃r,cg H r p/\r.deep<=6/\∀L ts H',bz H H'->H L=none->H' L=some (.lst (List.map V.str ts))->(∀z,z∈ts↔z∈r.names)->ts.Nodup->PyProof.Rows.sortedS ts=true->Q (.ref L) H'
theorem xR(T:Txt K mg t):cz P w K mg base iq 8 t.m7 t.mU ["rule"] Fi:=by
 have dM:=oH (P:=P) (w:=w) (base:=base) T 6
 refine T.tM.oI xq (λvs H Q E h=>?_) (λdB A outer s H vs Q E hr h hc hf=>?_)
 ·obtain⟨p,rfl,_⟩:=h;rfl
 obtain⟨p,rfl,r,ra,h6,q⟩:=h
 refine⟨_,(by exact ay (aS (aH (ml hr.hd) (bG hc) T.gd kG (ae (fK (va hr.hd) (bG hc) T.wX OJ (ae (aD dM hr.mono (bG hc) T.g0 T.dN.kp T.ia .nil bA (ae (ao hc 0) ag)) ag)) ag)))),?_⟩
 walk_at "r"
 refine⟨p,rfl,r,ra,h6,h6,λL H1 s1 hL Bx=>?_⟩
 have l32:=Rl.QL h6
 repeat (first | walk_at "rl" | simp only[Bx])
 refine⟨r.names,rfl,by lia,λZ hZ=>⟨r.names,rfl,by lia,λts mem nd Pu D hD=>?_⟩⟩
 have s3:=(s1.trans (ak hZ (Hf w Z r.names))).trans (ak hD (.lst (List.map V.str ts)))
 exact q D ts _ s3 ((s1.trans (ak hZ (Hf w Z r.names))).free hD) ai mem nd Pu
local macro_rules | `(tactic| walk_at "rd") => `(tactic| walk_at "rc")
local macro_rules | `(tactic| walk_at "rl") => `(tactic| first | (refine ck fun R hR => ?_) | walk_at "ry" | (refine Nx.to (by assumption) _ _ ?_))
theorem Yv{ss:List Str}{i:Nat}{x:V}(h:(List.map V.str ss)[i]?=some x):∃y,ss[i]?=some y/\x=.str y:=by
 rw[cW]at h
 cases e:ss[i]? with
 | none=>rw[e]at h;cases h
 | some q=>rw[e]at h;exact⟨q,rfl,(dm h).symm⟩
theorem cI{H H1:Hp}{p:Addr}{o:HO}(a:bz H H1)(hn:H p=none):bz H (upd H1 p o):=λb u e=>by rw[aB (az e hn)];exact a b u e
theorem bX.Om{H:Hp}{h q:Addr}{xs:List (Key×V)}(x:bX H h)(e:H q=some (.dK xs)):q≠h:=by
 obtain⟨l,ns,o,e1,⟨a,b,c,d,f,rfl,_⟩,_⟩:=x
 exact sy e e1 (by intro z;cases z)
theorem Dr.same{h:Addr}{H H1 H2:Hp}(d:Dr h H H1)(s:bz H1 H2):Dr h H H2:=⟨λb o hb e=>s _ _ (d.keep b o hb e),λl x=>by
 obtain⟨ns,o,e1,e2,e3⟩:=d.hand l x
 exact⟨ns,o,s _ _ e1,e2,s _ _ e3⟩⟩
theorem Wb(xs:List Str)(lo hi:Option Int):∃ys:List Str,iX (List.map V.str xs) lo hi=List.map V.str ys/\ys.length<=xs.length:=by
 refine⟨_,sV V.str xs lo hi,?_⟩
 rw[je,zc]
 lia
theorem qJ(xs:List V){k:Int}(hk:0<=k):iX xs none (some k)=xs.take k.toNat:=by
 have e:HT.cH xs.length xs.length (some k)=min k.toNat xs.length:=by
  show(if k<0 then _ else min k.toNat xs.length)=_
  rw[aE (by lia)]
 have e0:HT.cH xs.length 0 none=0:=rfl
 unfold iX
 rw[e,e0,vz,Nat.sub_zero]
 exact(List.take_eq_take_min ..).symm
def Fm:Sp:=λvs H Q _=>∃s,vs=[.str s]/\Q (match PyProof.Rows.KTD.datumAt s aW with | some i=>.int i | none=>.non) H
theorem dI(K:PySem.W.Frag)(T:String):PySem.W.kitOne K (.type T) (.type T)=some true:=by
 unfold PySem.W.kitOne
 rw[aI (by simp)]
theorem Jt:PyProof.Rows.KTD.datumAt (Str.ofString "not") aW=some 1:=by decide +kernel
theorem RX:∀k∈bw,PyProof.Rows.KTD.datumAt k aW=some 2:=by decide +kernel
inductive Dt where
 | int (i:Int) | str (s:Str) | bl (b:Bool) | non | tup (ds:List Dt) | lst (ds:List Dt) | dct
mutual
def Rep(h:Addr)(H:Hp):Dt->V->Prop
 | .int i,v=>v=.int i
 | .str s,v=>v=.str s/\s.length<=100
 | .bl b,v=>v=.bl b
 | .non,v=>v=.non
 | .tup ds,v=>∃p vs,v=.ref p/\H p=some (.tup vs)/\bU h H ds vs
 | .lst ds,v=>∃p vs,v=.ref p/\p≠h/\H p=some (.lst vs)/\bU h H ds vs
 | .dct,v=>∃p,v=.ref p/\p≠h/\H p=some (.dK [])
def bU(h:Addr)(H:Hp):List Dt->List V->Prop
 | [],vs=>vs=[]
 | d::ds,vs=>∃v ws,vs=v::ws/\Rep h H d v/\bU h H ds ws
end
structure Kp(h:Addr)(H H':Hp):Prop where
 tup:qw H H'
 jz:∀p o,p≠h->H p=some o->H' p=some o
theorem Kp.of{h:Addr}{H H':Hp}(s:bz H H'):Kp h H H':=⟨av s,λp o _ e=>s p o e⟩
theorem Kp.dr{h:Addr}{H H':Hp}(x:bX H h)(d:Dr h H H'):Kp h H H':=⟨d.tups x,λp o n e=>d.keep p o n e⟩
theorem Kp.trans{h:Addr}{H H' pY:Hp}(a:Kp h H H')(b:Kp h H' pY):Kp h H pY:=⟨λq xs e=>b.tup q xs (a.tup q xs e),λp o n e=>b.jz p o n (a.jz p o n e)⟩
mutual
theorem Rep.mono{h:Addr}{H H':Hp}(k:Kp h H H'):∀{d:Dt} {v:V},Rep h H d v->Rep h H' d v
 | .int _,_,e=>e
 | .str _,_,e=>e
 | .bl _,_,e=>e
 | .non,_,e=>e
 | .tup _,_,⟨p,vs,e,hp,r⟩=>⟨p,vs,e,k.tup _ _ hp,bU.mono k r⟩
 | .lst _,_,⟨p,vs,e,n,hp,r⟩=>⟨p,vs,e,n,k.jz _ _ n hp,bU.mono k r⟩
 | .dct,_,⟨p,e,n,hp⟩=>⟨p,e,n,k.jz _ _ n hp⟩
theorem bU.mono{h:Addr}{H H':Hp}(k:Kp h H H'):∀{ds:List Dt} {vs:List V},bU h H ds vs->bU h H' ds vs
 | [],_,e=>e
 | _::_,_,⟨v,ws,e,r,rs⟩=>⟨v,ws,e,Rep.mono k r,bU.mono k rs⟩
end
theorem bU.len{h:Addr}{H:Hp}:∀{ds:List Dt} {vs:List V},bU h H ds vs->vs.length=ds.length
 | [],_,e=>by cases e;rfl
 | _::_,_,⟨v,ws,e,_,rs⟩=>by subst e;rw[dH,dH,bU.len rs]
theorem bU.at{h:Addr}{H:Hp}:∀{ds:List Dt} {vs:List V} {i:Nat} {v:V},bU h H ds vs->vs[i]?=some v->∃d,ds[i]?=some d/\Rep h H d v
 | [],_,i,v,e,x=>by cases e;simp at x
 | d::ds,_,i,v,⟨w,ws,e,r,rs⟩,x=>by
  subst e
  cases i with
  | zero=>cases x;exact⟨d,rfl,r⟩
  | succ n=>exact bU.at (ds:=ds) (i:=n) rs x
theorem bU.append{h:Addr}{H:Hp}:∀{ds es:List Dt} {vs ws:List V},bU h H ds vs->bU h H es ws->bU h H (ds++es) (vs++ws)
 | [],_,_,_,e,r=>by cases e;exact r
 | _::_,_,_,_,⟨v,us,e,r,rs⟩,r2=>by subst e;exact⟨v,us++_,rfl,r,bU.append rs r2⟩
theorem bU.drop{h:Addr}{H:Hp}:∀{ds:List Dt} {vs:List V} (n:Nat),bU h H ds vs->bU h H (ds.drop n) (vs.drop n)
 | _,_,0,r=>r
 | [],_,n+1,e=>by cases e;rfl
 | _::ds,_,n+1,⟨v,us,e,_,rs⟩=>by subst e;exact bU.drop n rs
theorem bU.take{h:Addr}{H:Hp}:∀{ds:List Dt} {vs:List V} (n:Nat),bU h H ds vs->bU h H (ds.take n) (vs.take n)
 | _,_,0,r=>by simp only[List.take_zero];rfl
 | [],_,n+1,e=>by cases e;rfl
 | _::ds,_,n+1,⟨v,us,e,r,rs⟩=>by subst e;exact⟨v,us.take n,rfl,r,bU.take n rs⟩
theorem bU.one{h:Addr}{H:Hp}{d:Dt}{v:V}(r:Rep h H d v):bU h H [d] [v]:=⟨v,[],rfl,r,rfl⟩
def Rl.dt:Rl->Dt
 | .yes=>.tup [.str (Str.ofString "yes")]
 | .no=>.tup [.str (Str.ofString "no")]
 | .var x=>.tup [.str (Str.ofString "is"),.str x]
 | .neg a=>.tup [.str (Str.ofString "not"),a.dt]
 | .two k a b=>.tup [.str k,a.dt,b.dt]
def wH(r:Rl):Prop:=∀x∈r.names,x.length<=100
theorem RZ:∀k∈bw,k.length<=100:=by decide
theorem cg.rep{h:Addr}{H:Hp}:∀{r:Rl} {p:Addr},cg H r p->wH r->Rep h H r.dt (.ref p)
 | .yes,p,e,_=>⟨p,_,rfl,e,_,_,rfl,⟨rfl,by decide⟩,rfl⟩
 | .no,p,e,_=>⟨p,_,rfl,e,_,_,rfl,⟨rfl,by decide⟩,rfl⟩
 | .var x,p,e,s=>⟨p,_,rfl,e,_,_,rfl,⟨rfl,by decide⟩,_,_,rfl,⟨rfl,s x dE⟩,rfl⟩
 | .neg a,p,⟨q,e,ra⟩,s=>⟨p,_,rfl,e,_,_,rfl,⟨rfl,by decide⟩,_,_,rfl,cg.rep ra s,rfl⟩
 | .two k a b,p,⟨hk,q,r,e,ra,rb⟩,s=>⟨p,_,rfl,e,_,_,rfl,⟨rfl,RZ k hk⟩,_,_,rfl,cg.rep ra (λx hx=>s x (pC _ hx)),_,_,rfl,cg.rep rb (λx hx=>s x (iD _ hx)),rfl⟩
def Rl.good:Rl->Prop
 | .neg a=>a.good
 | .two k a b=>k∈bw/\a.good/\b.good
 | _=>True
theorem cg.good{H:Hp}:∀{r:Rl} {p:Addr},cg H r p->r.good
 | .yes,_,_=>trivial
 | .no,_,_=>trivial
 | .var _,_,_=>trivial
 | .neg a,_,⟨_,_,ra⟩=>show a.good from cg.good (r:=a) ra
 | .two _ a b,_,⟨hk,_,_,_,ra,rb⟩=>⟨hk,cg.good (r:=a) ra,cg.good (r:=b) rb⟩
theorem Rep.rl{h:Addr}{H:Hp}:∀{r:Rl} {v:V},Rep h H r.dt v->r.good->∃p,v=.ref p/\cg H r p
 | .yes,_,⟨p,vs,e,hp,v1,w1,e1,r1,e2⟩,_=>by subst e e1;cases e2;obtain⟨rfl,_⟩:=r1;exact⟨p,rfl,hp⟩
 | .no,_,⟨p,vs,e,hp,v1,w1,e1,r1,e2⟩,_=>by subst e e1;cases e2;obtain⟨rfl,_⟩:=r1;exact⟨p,rfl,hp⟩
 | .var x,_,⟨p,vs,e,hp,v1,w1,e1,r1,v2,w2,e2,r2,e3⟩,_=>by subst e e1 e2;cases e3;obtain⟨rfl,_⟩:=r1;obtain⟨rfl,_⟩:=r2;exact⟨p,rfl,hp⟩
 | .neg a,_,⟨p,vs,e,hp,v1,w1,e1,r1,v2,w2,e2,r2,e3⟩,g=>by
  subst e e1 e2;cases e3;obtain⟨rfl,_⟩:=r1
  obtain⟨q,rfl,ra⟩:=Rep.rl (r:=a) r2 g
  exact⟨p,rfl,q,hp,ra⟩
 | .two k a b,_,⟨p,vs,e,hp,v1,w1,e1,r1,v2,w2,e2,r2,v3,w3,e3,r3,e4⟩,⟨hk,ga,gb⟩=>by
  subst e e1 e2 e3;cases e4;obtain⟨rfl,_⟩:=r1
  obtain⟨q,rfl,ra⟩:=Rep.rl (r:=a) r2 ga
  obtain⟨q',rfl,rb⟩:=Rep.rl (r:=b) r3 gb
  exact⟨p,rfl,hk,q,q',hp,ra,rb⟩
instance (s:Str):Decidable (Nm s):=by unfold Nm;infer_instance
def gI:Dt->Bool
 | .str s=>decide (Nm s)
 | _=>false
abbrev eJ(k:Str):Option Int:=PyProof.Rows.KTD.datumAt k aW
def bh:Nat->Dt->Bool
 | 0,_=>false
 | n+1,.tup (.str k::ds)=>if k=Str.ofString "is" then (match ds with | [d]=>gI d | _=>false) else decide (eJ k=some (ds.length:Int))&&ds.all (bh n)
 | _+1,_=>false
theorem nR{k:Str}{i:Int}(h:eJ k=some i):((k=Str.ofString "yes"\/k=Str.ofString "no")/\i=0)\/(k=Str.ofString "not"/\i=1)\/(k∈bw/\i=2):=by
 unfold eJ aW at h
 simp only[PyProof.Rows.KTD.datumAt,iA]at h
 unfold bw
 simp only[dh,nu,or_false]
 repeat' split at h
 all_goals first | (injection h with h;subst h;simp_all) | cases h
theorem Em{α:Type}{p:α->Bool}{a b:α}:[a,b].all p=(p a&&p b):=by simp
theorem qI:∀{n:Nat} {d:Dt},bh n d=true->∃r:Rl,d=r.dt/\r.good/\r.deep<=n/\∀x∈r.names,Nm x
 | 0,_,h=>by simp[bh]at h
 | n+1,.tup (.str k::ds),h=>by
  unfold bh at h
  split at h
  ·rename_i hk
   cases ds with
   | nil=>cases h
   | cons d ds=>
    cases ds with
    | cons _ _=>cases h
    | nil=>
     cases d with
     | str s=>exact⟨.var s,by rw[hk];rfl,trivial,rz _ _,λx hx=>by rw[di.mp hx];exact of_decide_eq_true h⟩
     | _=>cases h
  ·rename_i hk
   rw[dW,iA]at h
   obtain⟨h1,h2⟩:=h
   rcases nR h1 with ⟨hy,e⟩ | ⟨hy,e⟩ | ⟨hy,e⟩
   ·have:ds=[]:=zL (by omega)
    subst this
    rcases hy with rfl | rfl
    ·exact⟨.yes,rfl,trivial,rz _ _,λx hx=>nomatch hx⟩
    ·exact⟨.no,rfl,trivial,rz _ _,λx hx=>nomatch hx⟩
   ·match ds,e with
    | [d],_=>
     simp only[om,List.all_nil,Bool.and_true]at h2
     obtain⟨r,rfl,g,dp,nm⟩:=qI h2
     exact⟨.neg r,by rw[hy];rfl,g,rC dp,nm⟩
    | [],e=>cases e
    | _::_::_,e=>simp only[dH]at e;omega
   ·match ds,e with
    | [d,d'],_=>
     rw[Em,dW]at h2
     obtain⟨r,rfl,g,dp,nm⟩:=qI h2.1
     obtain⟨r',rfl,g',dp',nm'⟩:=qI h2.2
     exact⟨.two k r r',rfl,⟨hy,g,g'⟩,rC (Nat.max_le.mpr ⟨dp,dp'⟩),λx hx=>by
      rcases gW.mp hx with z | z
      ·exact nm x z
      ·exact nm' x z⟩
    | [],e=>cases e
    | [_],e=>simp only[dH,rj]at e;omega
    | _::_::_::_,e=>simp only[dH]at e;omega
 | _+1,.tup [],h=>by simp[bh]at h
 | _+1,.tup (.int _::_),h=>by simp[bh]at h
 | _+1,.tup (.bl _::_),h=>by simp[bh]at h
 | _+1,.tup (.non::_),h=>by simp[bh]at h
 | _+1,.tup (.tup _::_),h=>by simp[bh]at h
 | _+1,.tup (.lst _::_),h=>by simp[bh]at h
 | _+1,.tup (.dct::_),h=>by simp[bh]at h
 | _+1,.int _,h=>by simp[bh]at h
 | _+1,.str _,h=>by simp[bh]at h
 | _+1,.bl _,h=>by simp[bh]at h
 | _+1,.non,h=>by simp[bh]at h
 | _+1,.lst _,h=>by simp[bh]at h
 | _+1,.dct,h=>by simp[bh]at h
theorem nH:∀{n:Nat} {r:Rl},r.good->r.deep<=n->(∀x∈r.names,Nm x)->bh n r.dt=true
 | 0,r,_,h,_=>by have:=r.pos;omega
 | n+1,.yes,_,_,_=>by
  show(if Str.ofString "yes" = Str.ofString "is" then _ else decide (eJ (Str.ofString "yes")=some ((0:Nat):Int))&&true)=true
  rw[aE (by decide)];decide +kernel
 | n+1,.no,_,_,_=>by
  show(if Str.ofString "no" = Str.ofString "is" then _ else decide (eJ (Str.ofString "no")=some ((0:Nat):Int))&&true)=true
  rw[aE (by decide)];decide +kernel
 | n+1,.var x,_,_,nm=>by
  show(if Str.ofString "is" = Str.ofString "is" then gI (.str x) else _)=true
  rw[aI rfl];exact decide_eq_true (nm x dE)
 | n+1,.neg a,g,dp,nm=>by
  show(if Str.ofString "not" = Str.ofString "is" then gI a.dt else decide (eJ (Str.ofString "not")=some ((1:Nat):Int)) && [a.dt].all (bh n))=true
  rw[aE (by decide),decide_eq_true (show eJ (Str.ofString "not")=some ((1:Nat):Int) from Jt)]
  simp only[om,List.all_nil,Bool.and_true,Bool.true_and]
  exact nH g (Nat.le_of_succ_le_succ dp) nm
 | n+1,.two k a b,⟨hk,ga,gb⟩,dp,nm=>by
  have dp':max a.deep b.deep<=n:=Nat.le_of_succ_le_succ dp
  show(if k=Str.ofString "is" then false else decide (eJ k=some ((2:Nat):Int)) && [a.dt,b.dt].all (bh n))=true
  rw[aE (OD k hk),decide_eq_true (show eJ k=some ((2:Nat):Int) from RX k hk),Em,nH ga (by omega) (λx hx=>nm x (pC _ hx)),nH gb (by omega) (λx hx=>nm x (iD _ hx))]
  rfl
theorem dk:∀{r r':Rl},r.good->r'.good->r.dt=r'.dt->r=r'
 | .yes,.yes,_,_,_=>rfl
 | .no,.no,_,_,_=>rfl
 | .var _,.var _,_,_,e=>by injection e with e;injection e with _ e;injection e with e _;injection e with e;rw[e]
 | .neg a,.neg b,g,g',e=>by
  injection e with e;injection e with _ e;injection e with e _
  have:a=b:=dk (r:=a) (r':=b) g g' e
  rw[this]
 | .two _ _ _,.two _ _ _,g,g',e=>by
  injection e with e;injection e with e1 e;injection e with e2 e;injection e with e3 _
  injection e1 with e1
  rw[e1,dk g.2.1 g'.2.1 e2,dk g.2.2 g'.2.2 e3]
 | .yes,.no,_,_,e=>by injection e with e;injection e with e _;injection e with e;exact absurd e (by decide)
 | .no,.yes,_,_,e=>by injection e with e;injection e with e _;injection e with e;exact absurd e (by decide)
 | .yes,.var _,_,_,e=>by injection e with e;injection e with _ e;cases e
 | .yes,.neg _,_,_,e=>by injection e with e;injection e with _ e;cases e
 | .yes,.two _ _ _,_,_,e=>by injection e with e;injection e with _ e;cases e
 | .no,.var _,_,_,e=>by injection e with e;injection e with _ e;cases e
 | .no,.neg _,_,_,e=>by injection e with e;injection e with _ e;cases e
 | .no,.two _ _ _,_,_,e=>by injection e with e;injection e with _ e;cases e
 | .var _,.yes,_,_,e=>by injection e with e;injection e with _ e;cases e
 | .var _,.no,_,_,e=>by injection e with e;injection e with _ e;cases e
 | .var _,.neg a,_,_,e=>by injection e with e;injection e with e _;injection e with e;exact absurd e (by decide)
 | .var _,.two _ _ _,_,_,e=>by injection e with e;injection e with _ e;injection e with _ e;cases e
 | .neg _,.yes,_,_,e=>by injection e with e;injection e with _ e;cases e
 | .neg _,.no,_,_,e=>by injection e with e;injection e with _ e;cases e
 | .neg a,.var _,_,_,e=>by injection e with e;injection e with e _;injection e with e;exact absurd e (by decide)
 | .neg _,.two _ _ _,_,_,e=>by injection e with e;injection e with _ e;injection e with _ e;cases e
 | .two _ _ _,.yes,_,_,e=>by injection e with e;injection e with _ e;cases e
 | .two _ _ _,.no,_,_,e=>by injection e with e;injection e with _ e;cases e
 | .two _ _ _,.var _,_,_,e=>by injection e with e;injection e with _ e;injection e with _ e;cases e
 | .two _ _ _,.neg _,_,_,e=>by injection e with e;injection e with _ e;injection e with _ e;cases e
local macro_rules | `(tactic| walk_at "rd") => `(tactic| walk_at "rc")
local macro_rules | `(tactic| walk_at "rl") => `(tactic| first | (refine ck fun R hR => ?_) | walk_at "ry" | (refine Nx.to (by assumption) _ _ ?_))
theorem bP{K:PySem.W.Frag}{A B:String}(h:(Value.type A==Value.type B)=false)(e:PySem.W.kitCls K (.type A) (.type B)=some false):PySem.W.kitOne K (.type A) (.type B)=some false:=by
 unfold PySem.W.kitOne
 rw[aE (by rw[h];exact cR)]
 exact e
theorem Df(K:PySem.W.Frag){h:Addr}{H:Hp}:∀{d:Dt} {v:V},Rep h H d v->(∃ds,d=.tup ds)\/((∀ds,d≠.tup ds)/\∃t,jr K H v t/\PySem.W.kitOne K t (.type "tuple")=some false)
 | .int i,_,e=>.inr ⟨λ_ z=>(nomatch z),Value.type "int",by rw[show _=V.int i from e];exact .int i,bP (by decide) rfl⟩
 | .str s,_,e=>.inr ⟨λ_ z=>(nomatch z),Value.type "str",by rw[e.1];exact .str s,bP (by decide) rfl⟩
 | .bl b,_,e=>.inr ⟨λ_ z=>(nomatch z),Value.type "bool",by rw[show _=V.bl b from e];exact .bl b,bP (by decide) rfl⟩
 | .non,_,e=>.inr ⟨λ_ z=>(nomatch z),Value.type "NoneType",by rw[show _=V.non from e];exact .non,bP (by decide) rfl⟩
 | .tup ds,_,_=>.inl ⟨ds,rfl⟩
 | .lst _,_,⟨p,vs,e,_,hp,_⟩=>.inr ⟨λ_ z=>(nomatch z),Value.type "list",by rw[e];exact .lst hp,bP (by decide) rfl⟩
 | .dct,_,⟨p,e,_,hp⟩=>.inr ⟨λ_ z=>(nomatch z),Value.type "dict",by rw[e];exact .dK hp,bP (by decide) rfl⟩
theorem Dg(K:PySem.W.Frag){h:Addr}{H:Hp}:∀{d:Dt} {v:V},Rep h H d v->(∃s,d=.str s)\/((∀s,d≠.str s)/\∃t,jr K H v t/\PySem.W.kitOne K t (.type "str")=some false)
 | .int i,_,e=>.inr ⟨λ_ z=>(nomatch z),Value.type "int",by rw[show _=V.int i from e];exact .int i,bP (by decide) rfl⟩
 | .str s,_,e=>.inl ⟨s,rfl⟩
 | .bl b,_,e=>.inr ⟨λ_ z=>(nomatch z),Value.type "bool",by rw[show _=V.bl b from e];exact .bl b,bP (by decide) rfl⟩
 | .non,_,e=>.inr ⟨λ_ z=>(nomatch z),Value.type "NoneType",by rw[show _=V.non from e];exact .non,bP (by decide) rfl⟩
 | .tup ds,_,⟨p,vs,e,hp,_⟩=>.inr ⟨λ_ z=>(nomatch z),Value.type "tuple",by rw[e];exact .tup hp,bP (by decide) rfl⟩
 | .lst _,_,⟨p,vs,e,_,hp,_⟩=>.inr ⟨λ_ z=>(nomatch z),Value.type "list",by rw[e];exact .lst hp,bP (by decide) rfl⟩
 | .dct,_,⟨p,e,_,hp⟩=>.inr ⟨λ_ z=>(nomatch z),Value.type "dict",by rw[e];exact .dK hp,bP (by decide) rfl⟩
def Fl:Sp:=λvs H Q _=>∃v,vs=[v]/\∃h d,Rep h H d v/\∀H',bz H H'->Q (.bl (gI d)) H'
def Lx(n:Nat):Sp:=λvs H Q _=>∃v dp,vs=[v,.int dp]/\∃h d,Rep h H d v/\0<=dp/\dp<n/\∀H',bz H H'->Q (.bl (bh dp.toNat d)) H'
def Fj:Sp:=λvs H Q _=>∃v,vs=[v]/\∃h d,Rep h H d v/\∀b H',bz H H'->(b=true↔∃r:Rl,d=r.dt/\r.good/\r.deep<=6/\(∀x∈r.names,Nm x)/\∃us:List Str,us.length<=5/\∀z∈r.names,z∈us)->Q (.bl b) H'
theorem Dw{a b:Nat}:(!decide ([a] < [b]))=decide (b<=a):=by
 rw[nr]
 simp only[zl,decide_eq_false_iff_not,iA,List.cons_lt_cons_iff]
 constructor
 ·intro z
  exact zg λy=>z (.inl y)
 ·rintro z (y | ⟨_,y⟩)
  ·omega
  ·exact absurd y (List.not_lt_nil _)
theorem Av(T:Txt K mg t):cz P w K mg base iq 1 t.ic t.g7 ["word"] Fm:=by
 refine T.kS.oI qf (λvs H Q E h=>?_) (λdB A outer s H vs Q E hr h hc hf=>?_)
 ·obtain⟨z,rfl,_⟩:=h;rfl
 obtain⟨z,rfl,q⟩:=h
 refine⟨_,(by exact ay (aS (zP (bG hc) T.fz T.aW (ao hc 0)))),?_⟩
 repeat (first | walk_at "rd" | simp only[qB])
 exact q
theorem Ar(T : Txt K mg t) : cz P w K mg base iq 1 t.o6 t.oW ["thing"] Fl := by
  refine T.vn.oI Aa (λvs H Q E h => ?_) (λdB A outer s H vs Q E hr h hc hf => ?_)
  · obtain⟨v, rfl, _⟩ := h; rfl
  obtain⟨v, rfl, hd, d, rp, q⟩ := h
  have hu := jl hr
  have yz := hr.fL
  refine⟨_, (by apply aj; exact(cj (lL (iQ (fo (fk (aH cL (bG hc) T.aT bu (ae (ao hc 0) (ae (cY (v := V.ty "str") (bG hc) T.uC Kv rfl) ag))))) (jt (fo (Er uQ uQ ah (aH wC (bG hc) T.eU gi (ae (ao hc 0) ag)) (fY (v := .int 8) (bG hc) T.fB ⟨_, rfl⟩)))))) (by exact ay (aS gX)) bE); exact ay (aS (aH (vb hr.hd) (bG hc) T.wZ O2 (ae (eT hc ["sign"] [] rfl (by decide +kernel) (CN (ao hc 0)) (λ_ hc => tQ hc (by decide +kernel) 0 (by decide +kernel)) (λ_ _ => dO) (λ_ hc => (uB uP uP aL (ao hc 0) aL))) ag)))), ?_⟩
  repeat (first | walk_at "rd" | simp only[Nb])
  rcases Dg K rp with ⟨z, rfl⟩ | ⟨nd, ty, ht, hk⟩
  · obtain⟨rfl, lz⟩ := rp
    refine⟨_, .str _, true, dI _ _, ?_⟩
    rw[aE (by simp)]
    repeat (first | walk_at "rd" | simp only[mD])
    refine⟨bH (by omega), ?_⟩
    have VR : ¬ (1 ≤ z.length ∧ z.length ≤ 8) → gI (.str z)=false := λn => decide_eq_false λm => n ⟨m.1, m.2.1⟩
    split
    · rename_i h1
      split
      · rename_i h8
        have e := VR (by simp at h8; omega)
        rw[← e]
        exact q _ (bz.refl H)
      · rename_i h8
        have h1' : 1 ≤ z.length := by omega
        have h8' : z.length ≤ 8 := by simp at h8; omega
        obtain⟨Pc, oQ⟩ : ∃ Pc : Addr → Nat → List V → Hp → Prop, ∀ Z i ys H', Pc Z i ys H' ↔ ∃ bs : List Bool, ys=List.map V.bl bs ∧ bs=(z.cps.toList.take i).map (λc => decide (97 ≤ c)&&decide (c ≤ 122)) ∧ bz H H' ∧ H' Z=some (.lst ys) := ⟨_, λ_ _ _ _ => dZ⟩
        refine yG Pc (λZ hZ => (oQ _ _ _ _).mpr ⟨[], rfl, rfl, ak hZ _, ai⟩) (λZ hZ i c0 ys H' ec pv cb => ?_) (λZ hZ ys H' pv => ?_)
        · obtain⟨bs, rfl, Ni, sZ, Rk⟩ := (oQ _ _ _ _).mp pv
          have hi : i<z.cps.size := (pE.mp ec).1
          have hl : z.cps.size=z.length := rfl
          have ec' : z.cps.toList[i]?=some c0 := by rw[qW]; exact ec
          have lb : bs.length ≤ 8 := by rw[Ni, aY, je]; omega
          have step : bs++[decide (97 ≤ c0)&&decide (c0 ≤ 122)]=(z.cps.toList.take (i+1)).map (λc => decide (97 ≤ c)&&decide (c ≤ 122)) := by
            rw[jW, ec', cQ, Ni]; rfl
          walk_at "rc"
          repeat (first | walk_at "rd" | simp only[mD, P9])
          have ea : (Str.ofString "a").cps.toList=[97] := by decide +kernel
          have ez : (Str.ofString "z").cps.toList=[122] := by decide +kernel
          rw[ea, ez, Dw, Dw]
          have fin : ∀ b : Bool, b=(decide (97 ≤ c0)&&decide (c0 ≤ 122)) → H' Z=some (.lst (List.map V.bl bs)) ∧ bs.length<sizeLine ∧ Pc Z (i+1) (List.map V.bl bs++[V.bl b]) (upd H' Z (.lst (List.map V.bl bs++[V.bl b]))) := λb eb =>
            ⟨Rk, bV (by omega), (oQ _ _ _ _).mpr ⟨bs++[b], by simp, by rw[eb]; exact step, cI sZ hZ, ai⟩⟩
          by_cases X6 : 97 ≤ c0
          · rw[decide_eq_true X6, aI rfl]
            refine fin _ ?_
            rw[decide_eq_true X6]; rfl
          · rw[decide_eq_false X6, aE cR]
            refine fin _ ?_
            rw[decide_eq_false X6]; rfl
        · obtain⟨bs, rfl, Ni, sZ, Rk⟩ := (oQ _ _ _ _).mp pv
          refine⟨Z, rfl, bs, Rk, ?_⟩
          have e : bs.all id=gI (.str z) := by
            show _=decide (Nm z)
            rw[Ni, nr, iA, vq, qS]
            have et : z.cps.toList.take z.cps.size=z.cps.toList := zG (by simp)
            rw[et]
            constructor
            · intro al
              exact⟨h1', h8', λc hc => by have := al c hc; simp at this; exact this⟩
            · intro nm c hc
              have := nm.2.2 c hc
              simp[this.1, this.2]
          rw[e]
          exact q _ sZ
    · rename_i h1
      have e := VR (by omega)
      first
        | (split
           · rw[← e]; exact q _ (bz.refl H)
           · rename_i hx; exact absurd rfl hx)
        | (rw[← e]; exact q _ (bz.refl H))
  · refine⟨_, ht, false, hk, ?_⟩
    rw[aI (by simp)]
    have e : gI d=false := by
      cases d with
      | str z => exact absurd rfl (nd z)
      | _ => rfl
    rw[← e]
    exact q _ (bz.refl H)
local macro_rules | `(tactic| walk_at "rd") => `(tactic| walk_at "rc")
local macro_rules | `(tactic| walk_at "rl") => `(tactic| first | (refine ck fun R hR => ?_) | walk_at "ry" | (refine Nx.to (by assumption) _ _ ?_))
def Dx:List Dt->Bool
 | [d]=>gI d
 | _=>false
theorem Nr(m:Nat)(k:Str)(ds:List Dt):bh (m+1) (.tup (.str k::ds))=if k=Str.ofString "is" then Dx ds else decide (eJ k=some (ds.length:Int))&&ds.all (bh m):=by
 unfold bh Dx
 rfl
theorem Nq{n:Nat}{d:Dt}(h:∀ds,d≠.tup ds):bh n d=false:=by
 cases n with
 | zero=>rfl
 | succ n=>cases d with
  | tup ds=>exact absurd rfl (h ds)
  | _=>rfl
theorem Kc{n:Nat}:bh n (.tup [])=false:=by cases n <;> rfl
theorem Bz{n:Nat}{d:Dt}{ds:List Dt}(h:∀s,d≠.str s):bh n (.tup (d::ds))=false:=by
 cases n with
 | zero=>rfl
 | succ n=>cases d with
  | str s=>exact absurd rfl (h s)
  | _=>rfl
theorem xT(T:Txt K mg t):∀n:Nat,cz P w K mg base iq (n+2) t.ng t.mX ["thing","deepest"] (Lx n)
 | 0=>T.jG.oI (k:=1) pO (λvs H Q E h=>by obtain⟨v,dp,rfl,_⟩:=h;rfl) (λdB A outer s H vs Q E hr h hc hf=>by obtain⟨v,dp,rfl,hd,d,_,h1,h2,_⟩:=h;omega)
 | n+1=>by
  have nh:=xT T n
  have GZ:=Ar (P:=P) (w:=w) (base:=base) T
  have tK:=Av (P:=P) (w:=w) (base:=base) T
  refine T.jG.oI (k:=n+2) pO (λvs H Q E h=>?_) (λdB A outer s H vs Q E hr h hc hf=>?_)
  ·obtain⟨v,dp,rfl,_⟩:=h;rfl
  obtain⟨v,dp,rfl,hd,d,rp,h0,h1,q⟩:=h
  have hu:=jl hr
  have yz:=hr.fL
  refine⟨_,(by apply aj;exact(cj (lL (iQ (aV iH (ao hc 1) ah (bF _)) (iQ (fo (fk (aH cL (bG hc) T.aT bu (ae (ao hc 0) (ae (cY (v:=V.ty "tuple") (bG hc) T.jv qK rfl) ag))))) (jt (aV iH (aH lh (bG hc) T.eU gi (ae (ao hc 0) ag)) ah (bF _)))))) (by exact ay (aS gX)) bE);apply aj;exact(cj (fo (fk (aH cL (bG hc) T.aT bu (ae (bj mM (ao hc 0) ah (λ_ _=>rfl)) (ae (cY (v:=V.ty "str") (bG hc) T.uC Kv rfl) ag))))) (by exact ay (aS gX)) bE);apply aj;exact(cj (aV iH (bj mM (ao hc 0) ah (λ_ _=>rfl)) aL (bF _)) (by exact ay (aS (dP (fZ iH (aH lh (bG hc) T.eU gi (ae (ao hc 0) ag)) ah (bF _)) (gD (aD GZ hr.mono (bG hc) T.FT T.vn.kp T.GJ .nil bA (ae (bj mM (ao hc 0) ah (λ_ _=>rfl)) ag)))))) bE);apply aj;exact(cj (aV Us (aQ Ak (aH lh (bG hc) T.eU gi (ae (ao hc 0) ag)) ah) (aD tK hr.mono (bG hc) T.sE T.kS.kp T.tu .nil bA (ae (bj mM (ao hc 0) ah (λ_ _=>rfl)) ag)) (bF _)) (by exact ay (aS gX)) bE);exact ay (aS (aH (vb hr.hd) (bG hc) T.wZ O2 (ae (eT hc ["part"] [1] rfl (by decide +kernel) (CK (gL TF (ao hc 0) (jg ah) jh)) (λ_ hc=>tQ hc (by decide +kernel) 0 (by decide +kernel)) (λ_ _=>dO) (λ_ hc=>(aD nh hr.mono (bG hc) T.sH T.jG.kp T.tE .nil bA (ae (ao hc 0) (ae (aQ Ak (ao hc 1) ah) ag))))) ag)))),?_⟩
  repeat (walk_at "rd")
  by_cases hz:dp=0
  ·subst hz
   rw[aI rfl]
   exact q _ (bz.refl H)
  rw[aE hz]
  obtain⟨m,hm⟩:∃m:Nat,dp.toNat=m+1:=⟨dp.toNat-1,by omega⟩
  rw[hm]at q
  rcases Df K rp with ⟨ds,rfl⟩ | ⟨nd,ty,ht,hk⟩
  ·obtain⟨p,vs,rfl,hp,rs⟩:=rp
   refine⟨_,.tup hp,true,dI _ _,?_⟩
   repeat (first | walk_at "rd" | simp only[hp])
   have lv:=rs.len
   cases ds with
   | nil=>
    cases rs
    rw[aE (by simp),aI (by simp)]
    rw[Kc]at q
    exact q _ (bz.refl H)
   | cons d0 ds=>
    obtain⟨v0,ws,rfl,r0,rs⟩:=rs
    rw[aE (by simp),aE (by simp only[dH];omega)]
    repeat (first | walk_at "rd" | simp only[hp])
    rcases Dg K r0 with ⟨k,rfl⟩ | ⟨nd,ty,ht,hk⟩
    ·obtain⟨rfl,lk⟩:=r0
     refine⟨_,.str _,true,dI _ _,?_⟩
     rw[aE (by simp)]
     refine⟨rfl,?_⟩
     have lw:=rs.len
     rw[Nr]at q
     by_cases hk:k=Str.ofString "is"
     ·rw[aI (by rw[hk])]
      rw[aI hk]at q
      by_cases h2:((ws.length+1:Nat):Int)=2
      ·rw[aI h2]
       have l1:ws.length=1:=by omega
       match ds,ws,rs,lw,l1 with
       | [d1],[v1],rs,_,_=>
        obtain⟨v1',_,e1,r1,e2⟩:=rs
        cases e1
        exact⟨v1,tF _ _ _,v1,rfl,hd,d1,r1,q⟩
      ·rw[aE h2]
       match ds,lw with
       | [],_=>exact q _ (bz.refl H)
       | [_],lw=>exact absurd (by rw[lw];rfl) h2
       | _::_::_,_=>exact q _ (bz.refl H)
     ·rw[aE (by intro z;injection z with z;exact hk z)]
      rw[aE hk]at q
      refine⟨k,rfl,?_⟩
      by_cases hb:eJ k=some (ds.length:Int)
      ·rw[show PyProof.Rows.KTD.datumAt k aW=some (ds.length:Int) from hb]
       rw[decide_eq_true hb,Bool.true_and]at q
       refine⟨rfl,?_⟩
       rw[aE (by simp[lw])]
       refine⟨_,hp,by simp[HT.cH],λS hS=>?_⟩
       rw[u3]
       have sS:=ak hS (.tup ws)
       refine⟨⟨_,fM ai⟩,?_⟩
       obtain⟨Pc,oQ⟩:∃Pc:Addr->Nat->List V->Hp->Prop,∀Z i ys H',Pc Z i ys H'↔∃bs:List Bool,ys=List.map V.bl bs/\bs=(ds.take i).map (bh m)/\bz (upd H S (.tup ws)) H'/\H' Z=some (.lst ys):=⟨_,λ_ _ _ _=>dZ⟩
       have l2:ds.length<=2:=by
        rcases nR hb with ⟨_,e⟩ | ⟨_,e⟩ | ⟨_,e⟩ <;> omega
       refine yF (zs:=ws) Pc (λZ hZ=>(oQ _ _ _ _).mpr ⟨[],rfl,rfl,ak hZ _,ai⟩) (λZ hZ i ys H' _ pv=>?_) (λZ hZ i z ys H' hz pv cb=>?_) (λZ hZ ys H' pv=>?_)
       ·obtain⟨_,_,_,s,_⟩:=(oQ _ _ _ _).mp pv
        exact s _ _ ai
       ·obtain⟨bs,rfl,Ni,sZ,Rk⟩:=(oQ _ _ _ _).mp pv
        obtain⟨d1,ed,r1⟩:=rs.at hz
        have lb:bs.length<=2:=by rw[Ni,aY,je];omega
        walk_at "rc"
        repeat (walk_at "rd")
        refine⟨z,dp-1,rfl,hd,d1,r1.mono (Kp.of (sS.trans sZ)),by omega,by omega,λH5 s5=>?_⟩
        have em:(dp-1).toNat=m:=by omega
        rw[em]
        refine⟨s5 _ _ Rk,bV (by omega),(oQ _ _ _ _).mpr ⟨bs++[bh m d1],by simp,?_,cI (sZ.trans s5) hZ,ai⟩⟩
        rw[jW,ed,cQ,Ni]
        rfl
       ·obtain⟨bs,rfl,Ni,sZ,Rk⟩:=(oQ _ _ _ _).mp pv
        refine⟨Z,rfl,bs,Rk,?_⟩
        have e:bs.all id=ds.all (bh m):=by
         rw[Ni,lw,jf,vq]
         rfl
        rw[e]
        exact q _ (sS.trans sZ)
      ·rw[decide_eq_false hb,vy]at q
       have Rj:¬PyProof.Rows.KTD.datumAt k aW=some (ds.length:Int):=hb
       cases e:PyProof.Rows.KTD.datumAt k aW with
       | none=>
        refine⟨rfl,?_⟩
        rw[aI (by simp)]
        exact q _ (bz.refl H)
       | some i=>
        refine⟨rfl,?_⟩
        rw[e]at Rj
        rw[aI (by
         have:¬(((ws.length+1:Nat):Int)-1=i):=λz=>Rj (by rw[<-z,lw];congr 1;omega)
         rw[decide_eq_false (by intro z;injection z with z;exact this z)];rfl)]
        exact q _ (bz.refl H)
    ·refine⟨_,ht,false,hk,?_⟩
     rw[aI (by simp)]
     rw[Bz nd]at q
     exact q _ (bz.refl H)
  ·refine⟨_,ht,false,hk,?_⟩
   rw[aI (by simp)]
   rw[Nq nd]at q
   exact q _ (bz.refl H)
local macro_rules | `(tactic| walk_at "rd") => `(tactic| walk_at "rc")
local macro_rules | `(tactic| walk_at "rl") => `(tactic| first | (refine ck fun R hR => ?_) | walk_at "ry" | (refine Nx.to (by assumption) _ _ ?_))
theorem Aq(T:Txt K mg t):cz P w K mg base iq 10 t.o5 t.oV ["thing"] Fj:=by
 have nh:=xT (P:=P) (w:=w) (base:=base) T 7
 have Cy:=xR (P:=P) (w:=w) (base:=base) T
 refine T.vm.oI z9 (λvs H Q E h=>?_) (λdB A outer s H vs Q E hr h hc hf=>?_)
 ·obtain⟨v,rfl,_⟩:=h;rfl
 obtain⟨v,rfl,hd,d,rp,q⟩:=h
 have hu:=jl hr
 have yz:=hr.fL
 refine⟨_,(by exact ay (aS (dP (aD nh hr.mono (bG hc) T.sH T.jG.kp T.tE .nil bA (ae (ao hc 0) (ae (fY (v:=.int 6) (bG hc) T.iJ ⟨_,rfl⟩) ag))) (gD (fZ uQ (aH cK (bG hc) T.eU gi (ae (aD Cy hr.mono (bG hc) T.Bg T.tM.kp T.Cg .nil bA (ae (ao hc 0) ag)) ag)) (fY (v:=.int 5) (bG hc) T.gJ ⟨_,rfl⟩) (bF _)))))),?_⟩
 repeat (walk_at "rd")
 refine⟨v,6,rfl,hd,d,rp,by decide,by decide,λH1 s1=>?_⟩
 have e6:(6:Int).toNat=6:=rfl
 repeat (walk_at "rd")
 cases e:bh 6 d with
 | false=>
  rw[aE (by simp)]
  exact q false _ s1 ⟨λz=>(nomatch z),λ⟨r,e1,g,dp,nm,_⟩=>by rw[e1,nH g dp nm]at e;cases e⟩
 | true=>
  rw[aI rfl]
  obtain⟨r,rfl,g,dp,nm⟩:=qI e
  obtain⟨p,rfl,ra⟩:=rp.rl g
  refine⟨p,rfl,r,ra.mono (av s1),dp,λL ts H2 s2 hL XS mem nd Pu=>?_⟩
  repeat (first | walk_at "rd" | simp only[XS])
  refine q _ _ (s1.trans s2) ⟨λz=>⟨r,rfl,g,dp,nm,ts,by have:=of_decide_eq_true z;omega,λz hz=>(mem z).mpr hz⟩,λ⟨r',e',g',_,_,us,lus,sub⟩=>?_⟩
  have:=dk g g' e'
  subst this
  have:=gQ nd λz hz=>sub z ((mem z).mp hz)
  exact decide_eq_true (by omega)
local macro_rules | `(tactic| walk_at "rd") => `(tactic| walk_at "rc")
local macro_rules | `(tactic| walk_at "rl") => `(tactic| first | (refine ck fun R hR => ?_) | walk_at "ry" | (refine Nx.to (by assumption) _ _ ?_))
def WX(H:Hp)(ps:List Addr)(rs:List Rl):Prop:=ps.length=rs.length/\∀(i:Nat) p r,ps[i]?=some p->rs[i]?=some r->cg H r p/\r.deep<=6/\True
theorem Sg{w:World}{p:Addr}{ss ts:List Str}(h:∀z,z∈ss↔z∈ts):Hf w p ss=Hf w p ts:=by
 unfold Hf
 congr 1
 funext x
 refine propext ⟨λ⟨l,a,b⟩=>⟨l,a,λz=>(b z).trans (h z)⟩,λ⟨l,a,b⟩=>⟨l,a,λz=>(b z).trans (h z).symm⟩⟩
def z6:Sp:=λvs H Q _=>∃R,vs=[.ref R]/\∃(ps:List Addr) (rs:List Rl) (ns:List Str),H R=some (.lst (List.map V.ref ps))/\WX H ps rs/\rs.length<=30/\ns.length<=60/\(∀r∈rs,∀z∈r.names,z∈ns)/\
 ∀L ts H',bz H H'->H L=none->H' L=some (.lst (List.map V.str ts))->(∀z,z∈ts↔∃r∈rs,z∈r.names)->ts.Nodup->PyProof.Rows.sortedS ts=true->Q (.ref L) H'
theorem Ke{rs:List Rl}(h:∀r∈rs,r.deep<=6):(rs.map Rl.names).flatten.length<=32*rs.length:=by
 induction rs with
 | nil=>exact bB _
 | cons r rs ih=>
  have h1:=Rl.QL (h r (dE ..))
  have h2:=ih λx hx=>h x (dY _ hx)
  simp only[eB,uq,eN,dH]
  omega
theorem xS(T:Txt K mg t):cz P w K mg base iq 8 t.ig t.g9 ["rules"] z6:=by
 have dM:=oH (P:=P) (w:=w) (base:=base) T 6
 refine T.kW.oI gq (λvs H Q E h=>?_) (λdB A outer s H vs Q E hr h hc hf=>?_)
 ·obtain⟨R,rfl,_⟩:=h;rfl
 obtain⟨R,rfl,ps,rs,ns,hR,all,l30,l60,sub,q⟩:=h
 have hu:=jl hr
 have yz:=hr.fL
 have hl:=all.1
 have dp:∀r∈rs,r.deep<=6:=λr uW=>by
  obtain⟨i,hi,e⟩:=List.getElem_of_mem uW
  have G':i<ps.length:=by omega
  exact(all.2 i _ r (cD G') (by rw[cD hi,e])).2.1
 have fl:=Ke dp
 refine⟨_,(by apply aj;exact(aF hc gq.nd hf 1 (by decide +kernel) (bK ag));apply aj;exact(iE nq rfl (ji (ao hc 0)) (mB hc gq.nd hf 2 (by decide +kernel)) (by exact ay (dy (ju pD PySem.F.slot_list_extend PySem.F.type_list_extend uT (ao hc 1) (ae (aD dM hr.mono (bG hc) T.g0 T.dN.kp T.ia .nil bA (ae (ao hc 2) ag)) ag)))));exact ay (aS (aH (ml hr.hd) (bG hc) T.gd kG (ae (fK (va hr.hd) (bG hc) T.wX OJ (ae (ao hc 1) ag)) ag)))),?_⟩
 walk_at "r"
 refine⟨by decide,λL hL=>?_⟩
 have s0:=ak hL (.lst [])
 walk_at "r"
 refine⟨⟨_,bD (s0 _ _ hR)⟩,?_⟩
 obtain⟨Pv,iu⟩:∃Pv:Nat->St->Hp->Prop,∀i σ' H',Pv i σ' H'↔∃(x:Option V),σ'=[some (.ref R),some (.ref L),x]/\bz H H'/\H' L=some (.lst (List.map V.str ((rs.take i).map Rl.names).flatten)):=⟨_,λ_ _ _=>dZ⟩
 refine pR (xs:=List.map V.ref ps) Pv ((iu _ _ _).mpr ⟨none,rfl,s0,ai⟩) (λi σ' H' _ pv=>?_) (λi z σ' H1 hz pv=>?_) (λσ' H1 pv=>?_)
 ·obtain⟨_,_,s1,_⟩:=(iu _ _ _).mp pv
  exact s1 _ _ hR
 ·obtain⟨x,rfl,s1,Bx⟩:=(iu _ _ _).mp pv
  obtain⟨p,ep,rfl⟩:=oC hz
  have hi:i<rs.length:=by rw[<-hl];exact(eQ.mp ep).1
  have er:rs[i]?=some rs[i]:=cD hi
  obtain⟨ra,d6,_⟩:=all.2 i p _ ep er
  have len:((rs.take i).map Rl.names).flatten.length+(rs[i]).names.length<=960:=by
   have e2:(rs.map Rl.names).flatten=((rs.take (i+1)).map Rl.names).flatten++((rs.drop (i+1)).map Rl.names).flatten:=by
    rw[<-List.flatten_append,<-cQ,List.take_append_drop]
   rw[e2,kY er,eN,eN]at fl
   omega
  walk_at "r"
  refine⟨.inl ⟨rfl,_,bD Bx⟩,p,rfl,rs[i],ra.mono (av s1),d6,d6,λM H2 s2 hM Gj=>?_⟩
  repeat (first | walk_at "rl" | simp only[Gj,s2 _ _ Bx])
  refine⟨bH (by omega),(iu _ _ _).mpr ⟨_,rfl,λb u e=>by rw[aB (az e hL)];exact s2 _ _ (s1 _ _ e),?_⟩⟩
  rw[ai,kY er,cQ]
 ·obtain⟨x,rfl,s1,Bx⟩:=(iu _ _ _).mp pv
  rw[aY,hl,jf]at Bx
  repeat (first | walk_at "rl" | simp only[Bx])
  have mem:∀z,z∈(rs.map Rl.names).flatten↔z∈ns.filter λz=>decide (z∈(rs.map Rl.names).flatten):=λz=>by
   rw[rm,iA]
   refine⟨λh=>⟨?_,h⟩,λh=>h.2⟩
   obtain⟨l,Rf,hz⟩:=List.mem_flatten.mp h
   obtain⟨r,uW,rfl⟩:=dw.mp Rf
   exact sub r uW z hz
  have lf:=vI (λz=>decide (z∈(rs.map Rl.names).flatten)) ns
  refine⟨(rs.map Rl.names).flatten,rfl,by omega,λZ hZ=>⟨ns.filter λz=>decide (z∈(rs.map Rl.names).flatten),Sg mem,by omega,λts mm nd Pu D hD=>?_⟩⟩
  have s3:=(s1.trans (ak hZ (Hf w Z (rs.map Rl.names).flatten))).trans (ak hD (.lst (List.map V.str ts)))
  refine q D ts _ s3 ((s1.trans (ak hZ (Hf w Z (rs.map Rl.names).flatten))).free hD) ai (λz=>?_) nd Pu
  rw[mm z,<-mem z,List.mem_flatten]
  exact⟨λ⟨l,h1,h2⟩=>by obtain⟨r,uW,rfl⟩:=dw.mp h1;exact⟨r,uW,h2⟩,λ⟨r,h1,h2⟩=>⟨_,dw.mpr ⟨r,h1,rfl⟩,h2⟩⟩
local macro_rules | `(tactic| walk_at "rd") => `(tactic| walk_at "rc")
local macro_rules | `(tactic| walk_at "rl") => `(tactic| first | (refine ck fun R hR => ?_) | walk_at "ry" | (refine Nx.to (by assumption) _ _ ?_))
def Hv:Dt->Bool
 | .int _=>true
 | _=>false
theorem DG{K:PySem.W.Frag}{A B:String}(h:(Value.type A==Value.type B)=false)(e:PySem.W.kitCls K (.type A) (.type B)=some true):PySem.W.kitOne K (.type A) (.type B)=some true:=by
 unfold PySem.W.kitOne
 rw[aE (by rw[h];exact cR)]
 exact e
theorem LQ(K:PySem.W.Frag){h:Addr}{H:Hp}:∀{d:Dt} {v:V},Rep h H d v->(∃i,d=.int i/\v=.int i)\/(∃b,d=.bl b/\v=.bl b)\/(Hv d=false/\∃t,jr K H v t/\PySem.W.kitOne K t (.type "int")=some false)
 | .int i,_,e=>.inl ⟨i,rfl,e⟩
 | .str s,_,e=>.inr (.inr ⟨rfl,Value.type "str",by rw[e.1];exact .str s,bP (by decide) rfl⟩)
 | .bl b,_,e=>.inr (.inl ⟨b,rfl,e⟩)
 | .non,_,e=>.inr (.inr ⟨rfl,Value.type "NoneType",by rw[show _=V.non from e];exact .non,bP (by decide) rfl⟩)
 | .tup ds,_,⟨p,vs,e,hp,_⟩=>.inr (.inr ⟨rfl,Value.type "tuple",by rw[e];exact .tup hp,bP (by decide) rfl⟩)
 | .lst _,_,⟨p,vs,e,_,hp,_⟩=>.inr (.inr ⟨rfl,Value.type "list",by rw[e];exact .lst hp,bP (by decide) rfl⟩)
 | .dct,_,⟨p,e,_,hp⟩=>.inr (.inr ⟨rfl,Value.type "dict",by rw[e];exact .dK hp,bP (by decide) rfl⟩)
def Ic:Sp:=λvs H Q _=>∃v,vs=[v]/\∃h d,Rep h H d v/\Q (.bl (Hv d)) H
def U1:Dt->Bool
 | .int i=>decide (1<=i)&&decide (i<=1000000000000000000)
 | _=>false
def Py:Sp:=λvs H Q _=>∃v,vs=[v]/\∃h d,Rep h H d v/\Q (.bl (U1 d)) H
abbrev ja:=Int×Rl
def GoodR(r:Rl):Prop:=r.good/\r.deep<=6/\(∀x∈r.names,Nm x)/\∃us:List Str,us.length<=5/\∀z∈r.names,z∈us
def Cu(s:ja):Prop:=1<=s.1/\s.1<=1000000000000000000/\GoodR s.2
def dU(s:ja):Dt:=.tup [.int s.1,s.2.dt]
def O3(d:Dt):Prop:=∃s:ja,Cu s/\d=dU s
def nW(H:Hp)(a:Addr)(s:ja):Prop:=∃q,H a=some (.tup [.int s.1,.ref q])/\cg H s.2 q
theorem nW.mono{H H':Hp}(k:qw H H'){a:Addr}{s:ja}(h:nW H a s):nW H' a s:=by
 obtain⟨q,e,r⟩:=h
 exact⟨q,k _ _ e,r.mono k⟩
theorem Rep.say{h:Addr}{H:Hp}{s:ja}{v:V}(r:Rep h H (dU s) v)(g:s.2.good):∃p,v=.ref p/\nW H p s:=by
 obtain⟨p,vs,rfl,hp,v1,w1,rfl,e1,v2,w2,rfl,r2,e2⟩:=r
 cases e2
 obtain⟨q,rfl,ra⟩:=Rep.rl r2 g
 rw[show v1=V.int s.1 from e1]at hp
 exact⟨p,rfl,q,hp,ra⟩
def Lw:Sp:=λvs H Q _=>∃v,vs=[v]/\∃h d,Rep h H d v/\∀b H',bz H H'->(b=true↔O3 d)->Q (.bl b) H'
def Ih:Sp:=λvs H Q _=>∃a,vs=[.ref a]/\∃x y:V,H a=some (.tup [x,y])/\Q y H
theorem oP{ds:List Dt}(h:O3 (.tup ds)):∃l r,ds=[.int l,Rl.dt r]/\Cu (l,r):=by
 obtain⟨s,o,e⟩:=h
 injection e with e
 exact⟨s.1,s.2,e,o⟩
theorem Fy(T:Txt K mg t):cz P w K mg base iq 1 t.fE t.fD ["thing"] Ic:=by
 refine T.iO.oI mE (λvs H Q E h=>?_) (λdB A outer s H vs Q E hr h hc hf=>?_)
 ·obtain⟨i,rfl,_⟩:=h;rfl
 obtain⟨v,rfl,hh,d,r,q⟩:=h
 refine⟨_,(by exact ay (aS (dP (aH cL (bG hc) T.aT bu (ae (ao hc 0) (ae (cY (v:=V.ty "int") (bG hc) T.wY O0 rfl) ag))) (gD (vM (aH cL (bG hc) T.aT bu (ae (ao hc 0) (ae (cY (v:=V.ty "bool") (bG hc) T.oq Cj rfl) ag)))))))),?_⟩
 repeat (walk_at "rd")
 rcases LQ K r with ⟨i,rfl,rfl⟩ | ⟨b,rfl,rfl⟩ | ⟨e,ty,h1,h2⟩
 ·refine⟨_,.int i,true,dI _ _,?_⟩
  repeat (walk_at "rd")
  refine⟨_,.int i,false,bP (by decide) rfl,?_⟩
  repeat (walk_at "rd")
  exact q
 ·refine⟨_,.bl b,true,DG (by decide) rfl,?_⟩
  repeat (walk_at "rd")
  refine⟨_,.bl b,true,dI _ _,?_⟩
  repeat (walk_at "rd")
  exact q
 ·refine⟨_,h1,false,h2,?_⟩
  repeat (walk_at "rd")
  rw[e]at q
  exact q
theorem Au(T:Txt K mg t):cz P w K mg base iq 2 t.m9 t.mW ["thing"] Py:=by
 have nY:=Fy (P:=P) (w:=w) (base:=base) T
 refine T.tN.oI xt (λvs H Q E h=>?_) (λdB A outer s H vs Q E hr h hc hf=>?_)
 ·obtain⟨i,rfl,_⟩:=h;rfl
 obtain⟨v,rfl,hh,d,r,q⟩:=h
 refine⟨_,(by exact ay (aS (dP (aD nY hr.mono (bG hc) T.nM T.iO.kp T.nU .nil bA (ae (ao hc 0) ag)) (gD (uB uQ uQ ah (ao hc 0) (aQ oF ah ah)))))),?_⟩
 repeat (walk_at "rd")
 refine⟨v,rfl,hh,d,r,?_⟩
 cases d with
 | int i=>
  obtain rfl:v=V.int i:=r
  refine⟨true,rfl,?_⟩
  rw[aI rfl]
  refine⟨i,rfl,?_⟩
  have q':Q (V.bl (decide (1<=i)&&decide (i<=1000000000000000000))) H:=q
  split
  ·rename_i h1
   rw[decide_eq_true h1,Bool.true_and]at q'
   exact⟨i,rfl,q'⟩
  ·rename_i h1
   rw[decide_eq_false h1,vy]at q'
   exact q'
 | _=>exact⟨false,rfl,q⟩
theorem sr(T:Txt K mg t):cz P w K mg base iq 1 t.m8 t.mV ["saying"] uJ:=by
 refine T.ni.oI xr (λvs H Q E h=>?_) (λdB A outer s H vs Q E hr h hc hf=>?_)
 ·obtain⟨i,rfl,_⟩:=h;rfl
 obtain⟨a,rfl,l,x,ha,q⟩:=h
 refine⟨_,(by exact ay (aS (bj mM (ao hc 0) ah (λ_ _=>rfl)))),?_⟩
 repeat (first | walk_at "rd" | simp only[ha])
 exact q
theorem FG(T:Txt K mg t):cz P w K mg base iq 1 t.o4 t.oU ["saying"] Ih:=by
 refine T.vk.oI z8 (λvs H Q E h=>?_) (λdB A outer s H vs Q E hr h hc hf=>?_)
 ·obtain⟨i,rfl,_⟩:=h;rfl
 obtain⟨a,rfl,x,y,ha,q⟩:=h
 refine⟨_,(by exact ay (aS (bj mM (ao hc 0) ah (λ_ _=>rfl)))),?_⟩
 repeat (first | walk_at "rd" | simp only[ha])
 exact q
theorem Js(T:Txt K mg t):cz P w K mg base iq 11 t.kJ t.kr ["thing"] Lw:=by
 have Cz:=Au (P:=P) (w:=w) (base:=base) T
 have GX:=Aq (P:=P) (w:=w) (base:=base) T
 refine T.pZ.oI vX (λvs H Q E h=>?_) (λdB A outer s H vs Q E hr h hc hf=>?_)
 ·obtain⟨i,rfl,_⟩:=h;rfl
 obtain⟨v,rfl,hh,d,r,q⟩:=h
 have hu:=jl hr
 have yz:=hr.fL
 refine⟨_,(by exact ay (aS (dP (aH cL (bG hc) T.aT bu (ae (ao hc 0) (ae (cY (v:=V.ty "tuple") (bG hc) T.jv qK rfl) ag))) (dP (fZ iH (aH lh (bG hc) T.eU gi (ae (ao hc 0) ag)) ah (bF _)) (dP (aD Cz hr.mono (bG hc) T.Bh T.tN.kp T.Ci .nil bA (ae (bj mM (ao hc 0) ah (λ_ _=>rfl)) ag)) (gD (aD GX hr.mono (bG hc) T.FQ T.vm.kp T.GF .nil bA (ae (bj mM (ao hc 0) ah (λ_ _=>rfl)) ag)))))))),?_⟩
 repeat (walk_at "rd")
 rcases Df K r with ⟨ds,rfl⟩ | ⟨no,ty,h1,h2⟩
 ·obtain⟨p,ws,rfl,hp,rs⟩:=r
  refine⟨_,.tup hp,true,dI _ _,?_⟩
  repeat (first | walk_at "rd" | simp only[hp])
  split
  ·rename_i h2
   match ws,ds,rs,h2 with
   | [v1,v2],[d1,d2],⟨_,_,e0,r1,_,_,e1,r2,_⟩,_=>
    obtain⟨rfl,rfl⟩:=List.cons.inj e0
    obtain⟨rfl,rfl⟩:=List.cons.inj e1
    refine⟨v1,vi _ _,v1,rfl,hh,d1,r1,U1 d1,rfl,?_⟩
    split
    ·rename_i hl
     refine⟨_,hp,v2,tF _ _ _,v2,rfl,hh,d2,r2,λb H1 s1 hb=>q b H1 s1 (hb.trans ⟨λ⟨r,e,g,rest⟩=>?_,λhS=>?_⟩)⟩
     ·cases d1 with
      | int i=>
       have Rf:(decide (1<=i)&&decide (i<=1000000000000000000))=true:=hl
       rw[dW,iA,iA]at Rf
       exact⟨(i,r),⟨Rf.1,Rf.2,g,rest⟩,by rw[e];rfl⟩
      | _=>cases hl
     ·obtain⟨l,r,e,_,_,g,rest⟩:=oP hS
      injection e with _ e
      injection e with e _
      exact⟨r,e,g,rest⟩
    ·rename_i hl
     refine q false _ (λ_ _ z=>z) ⟨λz=>(nomatch z),λhS=>?_⟩
     obtain⟨l,r,e,o1,o2,_⟩:=oP hS
     injection e with e _
     subst e
     refine absurd ?_ hl
     show(decide (1<=l)&&decide (l<=1000000000000000000))=true
     rw[decide_eq_true o1,decide_eq_true o2];rfl
  ·rename_i h2
   refine q false _ (λ_ _ z=>z) ⟨λz=>(nomatch z),λhS=>?_⟩
   obtain⟨l,r,rfl,_⟩:=oP hS
   have:=rs.len
   exact absurd (by rw[this];rfl) h2
 ·refine⟨_,h1,false,h2,?_⟩
  repeat (walk_at "rd")
  exact q false _ (λ_ _ z=>z) ⟨λz=>(nomatch z),λ⟨s,_,e⟩=>absurd e (no _)⟩
local macro_rules | `(tactic| walk_at "rd") => `(tactic| walk_at "rc")
local macro_rules | `(tactic| walk_at "rl") => `(tactic| first | (refine ck fun R hR => ?_) | walk_at "ry" | (refine Nx.to (by assumption) _ _ ?_))
def dv(H:Hp)(ps:List Addr)(S:List ja):Prop:=ps.length=S.length/\∀(i:Nat) p s,ps[i]?=some p->S[i]?=some s->nW H p s
theorem dv.mono{H H':Hp}(k:qw H H'){ps:List Addr}{S:List ja}(h:dv H ps S):dv H' ps S:=⟨h.1,λi p s e1 e2=>(h.2 i p s e1 e2).mono k⟩
theorem fV{α:Type}{l:List α}{x y:α}{i:Nat}(h:(l++[x])[i]?=some y):(l[i]?=some y)\/(i=l.length/\y=x):=by
 rcases vt i l.length with h1 | h1
 ·rw[CJ h1]at h;exact .inl h
 ·rw[wR h1]at h
  have:i-l.length=0:=by
   rcases zr (i-l.length) with h2 | h2
   ·exact h2
   ·rw[qX (by simp only[dH,rj];omega)]at h;cases h
  rw[this]at h
  cases h
  exact .inr ⟨by omega,rfl⟩
theorem dv.snoc{H:Hp}{ps:List Addr}{S:List ja}{p:Addr}{s:ja}(h:dv H ps S)(hp:nW H p s):dv H (ps++[p]) (S++[s]):=by
 refine⟨by rw[eN,eN,h.1];rfl,λi q x e1 e2=>?_⟩
 have l:=h.1
 rcases fV e1 with h1 | ⟨h1,rfl⟩ <;> rcases fV e2 with h2 | ⟨h2,rfl⟩
 ·exact h.2 i q x h1 h2
 ·have:=(eQ.mp h1).1;omega
 ·have:=(eQ.mp h2).1;omega
 ·exact hp
theorem kl(m:Int)(y:List Int):JP (.int m) (List.map V.int y)=decide (m∈y):=by
 unfold JP
 rw[List.any_map,nr,List.any_eq_true,iA]
 constructor
 ·rintro⟨z,hz,e⟩
  have:z=m:=by simpa [Ea]using e
  rw[<-this];exact hz
 ·intro h
  exact⟨m,h,by simp[Ea]⟩
theorem dv.rules{H:Hp}:∀{ps:List Addr} {S:List ja},dv H ps S->∃qs:List Addr,qs.length=ps.length/\∀(i:Nat) p q s,ps[i]?=some p->qs[i]?=some q->S[i]?=some s->H p=some (.tup [.int s.1,.ref q])/\cg H s.2 q
 | [],_,_=>⟨[],rfl,λi p q s e=>by simp at e⟩
 | _::_,[],h=>by have:=h.1;simp at this
 | p::ps,s::S,h=>by
  obtain⟨q,e,r⟩:=h.2 0 p s rfl rfl
  obtain⟨qs,l,g⟩:=dv.rules (ps:=ps) (S:=S) ⟨by have:=h.1;simpa using this,λi p s e1 e2=>h.2 (i+1) p s e1 e2⟩
  refine⟨q::qs,by simp[l],λi p' q' s' e1 e2 e3=>?_⟩
  cases i with
  | zero=>cases e1;cases e2;cases e3;exact⟨e,r⟩
  | succ i=>exact g i p' q' s' e1 e2 e3
theorem uS:∀{L:List ja},(∀s∈L,Cu s)->∃ns:List Str,ns.length<=5*L.length/\∀s∈L,∀z∈s.2.names,z∈ns
 | [],_=>⟨[],bB _,λs h=>nomatch h⟩
 | s::L,h=>by
  obtain⟨_,_,_,_,_,us,l5,sub⟩:=h s dE
  obtain⟨ns,l,g⟩:=uS (L:=L) λx hx=>h x (dY _ hx)
  refine⟨us++ns,by rw[eN,dH];omega,λx hx z hz=>?_⟩
  rcases dh.mp hx with rfl | hx
  ·exact pC _ (sub z hz)
  ·exact iD _ (g x hx z hz)
def Sv(S:List ja)(s:ja):Prop:=(∀a∈S,a.1≠s.1)/\∃us:List Str,us.length<=12/\∀a∈S++[s],∀z∈a.2.names,z∈us
def Pz:Sp:=λvs H Q _=>∃a B,vs=[.ref a,.ref B]/\∃ps S s,H B=some (.lst (List.map V.ref ps))/\dv H ps S/\nW H a s/\S.length<=10/\(∀x∈S++[s],Cu x)/\∀b H',bz H H'->(b=true↔Sv S s)->Q (.bl b) H'
theorem MT(T:Txt K mg t):cz P w K mg base iq 9 t.Cp t.BR ["saying","heap"] Pz:=by
 have jF:=sr (P:=P) (w:=w) (base:=base) T
 have GR:=FG (P:=P) (w:=w) (base:=base) T
 have tL:=xS (P:=P) (w:=w) (base:=base) T
 refine T.KJ.oI De (λvs H Q E h=>?_) (λdB A outer s H vs Q E hr h hc hf=>?_)
 ·obtain⟨a,B,rfl,_⟩:=h;rfl
 obtain⟨a,B,rfl,ps,S,s,hB,sa,⟨qa,ha,ra⟩,l10,ok,q⟩:=h
 have hu:=jl hr
 have yz:=hr.fL
 have hl:=sa.1
 refine⟨_,(by apply aj;exact(cj (aV Al (aD jF hr.mono (bG hc) T.mH T.ni.kp T.mZ .nil bA (ae (ao hc 0) ag)) (eT hc ["ahead"] [] rfl (by decide +kernel) (ji (ao hc 1)) (λ_ hc=>tQ hc (by decide +kernel) 0 (by decide +kernel)) (λ_ _=>dO) (λ_ hc=>(aD jF hr.mono (bG hc) T.mH T.ni.kp T.mZ .nil bA (ae (ao hc 0) ag)))) (by with_unfolding_all rfl)) (by exact ay (aS gX)) bE);apply aj;exact(aF hc De.nd hf 2 (by decide +kernel) (aD tL hr.mono (bG hc) T.sF T.kW.kp T.tD .nil bA (ae (eT hc ["ahead"] [] rfl (by decide +kernel) (ji (aQ mF (ao hc 1) (bK (ae (ao hc 0) ag)))) (λ_ hc=>tQ hc (by decide +kernel) 0 (by decide +kernel)) (λ_ _=>dO) (λ_ hc=>(aD GR hr.mono (bG hc) T.FP T.vk.kp T.GD .nil bA (ae (ao hc 0) ag)))) ag)));exact ay (aS (fZ uQ (aH cK (bG hc) T.eU gi (ae (ao hc 2) ag)) (fY (v:=.int 12) (bG hc) T.cU ⟨_,rfl⟩) (bF _)))),?_⟩
 walk_at "r"
 refine⟨a,rfl,s.1,_,ha,?_⟩
 walk_at "r"
 refine⟨⟨_,bD hB⟩,?_⟩
 obtain⟨Pc,oQ⟩:∃Pc:Addr->Nat->List V->Hp->Prop,∀Z i ys H',Pc Z i ys H'↔ys=List.map V.int ((S.take i).map (·.1))/\bz H H'/\H' Z=some (.lst ys):=⟨_,λ_ _ _ _=>dZ⟩
 refine gK (zs:=List.map V.ref ps) Pc (λZ hZ=>(oQ _ _ _ _).mpr ⟨rfl,ak hZ _,ai⟩) (λZ hZ i ys H' _ pv=>?_) (λZ hZ i z ys H' hz pv cb=>?_) (λZ hZ ys H' pv=>?_)
 ·obtain⟨_,s1,_⟩:=(oQ _ _ _ _).mp pv
  exact s1 _ _ hB
 ·obtain⟨rfl,s1,Nk⟩:=(oQ _ _ _ _).mp pv
  obtain⟨p,ep,rfl⟩:=oC hz
  have hi:i<S.length:=by have:=(eQ.mp ep).1;omega
  have es:S[i]?=some S[i]:=cD hi
  obtain⟨q1,hp,_⟩:=sa.2 i p _ ep es
  walk_at "rc"
  repeat (walk_at "rd")
  refine⟨p,rfl,_,_,s1 _ _ hp,Nk,by rw[je];exact bV (by omega),(oQ _ _ _ _).mpr ⟨?_,cI s1 hZ,ai⟩⟩
  rw[jW,es,cQ,cQ];rfl
 ·obtain⟨rfl,s1,Nk⟩:=(oQ _ _ _ _).mp pv
  rw[aY,hl,jf]at Nk
  refine⟨Z,rfl,_,Nk,rfl,by simp[fC],?_⟩
  rw[kl]
  split
  ·rename_i hin
   obtain⟨x,hx,ex⟩:=dw.mp (of_decide_eq_true hin)
   exact q false _ s1 ⟨λz=>(nomatch z),λ⟨h1,_⟩=>absurd ex (h1 x hx)⟩
  ·rename_i hin
   have apart:∀x∈S,x.1≠s.1:=λx hx e=>hin (decide_eq_true (dw.mpr ⟨x,hx,e⟩))
   walk_at "r"
   refine⟨by decide,λG hG=>?_⟩
   have sG:=s1.trans (ak hG (.lst [V.ref a]))
   refine⟨_,sG _ _ hB,by rw[aY];exact bH (by omega),λD hD=>?_⟩
   have sD:=sG.trans (ak hD (.lst (List.map V.ref ps++[V.ref a])))
   have eD:List.map V.ref ps++[V.ref a]=List.map V.ref (ps++[a]):=by rw[cQ];rfl
   rw[eD]at sD ⊢
   have hD1:upd (upd H' G (.lst [V.ref a])) D (.lst (List.map V.ref (ps++[a]))) D=some (.lst (List.map V.ref (ps++[a]))):=ai
   generalize upd (upd H' G (.lst [V.ref a])) D (.lst (List.map V.ref (ps++[a])))=H2 at sD hD1 ⊢
   have sa2:=(sa.snoc ⟨qa,ha,ra⟩).mono (av sD)
   obtain⟨qs,lq,g⟩:=sa2.rules
   have lps:(ps++[a]).length=S.length+1:=by rw[eN,hl];rfl
   have lS:(S++[s]).length=S.length+1:=by rw[eN];rfl
   refine⟨⟨_,bD hD1⟩,?_⟩
   obtain⟨Pd,Bw⟩:∃Pd:Addr->Nat->List V->Hp->Prop,∀Z i ys H',Pd Z i ys H'↔ys=List.map V.ref (qs.take i)/\bz H2 H'/\H' Z=some (.lst ys):=⟨_,λ_ _ _ _=>dZ⟩
   refine gK (zs:=List.map V.ref (ps++[a])) Pd (λZ hZ=>(Bw _ _ _ _).mpr ⟨rfl,ak hZ _,ai⟩) (λZ hZ i ys H' _ pv=>?_) (λZ hZ i z ys H' hz pv cb=>?_) (λZ hZ ys H' pv=>?_)
   ·obtain⟨_,s1,_⟩:=(Bw _ _ _ _).mp pv
    exact s1 _ _ hD1
   ·obtain⟨rfl,s1,Nk⟩:=(Bw _ _ _ _).mp pv
    obtain⟨p,ep,rfl⟩:=oC hz
    have hi:i<(ps++[a]).length:=(eQ.mp ep).1
    have es:(S++[s])[i]?=some (S++[s])[i]:=cD (by omega)
    have eq:qs[i]?=some qs[i]:=cD (by omega)
    obtain⟨hp,_⟩:=g i p _ _ ep eq es
    walk_at "rc"
    repeat (walk_at "rd")
    refine⟨p,rfl,_,_,s1 _ _ hp,Nk,by rw[je];exact bV (by omega),(Bw _ _ _ _).mpr ⟨?_,cI s1 hZ,ai⟩⟩
    rw[jW,eq,cQ];rfl
   ·obtain⟨rfl,s1,Nk⟩:=(Bw _ _ _ _).mp pv
    rw[aY,<-lq,jf]at Nk
    obtain⟨ns,lns,gns⟩:=uS ok
    refine⟨Z,rfl,qs,(S++[s]).map (·.2),ns,Nk,⟨by rw[aY];omega,λi p r e1 e2=>?_⟩,by rw[aY];omega,by omega,λr uW z hz=>?_,λL ts H3 s3 hL Ti mem nd Pu=>?_⟩
    ·rw[cW]at e2
     cases es:(S++[s])[i]? with
     | none=>rw[es]at e2;cases e2
     | some x=>
      rw[es]at e2;cases e2
      have hi:i<(ps++[a]).length:=by have:=(eQ.mp es).1;omega
      have:=(g i _ p x (cD hi) e1 es).2
      exact⟨this.mono (av s1),(ok x (iC es)).2.2.2.1,trivial⟩
    ·obtain⟨x,hx,rfl⟩:=dw.mp uW
     exact gns x hx z hz
    ·repeat (first | walk_at "rl" | simp only[Ti])
     refine q _ _ ((sD.trans s1).trans s3) ⟨λh=>⟨apart,ts,?_,λx hx z hz=>(mem z).mpr ⟨x.2,dw.mpr ⟨x,hx,rfl⟩,hz⟩⟩,λ⟨_,us,lu,sub⟩=>?_⟩
     ·have:=of_decide_eq_true h;omega
     ·have:=gQ nd λz hz=>by obtain⟨r,uW,hz'⟩:=(mem z).mp hz;obtain⟨x,hx,rfl⟩:=dw.mp uW;exact sub x hx z hz'
      exact decide_eq_true (by omega)
local macro_rules | `(tactic| walk_at "rd") => `(tactic| walk_at "rc")
local macro_rules | `(tactic| walk_at "rl") => `(tactic| first | (refine ck fun R hR => ?_) | walk_at "ry" | (refine Nx.to (by assumption) _ _ ?_))
def gj(S:List ja):Prop:=∀(i:Nat) s,S[i]?=some s->Cu s/\Sv (S.take i) s
theorem gj.snoc{S:List ja}{s:ja}(h:gj S)(o:Cu s)(f:Sv S s):gj (S++[s]):=λi x e=>by
 rcases fV e with h1 | ⟨rfl,rfl⟩
 ·have hi:=(eQ.mp h1).1
  rw[Hi (pd hi)]
  exact h i x h1
 ·rw[Hi (bB _),jf]
  exact⟨o,f⟩
theorem gj.nd{S:List ja}(h:gj S):(S.map (·.1)).Nodup:=by
 rw[List.Nodup,zH]
 intro i j hi hj Rg e
 rw[aY]at hi hj
 rw[zb,zb]at e
 refine(h j _ (cD hj)).2.1 S[i] ?_ e
 exact iC (i:=i) (by rw[List.getElem?_take,aI Rg,cD hi])
theorem dv.U4{H:Hp}:∀{ps:List Addr} {S:List ja},dv H ps S->∃zs:List (Addr×Int),zs.map (·.1)=ps/\zs.map (·.2)=S.map (·.1)/\Kz H zs
 | [],[],_=>⟨[],rfl,rfl,λz hz=>nomatch hz⟩
 | [],_::_,h=>by have:=h.1;simp at this
 | _::_,[],h=>by have:=h.1;simp at this
 | p::ps,s::S,h=>by
  obtain⟨q,e,_⟩:=h.2 0 p s rfl rfl
  obtain⟨zs,e1,e2,la⟩:=dv.U4 (ps:=ps) (S:=S) ⟨by have:=h.1;simpa using this,λi p s e1 e2=>h.2 (i+1) p s e1 e2⟩
  refine⟨(p,s.1)::zs,by rw[eB,e1],by rw[eB,e2];rfl,λz hz=>?_⟩
  rcases dh.mp hz with rfl | hz
  ·exact⟨q,e⟩
  ·exact la z hz
def oa(ds:List Dt)(S:List ja)(d:Dt)(rest:List Dt):Prop:=ds=S.map dU++d::rest/\¬∃s,Cu s/\d=dU s/\Sv S s
def xj(C : Addr)(K : PySem.W.Frag) : Sp := λvs H Q E => ∃ v, vs=[v] ∧
  (((∃ ty, jr K H v ty ∧ PySem.W.kitOne K ty (.type "list")=some false) ∧ ∀ dx H', bz H H' → H' dx=some (.xd [("place", .int 0)]) → E (.ref C) (some dx) H') ∨
   ∃ L ws h ds, v=.ref L ∧ H L=some (.lst ws) ∧ bU h H ds ws ∧
    ((10<ws.length ∧ ∀ dx H', bz H H' → H' dx=some (.xd [("place", .int 0)]) → E (.ref C) (some dx) H') ∨
     (ws.length ≤ 10 ∧ ∃ S, gj S ∧
      ((∃ d rest, oa ds S d rest ∧ ∀ dx H', bz H H' → H' dx=some (.xd [("place", .int (S.length+1 : Nat))]) → E (.ref C) (some dx) H') ∨
       (ds=S.map dU ∧ ∀ D H' (zs xs : List (Addr × Int)), bz H H' → H D=none → ws=zs.map (λz => V.ref z.1) → Kz H zs → zs.map (·.2)=S.map (·.1) → H' D=some (.lst (xs.map λz => V.ref z.1)) → xs.Perm zs → xs.Pairwise (λa b => a.2<b.2) → Q (.ref D) H')))))
theorem qg(T:Txt K mg t):cz P w K mg base iq 1 t.bx t.eO cx (vU t.aC "place"):=by
 refine T.nj.oI lA (λvs H Q E h=>?_) (λdB A outer s H vs Q E hr h hc hf=>?_)
 ·obtain⟨e,v,t,rfl,_⟩:=h;rfl
 obtain⟨e,v,t0,rfl,he,q⟩:=h
 refine⟨_,(by apply aj;exact(dy (Hq T.fU T.fW T.fT (bG hc) T.nO (ae (ao hc 0) (ae aL ag))));exact ay (Ho (ao hc 0) (ao hc 1) rfl)),?_⟩
 repeat (walk_at "rd")
 refine⟨t.aC,t0,he,T.dQ,λt'=>⟨t.aC,t',rfl,T.dQ,T.jw,λdx hd qH=>?_⟩⟩
 rw[aB qH]at hd
 exact q dx t' hd qH
theorem uR(T:Txt K mg t):cz P w K mg base (CG P w) 12 t.o7 t.oX ["thing"] (xj t.aC K):=by
 have yZ:=Js (P:=P) (w:=w) (base:=base) T
 have Ss:=MT (P:=P) (w:=w) (base:=base) T
 have jF:=sr (P:=P) (w:=w) (base:=base) T
 have vj:=qg (P:=P) (w:=w) (base:=base) T
 refine T.ly.okE jx (λvs H Q E h=>?_) (λdB A outer s H vs Q E hr h hc hf L hpo=>?_)
 ·obtain⟨p,rfl,_⟩:=h;rfl
 obtain⟨v,rfl,h⟩:=h
 have hu:=jl hr
 have yz:=hr.fL
 refine⟨_,(by apply aj;exact(cj (lL (iQ (fo (fk (aH cL (bG hc) T.aT bu (ae (ao hc 0) (ae (cY (v:=V.ty "list") (bG hc) T.mC wF rfl) ag))))) (jt (aV sq (aH cK (bG hc) T.eU gi (ae (ao hc 0) ag)) (fY (v:=.int 10) (bG hc) T.fA ⟨_,rfl⟩) (bF _))))) (by exact ay (rJ (EH:=λ_=>E) T.dQ T.g5 T.g6 T.g4 vj T.ib hr.mono (bG hc) T.oN rfl L ah)) bE);apply aj;exact(aF hc jx.nd hf 1 (by decide +kernel) (bK ag));apply aj;exact(iE hpo rfl (Et (bG hc) T.iG (ae (ao hc 0) ag) ah) (qz rfl (eR (mB hc jx.nd hf 2 (by decide +kernel)) (eR (mB hc jx.nd hf 3 (by decide +kernel)) ny))) (by apply aj;exact(cj (lL (iQ (fo (fk (aD yZ hr.mono (bG hc) T.ye T.pZ.kp T.yO .nil bA (ae (ao hc 3) ag)))) (jt (fo (fk (aD Ss hr.mono (bG hc) T.QH T.KJ.kp T.Se .nil bA (ae (ao hc 3) (ae (ao hc 1) ag)))))))) (by exact ay (rJ (EH:=λ_=>E) T.dQ T.g5 T.g6 T.g4 vj T.ib hr.mono (bG hc) T.oN rfl L (ao hc 2))) bE);exact ay (dy (ju pD wO wQ gR (ao hc 1) (ae (ao hc 3) ag)))));exact ay (aS (wV jF hr.mono (bG hc) T.gd kG (bG hc) T.mH T.mZ (ao hc 1)))),?_⟩
 walk_at "r"
 rcases h with ⟨⟨ty,h1,h2⟩,qe⟩ | ⟨B,ws,hh,ds,rfl,hB,rs,h⟩
 ·refine⟨ty,h1,false,h2,?_⟩
  walk_at "r"
  exact λdx Nh=>qe dx _ (ak Nh _) ai
 refine⟨_,.lst hB,true,dI _ _,?_⟩
 repeat (first | walk_at "rl" | simp only[hB])
 rw[aE (by decide)]
 rcases h with ⟨uY,qe⟩ | ⟨uY,S,hS,h⟩
 ·rw[aI (by omega)]
  exact λdx Nh=>qe dx _ (ak Nh _) ai
 rw[aE (by omega)]
 walk_at "r"
 refine⟨by decide,λM hM=>?_⟩
 walk_at "r"
 have s0:=ak hM (.lst [])
 have lv:=rs.len
 have J1:∀(i:Nat) d,i<=S.length->ds[i]?=some d->(∃x,S[i]?=some x/\d=dU x)\/(i=S.length/\(¬∃s,Cu s/\d=dU s/\Sv S s)/\∀dx H',bz H H'->H' dx=some (.xd [("place",.int (S.length+1:Nat))])->E (.ref t.aC) (some dx) H'):=λi d hi ed=>by
  rcases vt i S.length with h1 | h1
  ·have es:S[i]?=some S[i]:=cD h1
   refine .inl ⟨S[i],es,?_⟩
   have e1:(S.map dU)[i]?=some (dU S[i]):=by rw[cW,es];rfl
   rcases h with ⟨d',rest,⟨e,_⟩,_⟩ | ⟨e,_⟩
   ·rw[e,CJ (by rw[aY];exact h1),e1]at ed
    exact(dm ed).symm
   ·rw[e,e1]at ed
    exact(dm ed).symm
  ·obtain rfl:i=S.length:=by omega
   rcases h with ⟨d',rest,⟨e,no⟩,qe⟩ | ⟨e,_⟩
   ·rw[e,wR (by rw[aY];exact bB _),aY,Nat.sub_self]at ed
    cases ed
    exact .inr ⟨rfl,no,qe⟩
   ·rw[e,qX (by rw[aY];exact bB _)]at ed
    cases ed
 refine⟨ws,bD (s0 _ _ hB),?_⟩
 obtain⟨Pv,iu⟩:∃Pv:Nat->St->Hp->Prop,∀i σ' H',Pv i σ' H'↔∃(x y:Option V) (ps:List Addr),σ'=[some (.ref B),some (.ref M),x,y]/\bz H H'/\i<=S.length/\H' M=some (.lst (List.map V.ref ps))/\List.map V.ref ps=ws.take i/\dv H ps (S.take i):=⟨_,λ_ _ _=>dZ⟩
 refine wz (xs:=ws) Pv ((iu _ _ _).mpr ⟨none,none,[],rfl,s0,dg _,ai,rfl,rfl,λi p s e=>by simp at e⟩) (λi σ' H' _ pv=>?_) (λi z p σ' H' hz hp pv=>?_) (λσ' H' pv=>?_)
 ·obtain⟨_,_,_,_,s1,_⟩:=(iu _ _ _).mp pv
  exact s1 _ _ hB
 ·obtain⟨x,y,ps,rfl,s1,hi,hM1,eps,sa⟩:=(iu _ _ _).mp pv
  obtain⟨d,ed,rd⟩:=rs.at hz
  have s2:=s1.trans (ak hp (.tup [V.int ((i:Int)+1),z]))
  have Gj:upd H' p (.tup [V.int ((i:Int)+1),z]) M=some (.lst (List.map V.ref ps)):=(ak hp _) _ _ hM1
  have uX:upd H' p (.tup [V.int ((i:Int)+1),z]) p=some (.tup [V.int ((i:Int)+1),z]):=ai
  generalize upd H' p (.tup [V.int ((i:Int)+1),z])=H2 at s2 Gj uX ⊢
  repeat (first | walk_at "rl" | simp only[uX])
  refine⟨_,fM uX,rfl,_,_,rfl,_,_,rfl,rfl,?_⟩
  walk_at "r"
  refine⟨z,rfl,hh,d,rd.mono (Kp.of s2),λb H3 s3 hb=>?_⟩
  have Xc:=s2.trans s3
  walk_at "r"
  have li:(S.take i).length=i:=by rw[je];omega
  have iw:i<ws.length:=(eQ.mp hz).1
  have sa3:=sa.mono (av Xc)
  have okT:∀x∈S.take i,Cu x:=λx hx=>by
   obtain⟨j,hj⟩:=vJ.mp (List.mem_of_mem_take hx)
   exact(hS j x hj).1
  have ePl:∀n:Nat,(((n+1:Nat):Int))=(n:Int)+1:=λn=>by omega
  split
  ·rename_i nb
   intro dx Nh
   rcases J1 i d hi ed with ⟨x,ex,rfl⟩ | ⟨rfl,no,qe⟩
   ·have:b=true:=hb.mpr ⟨x,(hS i x ex).1,rfl⟩
    rw[this]at nb;cases nb
   ·refine qe dx _ (Xc.trans (ak Nh _)) ?_
    rw[ePl];exact ai
  ·rename_i nb
   have bt:b=true:=by cases b with | true=>rfl | false=>exact absurd rfl nb
   obtain⟨x,ox,rfl⟩:=hb.mp bt
   obtain⟨a,rfl,ax⟩:=rd.say ox.2.2.1
   have ax3:=ax.mono (av Xc)
   refine⟨a,M,rfl,ps,S.take i,x,s3 _ _ Gj,sa3,ax3,by omega,λy hy=>?_,λc H4 s4 hc4=>?_⟩
   ·rcases gW.mp hy with h1 | h1
    ·exact okT y h1
    ·rw[di.mp h1];exact ox
   have s24:=Xc.trans s4
   refine⟨c,rfl,?_⟩
   split
   ·rename_i nc
    intro dx Nh
    rcases J1 i _ hi ed with ⟨x',ex,e⟩ | ⟨rfl,no,qe⟩
    ·have o':=(hS i x' ex).1
     have:x=x':=by
      injection e with e
      injection e with e1 e
      injection e1 with e1
      injection e with e _
      have:=dk ox.2.2.1 o'.2.2.1 e
      exact Prod.ext e1 this
     subst this
     have:c=true:=hc4.mpr (hS i x ex).2
     rw[this]at nc;cases nc
    ·refine qe dx _ (s24.trans (ak Nh _)) ?_
     rw[ePl];exact ai
   ·rename_i nc
    have ct:c=true:=by cases c with | true=>rfl | false=>exact absurd rfl nc
    have fit:=hc4.mp ct
    rcases J1 i _ hi ed with ⟨x',ex,e⟩ | ⟨rfl,no,qe⟩
    ·have o':=(hS i x' ex).1
     have:x=x':=by
      injection e with e
      injection e with e1 e
      injection e1 with e1
      injection e with e _
      have:=dk ox.2.2.1 o'.2.2.1 e
      exact Prod.ext e1 this
     subst this
     walk_at "r"
     refine⟨.inl ⟨rfl,_,bD (s4 _ _ (s3 _ _ Gj))⟩,_,s4 _ _ (s3 _ _ Gj),?_⟩
     have lps:=sa.1
     refine⟨by rw[aY];exact bV (by omega),(iu _ _ _).mpr ⟨_,_,ps++[a],rfl,cI s24 hM,(eQ.mp ex).1,?_,?_,?_⟩⟩
     ·rw[ai,cQ];rfl
     ·rw[jW,hz,cQ,eps];rfl
     ·rw[jW,ex]
      exact sa.snoc ax
    ·rw[jf]at fit
     exact absurd ⟨x,ox,rfl,fit⟩ no
 ·obtain⟨x,y,ps,rfl,s1,hi,hM1,eps,sa⟩:=(iu _ _ _).mp pv
  rw[jf]at eps
  rcases h with ⟨d',rest,⟨e,_⟩,_⟩ | ⟨e,q⟩
  ·rw[e,eN,aY,dH]at lv
   omega
  rw[e,aY]at lv
  rw[lv,jf]at sa
  walk_at "r"
  obtain⟨zs,e1,e2,la⟩:=sa.U4
  have em:(zs.map λz=>V.ref z.1)=List.map V.ref ps:=by rw[<-e1,iz];rfl
  have lz:zs.length=S.length:=by have:=gT List.length e2;simpa using this
  refine⟨M,rfl,zs,by rw[em];exact hM1,λz hz=>?_,by omega,by rw[e2];exact hS.nd,λD H2 xs sm hD hD2 pm pw=>q D H2 zs xs (s1.trans sm) (s1.free hD) (by rw[em,eps]) la e2 hD2 pm pw⟩
  obtain⟨r,er⟩:=la z hz
  exact⟨r,s1 _ _ er⟩
local macro_rules | `(tactic| walk_at "rd") => `(tactic| walk_at "rc")
local macro_rules | `(tactic| walk_at "rl") => `(tactic| first | (refine ck fun R hR => ?_) | walk_at "ry" | (refine Nx.to (by assumption) _ _ ?_))
def N3(K:PySem.W.Frag)(H:Hp)(v:V)(k:Int):Prop:=
 ((∃ty,jr K H v ty/\PySem.W.kitOne K ty (.type "list")=some false)/\k=0)\/
 ∃L ws h ds,v=.ref L/\H L=some (.lst ws)/\bU h H ds ws/\((10<ws.length/\k=0)\/(ws.length<=10/\∃S,gj S/\∃d rest,oa ds S d rest/\k=(S.length+1:Nat)))
theorem N3.told{C:Addr}{K:PySem.W.Frag}{H:Hp}{v:V}{k:Int}{Q:VK}{E:XK}(h:N3 K H v k)(q:∀dx H',bz H H'->H' dx=some (.xd [("place",.int k)])->E (.ref C) (some dx) H'):xj C K [v] H Q E:=by
 rcases h with ⟨ty,rfl⟩ | ⟨L,ws,h,ds,rfl,hL,rs,⟨uY,rfl⟩ | ⟨uY,S,hS,d,rest,am,rfl⟩⟩
 ·exact⟨v,rfl,.inl ⟨ty,q⟩⟩
 ·exact⟨_,rfl,.inr ⟨L,ws,h,ds,rfl,hL,rs,.inl ⟨uY,q⟩⟩⟩
 ·exact⟨_,rfl,.inr ⟨L,ws,h,ds,rfl,hL,rs,.inr ⟨uY,S,hS,.inl ⟨d,rest,am,q⟩⟩⟩⟩
def Fg(K:PySem.W.Frag):Sp:=λvs H Q _=>∃v k,vs=[v,.int k]/\N3 K H v k/\∀H',bz H H'->Q (.bl true) H'
theorem Cd{X:Cx}{K:PySem.W.Frag}(hK:X.K=K):cC X (.builtin "isinstance") (Qb K):=hK ▸ cL
theorem Ao(T:Txt K mg t):cz P w K mg base iq 13 t.ik t.hV ["_law_thing","_law_place"] (Fg K):=by
 have lr:=uR (P:=P) (w:=w) (base:=base) T
 refine T.ip.oI dz (λvs H Q E h=>?_) (λdB A outer s H vs Q E hr h hc hf=>?_)
 ·obtain⟨v,k,rfl,_⟩:=h;rfl
 obtain⟨v,k,rfl,rf,q⟩:=h
 have hu:=jl hr
 have yz:=hr.fL
 refine⟨_,(by apply aj;exact(aF hc dz.nd hf 2 (by decide +kernel) gX);apply aj;exact(Hm hc dz.nd 3 (by decide +kernel) rfl rfl T.vO.is (bG hc) T.nO (λEH xe pn L hpo=>(λhc hf=>(by exact ay (dy (Ew (EH:=EH) lr hr.mono (bG hc) T.oM T.ly.kp T.oZ L (ae (ao hc 0) ag))))) (hcT (xe:=xe) (pn:=pn) hc) (hfT (xe:=xe) (pn:=pn) hf)) (λe=>(λhc hf=>(by apply aj;exact(aF hc dz.nd hf 2 (by decide +kernel) (dP (aH (yL (K:=K) rfl) (bG hc) T.aT bu (ae (ao hc 3) (ae (fY (v:=V.ref t.aC) (bG hc) T.oN rfl) ag))) (dP (aH (yK (K:=K) rfl) (bG hc) T.aT bu (ae (ao hc 3) (ae (cY (v:=V.ty "ValueError") (bG hc) T.gE wG rfl) ag))) (gD (vM (aH (yM (K:=K) rfl) (bG hc) T.aT bu (ae (ao hc 3) (ae (aG (ae (fY (v:=V.ref t.aZ) (bG hc) T.Bi rfl) (ae (fY (v:=V.ref t.bC) (bG hc) T.FV rfl) ag))) ag))))))));exact ay (aF hc dz.nd hf 2 (by decide +kernel) (dP (ao hc 2) (dP (vM (aH (Cd (K:=K) rfl) (bG hc) T.aT bu (ae (wW (K:=K) rfl (ao hc 3) rfl) (ae (cY (v:=V.ty "bool") (bG hc) T.oq Cj rfl) ag)))) (gD (fZ iH (wW (K:=K) rfl (ao hc 3) rfl) (ao hc 1) (bF _)))))))) (hcS (e:=e) hc) (hfS (e:=e) hf)));exact ay (aS (ao hc 2))),?_⟩
 repeat (walk_at "rd")
 refine⟨λσ' C dx H'=>σ'=[some v,some (.int k),some (.bl false),none]/\C=.ref t.aC/\bz H H'/\∃d,dx=some d/\H' d=some (.xd [("place",.int k)]),rf.told λdx H1 s1 hd=>⟨rfl,rfl,s1,dx,rfl,hd⟩,?_⟩
 rintro σ' C dx H1 ⟨rfl,eC,s1,d,rfl,hd⟩
 cases eC
 refine⟨T.cG,λe he=>?_⟩
 have Xy:d≠e:=az hd he
 repeat (walk_at "rd")
 have s2:=s1.trans (ak he (.ext (y8 e t.aC (some d))))
 have hd2:upd H1 e (.ext (y8 e t.aC (some d))) d=some (.xd [("place",.int k)]):=by rw[aB Xy];exact hd
 have KY:upd H1 e (.ext (y8 e t.aC (some d))) e=some (.ext (y8 e t.aC (some d))):=ai
 generalize upd H1 e (.ext (y8 e t.aC (some d)))=H2 at s2 hd2 KY ⊢
 have xd:∀{H':Hp},bz H2 H'->yW H' (some d):=λsm d' e'=>by cases e';exact⟨_,sm _ _ hd2⟩
 refine⟨t.aC,some d,rfl,xd (λ_ _ z=>z),T.dQ,true,T.du,?_⟩
 rw[aI rfl]
 refine⟨t.aC,some d,rfl,xd (λ_ _ z=>z),T.dQ,true,T.jB,?_⟩
 rw[aI rfl]
 refine⟨by decide,λp1 Bt=>⟨[t.aZ,t.bC],rfl,t.aC,some d,?_⟩⟩
 have s3:=ak Bt (.tup [V.ref t.aZ,V.ref t.bC])
 have S9:=s3 _ _ KY
 have Hb:=s3 _ _ hd2
 have xd3:=xd s3
 have s4:=s2.trans s3
 generalize upd H2 p1 (.tup [V.ref t.aZ,V.ref t.bC])=H3 at S9 Hb xd3 s4 ⊢
 refine⟨S9,xd3,T.dQ,false,by simp only[eB,oj,PySem.W.kitAny,T.cT,T.dq],?_⟩
 rw[aI (by decide)]
 refine⟨t.aC,d,S9,T.dQ,T.gZ,_,Hb,.int k,rfl,_,.int k,false,bP (by decide) rfl,?_⟩
 rw[aI (by decide)]
 refine⟨t.aC,d,S9,T.dQ,T.gZ,_,Hb,.int k,rfl,rfl,?_⟩
 rw[decide_eq_true rfl]
 exact q H3 s4
local macro_rules | `(tactic| walk_at "rd") => `(tactic| walk_at "rc")
local macro_rules | `(tactic| walk_at "rl") => `(tactic| first | (refine ck fun R hR => ?_) | walk_at "ry" | (refine Nx.to (by assumption) _ _ ?_))
theorem mh:∀(l:List Int) (k:Nat),(List.map V.int l).eraseIdx k=List.map V.int (l.eraseIdx k)
 | [],_=>rfl
 | _::_,0=>rfl
 | x::l,k+1=>by
  show V.int x::(List.map V.int l).eraseIdx k=V.int x::List.map V.int (l.eraseIdx k)
  rw[mh l k]
theorem pS:∀(l:List Int) (k:Nat) (h:k<l.length),(l[k]::l.eraseIdx k).Perm l
 | _::_,0,_=>.refl _
 | x::l,k+1,h=>by
  show(l[k]'_::x::l.eraseIdx k).Perm (x::l)
  exact(List.Perm.swap ..).trans ((pS l k (Nat.lt_of_succ_lt_succ h)).cons x)
def o8(ls:List Int):Prop:=ls.Nodup/\∀l∈ls,1<=l/\l<=1000000000000000000
def Cr(ls:List Int)(at_:Int):Prop:=ls.Nodup/\∀l∈ls,1<=l/\l<=at_
theorem Cr.snoc{ls:List Int}{a b:Int}(h:Cr ls a)(h0:0<=a)(hb:a<b):Cr (ls++[b]) b:=by
 refine⟨vE.mpr ⟨h.1,jU.mpr ⟨λz=>(nomatch z),qN⟩,λx hx y hy=>?_⟩,λl hl=>?_⟩
 ·rw[di.mp hy]
  have:=(h.2 x hx).2
  omega
 ·rcases gW.mp hl with h1 | h1
  ·have:=h.2 l h1
   omega
  ·rw[di.mp h1];omega
theorem Cr.last{ls:List Int}{a:Int}(h:Cr ls a)(ha:a<1000000000000000000)(hp:0<ls.length):o8 (ls.set (ls.length-1) 1000000000000000000):=by
 have e:ls.set (ls.length-1) 1000000000000000000=ls.dropLast++[1000000000000000000]:=by
  rcases List.eq_nil_or_concat ls with rfl | ⟨l,x,rfl⟩
  ·simp at hp
  ·simp
 rw[e]
 have sub:∀x∈ls.dropLast,x∈ls:=λx hx=>List.dropLast_subset _ hx
 refine⟨vE.mpr ⟨h.1.sublist (List.dropLast_sublist _),jU.mpr ⟨λz=>(nomatch z),qN⟩,λx hx y hy=>?_⟩,λl hl=>?_⟩
 ·rw[di.mp hy]
  have:=(h.2 x (sub x hx)).2
  omega
 ·rcases gW.mp hl with h1 | h1
  ·have:=h.2 l (sub l h1)
   omega
  ·rw[di.mp h1];omega
def Ii:Sp:=λvs H Q _=>∃h m,vs=[.ref h,.int m]/\0<=m/\m<=10/\bX H h/\∀p ls H',Dr h H H'->H p=none->H' p=some (.lst (List.map V.int ls))->(ls.length:Int)=m->o8 ls->Q (.ref p) H'
theorem FH(T:Txt K mg t):cz P w K mg base iq 4 t.iZ t.iW ["_law_hand_here","_law_many"] Ii:=by
 have aJ:=nJ (P:=P) (w:=w) (base:=base) T
 refine T.mr.oI cF (λvs H Q E h=>?_) (λdB A outer s H vs Q E hr h hc hf=>?_)
 ·obtain⟨h,m,rfl,_⟩:=h;rfl
 obtain⟨h,m,rfl,m0,m10,hd,q⟩:=h
 have hu:=jl hr
 have yz:=hr.fL
 refine⟨_,(by apply aj;exact(aF hc cF.nd hf 2 (by decide +kernel) (bj gy (bK (ae ah (ae ah (ae (aQ oF ah ah) (ae (aQ oF ah ah) ag))))) (aD aJ hr.mono (bG hc) T.aO T.aN.kp T.aP .nil bA (ae (ao hc 0) (ae ah ag))) (λ_ _=>rfl)));apply aj;exact(aF hc cF.nd hf 3 (by decide +kernel) ah);apply aj;exact(aF hc cF.nd hf 4 (by decide +kernel) (bK ag));apply aj;exact(iE nq rfl (fJ (bG hc) T.fS (ae (ao hc 1) ag)) (mB hc cF.nd hf 5 (by decide +kernel)) (by apply aj;exact(Hn hc cF.nd hf 3 (by decide +kernel) (aQ fu ah (aD aJ hr.mono (bG hc) T.aO T.aN.kp T.aP .nil bA (ae (ao hc 0) (ae (ao hc 2) ag)))) JM);exact ay (dy (ju pD wO wQ gR (ao hc 4) (ae (ao hc 3) ag)))));apply eF;exact(cj (lL (vL (aV sq (ao hc 1) ah (bF _)) (rH (aV iH (aD aJ hr.mono (bG hc) T.aO T.aN.kp T.aP .nil bA (ae (ao hc 0) (ae ah ag))) ah (bF _))))) (by exact ay (fq (aQ oF ah ah) (iF (ao hc 4) (zO zQ ah) lW))) bE);apply aj;exact(aF hc cF.nd hf 6 (by decide +kernel) (bK ag));apply aj;exact(uy nq (aV sq (aH cK (bG hc) T.eU gi (ae (ao hc 4) ag)) ah (bF _)) (by exact ay (dy (ju pD wO wQ gR (ao hc 6) (ae (ju pD PySem.F.slot_list_pop PySem.F.type_list_pop Jy (ao hc 4) (ae (aD aJ hr.mono (bG hc) T.aO T.aN.kp T.aP .nil bA (ae (ao hc 0) (ae (aH cK (bG hc) T.eU gi (ae (ao hc 4) ag)) ag))) ag)) ag)))));exact ay (aS (ao hc 6))),?_⟩
 walk_at "r"
 refine⟨⟨by decide,by decide,by decide⟩,⟨by decide,by decide,by decide⟩,by decide,λL0 hL0=>?_⟩
 have aBb:=hd.ne hL0
 refine bQ hd (Dr.refl.new hL0) (by decide) (by decide) λi H1 i0 i4 d1 k1=>?_
 have e1:H1 L0=some (.lst [V.int 1,V.int 9,V.int 1000000,V.int 10000000000000000]):=by rw[k1 L0 aBb,ai]
 have est:∃st:Int,1<=st/\st<=10000000000000000/\m6 [V.int 1,V.int 9,V.int 1000000,V.int 10000000000000000] i=some (.int st):=by
  have hi:i=0\/i=1\/i=2\/i=3:=by omega
  rcases hi with rfl | rfl | rfl | rfl
  ·exact⟨1,by decide,by decide,vi _ _⟩
  ·exact⟨9,by decide,by decide,tF _ _ _⟩
  ·exact⟨1000000,by decide,by decide,yU _ _ _ _⟩
  ·exact⟨10000000000000000,by decide,by decide,Ej _ _ _ _ _⟩
 obtain⟨st,Xa,Ia,est⟩:=est
 have Tc:=d1.aR hd
 repeat (first | walk_at "rl" | simp only[e1,est])
 refine⟨by decide,λM hM=>?_⟩
 have hMh:=Tc.ne hM
 have hM0:H M=none:=d1.free hd hM
 walk_at "r"
 refine⟨by omega,by omega,?_⟩
 obtain⟨Pv,iu⟩:∃Pv:Nat->St->Hp->Prop,∀i σ' H',Pv i σ' H'↔∃(c:Int) (ls:List Int) (x:Option V),σ'=[some (.ref h),some (.int m),some (.int st),some (.int c),some (.ref M),x,none]/\Dr h H H'/\H' M=some (.lst (List.map V.int ls))/\ls.length=i/\Cr ls c/\0<=c/\c<=(i:Int)*10000000000000000:=⟨_,λ_ _ _=>dZ⟩
 refine mR Pv ((iu _ _ _).mpr ⟨0,[],none,rfl,d1.new hM,ai,rfl,⟨qN,λz hz=>nomatch hz⟩,Int.le_refl _,by omega⟩) (λj σ' H2 hj pv=>?_) (λσ' H2 pv=>?_)
 ·obtain⟨c,ls,x,rfl,d2,Gj,ll,ri,c0,c1⟩:=(iu _ _ _).mp pv
  walk_at "r"
  refine bQ hd d2 Xa (by omega) λr H3 r0 r1 d3 k3=>?_
  have Ou:H3 M=some (.lst (List.map V.int ls)):=by rw[k3 M hMh];exact Gj
  repeat (first | walk_at "rl" | simp only[Ou])
  refine⟨.inl ⟨rfl,_,bD Ou⟩,?_⟩
  refine⟨bV (by omega),(iu _ _ _).mpr ⟨_,ls++[c+(1+r)],_,rfl,d3.put hM0,by rw[ai,cQ];rfl,by rw[eN,ll];rfl,ri.snoc c0 (by omega),by omega,by omega⟩⟩
 ·obtain⟨c,ls,x,rfl,d2,Gj,ll,ri,c0,c1⟩:=(iu _ _ _).mp pv
  have hd2:=d2.aR hd
  have lm:(ls.length:Int)=m:=by omega
  have Bl:o8 ls:=⟨ri.1,λl hl=>by have:=ri.2 l hl;omega⟩
  walk_at "r"
  refine⟨λσ' H'=>∃wJ:List Int,σ'=[some (.ref h),some (.int m),some (.int st),some (.int c),some (.ref M),x,none]/\Dr h H H'/\H' M=some (.lst (List.map V.int wJ))/\(wJ.length:Int)=m/\o8 wJ,?_,?_⟩
  ·walk_at "r"
   split
   ·rename_i mp
    refine bQ hd d2 (by decide) (by decide) λr H3 r0 r1 d3 k3=>?_
    have Ou:H3 M=some (.lst (List.map V.int ls)):=by rw[k3 M hMh];exact Gj
    walk_at "r"
    split
    ·repeat (first | walk_at "rl" | simp only[Ou])
     have ex:Bo ls.length (-1)=some (ls.length-1):=by
      unfold Bo
      rw[aE (by decide),aI (by omega)]
      congr 1
      omega
     exact⟨_,ex,d3.put hM0,ls.set (ls.length-1) 1000000000000000000,List.map_set.symm,by rw[List.length_set];exact lm,ri.last (by omega) (by omega)⟩
    ·walk_at "r"
     exact⟨d3,ls,Ou,lm,Bl⟩
   ·walk_at "r"
    exact⟨d2,ls,Gj,lm,Bl⟩
  rintro σ' H3 ⟨wJ,rfl,d3,Ou,lm',Oo⟩
  have Hb:=d3.aR hd
  walk_at "r"
  refine⟨by decide,λN hN=>?_⟩
  have DT:=Hb.ne hN
  have XM:H N=none:=d3.free hd hN
  have hMN:M≠N:=az Ou hN
  walk_at "r"
  obtain⟨W,hW⟩:∃W:Nat->St->Hp->Prop,∀μ σ' H',W μ σ' H'↔∃as bs:List Int,σ'=[some (.ref h),some (.int m),some (.int st),some (.int c),some (.ref M),x,some (.ref N)]/\Dr h H H'/\H' M=some (.lst (List.map V.int as))/\H' N=some (.lst (List.map V.int bs))/\(bs++as).Perm wJ/\μ=as.length:=⟨_,λ_ _ _=>dZ⟩
  refine⟨W,⟨_,(hW _ _ _).mpr ⟨wJ,[],rfl,d3.new hN,by rw[aB hMN];exact Ou,ai,.refl _,rfl⟩⟩,λμ σ' H4 wv=>?_⟩
  obtain⟨as,bs,rfl,d4,XQ,XJ,pm,rfl⟩:=(hW _ _ _).mp wv
  have lpm:=pm.length_eq
  rw[eN]at lpm
  repeat (first | walk_at "rl" | simp only[XQ])
  split
  ·rename_i lp
   refine⟨λσ' H'=>∃m',m'<as.length/\W m' σ' H',λ_ _ z=>z,?_⟩
   repeat (first | walk_at "rl" | simp only[XQ,XJ])
   refine⟨.inl ⟨rfl,_,bD XJ⟩,.inl ⟨rfl,_,bD XQ⟩,?_⟩
   refine bQ hd d4 (by omega) (by omega) λr H5 r0 r1 d5 k5=>?_
   have hM5:H5 M=some (.lst (List.map V.int as)):=by rw[k5 M hMh];exact XQ
   have hN5:H5 N=some (.lst (List.map V.int bs)):=by rw[k5 N DT];exact XJ
   have uW:r.toNat<as.length:=by omega
   have er:as[r.toNat]?=some as[r.toNat]:=cD uW
   refine⟨List.map V.int as,r,rfl,hM5,by omega,by omega,r.toNat,qY r0 (by rw[aY];exact r1),.int as[r.toNat],by rw[cW,er];rfl,List.map V.int bs,by rw[aB hMN.symm];exact hN5,by rw[aY];exact bV (by omega),?_⟩
   refine⟨as.length-1,by omega,(hW _ _ _).mpr ⟨as.eraseIdx r.toNat,bs++[as[r.toNat]],rfl,(d5.put hM0).put XM,by rw[aB hMN,ai,mh],by rw[ai,cQ];rfl,?_,by rw[zJ uW]⟩⟩
   rw[vD]
   exact((pS as r.toNat uW).append_left bs).trans pm
  ·rename_i lp
   have:as=[]:=zL (by omega)
   subst this
   rw[ph]at pm
   walk_at "r"
   refine q N bs H4 d4 XM XJ (by omega) ⟨pm.nodup_iff.mpr Oo.1,λl hl=>Oo.2 l (pm.mem_iff.mp hl)⟩
local macro_rules | `(tactic| walk_at "rd") => `(tactic| walk_at "rc")
local macro_rules | `(tactic| walk_at "rl") => `(tactic| first | (refine ck fun R hR => ?_) | walk_at "ry" | (refine Nx.to (by assumption) _ _ ?_))
def iN(H:Hp)(N:Addr)(ss:List Str):Prop:=H N=some (.lst (List.map V.str ss))/\ss.length=26/\ss.Nodup/\∀s∈ss,Nm s
def Over(ss:List Str)(r:Rl)(js:List Nat):Prop:=js.Nodup/\(∀j∈js,j<26)/\∀z,z∈r.names↔∃j∈js,ss[j]?=some z
def Pw:Sp:=λvs H Q _=>∃h N,vs=[.ref h,.ref N]/\bX H h/\∃ss,iN H N ss/\∀p a L r js H',Dr h H H'->H' p=some (.tup [.ref a,.ref L])->cg H' r a->H' L=some (.lst (List.map (λj:Nat=>V.int j) js))->GoodR r->Over ss r js->js.length<=5->Q (.ref p) H'
theorem WT{ss:List Str}(h:ss.length=26){i:Int}(h0:0<=i)(h1:i<26):∃s,ss[i.toNat]?=some s/\m6 (List.map V.str ss) i=some (.str s):=by
 have hi:i.toNat<ss.length:=by omega
 refine⟨ss[i.toNat],cD hi,?_⟩
 have:m6 (List.map V.str ss) ((i.toNat:Nat):Int)=some (.str ss[i.toNat]):=eK (by rw[cW,cD hi];rfl)
 rw[show((i.toNat:Nat):Int)=i by omega]at this
 exact this
theorem Sf(i:Int)(h0:0<=i)(h4:i<4):∃k∈bw,m6 [V.str (Str.ofString "and"),V.str (Str.ofString "or"),V.str (Str.ofString "then"),V.str (Str.ofString "same")] i=some (.str k):=by
 have hi:i=0\/i=1\/i=2\/i=3:=by omega
 rcases hi with rfl | rfl | rfl | rfl
 ·exact⟨_,by decide,vi _ _⟩
 ·exact⟨_,by decide,tF _ _ _⟩
 ·exact⟨_,by decide,yU _ _ _ _⟩
 ·exact⟨_,by decide,Ej _ _ _ _ _⟩
theorem MJ(T:Txt K mg t):cz P w K mg base iq 4 t.kK t.ku ["_law_hand_here","_law_names"] Pw:=by
 have aJ:=nJ (P:=P) (w:=w) (base:=base) T
 refine T.p8.oI bZ (λvs H Q E h=>?_) (λdB A outer s H vs Q E hr h hc hf=>?_)
 ·obtain⟨h,m,rfl,_⟩:=h;rfl
 obtain⟨h,N,rfl,hd,ss,⟨hN,l26,nd,nm⟩,q⟩:=h
 have hu:=jl hr
 have yz:=hr.fL
 have DT:N≠h:=λe=>by obtain⟨l,ns,o,e1,⟨a,b,c,d,f,rfl,_⟩,_⟩:=hd;rw[e,e1]at hN;cases ss with | nil=>simp at l26 | cons x xs=>simp[hv]at hN
 refine⟨_,(by apply aj;exact(aF hc bZ.nd hf 2 (by decide +kernel) (aQ fu ah (aD aJ hr.mono (bG hc) T.aO T.aN.kp T.aP .nil bA (ae (ao hc 0) (ae ah ag)))));apply aj;exact(cj (aV iH (aD aJ hr.mono (bG hc) T.aO T.aN.kp T.aP .nil bA (ae (ao hc 0) (ae ah ag))) ah (bF _)) (by exact ay (aS (aG (ae (bj gy (bK (ae (aG (ae aL ag)) (ae (aG (ae aL ag)) (ae (aG (ae aL (ae (aG (ae aL ag)) ag))) (ae (aG (ae aL (ae (aG (ae aL ag)) (ae (aG (ae aL ag)) ag)))) ag))))) (aD aJ hr.mono (bG hc) T.aO T.aN.kp T.aP .nil bA (ae (ao hc 0) (ae ah ag))) (λ_ _=>rfl)) (ae (bK ag) ag))))) bE);apply aj;exact(aF hc bZ.nd hf 3 (by decide +kernel) (aD aJ hr.mono (bG hc) T.aO T.aN.kp T.aP .nil bA (ae (ao hc 0) (ae ah ag))));apply aj;exact(aF hc bZ.nd hf 4 (by decide +kernel) (aG (ae aL (ae (bj gy (ao hc 1) (ao hc 3) (λ_ _=>rfl)) ag))));apply aj;exact(iE nq rfl (zN (bG hc) T.fS (ae ah (ae (ao hc 2) ag))) (mB hc bZ.nd hf 5 (by decide +kernel)) (by apply aj;exact(aF hc bZ.nd hf 6 (by decide +kernel) (bj gy (bK (ae aL (ae aL (ae aL (ae aL ag))))) (aD aJ hr.mono (bG hc) T.aO T.aN.kp T.aP .nil bA (ae (ao hc 0) (ae ah ag))) (λ_ _=>rfl)));apply aj;exact(aF hc bZ.nd hf 7 (by decide +kernel) (aG (ae aL (ae (bj gy (ao hc 1) (aQ iR (aQ fu (ao hc 3) (ao hc 5)) ah) (λ_ _=>rfl)) ag))));exact ay (cj (aV iH (aD aJ hr.mono (bG hc) T.aO T.aN.kp T.aP .nil bA (ae (ao hc 0) (ae ah ag))) ah (bF _)) (by exact ay (aF hc bZ.nd hf 4 (by decide +kernel) (aG (ae (ao hc 6) (ae (ao hc 4) (ae (ao hc 7) ag)))))) (by exact ay (aF hc bZ.nd hf 4 (by decide +kernel) (aG (ae (ao hc 6) (ae (ao hc 7) (ae (ao hc 4) ag)))))))));apply eF;exact(cj (aV iH (aD aJ hr.mono (bG hc) T.aO T.aN.kp T.aP .nil bA (ae (ao hc 0) (ae ah ag))) ah (bF _)) (by exact ay (aF hc bZ.nd hf 4 (by decide +kernel) (aG (ae aL (ae (ao hc 4) ag))))) bE);exact ay (aS (aG (ae (ao hc 4) (ae (eT hc ["_law_k"] [3] rfl (by decide +kernel) (fJ (bG hc) T.fS (ae (ao hc 2) ag)) (λ_ hc=>tQ hc (by decide +kernel) 0 (by decide +kernel)) (λ_ _=>dO) (λ_ hc=>(aQ iR (aQ fu (ao hc 1) (ao hc 0)) ah))) ag))))),?_⟩
 walk_at "r"
 refine bQ hd Dr.refl (by decide) (by decide) λm H1 m0 m5 d1 k1=>?_
 have Tc:=d1.aR hd
 walk_at "r"
 refine bQ hd d1 (by decide) (by decide) λway H2 _ _ d2 k2=>?_
 have hd2:=d2.aR hd
 have hN2:H2 N=some (.lst (List.map V.str ss)):=d2.keep _ _ DT hN
 walk_at "r"
 split
 ·refine⟨by decide,λp0 h0=>?_⟩
  have S0:=av (ak h0 (.tup [V.str (Str.ofString "yes")]))
  have D0:=d2.new (o:=.tup [V.str (Str.ofString "yes")]) h0
  have t0:cg (upd H2 p0 (.tup [V.str (Str.ofString "yes")])) .yes p0:=ai
  generalize upd H2 p0 (.tup [V.str (Str.ofString "yes")])=G0 at D0 t0 ⊢
  refine⟨by decide,λp1 h1=>?_⟩
  have S1:=av (ak h1 (.tup [V.str (Str.ofString "no")]))
  have D1:=D0.new (o:=.tup [V.str (Str.ofString "no")]) h1
  replace t0:=t0.mono S1
  have t1:cg (upd G0 p1 (.tup [V.str (Str.ofString "no")])) .no p1:=ai
  generalize upd G0 p1 (.tup [V.str (Str.ofString "no")])=G1 at D1 t0 t1 ⊢
  refine⟨by decide,λp2 h2=>?_⟩
  have S2:=av (ak h2 (.tup [V.str (Str.ofString "no")]))
  have D2:=D1.new (o:=.tup [V.str (Str.ofString "no")]) h2
  replace t0:=t0.mono S2
  replace t1:=t1.mono S2
  have t2:cg (upd G1 p2 (.tup [V.str (Str.ofString "no")])) .no p2:=ai
  generalize upd G1 p2 (.tup [V.str (Str.ofString "no")])=G2 at D2 t0 t1 t2 ⊢
  refine⟨by decide,λp3 h3=>?_⟩
  have S3:=av (ak h3 (.tup [V.str (Str.ofString "not"),V.ref p2]))
  have D3:=D2.new (o:=.tup [V.str (Str.ofString "not"),V.ref p2]) h3
  replace t0:=t0.mono S3
  replace t1:=t1.mono S3
  replace t2:=t2.mono S3
  have t3:cg (upd G2 p3 (.tup [V.str (Str.ofString "not"),V.ref p2])) (.neg .no) p3:=⟨p2,ai,t2⟩
  generalize upd G2 p3 (.tup [V.str (Str.ofString "not"),V.ref p2])=G3 at D3 t0 t1 t2 t3 ⊢
  refine⟨by decide,λp4 h4=>?_⟩
  have S4:=av (ak h4 (.tup [V.str (Str.ofString "no")]))
  have D4:=D3.new (o:=.tup [V.str (Str.ofString "no")]) h4
  replace t0:=t0.mono S4
  replace t1:=t1.mono S4
  replace t3:=t3.mono S4
  have t4:cg (upd G3 p4 (.tup [V.str (Str.ofString "no")])) .no p4:=ai
  generalize upd G3 p4 (.tup [V.str (Str.ofString "no")])=G4 at D4 t0 t1 t3 t4 ⊢
  refine⟨by decide,λp5 h5=>?_⟩
  have S5:=av (ak h5 (.tup [V.str (Str.ofString "yes")]))
  have D5:=D4.new (o:=.tup [V.str (Str.ofString "yes")]) h5
  replace t0:=t0.mono S5
  replace t1:=t1.mono S5
  replace t3:=t3.mono S5
  replace t4:=t4.mono S5
  have t5:cg (upd G4 p5 (.tup [V.str (Str.ofString "yes")])) .yes p5:=ai
  generalize upd G4 p5 (.tup [V.str (Str.ofString "yes")])=G5 at D5 t0 t1 t3 t4 t5 ⊢
  refine⟨by decide,λp6 h6=>?_⟩
  have S6:=av (ak h6 (.tup [V.str (Str.ofString "and"),V.ref p4,V.ref p5]))
  have D6:=D5.new (o:=.tup [V.str (Str.ofString "and"),V.ref p4,V.ref p5]) h6
  replace t0:=t0.mono S6
  replace t1:=t1.mono S6
  replace t3:=t3.mono S6
  replace t4:=t4.mono S6
  replace t5:=t5.mono S6
  have t6:cg (upd G5 p6 (.tup [V.str (Str.ofString "and"),V.ref p4,V.ref p5])) (.two (Str.ofString "and") .no .yes) p6:=⟨by decide,p4,p5,ai,t4,t5⟩
  generalize upd G5 p6 (.tup [V.str (Str.ofString "and"),V.ref p4,V.ref p5])=G6 at D6 t0 t1 t3 t4 t5 t6 ⊢
  refine⟨by decide,λp7 h7=>?_⟩
  have hd6:=D6.aR hd
  have h7h:=hd6.ne h7
  have S7:=av (ak h7 (.lst [V.ref p0,V.ref p1,V.ref p3,V.ref p6]))
  refine bQ hd (D6.new h7) (by decide) (by decide) λi H4 i0 i4 d4 k4=>?_
  have e7:H4 p7=some (.lst [V.ref p0,V.ref p1,V.ref p3,V.ref p6]):=by rw[k4 p7 h7h,ai]
  have S8:qw (upd G6 p7 (.lst [V.ref p0,V.ref p1,V.ref p3,V.ref p6])) H4:=λq' ys e=>by rw[k4 q' (((D6.new h7).aR hd).oJ e)];exact e
  have pick:∃a r,m6 [V.ref p0,V.ref p1,V.ref p3,V.ref p6] i=some (.ref a)/\cg H4 r a/\r.names=[]/\r.deep<=6:=by
   have hi:i=0\/i=1\/i=2\/i=3:=by omega
   rcases hi with rfl | rfl | rfl | rfl
   ·exact⟨p0,_,vi _ _,(t0.mono S7).mono S8,rfl,by decide⟩
   ·exact⟨p1,_,tF _ _ _,(t1.mono S7).mono S8,rfl,by decide⟩
   ·exact⟨p3,_,yU _ _ _ _,(t3.mono S7).mono S8,rfl,by decide⟩
   ·exact⟨p6,_,Ej _ _ _ _ _,(t6.mono S7).mono S8,rfl,by decide⟩
  obtain⟨a,r,ea,ra,rn,rd⟩:=pick
  refine⟨i,rfl,_,e7,_,ea,by decide,λL hL=>⟨by decide,λp hp=>?_⟩⟩
  have s1:=ak hL (.lst [])
  have s2:=ak hp (.tup [V.ref a,V.ref L])
  refine q p a L r [] _ ((d4.new hL).new hp) ai ((ra.mono (av s1)).mono (av s2)) (s2 _ _ ai) ⟨ra.good,rd,by rw[rn];exact λx hx=>(nomatch hx),[],by decide,by rw[rn];exact λx hx=>(nomatch hx)⟩ ⟨qN,λj hj=>(nomatch hj),λz=>by rw[rn];exact⟨λhz=>(nomatch hz),λ⟨j,hj,_⟩=>(nomatch hj)⟩⟩ (by decide)
 ·walk_at "r"
  refine bQ hd d2 (by decide) (by decide) λc H3 c0 c26 d3 k3=>?_
  have Hb:=d3.aR hd
  have hN3:H3 N=some (.lst (List.map V.str ss)):=d3.keep _ _ DT hN
  obtain⟨s0,es0,iy⟩:=WT l26 c0 c26
  repeat (first | walk_at "rl" | simp only[hN3,iy])
  refine⟨by decide,λp hp=>?_⟩
  have D3:=d3.new (o:=.tup [V.str (Str.ofString "is"),V.str s0]) hp
  have t0:cg (upd H3 p (.tup [V.str (Str.ofString "is"),V.str s0])) (.var s0) p:=ai
  generalize upd H3 p (.tup [V.str (Str.ofString "is"),V.str s0])=G at D3 t0 ⊢
  walk_at "r"
  refine⟨by omega,by omega,?_⟩
  obtain⟨Pv,iu⟩:∃Pv:Nat->St->Hp->Prop,∀i σ' H',Pv i σ' H'↔∃(a:Addr) (r:Rl) (x y z:Option V),σ'=[some (.ref h),some (.ref N),some (.int (1+m)),some (.int c),some (.ref a),x,y,z]/\Dr h H H'/\cg H' r a/\r.deep<=i+1/\r.names.length=i+1/\∀z,z∈r.names↔∃k:Nat,k<=i/\ss[((c+k)%26).toNat]?=some z:=⟨_,λ_ _ _=>dZ⟩
  refine mR Pv ((iu _ _ _).mpr ⟨p,.var s0,none,none,none,rfl,D3,t0,bB _,rfl,λz=>?_⟩) (λi σ' H4 hi pv=>?_) (λσ' H4 pv=>?_)
  ·show z∈[s0]↔_
   rw[di]
   have e0:((c+((0:Nat):Int))%26).toNat=c.toNat:=by omega
   constructor
   ·rintro rfl
    exact⟨0,bB _,by rw[e0];exact es0⟩
   ·rintro⟨k,hk,ek⟩
    obtain rfl:k=0:=by omega
    rw[e0,es0]at ek
    exact(dm ek).symm
  ·obtain⟨a,r,x,y,z,rfl,d4,ra,rd,rl,rn⟩:=(iu _ _ _).mp pv
   have Tb:=d4.aR hd
   walk_at "r"
   refine⟨by decide,λL hL=>?_⟩
   have hLh:L≠h:=Tb.ne hL
   have dL:=d4.new (o:=.lst [V.str (Str.ofString "and"),V.str (Str.ofString "or"),V.str (Str.ofString "then"),V.str (Str.ofString "same")]) hL
   refine bQ hd dL (by decide) (by decide) λj H5 j0 j4 d5 k5=>?_
   have VG:H5 L=some (.lst [V.str (Str.ofString "and"),V.str (Str.ofString "or"),V.str (Str.ofString "then"),V.str (Str.ofString "same")]):=by rw[k5 L hLh,ai]
   have ra5:cg H5 r a:=(ra.mono (av (ak hL (.lst [V.str (Str.ofString "and"),V.str (Str.ofString "or"),V.str (Str.ofString "then"),V.str (Str.ofString "same")])))).mono λq' ys e=>by rw[k5 q' ((dL.aR hd).oJ e)];exact e
   obtain⟨k,hk,ek⟩:=Sf j j0 j4
   have hd5:=d5.aR hd
   have hN5:H5 N=some (.lst (List.map V.str ss)):=d5.keep _ _ DT hN
   obtain⟨s1,lF,at1⟩:=WT l26 (i:=(c+(1+(i:Int)))%26) (by omega) (by omega)
   repeat (first | walk_at "rl" | simp only[VG,ek,hN5,at1])
   refine⟨by decide,λp1 Bt=>?_⟩
   have D5:=d5.new (o:=.tup [V.str (Str.ofString "is"),V.str s1]) Bt
   have N9:=ra5.mono (av (ak Bt (.tup [V.str (Str.ofString "is"),V.str s1])))
   have t1:cg (upd H5 p1 (.tup [V.str (Str.ofString "is"),V.str s1])) (.var s1) p1:=ai
   generalize upd H5 p1 (.tup [V.str (Str.ofString "is"),V.str s1])=G5 at D5 N9 t1 ⊢
   walk_at "r"
   refine bQ hd D5 (by decide) (by decide) λway H6 _ _ d6 k6=>?_
   have S6:qw G5 H6:=λq' ys e=>by rw[k6 q' ((D5.aR hd).oJ e)];exact e
   have ra7:=N9.mono S6
   have t2:=t1.mono S6
   have Ol:∀z,(z∈r.names\/z=s1)↔∃k:Nat,k<=i+1/\ss[((c+k)%26).toNat]?=some z:=λz=>by
    have e1:((c+((i+1:Nat):Int))%26).toNat=((c+(1+(i:Int)))%26).toNat:=by congr 2;omega
    rw[rn z]
    constructor
    ·rintro(⟨k,h1,h2⟩ | rfl)
     ·exact⟨k,by omega,h2⟩
     ·exact⟨i+1,bB _,by rw[e1];exact lF⟩
    ·rintro⟨k,h1,h2⟩
     rcases vt k (i+1) with h3 | h3
     ·exact .inl ⟨k,by omega,h2⟩
     ·obtain rfl:k=i+1:=by omega
      rw[e1,lF]at h2
      exact .inr (dm h2).symm
   walk_at "r"
   split
   ·walk_at "r"
    refine⟨by decide,λp2 uX=>(iu _ _ _).mpr ⟨p2,.two k r (.var s1),_,_,_,rfl,d6.new uX,⟨hk,a,p1,ai,ra7.mono (av (ak uX _)),t2.mono (av (ak uX _))⟩,?_,?_,λz=>?_⟩⟩
    ·show max r.deep 1+1<=i+1+1
     have:=r.pos
     omega
    ·show(r.names++[s1]).length=_
     rw[eN,rl];rfl
    ·show z∈r.names++[s1]↔_
     rw[gW,di]
     exact Ol z
   ·walk_at "r"
    refine⟨by decide,λp2 uX=>(iu _ _ _).mpr ⟨p2,.two k (.var s1) r,_,_,_,rfl,d6.new uX,⟨hk,p1,a,ai,t2.mono (av (ak uX _)),ra7.mono (av (ak uX _))⟩,?_,?_,λz=>?_⟩⟩
    ·show max 1 r.deep+1<=i+1+1
     have:=r.pos
     omega
    ·show([s1]++r.names).length=_
     rw[eN,rl];exact Nat.add_comm _ _
    ·show z∈[s1]++r.names↔_
     rw[gW,di,Or.comm]
     exact Ol z
  ·obtain⟨a,r,x,y,z,rfl,d4,ra,rd,rl,rn⟩:=(iu _ _ _).mp pv
   have Tb:=d4.aR hd
   walk_at "r"
   have em:(1+m-1).toNat=m.toNat:=by congr 1;omega
   rw[em]at rd rl rn
   refine⟨λσ' H'=>∃(a':Addr) (r':Rl),σ'=[some (.ref h),some (.ref N),some (.int (1+m)),some (.int c),some (.ref a'),x,y,z]/\Dr h H H'/\cg H' r' a'/\r'.deep<=6/\r'.names=r.names,?_,?_⟩
   ·walk_at "r"
    refine bQ hd d4 (by decide) (by decide) λway H6 _ _ d6 k6=>?_
    have S6:qw H4 H6:=λq' ys e=>by rw[k6 q' (Tb.oJ e)];exact e
    have N9:=ra.mono S6
    walk_at "r"
    split
    ·walk_at "r"
     refine⟨by decide,λp2 uX=>⟨d6.new uX,.neg r,⟨a,ai,N9.mono (av (ak uX _))⟩,?_,rfl⟩⟩
     show r.deep+1<=6
     omega
    ·walk_at "r"
     exact⟨d6,r,N9,by omega,rfl⟩
   rintro σ' H6 ⟨a',r',rfl,d6,N9,rd6,en⟩
   have hd6:=d6.aR hd
   walk_at "r"
   refine⟨by omega,by omega,?_⟩
   obtain⟨Pd,Bw⟩:∃Pd:Addr->Nat->List V->Hp->Prop,∀Z i ys H',Pd Z i ys H'↔ys=List.map (λj:Nat=>V.int j) ((List.range i).map λk:Nat=>((c+k)%26).toNat)/\bz H6 H'/\H' Z=some (.lst ys):=⟨_,λ_ _ _ _=>dZ⟩
   refine iL Pd (λZ hZ=>(Bw _ _ _ _).mpr ⟨rfl,ak hZ _,ai⟩) (λZ hZ i ys H7 hi pv cb=>?_) (λZ hZ ys H7 pv=>?_)
   ·obtain⟨rfl,s7,J4⟩:=(Bw _ _ _ _).mp pv
    walk_at "rc"
    repeat (walk_at "rd")
    refine⟨J4,by rw[ur];exact bV (by omega),(Bw _ _ _ _).mpr ⟨?_,cI s7 hZ,ai⟩⟩
    rw[List.range_succ,cQ,cQ]
    congr 1
    rw[eB,eB,oj,oj,show((((c+(i:Int))%26).toNat:Nat):Int)=(c+(i:Int))%26 by omega]
   ·obtain⟨rfl,s7,J4⟩:=(Bw _ _ _ _).mp pv
    refine⟨by decide,λp2 uX=>?_⟩
    have s8:=ak uX (.tup [V.ref a',V.ref Z])
    have mj:∀j,j∈((List.range (1+m).toNat).map λk:Nat=>((c+k)%26).toNat)↔∃k:Nat,k<=m.toNat/\((c+k)%26).toNat=j:=λj=>by
     rw[dw]
     exact⟨λ⟨k,h1,h2⟩=>⟨k,by have:=oo.mp h1;omega,h2⟩,λ⟨k,h1,h2⟩=>⟨k,oo.mpr (by omega),h2⟩⟩
    have nmr:∀z∈r'.names,Nm z:=λz hz=>by
     rw[en]at hz
     obtain⟨k,_,h2⟩:=(rn z).mp hz
     exact nm z (iC h2)
    refine q p2 a' Z r' _ _ ((d6.same s7).same s8) ai ((N9.mono (av s7)).mono (av s8)) (s8 _ _ J4) ⟨N9.good,rd6,nmr,r'.names,by rw[en,rl];omega,λz hz=>hz⟩ ⟨?_,λj hj=>?_,λz=>?_⟩ (by rw[aY,ur];omega)
    ·rw[List.Nodup,zp]
     refine List.Pairwise.imp_of_mem ?_ List.pairwise_lt_range
     intro x y hx hy hxy e
     have:=oo.mp hy
     omega
    ·obtain⟨k,_,rfl⟩:=(mj j).mp hj
     omega
    ·rw[en,rn z]
     exact⟨λ⟨k,h1,h2⟩=>⟨_,(mj _).mpr ⟨k,h1,rfl⟩,h2⟩,λ⟨j,h1,h2⟩=>by obtain⟨k,h3,rfl⟩:=(mj j).mp h1;exact⟨k,h3,h2⟩⟩
local macro_rules | `(tactic| walk_at "rd") => `(tactic| walk_at "rc")
local macro_rules | `(tactic| walk_at "rl") => `(tactic| first | (refine ck fun R hR => ?_) | walk_at "ry" | (refine Nx.to (by assumption) _ _ ?_))
def yb:Nat->Rl
 | 0=>.yes
 | n+1=>.neg (yb n)
def EY:Nat->Rl
 | 0=>.var (Str.ofString "g")
 | n+1=>.two (Str.ofString "or") (.var ⟨#[98+n]⟩) (EY n)
def dF:List Rl:=[.neg (yb 5),.two (Str.ofString "or") .no (yb 5),EY 5,.two (Str.ofString "then") (EY 4) (.two (Str.ofString "or") (.var ⟨#[98+4]⟩) (.var (Str.ofString "h")))]
theorem xX:∀r∈dF,¬GoodR r:=by
 intro r hr g
 obtain⟨_,dp,_,us,l5,sub⟩:=g
 have big:∀n:Nat,r.names.Nodup->r.names.length=n->n<=5:=λn nd e=>by have:=gQ nd sub;omega
 unfold dF at hr
 simp only[dh,nu,or_false]at hr
 rcases hr with rfl | rfl | rfl | rfl
 ·exact absurd dp (by decide)
 ·exact absurd dp (by decide)
 ·exact absurd (big 6 (by decide) rfl) (by decide)
 ·exact absurd (big 7 (by decide) rfl) (by decide)
theorem lX:∀r∈dF,∀x∈r.names,x.length<=100:=by
 intro r hr
 unfold dF at hr
 simp only[dh,nu,or_false]at hr
 rcases hr with rfl | rfl | rfl | rfl <;> decide
def Fh:Sp:=λvs H Q _=>vs=[]/\∀L (ps:List Addr) H',bz H H'->H' L=some (.lst (List.map V.ref ps))->ps.length=4->(∀(i:Nat) p r,ps[i]?=some p->dF[i]?=some r->cg H' r p)->Q (.ref L) H'
theorem WL{i c:Nat}(h:(Str.ofString "bcdef").cps[i]?=some c):c=98+i:=by
 have hi:i<5:=(pE.mp h).1
 have h5:i=0\/i=1\/i=2\/i=3\/i=4:=by omega
 rcases h5 with rfl | rfl | rfl | rfl | rfl
 ·rw[show(Str.ofString "bcdef").cps[0]?=some 98 by decide]at h;exact(dm h).symm
 ·rw[show(Str.ofString "bcdef").cps[1]?=some 99 by decide]at h;exact(dm h).symm
 ·rw[show(Str.ofString "bcdef").cps[2]?=some 100 by decide]at h;exact(dm h).symm
 ·rw[show(Str.ofString "bcdef").cps[3]?=some 101 by decide]at h;exact(dm h).symm
 ·rw[show(Str.ofString "bcdef").cps[4]?=some 102 by decide]at h;exact(dm h).symm
theorem Ap(T:Txt K mg t):cz P w K mg base iq 1 t.gB t.gA [] Fh:=by
 refine T.jN.oI cE (λvs H Q E h=>?_) (λdB A outer s H vs Q E hr h hc hf=>?_)
 ·obtain⟨rfl,_⟩:=h;rfl
 obtain⟨rfl,q⟩:=h
 refine⟨_,(by apply aj;exact(aF hc cE.nd hf 0 (by decide +kernel) (aG (ae aL ag)));apply aj;exact(aF hc cE.nd hf 1 (by decide +kernel) (aG (ae aL (ae aL ag))));apply aj;exact(iE nq rfl (CN aL) (mB hc cE.nd hf 2 (by decide +kernel)) (by apply aj;exact(aF hc cE.nd hf 0 (by decide +kernel) (aG (ae aL (ae (ao hc 0) ag))));exact ay (aF hc cE.nd hf 1 (by decide +kernel) (aG (ae aL (ae (aG (ae aL (ae (ao hc 2) ag))) (ae (ao hc 1) ag)))))));exact ay (aS (bK (ae (aG (ae aL (ae (ao hc 0) ag))) (ae (aG (ae aL (ae (aG (ae aL ag)) (ae (ao hc 0) ag)))) (ae (ao hc 1) (ae (aG (ae aL (ae (bj mM (ao hc 1) ah (λ_ _=>rfl)) (ae (aG (ae aL (ae (bj mM (ao hc 1) ah (λ_ _=>rfl)) (ae (aG (ae aL (ae aL ag))) ag)))) ag)))) ag))))))),?_⟩
 walk_at "r"
 refine⟨by decide,λa0 ha0=>?_⟩
 have S0:=ak ha0 (.tup [V.str (Str.ofString "yes")])
 have t0:cg (upd H a0 (.tup [V.str (Str.ofString "yes")])) (yb 0) a0:=ai
 generalize upd H a0 (.tup [V.str (Str.ofString "yes")])=G0 at S0 t0 ⊢
 walk_at "r"
 refine⟨by decide,λb0 hb0=>?_⟩
 have S1:=ak hb0 (.tup [V.str (Str.ofString "is"),V.str (Str.ofString "g")])
 have u0:cg (upd G0 b0 (.tup [V.str (Str.ofString "is"),V.str (Str.ofString "g")])) (EY 0) b0:=ai
 replace t0:=t0.mono (av S1)
 replace S0:=S0.trans S1
 generalize upd G0 b0 (.tup [V.str (Str.ofString "is"),V.str (Str.ofString "g")])=G1 at S0 t0 u0 ⊢
 walk_at "r"
 obtain⟨Pv,iu⟩:∃Pv:Nat->St->Hp->Prop,∀i σ' H',Pv i σ' H'↔∃(a b:Addr) (x:Option V),σ'=[some (.ref a),some (.ref b),x]/\bz H H'/\cg H' (yb i) a/\cg H' (EY i) b:=⟨_,λ_ _ _=>dZ⟩
 refine BJ Pv ((iu _ _ _).mpr ⟨a0,b0,none,rfl,S0,t0,u0⟩) (λi c σ' H1 hc1 pv=>?_) (λσ' H1 pv=>?_)
 ·obtain⟨a,b,x,rfl,s1,ta,tb⟩:=(iu _ _ _).mp pv
  obtain rfl:=WL hc1
  walk_at "r"
  refine⟨by decide,λa1 ha1=>?_⟩
  have S2:=ak ha1 (.tup [V.str (Str.ofString "not"),V.ref a])
  have t1:cg (upd H1 a1 (.tup [V.str (Str.ofString "not"),V.ref a])) (yb (i+1)) a1:=⟨a,ai,ta.mono (av S2)⟩
  replace tb:=tb.mono (av S2)
  replace s1:=s1.trans S2
  generalize upd H1 a1 (.tup [V.str (Str.ofString "not"),V.ref a])=G2 at t1 tb s1 ⊢
  walk_at "r"
  refine⟨by decide,λp1 Bt=>⟨by decide,λb1 hb1=>?_⟩⟩
  have S3:=ak Bt (.tup [V.str (Str.ofString "is"),V.str ⟨#[98+i]⟩])
  have S4:=ak hb1 (.tup [V.str (Str.ofString "or"),V.ref p1,V.ref b])
  have T2:=av (S3.trans S4)
  exact(iu _ _ _).mpr ⟨a1,b1,_,rfl,(s1.trans S3).trans S4,t1.mono T2,⟨by decide,p1,b,ai,S4 _ _ ai,tb.mono T2⟩⟩
 ·have e5:(Str.ofString "bcdef").cps.size=5:=by decide
  rw[e5]at pv
  obtain⟨a,b,x,rfl,s1,ta,tb⟩:=(iu _ _ _).mp pv
  obtain⟨_,bf,b4,hb,tf,t4⟩:=id tb
  repeat (first | walk_at "rl" | simp only[hb])
  refine⟨by decide,λp1 h1=>?_⟩
  have S1:=ak h1 (.tup [V.str (Str.ofString "not"),V.ref a])
  replace ta:=ta.mono (av S1)
  replace tb:=tb.mono (av S1)
  replace tf:=tf.mono (av S1)
  replace t4:=t4.mono (av S1)
  replace hb:=S1 _ _ hb
  replace s1:=s1.trans S1
  have v1:cg (upd H1 p1 (.tup [V.str (Str.ofString "not"),V.ref a])) (.neg (yb 5)) p1:=⟨a,ai,ta⟩
  generalize upd H1 p1 (.tup [V.str (Str.ofString "not"),V.ref a])=G1 at hb s1 ta tb tf t4 v1 ⊢
  refine⟨by decide,λp2 h2=>?_⟩
  have S2:=ak h2 (.tup [V.str (Str.ofString "no")])
  replace ta:=ta.mono (av S2)
  replace tb:=tb.mono (av S2)
  replace tf:=tf.mono (av S2)
  replace t4:=t4.mono (av S2)
  replace v1:=v1.mono (av S2)
  replace hb:=S2 _ _ hb
  replace s1:=s1.trans S2
  have v2:cg (upd G1 p2 (.tup [V.str (Str.ofString "no")])) .no p2:=ai
  generalize upd G1 p2 (.tup [V.str (Str.ofString "no")])=G2 at hb s1 ta tb tf t4 v1 v2 ⊢
  refine⟨by decide,λp3 h3=>?_⟩
  have S3:=ak h3 (.tup [V.str (Str.ofString "or"),V.ref p2,V.ref a])
  replace ta:=ta.mono (av S3)
  replace tb:=tb.mono (av S3)
  replace tf:=tf.mono (av S3)
  replace t4:=t4.mono (av S3)
  replace v1:=v1.mono (av S3)
  replace v2:=v2.mono (av S3)
  replace hb:=S3 _ _ hb
  replace s1:=s1.trans S3
  have v3:cg (upd G2 p3 (.tup [V.str (Str.ofString "or"),V.ref p2,V.ref a])) (.two (Str.ofString "or") .no (yb 5)) p3:=⟨by decide,p2,a,ai,v2,ta⟩
  generalize upd G2 p3 (.tup [V.str (Str.ofString "or"),V.ref p2,V.ref a])=G3 at hb s1 ta tb tf t4 v1 v2 v3 ⊢
  refine⟨_,hb,_,yU _ _ _ _,_,hb,_,tF _ _ _,by decide,λp4 h4=>?_⟩
  have S4:=ak h4 (.tup [V.str (Str.ofString "is"),V.str (Str.ofString "h")])
  replace ta:=ta.mono (av S4)
  replace tb:=tb.mono (av S4)
  replace tf:=tf.mono (av S4)
  replace t4:=t4.mono (av S4)
  replace v1:=v1.mono (av S4)
  replace v2:=v2.mono (av S4)
  replace v3:=v3.mono (av S4)
  replace hb:=S4 _ _ hb
  replace s1:=s1.trans S4
  have v4:cg (upd G3 p4 (.tup [V.str (Str.ofString "is"),V.str (Str.ofString "h")])) (.var (Str.ofString "h")) p4:=ai
  generalize upd G3 p4 (.tup [V.str (Str.ofString "is"),V.str (Str.ofString "h")])=G4 at hb s1 ta tb tf t4 v1 v2 v3 v4 ⊢
  refine⟨by decide,λp5 h5=>?_⟩
  have S5:=ak h5 (.tup [V.str (Str.ofString "or"),V.ref bf,V.ref p4])
  replace ta:=ta.mono (av S5)
  replace tb:=tb.mono (av S5)
  replace tf:=tf.mono (av S5)
  replace t4:=t4.mono (av S5)
  replace v1:=v1.mono (av S5)
  replace v2:=v2.mono (av S5)
  replace v3:=v3.mono (av S5)
  replace v4:=v4.mono (av S5)
  replace hb:=S5 _ _ hb
  replace s1:=s1.trans S5
  have v5:cg (upd G4 p5 (.tup [V.str (Str.ofString "or"),V.ref bf,V.ref p4])) (.two (Str.ofString "or") (.var ⟨#[98+4]⟩) (.var (Str.ofString "h"))) p5:=⟨by decide,bf,p4,ai,tf,v4⟩
  generalize upd G4 p5 (.tup [V.str (Str.ofString "or"),V.ref bf,V.ref p4])=G5 at hb s1 ta tb tf t4 v1 v2 v3 v4 v5 ⊢
  refine⟨by decide,λp6 h6=>?_⟩
  have S6:=ak h6 (.tup [V.str (Str.ofString "then"),V.ref b4,V.ref p5])
  replace ta:=ta.mono (av S6)
  replace tb:=tb.mono (av S6)
  replace tf:=tf.mono (av S6)
  replace t4:=t4.mono (av S6)
  replace v1:=v1.mono (av S6)
  replace v2:=v2.mono (av S6)
  replace v3:=v3.mono (av S6)
  replace v4:=v4.mono (av S6)
  replace v5:=v5.mono (av S6)
  replace hb:=S6 _ _ hb
  replace s1:=s1.trans S6
  have v6:cg (upd G5 p6 (.tup [V.str (Str.ofString "then"),V.ref b4,V.ref p5])) (.two (Str.ofString "then") (EY 4) (.two (Str.ofString "or") (.var ⟨#[98+4]⟩) (.var (Str.ofString "h")))) p6:=⟨by decide,b4,p5,ai,t4,v5⟩
  generalize upd G5 p6 (.tup [V.str (Str.ofString "then"),V.ref b4,V.ref p5])=G6 at hb s1 ta tb tf t4 v1 v2 v3 v4 v5 v6 ⊢
  refine⟨by decide,λp7 h7=>?_⟩
  have S7:=ak h7 (.lst [V.ref p1,V.ref p3,V.ref b,V.ref p6])
  refine q p7 [p1,p3,b,p6] _ (s1.trans S7) ai rfl λi p r e1 e2=>?_
  unfold dF at e2
  match i,e1,e2 with
  | 0,e1,e2=>cases e1;cases e2;exact v1.mono (av S7)
  | 1,e1,e2=>cases e1;cases e2;exact v3.mono (av S7)
  | 2,e1,e2=>cases e1;cases e2;exact tb.mono (av S7)
  | 3,e1,e2=>cases e1;cases e2;exact v6.mono (av S7)
  | n+4,e1,e2=>cases e1
local macro_rules | `(tactic| walk_at "rd") => `(tactic| walk_at "rc")
local macro_rules | `(tactic| walk_at "rl") => `(tactic| first | (refine ck fun R hR => ?_) | walk_at "ry" | (refine Nx.to (by assumption) _ _ ?_))
def nX(H0 H:Hp)(d:Dt)(v:V):Prop:=∀g,H0 g≠none->Rep g H d v
def gC(H0 H:Hp)(ds:List Dt)(vs:List V):Prop:=∀g,H0 g≠none->bU g H ds vs
section
variable {h:Addr}{H0:Hp}{σ:St}
theorem nX.mono{H H':Hp}{d:Dt}{v:V}(r:nX H0 H d v)(s:bz H H'):nX H0 H' d v:=λg hg=>(r g hg).mono (Kp.of s)
theorem gC.mono{H H':Hp}{ds:List Dt}{vs:List V}(r:gC H0 H ds vs)(s:bz H H'):gC H0 H' ds vs:=λg hg=>(r g hg).mono (Kp.of s)
def y9(H0:Hp)(σ:St)(te:TE)(d:Dt):Prop:=∀H,bz H0 H->∀Q:VK,(∀v H',bz H H'->nX H0 H' d v->Q v H')->te σ H Q
def W6(H0:Hp)(σ:St)(ta:TA)(ds:List Dt):Prop:=∀H,bz H0 H->∀Q:List V->Hp->Prop,(∀vs H',bz H H'->gC H0 H' ds vs->Q vs H')->ta σ H Q
theorem Ku{i:Int}:y9 H0 σ (tC (.int i)) (.int i):=λH _ Q q=>q _ H (λ_ _ z=>z) λ_ _=>rfl
theorem jD{s:Str}(l:s.length<=100:=by decide):y9 H0 σ (tC (.str s)) (.str s):=λH _ Q q=>q _ H (λ_ _ z=>z) λ_ _=>⟨rfl,l⟩
theorem WK{b:Bool}:y9 H0 σ (tC (.bl b)) (.bl b):=λH _ Q q=>q _ H (λ_ _ z=>z) λ_ _=>rfl
theorem Ce:y9 H0 σ (tC .non) .non:=λH _ Q q=>q _ H (λ_ _ z=>z) λ_ _=>rfl
theorem R6{i:Nat}{v:V}{d:Dt}(e:σ[i]?=some (some v))(r:nX H0 H0 d v):y9 H0 σ (qd i) d:=λH s Q q=>⟨v,e,q v H (λ_ _ z=>z) (r.mono s)⟩
theorem WD{i:Nat}{l:Int}(e:σ[i]?=some (some (.int l))):y9 H0 σ (qd i) (.int l):=λH s Q q=>⟨_,e,q _ H (λ_ _ z=>z) λ_ _=>rfl⟩
theorem R7{i:Nat}{l:Int}(e:σ[i]?=some (some (.int l))):y9 H0 σ (W' (rU λi=>V.int (-i)) (qd i)) (.int (-l)):=λH s Q q=>⟨_,e,l,rfl,q _ H (λ_ _ z=>z) λ_ _=>rfl⟩
theorem R9:y9 H0 σ (G7 (KQ λi j=>V.int (i+j)) (G7 (rI Sw λi j=>V.int (i ^ j.toNat)) (tC (V.int 10)) (tC (V.int 18))) (tC (V.int 1))) (.int 1000000000000000001):=λH _ Q q=>⟨10,18,rfl,rfl,Kn,_,_,rfl,rfl,q _ H (λ_ _ z=>z) λ_ _=>rfl⟩
theorem NQ{i:Nat}{l:Int}(e:σ[i]?=some (some (.int l)))(l2:l.natAbs.log2<1920)(ll:(Str.ofString (toString l)).length<=100):y9 H0 σ (Sz IK (uH (qd i) xg)) (.str (Str.ofString (toString l))):=λH s Q q=>⟨_,e,l,rfl,l2,q _ H (λ_ _ z=>z) λ_ _=>⟨rfl,ll⟩⟩
theorem bN:W6 H0 σ xg []:=λH _ Q q=>q _ H (λ_ _ z=>z) λ_ _=>rfl
theorem aA{te:TE}{ta:TA}{d:Dt}{ds:List Dt}(a:y9 H0 σ te d)(b:W6 H0 σ ta ds):W6 H0 σ (uH te ta) (d::ds):=λH s Q q=>
 a H s _ λv H1 s1 r=>b H1 (s.trans s1) _ λvs H2 s2 rs=>q _ H2 (s1.trans s2) λg hg=>⟨v,vs,rfl,(r g hg).mono (Kp.of s2),rs g hg⟩
theorem cB{ta:TA}{ds:List Dt}(hh:H0 h≠none)(b:W6 H0 σ ta ds)(l:ds.length<=900:=by simp):y9 H0 σ (Lg ta) (.tup ds):=λH s Q q=>
 b H s _ λvs H1 s1 rs=>⟨by rw[(rs h hh).len];exact bH (by omega),λp hp=>q _ _ (s1.trans (ak hp _)) λg hg=>⟨p,vs,rfl,ai,(rs g hg).mono (Kp.of (ak hp _))⟩⟩
theorem Bc{H1:Hp}{g p:Addr}(s:bz H0 H1)(hg:H0 g≠none)(hp:H1 p=none):p≠g:=λe=>by
 cases e0:H0 g with
 | none=>exact hg e0
 | some o=>have:=s _ _ e0;rw[<-e,hp]at this;cases this
theorem mY{ta:TA}{ds:List Dt}(hh:H0 h≠none)(b:W6 H0 σ ta ds)(l:ds.length<=900:=by simp):y9 H0 σ (Li ta) (.lst ds):=λH s Q q=>
 b H s _ λvs H1 s1 rs=>⟨by rw[(rs h hh).len];exact bH (by omega),λp hp=>q _ _ (s1.trans (ak hp _)) λg hg=>⟨p,vs,rfl,Bc (s.trans s1) hg hp,ai,(rs g hg).mono (Kp.of (ak hp _))⟩⟩
theorem R8:y9 H0 σ vS .dct:=λH s Q q p hp=>q _ _ (ak hp _) λg hg=>⟨p,rfl,Bc s hg hp,ai⟩
theorem wA{te:TE}{i:Nat}{X:Addr}{vs:List V}{ds1 Yd:List Dt}{Hk:Hp}{Q:VK}(hh:H0 h≠none)(e:σ[i]?=some (some (.ref X)))(hX:Hk X=some (.lst vs))(rs:gC H0 Hk ds1 vs)(s0:bz H0 Hk)(b:y9 H0 σ te (.lst Yd))(l:ds1.length+Yd.length<=900)
  (q:∀p ws H',bz Hk H'->H' p=some (.lst ws)->gC H0 H' (ds1++Yd) ws->Q (.ref p) H'):G7 P6 (qd i) te σ Hk Q:=by
 refine⟨_,e,b Hk s0 _ λv H1 s1 r1=>?_⟩
 obtain⟨p,ws,rfl,_,hp,r0⟩:=r1 h hh
 have r2:gC H0 H1 Yd ws:=λg hg=>by
  obtain⟨p',ws',e',_,Bu,r'⟩:=r1 g hg
  cases e'
  rw[hp]at Bu
  cases Bu
  exact r'
 refine⟨X,p,vs,ws,rfl,rfl,s1 _ _ hX,hp,by rw[(rs h hh).len,r0.len];exact bH (by omega),λD hD=>?_⟩
 exact q D _ _ (s1.trans (ak hD _)) ai λg hg=>(((rs g hg).mono (Kp.of s1)).append (r2 g hg)).mono (Kp.of (ak hD _))
end
structure Kq(h g:Addr)(H H':Hp):Prop where
 tup:qw H H'
 jz:∀p o,p≠h->p≠g->H p=some o->H' p=some o
theorem Kq.of{h g:Addr}{H H':Hp}(k:Kp h H H'):Kq h g H H':=⟨k.tup,λp o n _ e=>k.jz p o n e⟩
mutual
theorem Rep.kb{h g:Addr}{H H':Hp}(k:Kq h g H H'):∀{d:Dt} {v:V},Rep h H d v->Rep g H d v->Rep h H' d v/\Rep g H' d v
 | .int _,_,e,f=>⟨e,f⟩
 | .str _,_,e,f=>⟨e,f⟩
 | .bl _,_,e,f=>⟨e,f⟩
 | .non,_,e,f=>⟨e,f⟩
 | .tup _,_,⟨p,vs,e,hp,r⟩,⟨p',vs',e',Bu,r'⟩=>by
  subst e
  cases e'
  rw[hp]at Bu
  cases Bu
  have:=bU.kb k r r'
  exact⟨⟨p,vs,rfl,k.tup _ _ hp,this.1⟩,⟨p,vs,rfl,k.tup _ _ hp,this.2⟩⟩
 | .lst _,_,⟨p,vs,e,n,hp,r⟩,⟨p',vs',e',n',Bu,r'⟩=>by
  subst e
  cases e'
  rw[hp]at Bu
  cases Bu
  have:=bU.kb k r r'
  exact⟨⟨p,vs,rfl,n,k.jz _ _ n n' hp,this.1⟩,⟨p,vs,rfl,n',k.jz _ _ n n' hp,this.2⟩⟩
 | .dct,_,⟨p,e,n,hp⟩,⟨p',e',n',Bu⟩=>by
  subst e
  cases e'
  exact⟨⟨p,rfl,n,k.jz _ _ n n' hp⟩,⟨p,rfl,n',k.jz _ _ n n' hp⟩⟩
theorem bU.kb{h g:Addr}{H H':Hp}(k:Kq h g H H'):∀{ds:List Dt} {vs:List V},bU h H ds vs->bU g H ds vs->bU h H' ds vs/\bU g H' ds vs
 | [],_,e,f=>⟨e,f⟩
 | _::_,_,⟨v,ws,e,r,rs⟩,⟨v',ws',e',r',rs'⟩=>by
  subst e
  obtain⟨rfl,rfl⟩:=List.cons.inj e'
  have a:=Rep.kb k r r'
  have b:=bU.kb k rs rs'
  exact⟨⟨v,ws,rfl,a.1,b.1⟩,⟨v,ws,rfl,a.2,b.2⟩⟩
end
theorem gC.kp{h:Addr}{H0 H H':Hp}{ds:List Dt}{vs:List V}(hh:H0 h≠none)(k:Kp h H H')(r:gC H0 H ds vs):gC H0 H' ds vs:=λg hg=>(bU.kb (Kq.of k) (r h hh) (r g hg)).2
theorem nX.kp{h:Addr}{H0 H H':Hp}{d:Dt}{v:V}(hh:H0 h≠none)(k:Kp h H H')(r:nX H0 H d v):nX H0 H' d v:=λg hg=>(Rep.kb (Kq.of k) (r h hh) (r g hg)).2
theorem nX.lst{h:Addr}{H0 H:Hp}{ds:List Dt}{v:V}(hh:H0 h≠none)(r:nX H0 H (.lst ds) v):∃X ws,v=.ref X/\H X=some (.lst ws)/\gC H0 H ds ws:=by
 obtain⟨p,ws,rfl,_,hp,_⟩:=r h hh
 refine⟨p,ws,rfl,hp,λg hg=>?_⟩
 obtain⟨p',ws',e',_,Bu,r'⟩:=r g hg
 cases e'
 rw[hp]at Bu
 cases Bu
 exact r'
theorem gC.at{h:Addr}{H0 H:Hp}{ds:List Dt}{vs:List V}(hh:H0 h≠none)(r:gC H0 H ds vs){i:Nat}{v:V}(e:vs[i]?=some v):∃d,ds[i]?=some d/\nX H0 H d v:=by
 obtain⟨d,ed,_⟩:=(r h hh).at e
 refine⟨d,ed,λg hg=>?_⟩
 obtain⟨d',ed',r'⟩:=(r g hg).at e
 rw[ed]at ed'
 cases ed'
 exact r'
def qy(S:List ja)(d:Dt):Prop:=¬∃x:ja,Cu x/\d=dU x/\∀b∈S,b.1≠x.1
theorem Cu.form{x:ja}(o:Cu x):bh 6 x.2.dt=true:=nH o.2.2.1 o.2.2.2.1 o.2.2.2.2.1
theorem wD{S:List ja}{i:Int}{d:Dt}(h:i<1\/1000000000000000000<i):qy S (.tup [.int i,d]):=λ⟨x,o,e,_⟩=>by
 injection e with e;injection e with e1 e;injection e1 with e1
 have:=o.1;have:=o.2.1
 omega
theorem gh{S:List ja}{i d:Dt}(h:bh 6 d=false):qy S (.tup [i,d]):=λ⟨x,o,e,_⟩=>by
 injection e with e;injection e with e1 e;injection e with e2 _
 rw[e2,o.form]at h;cases h
theorem Sd{S:List ja}{r:Rl}{i:Dt}(g:r.good)(h:¬GoodR r):qy S (.tup [i,r.dt]):=λ⟨x,o,e,_⟩=>by
 injection e with e;injection e with e1 e;injection e with e2 _
 rw[dk g o.2.2.1 e2]at h
 exact h o.2.2
theorem GC{S:List ja}{b:ja}{d:Dt}(hb:b∈S):qy S (.tup [.int b.1,d]):=λ⟨x,o,e,n⟩=>by
 injection e with e;injection e with e1 e;injection e1 with e1
 exact n b hb e1
theorem Sb{S:List ja}:∀{r:Rl},qy S r.dt
 | .yes,⟨x,o,e,_⟩=>by injection e with e;injection e with e1 e;cases e1
 | .no,⟨x,o,e,_⟩=>by injection e with e;injection e with e1 e;cases e1
 | .var _,⟨x,o,e,_⟩=>by injection e with e;injection e with e1 e;cases e1
 | .neg _,⟨x,o,e,_⟩=>by injection e with e;injection e with e1 e;cases e1
 | .two _ _ _,⟨x,o,e,_⟩=>by injection e with e;injection e with e1 e;cases e1
def gF(l:Int)(r:Rl):List Dt:=[.tup [.int 0,r.dt],.tup [.int (-l),r.dt],.tup [.int 1000000000000000001,r.dt],.tup [.bl true,r.dt],.tup [.non,r.dt],.tup [.str (Str.ofString (toString l)),r.dt]] ++
 [.lst [.int l,r.dt],.tup [.int l],.tup [.int l,r.dt,r.dt],.tup [.int l,.non],.tup [.int l,.str (Str.ofString "yes")],.tup [.int l,.tup [.str (Str.ofString "is"),.str (Str.ofString "A")]]] ++
 [.tup [.int l,.tup [.str (Str.ofString "is")]],.tup [.int l,.tup [.str (Str.ofString "not")]],.tup [.int l,.tup [.str (Str.ofString "and"),r.dt]],.tup [.int l,.lst [.str (Str.ofString "yes")]]] ++
 [.tup [.int l,.tup [.str (Str.ofString "yes"),.str (Str.ofString "yes")]],.non,.int 7,.tup [],r.dt,.tup [.lst [.int l],r.dt],.tup [.dct,r.dt]]
theorem z4{S:List ja}{l:Int}{r:Rl}(l1:1<=l):∀d∈gF l r,qy S d:=by
 intro d hd
 unfold gF at hd
 simp only[List.cons_append,List.nil_append,dh,nu,or_false]at hd
 rcases hd with rfl | rfl | rfl | rfl | rfl | rfl | rfl | rfl | rfl | rfl | rfl | rfl | rfl | rfl | rfl | rfl | rfl | rfl | rfl | rfl | rfl | rfl | rfl
 ·exact wD (.inl (by decide))
 ·exact wD (.inl (by omega))
 ·exact wD (.inr (by decide))
 ·exact λ⟨x,o,e,_⟩=>by injection e with e;injection e with e1 e;cases e1
 ·exact λ⟨x,o,e,_⟩=>by injection e with e;injection e with e1 e;cases e1
 ·exact λ⟨x,o,e,_⟩=>by injection e with e;injection e with e1 e;cases e1
 ·exact λ⟨x,o,e,_⟩=>by cases e
 ·exact λ⟨x,o,e,_⟩=>by injection e with e;injection e with e1 e;cases e
 ·exact λ⟨x,o,e,_⟩=>by injection e with e;injection e with e1 e;injection e with e2 e;cases e
 ·exact gh rfl
 ·exact gh rfl
 ·exact gh (by decide +kernel)
 ·exact gh (by decide +kernel)
 ·exact gh (by decide +kernel)
 ·refine gh ?_
  show(if Str.ofString "and" = Str.ofString "is" then gI r.dt else decide (eJ (Str.ofString "and")=some ((1:Nat):Int)) && [r.dt].all (bh 5))=false
  rw[aE (by decide),decide_eq_false (by decide +kernel)];rfl
 ·exact gh rfl
 ·exact gh (by decide +kernel)
 ·exact λ⟨x,o,e,_⟩=>by cases e
 ·exact λ⟨x,o,e,_⟩=>by cases e
 ·exact λ⟨x,o,e,_⟩=>by injection e with e;cases e
 ·exact Sb
 ·exact λ⟨x,o,e,_⟩=>by injection e with e;injection e with e1 e;cases e1
 ·exact λ⟨x,o,e,_⟩=>by injection e with e;injection e with e1 e;cases e1
def Vb:Dt->Bool
 | .str _=>false
 | .bl _=>false
 | _=>true
theorem Q9:∀{r:Rl},Vb r.dt=true
 | .yes=>rfl
 | .no=>rfl
 | .var _=>rfl
 | .neg _=>rfl
 | .two _ _ _=>rfl
theorem Rep.idv{h:Addr}{H:Hp}:∀{d:Dt} {v:V},Rep h H d v->Vb d=true->M' v
 | .int i,_,e,_=>.inr (.inr ⟨i,e⟩)
 | .non,_,e,_=>.inr (.inl e)
 | .tup _,_,⟨p,_,e,_⟩,_=>.inl ⟨p,e⟩
 | .lst _,_,⟨p,_,e,_⟩,_=>.inl ⟨p,e⟩
 | .dct,_,⟨p,e,_⟩,_=>.inl ⟨p,e⟩
theorem Ff{l:Int}{r:Rl}:∀d∈gF l r,Vb d=true:=by
 intro d hd
 unfold gF at hd
 simp only[List.cons_append,List.nil_append,dh,nu,or_false]at hd
 rcases hd with rfl | rfl | rfl | rfl | rfl | rfl | rfl | rfl | rfl | rfl | rfl | rfl | rfl | rfl | rfl | rfl | rfl | rfl | rfl | rfl | rfl | rfl | rfl <;> first | rfl | exact Q9
local macro_rules | `(tactic| walk_at "rd") => `(tactic| walk_at "rc")
local macro_rules | `(tactic| walk_at "rl") => `(tactic| first | (refine ck fun R hR => ?_) | walk_at "ry" | (refine Nx.to (by assumption) _ _ ?_))
def Ig:Sp:=λvs H Q _=>∃h a B,vs=[.ref h,.ref a,.ref B]/\bX H h/\∃s ps S,nW H a s/\Cu s/\H B=some (.lst (List.map V.ref ps))/\dv H ps S/\ps.length<=12/\∀v d H',Dr h H H'->nX H H' d v->qy S d->M' v->Q v H'
theorem aAp{n:Int}(h1:1<=n)(h2:n<=1000000000000000000):n.natAbs.log2<1920/\(Str.ofString (toString n)).length<=100:=by
 have h30:(10:Nat) ^ 19=10000000000000000000:=by decide
 have h3:n.natAbs<10 ^ 19:=by omega
 refine⟨?_,?_⟩
 ·exact(Nat.log2_lt (by omega)).mpr (Nat.lt_trans h3 (by decide +kernel))
 ·have:=int_text_length_le10 (k:=19) (by decide) h3
  rw[ofString_length]
  omega
theorem xB{h:Addr}{H:Hp}{d:Dt}{v:V}(r:Rep h H d v):∀n:Nat,bU h H (List.replicate n d) (List.replicate n [v]).flatten
 | 0=>rfl
 | n+1=>⟨v,_,rfl,r,xB r n⟩
theorem ow{h:Addr}{H:Hp}:∀{ps:List Addr} {S:List ja},dv H ps S->(∀s∈S,wH s.2)->bU h H (S.map dU) (List.map V.ref ps)
 | [],[],_,_=>rfl
 | [],_::_,g,_=>by have:=g.1;simp at this
 | _::_,[],g,_=>by have:=g.1;simp at this
 | p::ps,s::S,g,sh=>by
  obtain⟨q,e,r⟩:=g.2 0 p s rfl rfl
  refine⟨.ref p,List.map V.ref ps,rfl,⟨p,_,rfl,e,_,_,rfl,rfl,_,_,rfl,r.rep (sh s dE),rfl⟩,ow (ps:=ps) (S:=S) ⟨by have:=g.1;simpa using this,λi p s e1 e2=>g.2 (i+1) p s e1 e2⟩ λx hx=>sh x (dY _ hx)⟩
theorem Fz(T:Txt K mg t):cz P w K mg base iq 4 t.iY t.iV ["_law_hand_here","_law_saying","_law_before"] Ig:=by
 have aJ:=nJ (P:=P) (w:=w) (base:=base) T
 have qx:=Ap (P:=P) (w:=w) (base:=base) T
 refine T.mq.oI bO (λvs H Q E h=>?_) (λdB A outer s H vs Q E hr h hc hf=>?_)
 ·obtain⟨h,a,B,rfl,_⟩:=h;rfl
 obtain⟨h,a,B,rfl,hd,⟨l,r⟩,ps,S,⟨ra,ha,rr⟩,⟨l1,l18,gr⟩,hB,sa,l12,q⟩:=h
 have hu:=jl hr
 have yz:=hr.fL
 have hh:H h≠none:=by obtain⟨_,ns,o,e,_⟩:=hd;rw[e];exact λz=>nomatch z
 have shr:wH r:=λx hx=>by have:=(gr.2.2.1 x hx).2.1;omega
 have rr0:nX H H r.dt (.ref ra):=λg _=>rr.rep shr
 have nl:=aAp l1 l18
 refine⟨_,(by apply aj;exact(fq (ao hc 1) (qz rfl (eR (mB hc bO.nd hf 3 (by decide +kernel)) (eR (mB hc bO.nd hf 4 (by decide +kernel)) ny))));apply aj;exact(aF hc bO.nd hf 5 (by decide +kernel) (bK (ae (aG (ae ah (ae (ao hc 4) ag))) (ae (aG (ae (zO zQ (ao hc 3)) (ae (ao hc 4) ag))) (ae (aG (ae (aQ fu (aQ oF ah ah) ah) (ae (ao hc 4) ag))) (ae (aG (ae gX (ae (ao hc 4) ag))) (ae (aG (ae qA (ae (ao hc 4) ag))) (ae (aG (ae (fK Gv (bG hc) T.uC Kv (ae (ao hc 3) ag)) (ae (ao hc 4) ag))) ag))))))));apply aj;exact(aF hc bO.nd hf 5 (by decide +kernel) (aQ mF (ao hc 5) (bK (ae (bK (ae (ao hc 3) (ae (ao hc 4) ag))) (ae (aG (ae (ao hc 3) ag)) (ae (aG (ae (ao hc 3) (ae (ao hc 4) (ae (ao hc 4) ag)))) (ae (aG (ae (ao hc 3) (ae qA ag))) (ae (aG (ae (ao hc 3) (ae aL ag))) (ae (aG (ae (ao hc 3) (ae (aG (ae aL (ae aL ag))) ag))) ag)))))))));apply aj;exact(aF hc bO.nd hf 5 (by decide +kernel) (aQ mF (ao hc 5) (bK (ae (aG (ae (ao hc 3) (ae (aG (ae aL ag)) ag))) (ae (aG (ae (ao hc 3) (ae (aG (ae aL ag)) ag))) (ae (aG (ae (ao hc 3) (ae (aG (ae aL (ae (ao hc 4) ag))) ag))) (ae (aG (ae (ao hc 3) (ae (bK (ae aL ag)) ag))) ag)))))));apply aj;exact(aF hc bO.nd hf 5 (by decide +kernel) (aQ mF (ao hc 5) (bK (ae (aG (ae (ao hc 3) (ae (aG (ae aL (ae aL ag))) ag))) (ae qA (ae ah (ae (aG ag) (ae (ao hc 4) (ae (aG (ae (bK (ae (ao hc 3) ag)) (ae (ao hc 4) ag))) (ae (aG (ae uA (ae (ao hc 4) ag))) ag))))))))));apply aj;exact(aF hc bO.nd hf 5 (by decide +kernel) (aQ mF (ao hc 5) (eT hc ["_law_one"] [3] rfl (by decide +kernel) (ji (Ex qx hr.mono (bG hc) T.qo T.jN.kp T.qv .nil bA )) (λ_ hc=>tQ hc (by decide +kernel) 0 (by decide +kernel)) (λ_ _=>dO) (λ_ hc=>(aG (ae (ao hc 1) (ae (ao hc 0) ag)))))));apply eF;exact(cj (aV sq (aH cK (bG hc) T.eU gi (ae (ao hc 2) ag)) ah (bF _)) (by exact ay (aF hc bO.nd hf 5 (by decide +kernel) (aQ mF (ao hc 5) (aQ Qz (bK (ae (aG (ae (bj mM (bj gy (ao hc 2) (aD aJ hr.mono (bG hc) T.aO T.aN.kp T.aP .nil bA (ae (ao hc 0) (ae (aH cK (bG hc) T.eU gi (ae (ao hc 2) ag)) ag))) (λ_ _=>rfl)) ah (λ_ _=>rfl)) (ae (ao hc 4) ag))) ag)) ah)))) bE);exact ay (aS (bj gy (ao hc 5) (aD aJ hr.mono (bG hc) T.aO T.aN.kp T.aP .nil bA (ae (ao hc 0) (ae (aH cK (bG hc) T.eU gi (ae (ao hc 5) ag)) ag))) (λ_ _=>rfl)))),?_⟩
 refine ck λR1 hR1=>?_
 walk_at "ry"
 refine⟨_,fM ha,rfl,_,_,rfl,_,_,rfl,rfl,?_⟩
 have bL:∀{x:Option V},y9 H [some (.ref h),some (.ref a),some (.ref B),some (.int l),some (.ref ra),x] (qd 3) (.int l):=WD rfl
 have bR:∀{x:Option V},y9 H [some (.ref h),some (.ref a),some (.ref B),some (.int l),some (.ref ra),x] (qd 4) r.dt:=R6 rfl rr0
 refine Nx.to hR1 _ _ ?_
 refine ck λR2 hR2=>?_
 refine(mY hh (aA (cB hh (aA Ku (aA bR bN))) (aA (cB hh (aA (R7 rfl) (aA bR bN))) (aA (cB hh (aA R9 (aA bR bN))) (aA (cB hh (aA WK (aA bR bN))) (aA (cB hh (aA Ce (aA bR bN))) (aA (cB hh (aA (NQ rfl nl.1 nl.2) (aA bR bN))) bN))))))) H (λ_ _ z=>z) _ λv1 H1 s1 r1=>?_
 obtain⟨X1,w1,rfl,hX1,r1⟩:=r1.lst hh
 refine Nx.to hR2 _ _ ?_
 refine ck λR3 hR3=>?_
 refine wA hh rfl hX1 r1 s1 (mY hh (aA (mY hh (aA bL (aA bR bN))) (aA (cB hh (aA bL bN)) (aA (cB hh (aA bL (aA bR (aA bR bN)))) (aA (cB hh (aA bL (aA Ce bN))) (aA (cB hh (aA bL (aA jD bN))) (aA (cB hh (aA bL (aA (cB hh (aA jD (aA jD bN))) bN))) bN))))))) (by simp) λX2 w2 H2 s2 hX2 r2=>?_
 replace s2:=s1.trans s2
 refine Nx.to hR3 _ _ ?_
 refine ck λR4 hR4=>?_
 refine wA hh rfl hX2 r2 s2 (mY hh (aA (cB hh (aA bL (aA (cB hh (aA jD bN)) bN))) (aA (cB hh (aA bL (aA (cB hh (aA jD bN)) bN))) (aA (cB hh (aA bL (aA (cB hh (aA jD (aA bR bN))) bN))) (aA (cB hh (aA bL (aA (mY hh (aA jD bN)) bN))) bN))))) (by simp) λX3 w3 H3 s3 hX3 r3=>?_
 replace s3:=s2.trans s3
 refine Nx.to hR4 _ _ ?_
 refine ck λR5 hR5=>?_
 refine wA hh rfl hX3 r3 s3 (mY hh (aA (cB hh (aA bL (aA (cB hh (aA jD (aA jD bN))) bN))) (aA Ce (aA Ku (aA (cB hh bN) (aA bR (aA (cB hh (aA (mY hh (aA bL bN)) (aA bR bN))) (aA (cB hh (aA R8 (aA bR bN))) bN)))))))) (by simp) λX4 w4 H4 s4 hX4 r4=>?_
 replace s4:=s3.trans s4
 refine Nx.to hR5 _ _ ?_
 have Zd:gC H H4 (gF l r) w4:=r4
 walk_at "r"
 refine⟨rfl,λL qs H5 s5 hL lq rq=>⟨L,rfl,⟨_,bD hL⟩,?_⟩⟩
 have ln:dF.length=4:=rfl
 obtain⟨Pc,oQ⟩:∃Pc:Addr->Nat->List V->Hp->Prop,∀Z i ys H',Pc Z i ys H'↔∃Hy:List Addr,ys=List.map V.ref Hy/\dv H' Hy ((dF.take i).map λr=>(l,r))/\bz H5 H'/\H' Z=some (.lst ys):=⟨_,λ_ _ _ _=>dZ⟩
 refine gK (zs:=List.map V.ref qs) Pc (λZ hZ=>(oQ _ _ _ _).mpr ⟨[],rfl,⟨rfl,λi p s e=>by simp at e⟩,ak hZ _,ai⟩) (λZ hZ i ys H' _ pv=>?_) (λZ hZ i z ys H' hz pv cb=>?_) (λZ hZ ys H' pv=>?_)
 ·obtain⟨_,_,_,s6,_⟩:=(oQ _ _ _ _).mp pv
  exact s6 _ _ hL
 ·obtain⟨Hy,rfl,PX,s6,XB⟩:=(oQ _ _ _ _).mp pv
  obtain⟨p,ep,rfl⟩:=oC hz
  have hi:i<dF.length:=by have:=(eQ.mp ep).1;omega
  have er:dF[i]?=some dF[i]:=cD hi
  have rp:=(rq i p _ ep er).mono (av s6)
  have lt:=PX.1
  rw[aY,je]at lt
  walk_at "rc"
  repeat (walk_at "rd")
  refine⟨by decide,λp1 Bt=>?_⟩
  have S6:=ak Bt (.tup [V.int l,V.ref p])
  have J4:=S6 _ _ XB
  have hp7:upd H' p1 (.tup [V.int l,V.ref p]) p1=some (.tup [V.int l,V.ref p]):=ai
  have s7:=s6.trans S6
  have sa7:=PX.mono (av S6)
  have rp7:=rp.mono (av S6)
  generalize upd H' p1 (.tup [V.int l,V.ref p])=H7 at J4 hp7 s7 sa7 rp7 ⊢
  have T7:qw H7 (upd H7 Z (.lst (List.map V.ref Hy++[V.ref p1]))):=λq ys e=>by rw[aB (sy e J4 (by intro z;cases z))];exact e
  refine⟨J4,bV (by omega),(oQ _ _ _ _).mpr ⟨Hy++[p1],by rw[cQ];rfl,?_,cI s7 hZ,ai⟩⟩
  rw[jW,er,cQ]
  exact(sa7.mono T7).snoc ⟨p,T7 _ _ hp7,rp7.mono T7⟩
 ·obtain⟨Hy,rfl,PX,s6,XB⟩:=(oQ _ _ _ _).mp pv
  rw[aY,lq,<-ln,jf]at PX
  have Xb:=s5.trans s6
  have hX6:=Xb _ _ hX4
  have r6:=ow (h:=h) PX λx hx=>by obtain⟨r',uW,rfl⟩:=dw.mp hx;exact lX r' uW
  have lt:=r6.len
  rw[aY,aY,aY]at lt
  have l4:=(Zd h hh).len
  have l23:(gF l r).length=23:=rfl
  refine⟨Z,rfl,_,hX6,_,XB,by rw[aY];exact bH (by omega),λX5 hX5=>?_⟩
  have aA7:=hX5
  have S8:=ak hX5 (.lst (w4++List.map V.ref Hy))
  have r8:gC H _ _ _:=λg hg=>(((Zd g hg).mono (Kp.of Xb)).append (ow (h:=g) PX λx hx=>by obtain⟨r',uW,rfl⟩:=dw.mp hx;exact lX r' uW)).mono (Kp.of (h:=g) S8)
  have bad:∀d∈gF l r++List.map dU (List.map (λr=>(l,r)) dF),qy S d/\Vb d=true:=λd hd=>by
   rcases gW.mp hd with h1 | h1
   ·exact⟨z4 l1 d h1,Ff d h1⟩
   ·obtain⟨x,hx,rfl⟩:=dw.mp h1
    obtain⟨r',uW,rfl⟩:=dw.mp hx
    obtain⟨i,hi,e⟩:=List.getElem_of_mem uW
    refine⟨Sd ?_ (xX r' uW),rfl⟩
    have:=rq i (qs[i]'(by omega)) _ (cD (by omega)) (cD hi)
    rw[<-e]
    exact this.good
  have s8:=(s4.trans Xb).trans S8
  have h8:upd H' X5 (.lst (w4++List.map V.ref Hy)) X5=some (.lst (w4++List.map V.ref Hy)):=ai
  have l8:(gF l r++List.map dU (List.map (λr=>(l,r)) dF)).length=27:=rfl
  generalize upd H' X5 (.lst (w4++List.map V.ref Hy))=H8 at r8 s8 h8 ⊢
  generalize gF l r++List.map dU (List.map (λr=>(l,r)) dF)=ds8 at r8 bad l8
  generalize w4++List.map V.ref Hy=w8 at r8 h8
  have d8:Dr h H H8:=Dr.refl.same s8
  have hd8:=d8.aR hd
  have hB8:=s8 _ _ hB
  have sa8:=sa.mono (av s8)
  have rr8:=rr0.mono s8
  have lw8:=(r8 h hh).len
  clear Zd r6 hX6 r4 hX4 r3 hX3 r2 hX2 r1 hX1 PX XB
  walk_at "r"
  refine⟨λσ' H'=>∃X ws ds,σ'=[some (.ref h),some (.ref a),some (.ref B),some (.int l),some (.ref ra),some (.ref X)]/\Dr h H H'/\H' X=some (.lst ws)/\X≠h/\gC H H' ds ws/\(∀d∈ds,qy S d/\Vb d=true)/\1<=ds.length/\ds.length<=100,?_,?_⟩
  ·repeat (first | walk_at "rl" | simp only[hB8])
   have Vv:X5≠h:=Bc (s4.trans Xb) hh aA7
   split
   ·rename_i lp
    refine bQ hd d8 (by omega) (by omega) λi H9 i0 i1 d9 k9=>?_
    have hd9:=d9.aR hd
    have VM:B≠h:=λe=>by obtain⟨_,ns,o,e1,⟨a,b,c,d,f,rfl,_⟩,_⟩:=hd;rw[e,e1]at hB;cases ps with | nil=>simp[hv]at hB | cons x xs=>cases xs <;> simp[hv]at hB
    have hi:i.toNat<ps.length:=by omega
    have ep:ps[i.toNat]?=some ps[i.toNat]:=cD hi
    have es:S[i.toNat]?=some (S[i.toNat]'(by have:=sa.1;omega)):=cD _
    obtain⟨qj,hj,_⟩:=sa8.2 _ _ _ ep es
    have hj9:H9 ps[i.toNat]=_:=(k9 _ (hd8.oJ hj)).trans hj
    have V5:m6 (List.map V.ref ps) i=some (.ref ps[i.toNat]):=by
     have:m6 (List.map V.ref ps) ((i.toNat:Nat):Int)=some (.ref ps[i.toNat]):=eK (by rw[cW,ep];rfl)
     rw[show((i.toNat:Nat):Int)=i by omega]at this
     exact this
    have K9:Kp h H8 H9:=⟨λb xs e=>(k9 b (hd8.oJ e)).trans e,λb o n e=>(k9 b n).trans e⟩
    refine⟨i,rfl,_,(k9 B VM).trans hB8,_,V5,_,rfl,_,hj9,_,vi _ _,by decide,λp1 Bt=>⟨by decide,λp2 uX=>?_⟩⟩
    refine⟨p2,7,[V.ref p1],rfl,rfl,ai,by decide,by decide,bH (show 1*7<=1000 by decide),λp3 hp3=>?_⟩
    have S1:=ak Bt (.tup [V.int (S[i.toNat]'(by have:=sa.1;omega)).1,V.ref ra])
    have S2:=ak uX (.lst [V.ref p1])
    have S3:=ak hp3 (.lst (List.replicate (7:Int).toNat [V.ref p1]).flatten)
    have sm:=(S1.trans S2).trans S3
    have Vg:=(S2.trans S3) _ _ ai
    have Vf:upd (upd (upd H9 p1 (.tup [V.int (S[i.toNat]'(by have:=sa.1;omega)).1,V.ref ra])) p2 (.lst [V.ref p1])) p3 (.lst (List.replicate (7:Int).toNat [V.ref p1]).flatten) p3=some (.lst (List.replicate (7:Int).toNat [V.ref p1]).flatten):=ai
    generalize upd (upd (upd H9 p1 (.tup [V.int (S[i.toNat]'(by have:=sa.1;omega)).1,V.ref ra])) p2 (.lst [V.ref p1])) p3 (.lst (List.replicate (7:Int).toNat [V.ref p1]).flatten)=HH at sm Vg Vf ⊢
    have RM:=d9.same sm
    have rD:nX H HH (.tup [.int (S[i.toNat]'(by have:=sa.1;omega)).1,r.dt]) (.ref p1):=λg hg=>⟨p1,_,rfl,Vg,_,_,rfl,rfl,_,_,rfl,((rr8.kp hh K9).mono sm) g hg,rfl⟩
    have l7:((List.replicate (7:Int).toNat [V.ref p1]).flatten).length=7:=rfl
    refine⟨p3,rfl,w8,sm _ _ (K9.jz _ _ Vv h8),_,Vf,by rw[l7];exact bH (by omega),λp4 SN=>⟨RM.new SN,(RM.aR hd).ne SN,ds8++List.replicate 7 (.tup [.int (S[i.toNat]'(by have:=sa.1;omega)).1,r.dt]),?_,λd Td=>?_,?_,?_⟩⟩
    ·exact λg hg=>((((r8.kp hh K9).mono sm) g hg).append (xB (rD g hg) 7)).mono (Kp.of (ak SN _))
    ·rcases gW.mp Td with h1 | h1
     ·exact bad d h1
     ·rw[List.eq_of_mem_replicate h1]
      exact⟨GC (iC es),rfl⟩
    ·rw[eN];omega
    ·rw[eN,wN];omega
   ·exact⟨d8,w8,h8,Vv,ds8,r8,bad,by omega,by omega⟩
  ·rintro σ' H9 ⟨X,ws,ds,rfl,d9,hX9,XD,r9,WM,l1',aB6⟩
   have lw9:=(r9 h hh).len
   repeat (first | walk_at "rl" | simp only[hX9])
   refine bQ hd d9 (by omega) (by omega) λi Sr i0 i1 RM k10=>?_
   have hi:i.toNat<ws.length:=by omega
   have ew:ws[i.toNat]?=some ws[i.toNat]:=cD hi
   obtain⟨d,ed,rd⟩:=r9.at hh ew
   have V5:m6 ws i=some ws[i.toNat]:=by
    have:m6 ws ((i.toNat:Nat):Int)=some ws[i.toNat]:=eK ew
    rw[show((i.toNat:Nat):Int)=i by omega]at this
    exact this
   have hd9:=d9.aR hd
   have K10:Kp h H9 Sr:=⟨λb xs e=>(k10 b (hd9.oJ e)).trans e,λb o n e=>(k10 b n).trans e⟩
   exact⟨i,rfl,ws,(k10 X XD).trans hX9,_,V5,q _ d _ RM (rd.kp hh K10) (WM d (iC ed)).1 ((rd h hh).idv (WM d (iC ed)).2)⟩
local macro_rules | `(tactic| walk_at "rd") => `(tactic| walk_at "rc")
local macro_rules | `(tactic| walk_at "rl") => `(tactic| first | (refine ck fun R hR => ?_) | walk_at "ry" | (refine Nx.to (by assumption) _ _ ?_))
theorem uL{ss:List Str}(nd:ss.Nodup)(l26:ss.length=26):∀{us:List Nat},us.Nodup->(∀j∈us,j<26)->∃zs:List Str,zs.Nodup/\zs.length=us.length/\∀z,z∈zs↔∃j∈us,ss[j]?=some z
 | [],_,_=>⟨[],qN,rfl,λz=>⟨λh=>(nomatch h),λ⟨j,h,_⟩=>(nomatch h)⟩⟩
 | j::us,un,ub=>by
  obtain⟨zs,n,l,g⟩:=uL nd l26 (us:=us) (jU.mp un).2 λx hx=>ub x (dY _ hx)
  have hj:j<ss.length:=by have:=ub j dE;omega
  have ej:ss[j]?=some ss[j]:=cD hj
  refine⟨ss[j]::zs,jU.mpr ⟨λh=>?_,n⟩,by rw[dH,dH,l],λz=>?_⟩
  ·obtain⟨j',h1,h2⟩:=(g _).mp h
   have:=(List.getElem?_inj hj nd).mp (ej.trans h2.symm)
   subst this
   exact(jU.mp un).1 h1
  ·rw[dh,g z]
   constructor
   ·rintro(rfl | ⟨j',h1,h2⟩)
    ·exact⟨j,dE,ej⟩
    ·exact⟨j',dY _ h1,h2⟩
   ·rintro⟨j',h1,h2⟩
    rcases dh.mp h1 with rfl | h1
    ·rw[ej]at h2;exact .inl (dm h2).symm
    ·exact .inr ⟨j',h1,h2⟩
def more(us js:List Nat):List Nat:=us++js.filter λj=>!decide (j∈us)
theorem j9{us js:List Nat}{j:Nat}:j∈more us js↔j∈us\/j∈js:=by
 unfold more
 rw[gW,rm]
 by_cases h:j∈us <;> simp[h]
theorem Dz{us js:List Nat}(h1:us.Nodup)(h2:js.Nodup):(more us js).Nodup:=by
 unfold more
 refine vE.mpr ⟨h1,h2.sublist (List.filter_sublist ..),λa ha b hb e=>?_⟩
 have:=(rm.mp hb).2
 rw[<-e]at this
 simp[ha]at this
theorem JB{us js:List Nat}:(more us js).length<=us.length+js.length:=by
 unfold more
 rw[eN]
 have:=vI (λj=>!decide (j∈us)) js
 omega
def tI(ss:List Str)(us:List Nat)(S:List ja):Prop:=∀z,(∃s∈S,z∈s.2.names)↔∃j∈us,ss[j]?=some z
theorem tI.snoc{ss:List Str}{us js:List Nat}{S:List ja}{l:Int}{r:Rl}(h:tI ss us S)(o:Over ss r js):tI ss (more us js) (S++[(l,r)]):=λz=>by
 constructor
 ·rintro⟨s,hs,hz⟩
  rcases gW.mp hs with h1 | h1
  ·obtain⟨j,h2,h3⟩:=(h z).mp ⟨s,h1,hz⟩
   exact⟨j,j9.mpr (.inl h2),h3⟩
  ·rw[di.mp h1]at hz
   obtain⟨j,h2,h3⟩:=(o.2.2 z).mp hz
   exact⟨j,j9.mpr (.inr h2),h3⟩
 ·rintro⟨j,h1,h2⟩
  rcases j9.mp h1 with h3 | h3
  ·obtain⟨s,h4,h5⟩:=(h z).mpr ⟨j,h3,h2⟩
   exact⟨s,pC _ h4,h5⟩
  ·exact⟨(l,r),iD _ (di.mpr rfl),(o.2.2 z).mpr ⟨j,h3,h2⟩⟩
theorem Nu{ss:List Str}(nd:ss.Nodup)(l26:ss.length=26){us:List Nat}(un:us.Nodup)(ub:∀j∈us,j<26){S:List ja}{s:ja}(h:tI ss us (S++[s]))(ap:∀a∈S,a.1≠s.1):Sv S s↔us.length<=12:=by
 obtain⟨zs,n,l,g⟩:=uL nd l26 un ub
 constructor
 ·rintro⟨_,vs,l12,sub⟩
  have:=gQ n λz hz=>by obtain⟨x,hx,hz'⟩:=(h z).mpr ((g z).mp hz);exact sub x hx z hz'
  omega
 ·intro l12
  exact⟨ap,zs,by omega,λa ha z hz=>(g z).mpr ((h z).mp ⟨a,ha,hz⟩)⟩
theorem xA{x y:ja}(ox:x.2.good)(oy:y.2.good)(e:dU x=dU y):x=y:=by
 injection e with e
 injection e with e1 e
 injection e1 with e1
 injection e with e _
 exact Prod.ext e1 (dk ox oy e)
theorem GK{S:List ja}{d:Dt}(h:qy S d):oa (S.map dU++[d]) S d []:=⟨rfl,λ⟨s,o,e,f⟩=>h ⟨s,o,e,f.1⟩⟩
theorem Ck{S:List ja}{s:ja}(g:s.2.good)(h:¬Sv S s):oa (S.map dU++[dU s]) S (dU s) []:=⟨rfl,λ⟨x,o,e,f⟩=>by
 obtain rfl:=xA g o.2.2.1 e
 exact h f⟩
theorem oa.snoc{ds:List Dt}{S:List ja}{d d':Dt}{rest:List Dt}(h:oa ds S d rest):oa (ds++[d']) S d (rest++[d']):=⟨by rw[h.1,vD];rfl,h.2⟩
theorem oA{h:Addr}{H:Hp}:∀{S:List ja} {vs:List V},bU h H (S.map dU) vs->(∀s∈S,s.2.good)->∃ps:List Addr,vs=List.map V.ref ps/\dv H ps S
 | [],_,e,_=>⟨[],e,rfl,λi p s e=>by simp at e⟩
 | s::S,_,⟨v,ws,e,r,rs⟩,g=>by
  obtain⟨p,rfl,sp⟩:=Rep.say r (g s dE)
  obtain⟨ps,rfl,sa⟩:=oA (S:=S) rs λx hx=>g x (dY _ hx)
  refine⟨p::ps,e,by rw[dH,dH,sa.1],λi q x e1 e2=>?_⟩
  cases i with
  | zero=>cases e1;cases e2;exact sp
  | succ i=>exact sa.2 i q x e1 e2
def yX(ss:List Str)(ls:List Int)(i:Nat)(us:List Nat)(ds:List Dt)(due:Int):Prop:=
 (due=-1/\∃S,gj S/\ds=S.map dU/\S.map (·.1)=ls.take i/\us.length<=12/\tI ss us S)\/(∃S d rest,gj S/\oa ds S d rest/\due=(S.length+1:Nat))
theorem yX.step{ss:List Str}{ls bs:List Int}{i:Nat}{us js:List Nat}{ds:List Dt}{due l:Int}{r:Rl}{d:Dt}(nd:ss.Nodup)(l26:ss.length=26)(U4:o8 ls)(el:ls[i]?=some l)(st:yX ss ls i us ds due)(ld:ds.length=i)(un:us.Nodup)(ub:∀j∈us,j<26)(g:GoodR r)(o:Over ss r js)
  (no:¬(i:Int)∈bs->d=dU (l,r)) (bad:(i:Int)∈bs->∀S,ds=S.map dU->gj S->due<0->qy S d) :
  yX ss ls (i+1) (more us js) (ds++[d]) (if due<0/\((i:Int)∈bs\/12<(more us js).length) then (i:Int)+1 else due):=by
 rcases st with ⟨rfl,S,hS,rfl,eS,lu,ub'⟩ | ⟨S,d0,rest,hS,am,rfl⟩
 ·rw[aY]at ld
  by_cases hb:(i:Int)∈bs
  ·rw[aI ⟨by decide,.inl hb⟩]
   exact .inr ⟨S,d,[],hS,GK (bad hb S rfl hS (by decide)),by rw[ld];rfl⟩
  ·obtain rfl:=no hb
   have u':=ub'.snoc (l:=l) o
   have ol:1<=l/\l<=1000000000000000000:=U4.2 l (iC el)
   have ok:Cu (l,r):=⟨ol.1,ol.2,g⟩
   have ap:∀a∈S,a.1≠l:=λa ha e=>by
    have h1:a.1∈ls.take i:=by rw[<-eS];exact dw.mpr ⟨a,ha,rfl⟩
    obtain⟨k,hk⟩:=vJ.mp h1
    rw[List.getElem?_take]at hk
    split at hk
    ·rename_i gS
     have JX:k<ls.length:=(eQ.mp hk).1
     have:=(List.getElem?_inj (j:=i) JX U4.1).mp (hk.trans (by rw[el,e]))
     omega
    ·cases hk
   have fi:=Nu nd l26 (Dz un o.1) (λj hj=>by rcases j9.mp hj with h1 | h1;exact ub j h1;exact o.2.1 j h1) u' ap
   by_cases hw:12<(more us js).length
   ·rw[aI ⟨by decide,.inr hw⟩]
    exact .inr ⟨S,dU (l,r),[],hS,Ck g.1 (λf=>by have:=fi.mp f;omega),by rw[ld];rfl⟩
   ·rw[aE λh=>by rcases h.2 with h1 | h1;exact hb h1;exact hw h1]
    exact .inl ⟨rfl,S++[(l,r)],hS.snoc ok (fi.mpr (by omega)),by rw[cQ];rfl,by rw[cQ,eS,jW,el];rfl,by omega,u'⟩
 ·rw[aE λh=>by have:=h.1;omega]
  exact .inr ⟨S,d0,rest++[d],hS,am.snoc,rfl⟩
local macro_rules | `(tactic| walk_at "rd") => `(tactic| walk_at "rc")
local macro_rules | `(tactic| walk_at "rl") => `(tactic| first | (refine ck fun R hR => ?_) | walk_at "ry" | (refine Nx.to (by assumption) _ _ ?_))
def Told(ds:List Dt)(due:Int):Prop:=(10<ds.length/\due=0)\/(ds.length<=10/\((∃S d rest,gj S/\oa ds S d rest/\due=(S.length+1:Nat))\/(∃S,gj S/\ds=S.map dU/\due=-1)))
def Px:Sp:=λvs H Q _=>∃h,vs=[.ref h]/\bX H h/\∀p L ws ds due H',Dr h H H'->H' p=some (.tup [.ref L,.int due])->H' L=some (.lst ws)->L≠h->bU h H' ds ws->Told ds due->ws.length<=12->(∀v∈ws,M' v)->Q (.ref p) H'
def sgn(c:Nat):Str:=⟨#[c]⟩
theorem Ga{cs:List Nat}(hn:cs.length<=100):JoinOk (Str.ofString "") (cs.map sgn)=true/\(Txt.join (Str.ofString "") (cs.map sgn)).cps.toList=cs:=by
 refine⟨joinOk_of (L:=1) (n:=100) (λz hz=>?_) (by simpa using hn) (by decide),?_⟩
 ·obtain⟨c,_,rfl⟩:=dw.mp hz
  exact bB 1
 ·rw[Gm (show(Str.ofString "").cps = #[] by decide)]
  induction cs with
  | nil=>rfl
  | cons c cs ih=>rw[eB,eB,uq,ih (by simp at hn;omega)];rfl
theorem QD{cs:List Nat}{k n:Nat}{s:Str}(hk:k<26)(hn:n<=7)(ac:∀c∈cs,97<=c/\c<=122)(e:s.cps.toList=(97+k)::cs.take n):Nm s/\s.cps.toList[0]?=some (97+k):=by
 have hl:s.length=(cs.take n).length+1:=by show s.cps.size=_;rw[<-dX,e,dH]
 have ht:(cs.take n).length<=n:=by rw[je];omega
 refine⟨⟨by omega,by omega,λc hc=>?_⟩,by rw[e];rfl⟩
 rw[e]at hc
 rcases dh.mp hc with rfl | hc
 ·omega
 ·exact ac c (List.mem_of_mem_take hc)
theorem xu:∀{S S':List ja},(∀s∈S,s.2.good)->(∀s∈S',s.2.good)->S.map dU=S'.map dU->S=S'
 | [],[],_,_,_=>rfl
 | [],_::_,_,_,e=>by cases e
 | _::_,[],_,_,e=>by cases e
 | a::S,b::S',g,g',e=>by
  rw[eB,eB]at e
  injection e with e1 e2
  rw[xA (g a dE) (g' b dE) e1,xu (λx hx=>g x (dY _ hx)) (λx hx=>g' x (dY _ hx)) e2]
theorem gj.good{S:List ja}(h:gj S):∀s∈S,s.2.good:=λs hs=>by
 obtain⟨i,e⟩:=vJ.mp hs
 exact(h i s e).1.2.2.1
theorem FN(us:List Nat):List.map (λj:Nat=>V.int j) us=List.map V.int (us.map λj:Nat=>(j:Int)):=by rw[iz];rfl
theorem JN(j:Nat)(us:List Nat):JP (.int (j:Int)) (List.map (λj:Nat=>V.int j) us)=decide (j∈us):=by
 rw[FN,kl]
 rw[nr,iA,iA,dw]
 exact⟨λ⟨k,h1,h2⟩=>(show k=j by omega) ▸ h1,λh=>⟨j,h,rfl⟩⟩
theorem Gp(us:List Nat):(List.map (λj:Nat=>V.int j) us).all fC=true:=by
 rw[vq,qS]
 intro _ _
 rfl
theorem Jx{js:List Nat}{i:Nat}{z:V}(h:(List.map (λj:Nat=>V.int j) js)[i]?=some z):∃j:Nat,js[i]?=some j/\z=.int j:=by
 rw[cW]at h
 cases e:js[i]? with
 | none=>rw[e]at h;cases h
 | some j=>rw[e]at h;exact⟨j,rfl,(dm h).symm⟩
theorem MN(T:Txt K mg t):cz P w K mg base iq 5 t.kO t.kz ["_law_hand_here"] Px:=by
 have aJ:=nJ (P:=P) (w:=w) (base:=base) T
 have uh:=FH (P:=P) (w:=w) (base:=base) T
 have y0:=MJ (P:=P) (w:=w) (base:=base) T
 have ug:=Fz (P:=P) (w:=w) (base:=base) T
 refine T.qb.oI aU (λvs H Q E h=>?_) (λdB A outer s H vs Q E hr h hc hf=>?_)
 ·obtain⟨h,rfl,_⟩:=h;rfl
 obtain⟨h,rfl,hd,q⟩:=h
 have hu:=jl hr
 have yz:=hr.fL
 refine⟨_,(by apply aj;exact(aF hc aU.nd hf 1 (by decide +kernel) aL);apply aj;exact(aF hc aU.nd hf 2 (by decide +kernel) (ju PySem.F.plainAttrs_str PySem.F.slot_str_join PySem.F.type_str_join Jz aL (ae (eT hc ["_law_k"] [1,0] rfl (by decide +kernel) (fJ (bG hc) T.fS (ae ah ag)) (λ_ hc=>tQ hc (by decide +kernel) 0 (by decide +kernel)) (λ_ _=>dO) (λ_ hc=>(bj U9 (ao hc 1) (aD aJ hr.mono (bG hc) T.aO T.aN.kp T.aP .nil bA (ae (ao hc 2) (ae ah ag))) (λ_ _=>rfl)))) ag)));apply aj;exact(uz hc aU.nd 3 (by decide +kernel) ["_law_k"] [1,2,0] rfl (by decide +kernel) (fJ (bG hc) T.fS (ae ah ag)) (λ_ hc=>tQ hc (by decide +kernel) 0 (by decide +kernel)) (λ_ _=>dO) (λ_ hc=>(aQ Am (bj U9 (ao hc 1) (ao hc 0) (λ_ _=>rfl)) (gL PJ (ao hc 2) jh (jg (aD aJ hr.mono (bG hc) T.aO T.aN.kp T.aP .nil bA (ae (ao hc 3) (ae ah ag))))))) (by rfl));apply aj;exact(aF hc aU.nd hf 4 (by decide +kernel) (aD uh hr.mono (bG hc) T.tW T.mr.kp T.uc .nil bA (ae (ao hc 0) (ae (aD aJ hr.mono (bG hc) T.aO T.aN.kp T.aP .nil bA (ae (ao hc 0) (ae ah ag))) ag))));apply eF;exact(cj (aV iH (aD aJ hr.mono (bG hc) T.aO T.aN.kp T.aP .nil bA (ae (ao hc 0) (ae ah ag))) ah (bF _)) (by exact ay (uz hc aU.nd 4 (by decide +kernel) ["_law_k"] [] rfl (by decide +kernel) (fJ (bG hc) T.fS (ae (aQ fu ah (aD aJ hr.mono (bG hc) T.aO T.aN.kp T.aP .nil bA (ae (ao hc 0) (ae ah ag)))) ag)) (λ_ hc=>tQ hc (by decide +kernel) 0 (by decide +kernel)) (λ_ _=>dO) (λ_ hc=>(aQ fu (aQ oG ah (ao hc 0)) ah)) (by rfl))) bE);apply aj;exact(aF hc aU.nd hf 5 (by decide +kernel) (bK ag));apply aj;exact(aF hc aU.nd hf 6 (by decide +kernel) (bK ag));apply aj;exact(aF hc aU.nd hf 7 (by decide +kernel) (zO zQ ah));apply aj;exact(aF hc aU.nd hf 8 (by decide +kernel) (gL TK (bK (ae (aD aJ hr.mono (bG hc) T.aO T.aN.kp T.aP .nil bA (ae (ao hc 0) (ae ah ag))) (ae (aD aJ hr.mono (bG hc) T.aO T.aN.kp T.aP .nil bA (ae (ao hc 0) (ae ah ag))) ag))) jh (jg (aD aJ hr.mono (bG hc) T.aO T.aN.kp T.aP .nil bA (ae (ao hc 0) (ae ah ag))))));apply aj;exact(iE nq rfl (fJ (bG hc) T.fS (ae (aH cK (bG hc) T.eU gi (ae (ao hc 4) ag)) ag)) (mB hc aU.nd hf 9 (by decide +kernel)) (by apply aj;exact(fq (aD y0 hr.mono (bG hc) T.yf T.p8.kp T.yP .nil bA (ae (ao hc 0) (ae (ao hc 3) ag))) (qz rfl (eR (mB hc aU.nd hf 10 (by decide +kernel)) (eR (mB hc aU.nd hf 11 (by decide +kernel)) ny))));apply aj;exact(aF hc aU.nd hf 6 (by decide +kernel) (aQ mF (ao hc 6) (eT hc ["_law_at"] [6] rfl (by decide +kernel) (ji (ao hc 11)) (λ_ hc=>tQ hc (by decide +kernel) 0 (by decide +kernel)) (λ_ hc=>Es (aV Fw (ao hc 0) (ao hc 1) (by with_unfolding_all rfl))) (λ_ hc=>(ao hc 0)))));apply eF;exact(cj (lL (vL (aV Jq (ao hc 7) ah (bF _)) (rH (lL (iQ (aV Al (ao hc 9) (ao hc 8) (by with_unfolding_all rfl)) (jt (aV sq (aH cK (bG hc) T.eU gi (ae (ao hc 6) ag)) ah (bF _)))))))) (by exact ay (aF hc aU.nd hf 7 (by decide +kernel) (aQ fu (ao hc 9) ah))) bE);apply aj;exact(aF hc aU.nd hf 12 (by decide +kernel) (aG (ae (bj gy (ao hc 4) (ao hc 9) (λ_ _=>rfl)) (ae (ao hc 10) ag))));apply eF;exact(cj (aV Al (ao hc 9) (ao hc 8) (by with_unfolding_all rfl)) (by exact ay (aF hc aU.nd hf 12 (by decide +kernel) (aD ug hr.mono (bG hc) T.tV T.mq.kp T.ua .nil bA (ae (ao hc 0) (ae (ao hc 12) (ae (gL TK (ao hc 5) jh (jg (aQ Ak (ao hc 7) ah))) ag)))))) bE);exact ay (dy (ju pD wO wQ gR (ao hc 5) (ae (ao hc 12) ag)))));apply eF;exact(cj (aV sq (aH cK (bG hc) T.eU gi (ae (ao hc 5) ag)) ah (bF _)) (by exact ay (aF hc aU.nd hf 7 (by decide +kernel) ah)) bE);exact ay (aS (aG (ae (ao hc 5) (ae (ao hc 7) ag))))),?_⟩
 walk_at "r"
 obtain⟨Pc,oQ⟩:∃Pc:Addr->Nat->List V->Hp->Prop,∀Z i ys H',Pc Z i ys H'↔∃cs:List Nat,ys=List.map V.str (cs.map sgn)/\cs.length=i/\(∀c∈cs,97<=c/\c<=122)/\Dr h H H'/\H' Z=some (.lst ys):=⟨_,λ_ _ _ _=>dZ⟩
 refine iL Pc (λZ hZ=>(oQ _ _ _ _).mpr ⟨[],rfl,rfl,λc hc=>(nomatch hc),Dr.refl.new hZ,ai⟩) (λZ hZ i ys H7 hi pv cb=>?_) (λZ hZ ys H7 pv=>?_)
 ·obtain⟨cs,rfl,lc,ac,d7,J4⟩:=(oQ _ _ _ _).mp pv
  walk_at "rc"
  repeat (walk_at "rd")
  refine bQ hd d7 (by decide) (by decide) λc H8 c0 c26 d8 k8=>?_
  refine⟨c,rfl,by decide,?_⟩
  rw[pV c0 c26]
  refine⟨_,rfl,by rw[k8 Z (hd.ne hZ)];exact J4,bV (by omega),(oQ _ _ _ _).mpr ⟨cs++[97+c.toNat],by simp[sgn],by simp[lc],?_,d8.put hZ,ai⟩⟩
  intro c Gh
  rcases gW.mp Gh with z | z
  ·exact ac c z
  ·rw[di.mp z];omega
 ·obtain⟨cs,rfl,lc,ac,d7,J4⟩:=(oQ _ _ _ _).mp pv
  walk_at "r"
  obtain⟨jo,jc⟩:=Ga (cs:=cs) (by omega)
  refine⟨cs.map sgn,J4,jo,?_⟩
  generalize Txt.join (Str.ofString "") (cs.map sgn)=tl at jc ⊢
  have Vn:=d7.aR hd
  walk_at "r"
  obtain⟨Pd,Bw⟩:∃Pd:Addr->Nat->List V->Hp->Prop,∀Z i ys H',Pd Z i ys H'↔∃ss:List Str,ys=List.map V.str ss/\ss.length=i/\(∀(k:Nat) s,ss[k]?=some s->Nm s/\s.cps.toList[0]?=some (97+k))/\Dr h H H'/\H' Z=some (.lst ys):=⟨_,λ_ _ _ _=>dZ⟩
  refine iL Pd (λZ hZ=>(Bw _ _ _ _).mpr ⟨[],rfl,rfl,λk s e=>by simp at e,d7.new hZ,ai⟩) (λZ2 hZ2 i ys H8 hi pv cb=>?_) (λN hN ys H8 pv=>?_)
  ·obtain⟨ss,rfl,ls,Ol,d8,hZ8⟩:=(Bw _ _ _ _).mp pv
   have Vu:H Z2=none:=d7.free hd hZ2
   walk_at "rc"
   repeat (walk_at "rd")
   refine⟨by decide,?_⟩
   rw[pV (by omega) (by omega)]
   repeat (walk_at "rd")
   refine bQ hd d8 (by decide) (by decide) λn H9 n0 n8 d9 k9=>?_
   repeat (walk_at "rd")
   have ltl:tl.length=7:=by show tl.cps.size=7;rw[<-dX,jc];exact lc
   have ct:=NB tl n0
   have lct:(sW tl none (some n)).length<=7:=by
    show(sW tl none (some n)).cps.size<=7
    rw[<-dX,ct,jc,je];omega
   have es:(({ cps:=#[97+(i:Int).toNat] }:Str)++sW tl none (some n)).cps.toList=(97+i)::cs.take n.toNat:=by
    show(#[97+(i:Int).toNat]++(sW tl none (some n)).cps).toList=_
    rw[Array.toList_append,ct,jc]
    rfl
   have l1:({ cps:=#[97+(i:Int).toNat] }:Str).length=1:=rfl
   generalize ({ cps:=#[97+(i:Int).toNat] }:Str)++sW tl none (some n)=nm' at es ⊢
   refine⟨bH (by omega),bH (by omega),by rw[k9 Z2 (hd.ne Vu)];exact hZ8,bV (by omega),(Bw _ _ _ _).mpr ⟨ss++[nm'],by rw[cQ];rfl,by rw[eN,ls];rfl,λk s e=>?_,d9.put Vu,ai⟩⟩
   rcases fV e with h1 | ⟨rfl,rfl⟩
   ·exact Ol k s h1
   ·rw[ls]
    exact QD hi (by omega) ac es
  ·obtain⟨ss,rfl,ls,Ol,d8,hN8⟩:=(Bw _ _ _ _).mp pv
   have XM:H N=none:=d7.free hd hN
   have DT:N≠h:=hd.ne XM
   have nmA:iN H8 N ss:=⟨hN8,ls,by
    rw[List.Nodup,zH]
    intro i j hi hj Rg e
    have h1:=(Ol i _ (cD hi)).2
    have h2:=(Ol j _ (cD hj)).2
    rw[e,h2]at h1
    have:=dm h1
    omega,λs hs=>by obtain⟨k,e⟩:=vJ.mp hs;exact(Ol k s e).1⟩
   have hd8:=d8.aR hd
   walk_at "r"
   refine bQ hd d8 (by decide) (by decide) λm H9 m0 m11 d9 k9=>?_
   refine⟨h,m,rfl,m0,by omega,d9.aR hd,λLb wJ Sr RM VD XR ll Bl=>?_⟩
   have V9:=d9.trans RM
   walk_at "r"
   have Uy:iN Sr N ss:=⟨RM.keep _ _ DT ((k9 N DT).trans hN8),nmA.2⟩
   refine⟨λσ' H'=>∃Lb ls,σ'=[some (.ref h),some (.str (Str.ofString "abcdefghijklmnopqrstuvwxyz")),some (.str tl),some (.ref N),some (.ref Lb),none,none,none,none,none,none,none,none]/\Dr h H H'/\iN H' N ss/\H' Lb=some (.lst (List.map V.int ls))/\Lb≠h/\o8 ls/\ls.length<=12,?_,?_⟩
   ·walk_at "r"
    refine bQ hd V9 (by decide) (by decide) λway Tr _ _ Tn k11=>?_
    have K11:Kp h Sr Tr:=⟨λb xs e=>(k11 b ((V9.aR hd).oJ e)).trans e,λb o n e=>(k11 b n).trans e⟩
    have Bb:iN Tr N ss:=⟨K11.jz _ _ DT Uy.1,Uy.2⟩
    walk_at "r"
    split
    ·walk_at "r"
     refine bQ hd Tn (by decide) (by decide) λm2 Tq m20 m22 RL k12=>?_
     have FK:iN Tq N ss:=⟨(k12 _ DT).trans Bb.1,Bb.2⟩
     walk_at "r"
     refine⟨by omega,by omega,?_⟩
     obtain⟨Pe,XH⟩:∃Pe:Addr->Nat->List V->Hp->Prop,∀Z i ys H',Pe Z i ys H'↔ys=List.map V.int ((List.range i).map λk:Nat=>3*(k:Int)+1)/\bz Tq H'/\H' Z=some (.lst ys):=⟨_,λ_ _ _ _=>dZ⟩
     refine iL Pe (λZ hZ=>(XH _ _ _ _).mpr ⟨rfl,ak hZ _,ai⟩) (λZ hZ i ys H13 hi pv cb=>?_) (λZ hZ ys H13 pv=>?_)
     ·obtain⟨rfl,Xd,Rm⟩:=(XH _ _ _ _).mp pv
      walk_at "rc"
      repeat (walk_at "rd")
      refine⟨Rm,by rw[ur];exact bV (by omega),(XH _ _ _ _).mpr ⟨?_,cI Xd hZ,ai⟩⟩
      rw[List.range_succ,cQ,cQ];rfl
     ·obtain⟨rfl,Xd,Rm⟩:=(XH _ _ _ _).mp pv
      have Tj:=RL.same Xd
      refine⟨Z,rfl,Tj,⟨Xd _ _ FK.1,FK.2⟩,_,Rm,(RL.aR hd).ne hZ,⟨?_,λl hl=>?_⟩,by rw[aY,ur];omega⟩
      ·rw[List.Nodup,zp]
       exact List.Pairwise.imp (λ{x y} hxy e=>by omega) List.pairwise_lt_range
      ·obtain⟨k,hk,rfl⟩:=dw.mp hl
       have:=oo.mp hk
       omega
    ·walk_at "r"
     exact⟨Tn,Bb,wJ,K11.jz _ _ ((d9.aR hd).ne VD) XR,(d9.aR hd).ne VD,Bl,by omega⟩
   rintro σ' Tr ⟨Lb,wJ,rfl,Tn,Bb,XR,Nn,Bl,l12⟩
   walk_at "r"
   refine⟨by decide,λHh Rt=>?_⟩
   have aA3:=Tn.aR hd
   have RL:=Tn.new (o:=.lst []) Rt
   have FK:iN (upd Tr Hh (.lst [])) N ss:=⟨(ak Rt _) _ _ Bb.1,Bb.2⟩
   have Ov:=(ak Rt (.lst [])) _ _ XR
   have J6:=aA3.ne Rt
   have J8:upd Tr Hh (.lst []) Hh=some (.lst []):=ai
   have aBe:H Hh=none:=Tn.free hd Rt
   generalize upd Tr Hh (.lst [])=Tq at RL FK Ov J8 ⊢
   walk_at "r"
   refine⟨by decide,λU hU=>?_⟩
   have aA2:=RL.aR hd
   have Tj:=RL.new (o:=.lst []) hU
   have SU:=ak hU (.lst [])
   have M4:iN (upd Tq U (.lst [])) N ss:=⟨SU _ _ FK.1,FK.2⟩
   have J5:=SU _ _ Ov
   have DX:=SU _ _ J8
   have Vw:=aA2.ne hU
   have Rp:upd Tq U (.lst []) U=some (.lst []):=ai
   generalize upd Tq U (.lst [])=H13 at Tj M4 J5 DX Rp ⊢
   have aA1:=Tj.aR hd
   walk_at "r"
   refine bQ hd Tj (by decide) (by decide) λb1 H14 _ _ d14 k14=>?_
   refine bQ hd d14 (by decide) (by decide) λb2 H15 _ _ d15 k15=>?_
   have Vp:=d15.aR hd
   refine⟨by decide,λB0 XZ=>?_⟩
   have aBg:=Vp.ne XZ
   refine bQ hd (d15.new XZ) (by decide) (by decide) λn W3 n0 n3 d16 k16=>?_
   have Vo:=d16.aR hd
   have kk:∀b o,b≠h->H13 b=some o->W3 b=some o:=λb o hb e=>by
    have e15:H15 b=some o:=by rw[k15 b hb,k14 b hb];exact e
    rw[k16 b hb,aB (az e15 XZ)];exact e15
   have VN:W3 B0=some (.lst [V.int b1,V.int b2]):=by rw[k16 B0 aBg,ai]
   refine⟨n,rfl,_,VN,λB hB=>?_⟩
   have ec:iX [V.int b1,V.int b2] none (some n)=List.map V.int ([b1,b2].take n.toNat):=by rw[qJ _ n0,List.map_take];rfl
   rw[ec]
   generalize [b1,b2].take n.toNat=bs
   have VM:=Vo.ne hB
   have SB:=ak hB (.lst (List.map V.int bs))
   have Ye:=d16.new (o:=.lst (List.map V.int bs)) hB
   have Rw:upd W3 B (.lst (List.map V.int bs)) B=some (.lst (List.map V.int bs)):=ai
   have QG:iN (upd W3 B (.lst (List.map V.int bs))) N ss:=⟨SB _ _ (kk _ _ DT M4.1),M4.2⟩
   have DW:=SB _ _ (kk _ _ Nn J5)
   have J7:=SB _ _ (kk _ _ J6 DX)
   have Ro:=SB _ _ (kk _ _ Vw Rp)
   generalize upd W3 B (.lst (List.map V.int bs))=H17 at Ye Rw QG DW J7 Ro ⊢
   have aA0:=Ye.aR hd
   have hU0:H U=none:=RL.free hd hU
   have aBf:Hh≠B:=az (kk _ _ J6 DX) hB
   have aB9:Hh≠U:=az J8 hU
   have Vy:Lb≠Hh:=az XR Rt
   have aA8:N≠Hh:=az Bb.1 Rt
   clear VN ec kk hB SB d16 Vo k16 XZ d15 Vp k15 d14 k14 Rp DX J5 M4 aA1 Tj
   repeat (first | walk_at "rl" | simp only[DW])
   refine⟨by omega,by omega,?_⟩
   have eL:((wJ.length:Nat):Int).toNat=wJ.length:=by omega
   rw[eL]
   obtain⟨Pv,iu⟩:∃Pv:Nat->St->Hp->Prop,∀i σ' H',Pv i σ' H'↔∃(U:Addr) (us:List Nat) (due:Int) (ws:List V) (ds:List Dt) (x y z w:Option V),σ'=[some (.ref h),some (.str (Str.ofString "abcdefghijklmnopqrstuvwxyz")),some (.str tl),some (.ref N),some (.ref Lb),some (.ref Hh),some (.ref U),some (.int due),some (.ref B),x,y,z,w]/\
     Dr h H H'/\iN H' N ss/\H' Lb=some (.lst (List.map V.int wJ))/\H' B=some (.lst (List.map V.int bs))/\H' Hh=some (.lst ws)/\bU h H' ds ws/\bU Hh H' ds ws/\ds.length=i/\(∀v∈ws,M' v)/\H' U=some (.lst (List.map (λj:Nat=>V.int j) us))/\U≠h/\us.Nodup/\(∀j∈us,j<26)/\us.length<=5*i/\yX ss wJ i us ds due:=⟨_,λ_ _ _=>dZ⟩
   refine mR Pv ((iu _ _ _).mpr ⟨U,[],-1,[],[],none,none,none,none,rfl,Ye,QG,DW,Rw,J7,rfl,rfl,rfl,λv hv=>(nomatch hv),Ro,Vw,qN,λj hj=>(nomatch hj),bB _,.inl ⟨rfl,[],λi s e=>by simp at e,rfl,rfl,by decide,λz=>⟨λ⟨s,h1,_⟩=>(nomatch h1),λ⟨j,h1,_⟩=>(nomatch h1)⟩⟩⟩) (λi σ' H1 hi pv=>?_) (λσ' H1 pv=>?_)
   ·clear QG DW Rw J7 Ro aA0 Ye
    obtain⟨U,us,due,ws,ds,x,y,z,w',rfl,d1,Xk,VB,hB1,J9,rs,rsH,ld,Q8,hU1,Vw,un,ub,lu,st⟩:=(iu _ _ _).mp pv
    have Tc:=d1.aR hd
    walk_at "r"
    refine⟨h,N,rfl,Tc,ss,Xk,λp a L r js H2 d2 hp ra hL gr ov l5=>?_⟩
    have K2:=Kp.dr Tc d2
    have d2':=d1.trans d2
    have hd2:=d2'.aR hd
    have aBa:=K2.jz _ _ Nn VB
    have hB2:=K2.jz _ _ VM hB1
    have VH:=K2.jz _ _ J6 J9
    have hU2:=K2.jz _ _ Vw hU1
    have nm2:iN H2 N ss:=⟨K2.jz _ _ DT Xk.1,Xk.2⟩
    obtain⟨rs2,Y3⟩:=bU.kb (Kq.of K2) rs rsH
    refine⟨p,rfl,_,fM hp,rfl,_,_,rfl,_,_,rfl,rfl,?_⟩
    repeat (first | walk_at "rl" | simp only[hU2,hL])
    refine⟨⟨_,bD hL⟩,?_⟩
    obtain⟨Pf,Tg⟩:∃Pf:Addr->Nat->List V->Hp->Prop,∀Z k ys H',Pf Z k ys H'↔ys=List.map (λj:Nat=>V.int j) ((js.take k).filter λj=>!decide (j∈us))/\bz H2 H'/\H' Z=some (.lst ys):=⟨_,λ_ _ _ _=>dZ⟩
    refine gK (zs:=List.map (λj:Nat=>V.int j) js) Pf (λZ hZ=>(Tg _ _ _ _).mpr ⟨by rw[List.take_zero];rfl,ak hZ _,ai⟩) (λZ hZ k ys H' _ pv=>?_) (λZ hZ k z ys H' hz pv cb=>?_) (λZ hZ ys H3 pv=>?_)
    ·obtain⟨_,s3,_⟩:=(Tg _ _ _ _).mp pv
     exact s3 _ _ hL
    ·obtain⟨rfl,s3,Te⟩:=(Tg _ _ _ _).mp pv
     obtain⟨j,ej,rfl⟩:=Jx hz
     have Tf:=s3 _ _ hU2
     walk_at "rc"
     repeat (first | walk_at "rd" | simp only[Tf])
     refine⟨rfl,Gp us,?_⟩
     rw[JN]
     have lk:((js.take k).filter λj=>!decide (j∈us)).length<=5:=by
      have h1:=vI (λj=>!decide (j∈us)) (js.take k)
      have h2:=List.length_take_le k js
      have:(js.take k).length<=js.length:=by rw[je];omega
      omega
     split
     ·rename_i hj
      refine⟨Te,bV (by omega),(Tg _ _ _ _).mpr ⟨?_,cI s3 hZ,ai⟩⟩
      rw[jW,ej,List.filter_append,cQ]
      congr 1
      have hj':¬j∈us:=by simpa using hj
      simp[hj']
     ·rename_i hj
      refine(Tg _ _ _ _).mpr ⟨?_,s3,Te⟩
      rw[jW,ej,List.filter_append]
      have hj':j∈us:=by simpa using hj
      simp[hj']
    ·obtain⟨rfl,s3,Te⟩:=(Tg _ _ _ _).mp pv
     rw[aY,jf]at Te
     have lf:=vI (λj=>!decide (j∈us)) js
     refine⟨Z,rfl,_,s3 _ _ hU2,_,Te,by rw[aY,aY];exact bH (by omega),λU3 Tf=>?_⟩
     have eM:List.map (λj:Nat=>V.int j) us++List.map (λj:Nat=>V.int j) (js.filter λj=>!decide (j∈us))=List.map (λj:Nat=>V.int j) (more us js):=by unfold more;rw[cQ]
     rw[eM]
     have s4:=s3.trans (ak Tf (.lst (List.map (λj:Nat=>V.int j) (more us js))))
     have hU4:upd H3 U3 (.lst (List.map (λj:Nat=>V.int j) (more us js))) U3=some (.lst (List.map (λj:Nat=>V.int j) (more us js))):=ai
     have Rn:U3≠h:=((d2'.same s3).aR hd).ne Tf
     generalize upd H3 U3 (.lst (List.map (λj:Nat=>V.int j) (more us js)))=H4 at s4 hU4 ⊢
     have d4:=d2'.same s4
     have Tb:=d4.aR hd
     have Vz:=s4 _ _ aBa
     have hB4:=s4 _ _ hB2
     have aBd:=s4 _ _ VH
     have nm4:iN H4 N ss:=⟨s4 _ _ nm2.1,nm2.2⟩
     have rs4:=rs2.mono (Kp.of s4)
     have Y2:=Y3.mono (Kp.of s4)
     have ra4:=ra.mono (av s4)
     have Vx:Hh≠U3:=az (s3 _ _ VH) Tf
     clear Te Tf s3 s4 hZ eM pv
     walk_at "r"
     refine⟨λσ' H'=>H'=H4/\σ'=[some (.ref h),some (.str (Str.ofString "abcdefghijklmnopqrstuvwxyz")),some (.str tl),some (.ref N),some (.ref Lb),some (.ref Hh),some (.ref U3),some (.int (if due<0/\((i:Int)∈bs\/12<(more us js).length) then (i:Int)+1 else due)),some (.ref B),some (.int i),some (.ref a),some (.ref L),w'],?_,?_⟩
     ·repeat (first | walk_at "rl" | simp only[hB4,hU4])
      by_cases Vq:due<0
      ·rw[aI Vq]
       refine⟨rfl,by simp[fC],?_⟩
       rw[kl]
       by_cases hb:(i:Int)∈bs
       ·rw[aI (decide_eq_true hb),aI ⟨Vq,.inl hb⟩]
       ·rw[aE (by simpa using hb)]
        by_cases hw:12<(more us js).length
        ·rw[aI (by omega),aI ⟨Vq,.inr hw⟩]
        ·rw[aE (by omega),aE (λh=>h.2.elim hb hw)]
      ·rw[aE Vq,aE (λh=>Vq h.1)]
     rintro σ' H5 ⟨rfl,rfl⟩
     obtain⟨Ki,Gg⟩:∃Ki:Int,Ki=if due<0/\((i:Int)∈bs\/12<(more us js).length) then (i:Int)+1 else due:=⟨_,rfl⟩
     rw[<-Gg]
     have Yb:wJ[i]?=some (wJ[i]'hi):=cD hi
     generalize wJ[i]'hi=l at Yb
     have V5:m6 (List.map V.int wJ) (i:Int)=some (.int l):=eK (by rw[cW,Yb];rfl)
     repeat (first | walk_at "rl" | simp only[Vz,V5])
     refine⟨by decide,λp5 Xr=>?_⟩
     have s5:=ak Xr (.tup [V.int l,V.ref a])
     have PN:nW (upd H5 p5 (.tup [V.int l,V.ref a])) p5 (l,r):=⟨a,ai,ra4.mono (av s5)⟩
     have d5:=d4.same s5
     have Rr:=s5 _ _ Vz
     have hB5:=s5 _ _ hB4
     have Np:=s5 _ _ aBd
     have hU5:=s5 _ _ hU4
     have Xj:iN _ N ss:=⟨s5 _ _ nm4.1,nm4.2⟩
     have N8:=rs4.mono (Kp.of s5)
     have P4:=Y2.mono (Kp.of s5)
     generalize upd H5 p5 (.tup [V.int l,V.ref a])=H6 at PN d5 Rr hB5 Np hU5 Xj N8 P4 ⊢
     have hd5:=d5.aR hd
     have shr:wH r:=λx hx=>by have:=(gr.2.2.1 x hx).2.1;omega
     have okl:Cu (l,r):=by have:=Bl.2 l (iC Yb);exact⟨this.1,this.2,gr⟩
     have TY:∀g,Rep g H6 (dU (l,r)) (.ref p5):=λg=>by obtain⟨qa,e1,e2⟩:=PN;exact⟨p5,_,rfl,e1,_,_,rfl,rfl,_,_,rfl,e2.rep shr,rfl⟩
     have lw:=N8.len
     walk_at "r"
     refine⟨λσ' H'=>∃(v:V) (d:Dt),σ'=[some (.ref h),some (.str (Str.ofString "abcdefghijklmnopqrstuvwxyz")),some (.str tl),some (.ref N),some (.ref Lb),some (.ref Hh),some (.ref U3),some (.int Ki),some (.ref B),some (.int i),some (.ref a),some (.ref L),some v]/\Dr h H H'/\iN H' N ss/\H' Lb=some (.lst (List.map V.int wJ))/\H' B=some (.lst (List.map V.int bs))/\H' Hh=some (.lst ws)/\H' U3=some (.lst (List.map (λj:Nat=>V.int j) (more us js)))/\bU h H' ds ws/\bU Hh H' ds ws/\Rep h H' d v/\Rep Hh H' d v/\M' v/\(¬(i:Int)∈bs->d=dU (l,r))/\((i:Int)∈bs->∀S,ds=S.map dU->gj S->due<0->qy S d),?_,?_⟩
     ·repeat (first | walk_at "rl" | simp only[hB5])
      refine⟨rfl,by simp[fC],?_⟩
      rw[kl]
      split
      ·rename_i hb
       have Rj:(i:Int)∈bs:=of_decide_eq_true hb
       have key:∃S ps,gj S/\iX ws none (some (Ki-1))=List.map V.ref ps/\dv H6 ps S/\ps.length<=12/\(due<0->ds=S.map dU):=by
        rcases st with ⟨rfl,S,hS,rfl,_⟩ | ⟨S,d0,rest,hS,am,rfl⟩
        ·rw[aI ⟨by decide,.inl Rj⟩]at Gg
         obtain⟨ps,rfl,sa⟩:=oA N8 hS.good
         simp only[aY]at lw ld
         refine⟨S,ps,hS,?_,sa,by rw[sa.1];omega,λ_=>rfl⟩
         rw[Gg,qJ _ (by omega)]
         exact zG (by rw[aY];omega)
        ·rw[aE λh=>by have:=h.1;omega]at Gg
         have e1:=am.1
         have ldS:S.length<=ds.length:=by rw[e1,eN,aY];omega
         have rt:=N8.take S.length
         rw[e1,List.take_left' (aY ..)]at rt
         obtain⟨ps,e2,sa⟩:=oA rt hS.good
         refine⟨S,ps,hS,?_,sa,by rw[sa.1];omega,λh=>by omega⟩
         rw[Gg,qJ _ (by omega),<-e2]
         congr 1
         omega
       obtain⟨S,ps,hS,ec,sa,aAu,eS⟩:=key
       refine⟨_,Np,λC hC=>?_⟩
       rw[ec]
       have s7:=ak hC (.lst (List.map V.ref ps))
       have hC7:upd H6 C (.lst (List.map V.ref ps)) C=some (.lst (List.map V.ref ps)):=ai
       generalize upd H6 C (.lst (List.map V.ref ps))=H7 at s7 hC7 ⊢
       have d7:=d5.same s7
       have Vn:=d7.aR hd
       have Gk:=s7 _ _ Np
       refine⟨h,p5,C,rfl,Vn,(l,r),ps,S,PN.mono (av s7),okl,hC7,sa.mono (av s7),aAu,λv d H8 dd rA bad iv=>?_⟩
       have K8:=Kp.dr Vn dd
       obtain⟨Y4,P1⟩:=bU.kb (Kq.of K8) (N8.mono (Kp.of s7)) (P4.mono (Kp.of s7))
       have hh7:H7 h≠none:=by obtain⟨_,ns,o,e,_⟩:=Vn;rw[e];exact λz=>nomatch z
       have hg7:H7 Hh≠none:=by rw[Gk];exact λz=>nomatch z
       exact⟨d7.trans dd,⟨K8.jz _ _ DT (s7 _ _ Xj.1),Xj.2⟩,K8.jz _ _ Nn (s7 _ _ Rr),K8.jz _ _ VM (s7 _ _ hB5),K8.jz _ _ J6 Gk,K8.jz _ _ Rn (s7 _ _ hU5),Y4,P1,d,rA h hh7,rA Hh hg7,iv,λn=>absurd Rj n,λ_ S' e' Rq dn=>by rw[xu Rq.good hS.good (e'.symm.trans (eS dn))];exact bad⟩
      ·rename_i hb
       have Rj:¬(i:Int)∈bs:=λz=>hb (decide_eq_true z)
       exact⟨d5,Xj,Rr,Np,hU5,N8,P4,dU (l,r),TY h,TY Hh,.inl ⟨p5,rfl⟩,λ_=>rfl,λz=>absurd z Rj⟩
     rintro σ' H7 ⟨v,d,rfl,d7,Xi,aA9,hB7,Gk,hU7,rs7,Y1,rv,rvH,iv,no,bad⟩
     repeat (first | walk_at "rl" | simp only[Gk])
     have T7:qw H7 (upd H7 Hh (.lst (ws++[v]))):=λq ys e=>by rw[aB (sy e Gk (by intro z;cases z))];exact e
     have K7:Kq h Hh H7 (upd H7 Hh (.lst (ws++[v]))):=⟨T7,λp o _ n e=>by rw[aB n];exact e⟩
     obtain⟨Y4,P1⟩:=bU.kb K7 rs7 Y1
     obtain⟨rv8,YZ⟩:=Rep.kb K7 rv rvH
     have lm:=JB (us:=us) (js:=js)
     refine⟨.inl ⟨rfl,_,bD Gk⟩,bV (by omega),(iu _ _ _).mpr ⟨U3,more us js,Ki,ws++[v],ds++[d],_,_,_,_,rfl,d7.put aBe,⟨K7.jz _ _ DT aA8 Xi.1,Xi.2⟩,K7.jz _ _ Nn Vy aA9,K7.jz _ _ VM aBf.symm hB7,ai,Y4.append (bU.one rv8),P1.append (bU.one YZ),by rw[eN,ld];rfl,λx hx=>?_,K7.jz _ _ Rn Vx.symm hU7,Rn,Dz un ov.1,λj hj=>?_,by omega,?_⟩⟩
     ·rcases gW.mp hx with h1 | h1
      ·exact Q8 x h1
      ·rw[di.mp h1];exact iv
     ·rcases j9.mp hj with h1 | h1
      ·exact ub j h1
      ·exact ov.2.1 j h1
     ·rw[Gg]
      exact yX.step Xi.2.2.1 Xi.2.1 Bl Yb st ld un ub gr ov no bad
   ·obtain⟨U,us,due,ws,ds,x,y,z,w',rfl,d1,Xk,VB,hB1,J9,rs,rsH,ld,Q8,hU1,Vw,un,ub,lu,st⟩:=(iu _ _ _).mp pv
    have Tc:=d1.aR hd
    have lw:=rs.len
    repeat (first | walk_at "rl" | simp only[J9])
    refine⟨λσ' H'=>H'=H1/\σ'=[some (.ref h),some (.str (Str.ofString "abcdefghijklmnopqrstuvwxyz")),some (.str tl),some (.ref N),some (.ref Lb),some (.ref Hh),some (.ref U),some (.int (if 10<ds.length then 0 else due)),some (.ref B),x,y,z,w'],?_,?_⟩
    ·repeat (first | walk_at "rl" | simp only[J9])
     split
     ·rename_i uY
      walk_at "r"
      rw[aI (by omega)]
     ·rename_i uY
      walk_at "r"
      rw[aE (by omega)]
    ·rintro σ' H2 ⟨rfl,rfl⟩
     walk_at "r"
     refine⟨by decide,λp hp=>?_⟩
     have sp:=ak hp (.tup [V.ref Hh,V.int (if 10<ds.length then 0 else due)])
     refine q p Hh ws ds _ _ (d1.same sp) ai (sp _ _ J9) J6 (rs.mono (Kp.of sp)) ?_ (by omega) Q8
     split
     ·rename_i uY
      exact .inl ⟨uY,rfl⟩
     ·rename_i uY
      refine .inr ⟨by omega,?_⟩
      rcases st with ⟨rfl,S,hS,e,_⟩ | ⟨S,d,rest,hS,am,rfl⟩
      ·exact .inr ⟨S,hS,e,rfl⟩
      ·exact .inl ⟨S,d,rest,hS,am,rfl⟩
local macro_rules | `(tactic| walk_at "rd") => `(tactic| walk_at "rc")
local macro_rules | `(tactic| walk_at "rl") => `(tactic| first | (refine ck fun R hR => ?_) | walk_at "ry" | (refine Nx.to (by assumption) _ _ ?_))
def CZ(K:PySem.W.Frag):Sp:=λvs H Q _=>∃(a:Addr) (ns:List Int),vs=[.ref a]/\lG K H a (List.map V.int ns)/\ns.length<=63/\∀H',Q (.bl true) H'
theorem Told.Y6{K:PySem.W.Frag}{H:Hp}{L h:Addr}{ws:List V}{ds:List Dt}{due:Int}(t:Told ds due)(d0:0<=due)(hL:H L=some (.lst ws))(rs:bU h H ds ws):N3 K H (.ref L) due:=by
 have lw:=rs.len
 refine .inr ⟨L,ws,h,ds,rfl,hL,rs,?_⟩
 rcases t with ⟨uY,rfl⟩ | ⟨uY,⟨S,d,rest,hS,am,rfl⟩ | ⟨S,hS,e,rfl⟩⟩
 ·exact .inl ⟨by omega,rfl⟩
 ·exact .inr ⟨by omega,S,hS,d,rest,am,rfl⟩
 ·exact absurd d0 (by decide)
theorem xl{xs ys zs:List (Addr×Int)}(p1:xs.Perm zs)(p2:ys.Perm zs)(w1:xs.Pairwise λa b=>a.2<b.2)(w2:ys.Pairwise λa b=>a.2<b.2):ys=xs:=
 List.Perm.eq_of_pairwise (λa b _ _ h1 h2=>by omega) w2 w1 (p2.trans p1.symm)
theorem QB(T:Txt K mg t):cz P w K mg base iq 14 t.Kx t.Kl ["_law_script"] (CZ K):=by
 have y4:=MP (P:=P) (w:=w) (base:=base) T
 have aJ:=nJ (P:=P) (w:=w) (base:=base) T
 have y3:=MN (P:=P) (w:=w) (base:=base) T
 have kR:=Ao (P:=P) (w:=w) (base:=base) T
 have lr:=uR (P:=P) (w:=w) (base:=base) T
 refine T.W4.oI j5 (λvs H Q E h=>?_) (λdB A outer s H vs Q E hr h hc hf=>?_)
 ·obtain⟨a,ns,rfl,_⟩:=h;rfl
 obtain⟨a,ns,rfl,hS,h63,q⟩:=h
 have hu:=jl hr
 have yz:=hr.fL
 refine⟨_,(by apply aj;exact(aF hc j5.nd hf 1 (by decide +kernel) (aD y4 hr.mono (bG hc) T.yi T.qc.kp T.yS .nil bA (ae (ao hc 0) ag)));apply aj;exact(fq (aD y3 hr.mono (bG hc) T.yh T.qb.kp T.yR .nil bA (ae (ao hc 1) ag)) (qz rfl (eR (mB hc j5.nd hf 2 (by decide +kernel)) (eR (mB hc j5.nd hf 3 (by decide +kernel)) ny))));apply aj;exact(aF hc j5.nd hf 4 (by decide +kernel) (bK (ae qA (ae ah (ae gX (ae aL (ae (aG ag) (ae (fK yJ (bG hc) T.jv qK (ae (ao hc 2) ag)) (ae uA (ae (Eu ah (aG (ae aL ag))) ag))))))))));apply aj;exact(cj (fo (fk (aD kR hr.mono (bG hc) T.ke T.ip.kp T.kI .nil bA (ae (bj gy (ao hc 4) (aD aJ hr.mono (bG hc) T.aO T.aN.kp T.aP .nil bA (ae (ao hc 1) (ae ah ag))) (λ_ _=>rfl)) (ae ah ag))))) (by exact ay (aS gX)) bE);apply aj;exact(aF hc j5.nd hf 5 (by decide +kernel) (fK tq (bG hc) T.mC wF (ae (ao hc 2) ag)));apply aj;exact(cj (aV Oi (ao hc 3) ah (bF _)) (by exact ay (aS (dP (aD kR hr.mono (bG hc) T.ke T.ip.kp T.kI .nil bA (ae (ao hc 5) (ae (ao hc 3) ag))) (gD (fZ (wc yz) (ao hc 5) (ao hc 2) (bF _)))))) bE);apply aj;exact(aF hc j5.nd hf 6 (by decide +kernel) (aD lr hr.mono (bG hc) T.oM T.ly.kp T.oZ .nil Oh (ae (ao hc 5) ag)));apply aj;exact(cj (lL (iQ (fo (fk (aH cL (bG hc) T.aT bu (ae (ao hc 6) (ae (cY (v:=V.ty "list") (bG hc) T.mC wF rfl) ag))))) (iQ (aV (Dv yz) (ao hc 6) (aH tj (bG hc) T.gd kG (ae (ao hc 2) ag)) (bF _)) (jt (aV (Dv yz) (ao hc 5) (ao hc 2) (bF _)))))) (by exact ay (aS gX)) bE);apply aj;exact(iE nq rfl (ji (ao hc 6)) (mB hc j5.nd hf 7 (by decide +kernel)) (by exact ay (cj (lL (iQ (fo (fk (aH cL (bG hc) T.aT bu (ae (ao hc 7) (ae (cY (v:=V.ty "tuple") (bG hc) T.jv qK rfl) ag))))) (iQ (fk (aH cL (bG hc) T.aT bu (ae (bj mM (ao hc 7) ah (λ_ _=>rfl)) (ae (cY (v:=V.ty "bool") (bG hc) T.oq Cj rfl) ag)))) (jt (fo (fk (aH cL (bG hc) T.aT bu (ae (bj mM (ao hc 7) ah (λ_ _=>rfl)) (ae (cY (v:=V.ty "int") (bG hc) T.wY O0 rfl) ag))))))))) (by exact ay (aS gX)) bE)));apply aj;exact(dy (ju pD wO wQ gR (ao hc 6) (ae ah ag)));exact ay (aS (dP (fZ (wc yz) (aD lr hr.mono (bG hc) T.oM T.ly.kp T.oZ .nil Oh (ae (ao hc 5) ag)) (aH tj (bG hc) T.gd kG (ae (ao hc 2) ag)) (bF _)) (gD (fZ (wc yz) (ao hc 5) (ao hc 2) (bF _)))))),?_⟩
 walk_at "r"
 refine⟨a,ns,rfl,hS,λh H1 s1 h0 hd=>?_⟩
 walk_at "r"
 refine⟨h,rfl,hd,λp L ws ds due H2 d2 hp hL hLh rs told l12 Q8=>⟨p,rfl,_,fM hp,rfl,_,_,rfl,_,_,rfl,rfl,?_⟩⟩
 have hd2:=d2.aR hd
 have lw:=rs.len
 repeat (first | walk_at "rl" | simp only[hL])
 refine⟨by decide,λp1 Bt=>?_⟩
 have S1:=ak Bt (.tup [])
 have v1:upd H2 p1 (.tup []) p1=some (.tup []):=ai
 generalize upd H2 p1 (.tup [])=G1 at S1 v1 ⊢
 refine⟨ws,S1 _ _ hL,λp2 uX=>?_⟩
 have S2:=ak uX (.tup ws)
 have v2:upd G1 p2 (.tup ws) p2=some (.tup ws):=ai
 replace v1:=S2 _ _ v1
 replace S1:=S1.trans S2
 generalize upd G1 p2 (.tup ws)=G2 at S1 v1 v2 ⊢
 intro p3 hp3
 have S3:=ak hp3 (.dK [])
 have v3:upd G2 p3 (.dK []) p3=some (.dK []):=ai
 replace v1:=S3 _ _ v1
 replace v2:=S3 _ _ v2
 replace S1:=S1.trans S3
 generalize upd G2 p3 (.dK [])=G3 at S1 v1 v2 v3 ⊢
 intro p4 SN
 refine⟨by decide,λp5 Xr=>?_⟩
 have S4:=(ak SN (.dK [])).trans (ak Xr (.tup [V.str (Str.ofString "yes")]))
 have v4:=(ak Xr (.tup [V.str (Str.ofString "yes")])) _ _ (ai (H:=G3) (a:=p4) (o:=.dK []))
 generalize upd (upd G3 p4 (.dK [])) p5 (.tup [V.str (Str.ofString "yes")])=G5 at S4 v4 ⊢
 refine⟨v4,[(Sum.inl 1,V.ref p5)],rfl,by simp,by decide,λX hX=>?_⟩
 have S5:bz G3 (upd G5 p4 (.dK (iS [] [(Sum.inl 1,V.ref p5)]))):=cI S4 SN
 have v5:upd G5 p4 (.dK (iS [] [(Sum.inl 1,V.ref p5)])) p4=some (.dK (iS [] [(Sum.inl 1,V.ref p5)])):=ai
 generalize upd G5 p4 (.dK (iS [] [(Sum.inl 1,V.ref p5)]))=G6 at S5 v5 hX ⊢
 have S6:=ak hX (.lst [V.non,V.int 5,V.bl true,V.str (Str.ofString "heap"),V.ref p1,V.ref p2,V.ref p3,V.ref p4])
 have v6:upd G6 X (.lst [V.non,V.int 5,V.bl true,V.str (Str.ofString "heap"),V.ref p1,V.ref p2,V.ref p3,V.ref p4]) X=some (.lst [V.non,V.int 5,V.bl true,V.str (Str.ofString "heap"),V.ref p1,V.ref p2,V.ref p3,V.ref p4]):=ai
 replace v1:=S6 _ _ (S5 _ _ v1)
 replace v2:=S6 _ _ (S5 _ _ v2)
 replace v3:=S6 _ _ (S5 _ _ v3)
 replace v5:=S6 _ _ v5
 replace S1:=(S1.trans S5).trans S6
 generalize upd G6 X (.lst [V.non,V.int 5,V.bl true,V.str (Str.ofString "heap"),V.ref p1,V.ref p2,V.ref p3,V.ref p4])=H3 at S1 v1 v2 v3 v5 v6 ⊢
 have d3:=d2.same S1
 have Hb:=d3.aR hd
 have Ti:=S1 _ _ hL
 have rs3:=rs.mono (Kp.of S1)
 have XD:X≠h:=λe=>by obtain⟨_,ns,o,e1,⟨a,b,c,d,f,rfl,_⟩,_⟩:=Hb;rw[e,e1]at v6;simp[hv]at v6
 walk_at "r"
 refine bQ hd d3 (by decide) (by decide) λi H4 i0 i8 d4 k4=>?_
 have K4:Kp h H3 H4:=⟨λb xs e=>(k4 b (Hb.oJ e)).trans e,λb o n e=>(k4 b n).trans e⟩
 have Tb:=d4.aR hd
 have pick:∃v,m6 [V.non,V.int 5,V.bl true,V.str (Str.ofString "heap"),V.ref p1,V.ref p2,V.ref p3,V.ref p4] i=some v/\∃ty,jr K H4 v ty/\PySem.W.kitOne K ty (.type "list")=some false:=by
  have hi:i=0\/i=1\/i=2\/i=3\/i=4\/i=5\/i=6\/i=7:=by omega
  rcases hi with rfl | rfl | rfl | rfl | rfl | rfl | rfl | rfl
  ·exact⟨_,rfl,_,.non,bP (by decide) rfl⟩
  ·exact⟨_,rfl,_,.int 5,bP (by decide) rfl⟩
  ·exact⟨_,rfl,_,.bl true,bP (by decide) rfl⟩
  ·exact⟨_,rfl,_,.str _,bP (by decide) rfl⟩
  ·exact⟨_,rfl,_,.tup (K4.tup _ _ v1),bP (by decide) rfl⟩
  ·exact⟨_,rfl,_,.tup (K4.tup _ _ v2),bP (by decide) rfl⟩
  ·exact⟨_,rfl,_,.dK (K4.jz _ _ (Hb.Om v3) v3),bP (by decide) rfl⟩
  ·exact⟨_,rfl,_,.dK (K4.jz _ _ (Hb.Om v5) v5),bP (by decide) rfl⟩
 obtain⟨v,ev,tyv⟩:=pick
 have v7:=K4.jz _ _ XD v6
 repeat (first | walk_at "rl" | simp only[v7,ev])
 refine⟨v,0,rfl,.inl ⟨tyv,rfl⟩,λH5 s5=>⟨true,rfl,?_⟩⟩
 rw[aE (by decide)]
 have d5:=d4.same s5
 have hd5:=d5.aR hd
 have VG:=s5 _ _ (K4.jz _ _ hLh Ti)
 have N8:=(rs3.mono K4).mono (Kp.of s5)
 clear v7 ev tyv v6 v5 v3 v2 v1 K4 XD rs3 Ti Hb d3 S1 S4 v4 S3 S2 S5 S6 k4 Tb d4 s5
 repeat (first | walk_at "rl" | simp only[VG])
 intro B hB
 have S6:=ak hB (.lst ws)
 have Rv:upd H5 B (.lst ws) B=some (.lst ws):=ai
 have VF:=S6 _ _ VG
 have TX:=N8.mono (Kp.of S6)
 have d6:=d5.same S6
 have hBL:B≠L:=(az VG hB).symm
 generalize upd H5 B (.lst ws)=H6 at Rv VF TX d6 ⊢
 have hd6:=d6.aR hd
 walk_at "r"
 split
 ·rename_i d0
  walk_at "r"
  refine⟨_,due,rfl,told.Y6 d0 Rv TX,λH7 s7=>⟨true,rfl,?_⟩⟩
  rw[aI rfl]
  exact⟨B,L,rfl,rfl,ws,s7 _ _ Rv,s7 _ _ VF,Q8,q H7⟩
 ·rename_i d0
  have hS:∃S,gj S/\ds=S.map dU/\ds.length<=10:=by
   rcases told with ⟨_,rfl⟩ | ⟨uY,⟨S,d,rest,hS,am,rfl⟩ | ⟨S,hS,e,rfl⟩⟩
   ·exact absurd (by decide) d0
   ·exact absurd (by omega) d0
   ·exact⟨S,hS,e,uY⟩
  obtain⟨S,hS,eS,l10⟩:=hS
  walk_at "r"
  refine⟨_,rfl,.inr ⟨B,ws,h,ds,rfl,Rv,TX,.inr ⟨by omega,S,hS,.inr ⟨eS,λD H7 zs xs s7 hD0 ez la el hD7 pm pw=>?_⟩⟩⟩⟩
  have hB7:=s7 _ _ Rv
  have hL7:=s7 _ _ VF
  have d7:=d6.same s7
  have Vn:=d7.aR hd
  have rs7:=TX.mono (Kp.of s7)
  have hDB:B≠D:=az Rv hD0
  have hDL:L≠D:=az VF hD0
  have lz:zs.length<=10:=by have:=gT List.length ez;rw[aY]at this;omega
  have ndz:(zs.map (·.2)).Nodup:=by rw[el];exact hS.nd
  have idx:∀v∈xs.map (λz=>V.ref z.1),M' v:=λv hv=>by obtain⟨z,_,rfl⟩:=dw.mp hv;exact .inl ⟨_,rfl⟩
  walk_at "r"
  refine⟨_,.lst hD7,true,dI _ _,?_⟩
  rw[aE (by decide)]
  walk_at "r"
  refine⟨L,rfl,zs,by rw[<-ez];exact hL7,λz hz=>by obtain⟨r,er⟩:=la z hz;exact⟨r,s7 _ _ er⟩,by omega,ndz,λD2 H8 ys s8 hD2 hD8 Xf pw2=>?_⟩
  have V0:=xl pm Xf pw pw2
  rw[V0]at hD8
  clear V0 Xf pw2
  refine⟨D,D2,rfl,rfl,_,s8 _ _ hD7,hD8,idx,false,rfl,?_⟩
  rw[aE (by decide)]
  refine⟨B,L,rfl,rfl,ws,s8 _ _ hB7,s8 _ _ hL7,Q8,false,rfl,?_⟩
  rw[aE (by decide)]
  have VJ:=s8 _ _ hD7
  walk_at "r"
  refine⟨⟨_,bD VJ⟩,?_⟩
  obtain⟨Pv,iu⟩:∃Pv:Nat->St->Hp->Prop,∀i σ' H',Pv i σ' H'↔∃(x:Option V),σ'=[some (.ref a),some (.ref h),some (.ref L),some (.int due),some (.ref X),some (.ref B),some (.ref D),x]/\H'=H8:=⟨_,λ_ _ _=>dZ⟩
  refine pR (xs:=xs.map λz=>V.ref z.1) Pv ((iu _ _ _).mpr ⟨none,rfl,rfl⟩) (λi σ' H' _ pv=>?_) (λi z σ' H' hz pv=>?_) (λσ' H' pv=>?_)
  ·obtain⟨_,_,rfl⟩:=(iu _ _ _).mp pv
   exact VJ
  ·obtain⟨x,rfl,rfl⟩:=(iu _ _ _).mp pv
   obtain⟨y,ey,rfl⟩:=dw.mp (iC hz)
   obtain⟨r,er⟩:=la y (pm.mem_iff.mp ey)
   have hy:=s8 _ _ (s7 _ _ er)
   repeat (first | walk_at "rl" | simp only[hy])
   refine⟨_,.tup hy,true,dI _ _,?_⟩
   rw[aE (by decide)]
   refine⟨_,.int _,false,bP (by decide) rfl,?_⟩
   rw[aE (by decide)]
   refine⟨_,.int _,true,dI _ _,?_⟩
   rw[aE (by decide)]
   exact(iu _ _ _).mpr ⟨_,rfl,rfl⟩
  ·obtain⟨x,rfl,rfl⟩:=(iu _ _ _).mp pv
   repeat (first | walk_at "rl" | simp only[VJ])
   refine⟨.inl ⟨rfl,_,bD VJ⟩,bV (by have:=pm.length_eq;omega),?_⟩
   have s9:bz H6 (upd H' D (.lst (List.map (λz=>V.ref z.1) xs++[V.int 7]))):=cI (s7.trans s8) hD0
   generalize upd H' D (.lst (List.map (λz=>V.ref z.1) xs++[V.int 7]))=H9 at s9 ⊢
   clear pm pw VJ hD8 iu pv
   have hB9:=s9 _ _ Rv
   have hL9:=s9 _ _ VF
   have rs9:=TX.mono (Kp.of s9)
   walk_at "r"
   refine⟨_,rfl,.inr ⟨B,ws,h,ds,rfl,hB9,rs9,.inr ⟨by omega,S,hS,.inr ⟨eS,λD3 HA Yk xs3 sA aCb ez3 la3 el3 hDA Zm pw3=>?_⟩⟩⟩⟩
   have hBA:=sA _ _ hB9
   have hLA:=sA _ _ hL9
   have lz3:Yk.length<=10:=by have:=gT List.length ez3;rw[aY]at this;omega
   have aAr:(Yk.map (·.2)).Nodup:=by rw[el3];exact hS.nd
   have aAL:∀v∈xs3.map (λz=>V.ref z.1),M' v:=λv hv=>by obtain⟨z,_,rfl⟩:=dw.mp hv;exact .inl ⟨_,rfl⟩
   walk_at "r"
   refine⟨L,rfl,Yk,by rw[<-ez3];exact hLA,λz hz=>by obtain⟨r,er⟩:=la3 z hz;exact⟨r,sA _ _ er⟩,by omega,aAr,λD4 HB ys sB aCa VL Xe pw4=>?_⟩
   have V0:=xl Zm Xe pw3 pw4
   rw[V0]at VL
   clear V0 Xe pw4
   refine⟨D3,D4,rfl,rfl,_,sB _ _ hDA,VL,aAL,true,rfl,?_⟩
   rw[aI rfl]
   exact⟨B,L,rfl,rfl,ws,sB _ _ hBA,sB _ _ hLA,Q8,q HB⟩
local macro_rules | `(tactic| walk_at "rd") => `(tactic| walk_at "rc")
local macro_rules | `(tactic| walk_at "rl") => `(tactic| first | (refine ck fun R hR => ?_) | walk_at "ry" | (refine Nx.to (by assumption) _ _ ?_))
theorem all_mk{l:PySem.W.OpenLaw}{w:World}{K:PySem.W.Frag}{h:Heap}{mg:Str->Option Value}{fa f0 f1 f2 f3 f4 f5 f6 f7 f8 f9 f10 f11 f12 f13 f14 f15 f16 f17 f18 f19 f20 f21 f22 f23 f24:Addr}(X:K.In h)(G:h.Ns mainGlobals mg)(hfa:mg "law" = some (.ref fa))
  {od0 an0 od1 an1 od2 an2 od3 an3 od4 an4 od5 an5 od6 an6 od7 an7 od8 an8 od9 an9 Z' aBW Z9 aBV Z8 aBU Z7 aBT Z6 aBS Z5 aBR Z4 aBQ Z3 aBP Z1 aBO Z0 aBN ZX aBM ZV aBL ZR aBK ZQ aBJ ZP WW:Option Addr} {sl0 sl1 SJ Yy sl4 sl5 sl6 sl7 sl8 sl9 YW YT YS YQ YM YL YK YJ YH YG YF YD YC YB Yz:Array (Option Value)} {oc0 kV0 dc0 pm0 cd0 ct0 oc1 kV1 dc1 pm1 cd1 ct1 oc2 kV2 dc2 Xf cd2 ct2 oc3 kV3 dc3 Zm cd3 ct3 oc4 kV4 dc4 Xe cd4 ct4 oc5 kV5 dc5 pm5 cd5 ct5 oc6 kV6 dc6 pm6 cd6 ct6 oc7 kV7 dc7 pm7 cd7 ct7 oc8 kV8 dc8 pm8 cd8 ct8 oc9 kV9 dc9 pm9 cd9 ct9 aAo aAJ aBu ZF Wx aBI aAn aAI aBt ZD Ww aBH aAm aAH aBs ZC Wv aBG aAl aAG aBr Zz Wu aBF aAk aAF aBq Zy Wt aBE aAj aAE aBp Zx Ws aBD aAi aAD aBo Zw Wr aBC aAh aAC aBn Zv Wq aBB aAg aAB aBm Zu Wo aBA aAf aAA aBl Zt Wn aBz aAe aAz aBk Zr Wm aBy aAd aAy aBj Zq Wl aBx aAc aAx aBi Zo Wk aBw aAb aAw aBh Zn Wj aBv aAa U7 V8 Ul RV Wc:Value}
  (a0:PySem.W.nsIn K mainGlobals "is_name" = some (some (.ref f0))) (l0:K.lookup f0=some ⟨oc0,od0,.func (PySem.W.fnOf "is_name" "is_name" (bq gO) (aX gO) (aq gO) .none kV0 dc0 pm0 an0 cd0 ct0),sl0⟩) (c0:PySem.W.codeIn K cd0 "is_name" = true) (k0:PySem.W.keepIn K (.ref f0)=true)
  (a1:PySem.W.nsIn K mainGlobals "is_rule" = some (some (.ref f1))) (l1:K.lookup f1=some ⟨oc1,od1,.func (PySem.W.fnOf "is_rule" "is_rule" (bq gN) (aX gN) (aq gN) .none kV1 dc1 pm1 an1 cd1 ct1),sl1⟩) (c1:PySem.W.codeIn K cd1 "is_rule" = true) (k1:PySem.W.keepIn K (.ref f1)=true)
  (a2:PySem.W.nsIn K mainGlobals "has_form" = some (some (.ref f2))) (l2:K.lookup f2=some ⟨oc2,od2,.func (PySem.W.fnOf "has_form" "has_form" (bq fQ) (aX fQ) (aq fQ) .none kV2 dc2 Xf an2 cd2 ct2),SJ⟩) (c2:PySem.W.codeIn K cd2 "has_form" = true) (k2:PySem.W.keepIn K (.ref f2)=true)
  (a3:PySem.W.nsIn K mainGlobals "rules_behind" = some (some (.ref f3))) (l3:K.lookup f3=some ⟨oc3,od3,.func (PySem.W.fnOf "rules_behind" "rules_behind" (bq cZ) (aX cZ) (aq cZ) .none kV3 dc3 Zm an3 cd3 ct3),Yy⟩) (c3:PySem.W.codeIn K cd3 "rules_behind" = true) (k3:PySem.W.keepIn K (.ref f3)=true)
  (a4:PySem.W.nsIn K mainGlobals "names_of" = some (some (.ref f4))) (l4:K.lookup f4=some ⟨oc4,od4,.func (PySem.W.fnOf "names_of" "names_of" (bq fN) (aX fN) (aq fN) .none kV4 dc4 Xe an4 cd4 ct4),sl4⟩) (c4:PySem.W.codeIn K cd4 "names_of" = true) (k4:PySem.W.keepIn K (.ref f4)=true)
  (a5:PySem.W.nsIn K mainGlobals "names_of_all" = some (some (.ref f5))) (l5:K.lookup f5=some ⟨oc5,od5,.func (PySem.W.fnOf "names_of_all" "names_of_all" (bq de) (aX de) (aq de) .none kV5 dc5 pm5 an5 cd5 ct5),sl5⟩) (c5:PySem.W.codeIn K cd5 "names_of_all" = true) (k5:PySem.W.keepIn K (.ref f5)=true)
  (a6:PySem.W.nsIn K mainGlobals "names_within" = some (some (.ref f6))) (l6:K.lookup f6=some ⟨oc6,od6,.func (PySem.W.fnOf "names_within" "names_within" (bq dc) (aX dc) (aq dc) .none kV6 dc6 pm6 an6 cd6 ct6),sl6⟩) (c6:PySem.W.codeIn K cd6 "names_within" = true) (k6:PySem.W.keepIn K (.ref f6)=true)
  (a7:PySem.W.nsIn K mainGlobals "is_whole_number" = some (some (.ref f7))) (l7:K.lookup f7=some ⟨oc7,od7,.func (PySem.W.fnOf "is_whole_number" "is_whole_number" (bq cv) (aX cv) (aq cv) .none kV7 dc7 pm7 an7 cd7 ct7),sl7⟩) (c7:PySem.W.codeIn K cd7 "is_whole_number" = true) (k7:PySem.W.keepIn K (.ref f7)=true)
  (a8:PySem.W.nsIn K mainGlobals "heap_of" = some (some (.ref f8))) (l8:K.lookup f8=some ⟨oc8,od8,.func (PySem.W.fnOf "heap_of" "heap_of" (bq gP) (aX gP) (aq gP) .none kV8 dc8 pm8 an8 cd8 ct8),sl8⟩) (c8:PySem.W.codeIn K cd8 "heap_of" = true) (k8:PySem.W.keepIn K (.ref f8)=true)
  (a9:PySem.W.nsIn K mainGlobals "is_label" = some (some (.ref f9))) (l9:K.lookup f9=some ⟨oc9,od9,.func (PySem.W.fnOf "is_label" "is_label" (bq fP) (aX fP) (aq fP) .none kV9 dc9 pm9 an9 cd9 ct9),sl9⟩) (c9:PySem.W.codeIn K cd9 "is_label" = true) (k9:PySem.W.keepIn K (.ref f9)=true)
  (a10:PySem.W.nsIn K mainGlobals "is_saying" = some (some (.ref f10))) (l10:K.lookup f10=some ⟨aAo,Z',.func (PySem.W.fnOf "is_saying" "is_saying" (bq eV) (aX eV) (aq eV) .none aAJ aBu ZF aBW Wx aBI),YW⟩) (c10:PySem.W.codeIn K Wx "is_saying" = true) (k10:PySem.W.keepIn K (.ref f10)=true)
  (a11:PySem.W.nsIn K mainGlobals "fits" = some (some (.ref f11))) (l11:K.lookup f11=some ⟨aAn,Z9,.func (PySem.W.fnOf "fits" "fits" (bq oz) (aX oz) (aq oz) .none aAI aBt ZD aBV Ww aBH),YT⟩) (c11:PySem.W.codeIn K Ww "fits" = true) (k11:PySem.W.keepIn K (.ref f11)=true)
  (a12:PySem.W.nsIn K mainGlobals "label_of" = some (some (.ref f12))) (l12:K.lookup f12=some ⟨aAm,Z8,.func (PySem.W.fnOf "label_of" "label_of" (bq fO) (aX fO) (aq fO) .none aAH aBs ZC aBU Wv aBG),YS⟩) (c12:PySem.W.codeIn K Wv "label_of" = true) (k12:PySem.W.keepIn K (.ref f12)=true)
  (a13:PySem.W.nsIn K mainGlobals "rule_of" = some (some (.ref f13))) (l13:K.lookup f13=some ⟨aAl,Z7,.func (PySem.W.fnOf "rule_of" "rule_of" (bq gM) (aX gM) (aq gM) .none aAG aBr Zz aBT Wu aBF),YQ⟩) (c13:PySem.W.codeIn K Wu "rule_of" = true) (k13:PySem.W.keepIn K (.ref f13)=true)
  (a14:PySem.W.nsIn K mainGlobals "_law_hand" = some (some (.ref f14))) (l14:K.lookup f14=some ⟨aAk,Z6,.func (PySem.W.fnOf "_law_hand" "_law_hand" (bq fh) (aX fh) (aq fh) .none aAF aBq Zy aBS Wt aBE),YM⟩) (c14:PySem.W.codeIn K Wt "_law_hand" = true) (k14:PySem.W.keepIn K (.ref f14)=true)
  (a15:PySem.W.nsIn K mainGlobals "_law_next" = some (some (.ref f15))) (l15:K.lookup f15=some ⟨aAj,Z5,.func (PySem.W.fnOf "_law_next" "_law_next" (bq e9) (aX e9) (aq e9) .none aAE aBp Zx aBR Ws aBD),YL⟩) (c15:PySem.W.codeIn K Ws "_law_next" = true) (k15:PySem.W.keepIn K (.ref f15)=true)
  (a16:PySem.W.nsIn K mainGlobals "_law_take" = some (some (.ref f16))) (l16:K.lookup f16=some ⟨aAi,Z4,.func (PySem.W.fnOf "_law_take" "_law_take" (bq e8) (aX e8) (aq e8) .none aAD aBo Zw aBQ Wr aBC),YK⟩) (c16:PySem.W.codeIn K Wr "_law_take" = true) (k16:PySem.W.keepIn K (.ref f16)=true)
  (a17:PySem.W.nsIn K mainGlobals "_law_draw" = some (some (.ref f17))) (l17:K.lookup f17=some ⟨aAh,Z3,.func (PySem.W.fnOf "_law_draw" "_law_draw" (bq fj) (aX fj) (aq fj) .none aAC aBn Zv aBP Wq aBB),YJ⟩) (c17:PySem.W.codeIn K Wq "_law_draw" = true) (k17:PySem.W.keepIn K (.ref f17)=true)
  (a18:PySem.W.nsIn K mainGlobals "_law_labels" = some (some (.ref f18))) (l18:K.lookup f18=some ⟨aAg,Z1,.func (PySem.W.fnOf "_law_labels" "_law_labels" (bq dD) (aX dD) (aq dD) .none aAB aBm Zu aBO Wo aBA),YH⟩) (c18:PySem.W.codeIn K Wo "_law_labels" = true) (k18:PySem.W.keepIn K (.ref f18)=true)
  (a19:PySem.W.nsIn K mainGlobals "_law_wide" = some (some (.ref f19))) (l19:K.lookup f19=some ⟨aAf,Z0,.func (PySem.W.fnOf "_law_wide" "_law_wide" (bq eZ) (aX eZ) (aq eZ) .none aAA aBl Zt aBN Wn aBz),YG⟩) (c19:PySem.W.codeIn K Wn "_law_wide" = true) (k19:PySem.W.keepIn K (.ref f19)=true)
  (a20:PySem.W.nsIn K mainGlobals "_law_no_rules" = some (some (.ref f20))) (l20:K.lookup f20=some ⟨aAe,ZX,.func (PySem.W.fnOf "_law_no_rules" "_law_no_rules" (bq cJ) (aX cJ) (aq cJ) .none aAz aBk Zr aBM Wm aBy),YF⟩) (c20:PySem.W.codeIn K Wm "_law_no_rules" = true) (k20:PySem.W.keepIn K (.ref f20)=true)
  (a21:PySem.W.nsIn K mainGlobals "_law_spoilt" = some (some (.ref f21))) (l21:K.lookup f21=some ⟨aAd,ZV,.func (PySem.W.fnOf "_law_spoilt" "_law_spoilt" (bq dC) (aX dC) (aq dC) .none aAy aBj Zq aBL Wl aBx),YD⟩) (c21:PySem.W.codeIn K Wl "_law_spoilt" = true) (k21:PySem.W.keepIn K (.ref f21)=true)
  (a22:PySem.W.nsIn K mainGlobals "_law_made" = some (some (.ref f22))) (l22:K.lookup f22=some ⟨aAc,ZR,.func (PySem.W.fnOf "_law_made" "_law_made" (bq fc) (aX fc) (aq fc) .none aAx aBi Zo aBK Wk aBw),YC⟩) (c22:PySem.W.codeIn K Wk "_law_made" = true) (k22:PySem.W.keepIn K (.ref f22)=true)
  (a23:PySem.W.nsIn K mainGlobals "_law_refused" = some (some (.ref f23))) (l23:K.lookup f23=some ⟨aAb,ZQ,.func (PySem.W.fnOf "_law_refused" "_law_refused" (bq df) (aX df) (aq df) .none aAw aBh Zn aBJ Wj aBv),YB⟩) (c23:PySem.W.codeIn K Wj "_law_refused" = true) (k23:PySem.W.keepIn K (.ref f23)=true)
  (a24:PySem.W.nsIn K mainGlobals "law" = some (some (.ref f24))) (l24:K.lookup f24=some ⟨aAa,ZP,.func (PySem.W.fnOf "law" "law" (bq nG) (aX nG) (aq nG) .none U7 V8 Ul WW RV Wc),Yz⟩) (c24:PySem.W.codeIn K RV "law" = true) (k24:PySem.W.keepIn K (.ref f24)=true)
  (gE:PySem.W.nsIn K mainGlobals "ValueError" = some none)
  (CP:PySem.W.nsIn K mainGlobals "abs" = some none)
  (wZ:PySem.W.nsIn K mainGlobals "all" = some none)
  (oq:PySem.W.nsIn K mainGlobals "bool" = some none)
  (iG:PySem.W.nsIn K mainGlobals "enumerate" = some none)
  (wY:PySem.W.nsIn K mainGlobals "int" = some none)
  (aT:PySem.W.nsIn K mainGlobals "isinstance" = some none)
  (eU:PySem.W.nsIn K mainGlobals "len" = some none)
  (mC:PySem.W.nsIn K mainGlobals "list" = some none)
  (fS:PySem.W.nsIn K mainGlobals "range" = some none)
  (wX:PySem.W.nsIn K mainGlobals "set" = some none)
  (gd:PySem.W.nsIn K mainGlobals "sorted" = some none)
  (uC:PySem.W.nsIn K mainGlobals "str" = some none)
  (jv:PySem.W.nsIn K mainGlobals "tuple" = some none)
  {qq:Tok} (fB:PySem.W.nsIn K mainGlobals "MOST_LETTERS" = some (some (.int 8 qq)))
  {wu:Tok} (iJ:PySem.W.nsIn K mainGlobals "MOST_DEEP" = some (some (.int 6 wu)))
  {tY:Tok} (gJ:PySem.W.nsIn K mainGlobals "MOST_NAMES" = some (some (.int 5 tY)))
  {gx:Addr} {jK:Array DictEntry} {qu:Nat} (fz:PySem.W.nsIn K mainGlobals "RULES_BEHIND" = some (some (.ref gx))) (kf:K.lookup gx=some ⟨.type "dict",none,.dict jK qu,#[]⟩) (j6:xc jK.toList aW=true) (j8:(gx==sysModules)=false)
  {qp:Tok} (fA:PySem.W.nsIn K mainGlobals "MOST_SAYINGS" = some (some (.int 10 qp)))
  {kg:Tok} (cU:PySem.W.nsIn K mainGlobals "MOST_NAMES_IN_ALL" = some (some (.int 12 kg)))
  (Wa:PySem.W.specialIn K (.builtin "object.__class__") "__get__" = some (some (.builtin "getset_descriptor.__get__"))) (V':PySem.W.takesIn K (.builtin "object.__class__")=some true)
  {aK aC aZ bC:Addr}
  {bx:Addr} {yr yx:Option Addr} {yp:Array (Option Value)} {yt yu yv yq pP yw:Value}
  (mn:PySem.W.nsIn K mainGlobals "TruceError" = some (some (.ref aK))) (lT:jO K aK=true) (lR:PySem.W.hasDictIn K aK=true) (lQ:PySem.W.findIn K (.ref aK) "__setattr__" = some (some (.builtin "object.__setattr__"))) (lP:PySem.W.findIn K (.ref aK) "__getattribute__" = some (some (.builtin "BaseException.__getattribute__"))) (lO:PySem.W.findIn K (.ref aK) "__getattr__" = some none) (lN:PySem.W.findIn K (.ref aK) "__class__" = some (some (.builtin "object.__class__"))) (lM:PySem.W.mroIn K aK (.type "object")=some true)
  (tH:PySem.W.nsIn K mainGlobals "BadHeap" = some (some (.ref aC))) (rY:jO K aC=true) (rW:PySem.W.hasDictIn K aC=true) (rT:PySem.W.findIn K (.ref aC) "__setattr__" = some (some (.builtin "object.__setattr__"))) (rR:PySem.W.findIn K (.ref aC) "__getattribute__" = some (some (.builtin "BaseException.__getattribute__"))) (rP:PySem.W.findIn K (.ref aC) "__getattr__" = some none) (rN:PySem.W.findIn K (.ref aC) "__class__" = some (some (.builtin "object.__class__"))) (rL:PySem.W.mroIn K aC (.type "object")=some true)
  (pW:PySem.W.nsIn K mainGlobals "BadLabel" = some (some (.ref aZ))) (pN:jO K aZ=true) (pM:PySem.W.hasDictIn K aZ=true) (pK:PySem.W.findIn K (.ref aZ) "__setattr__" = some (some (.builtin "object.__setattr__"))) (pJ:PySem.W.findIn K (.ref aZ) "__getattribute__" = some (some (.builtin "BaseException.__getattribute__"))) (pI:PySem.W.findIn K (.ref aZ) "__getattr__" = some none) (pH:PySem.W.findIn K (.ref aZ) "__class__" = some (some (.builtin "object.__class__"))) (pG:PySem.W.mroIn K aZ (.type "object")=some true)
  (tG:PySem.W.nsIn K mainGlobals "BadRule" = some (some (.ref bC))) (rX:jO K bC=true) (rV:PySem.W.hasDictIn K bC=true) (rS:PySem.W.findIn K (.ref bC) "__setattr__" = some (some (.builtin "object.__setattr__"))) (rQ:PySem.W.findIn K (.ref bC) "__getattribute__" = some (some (.builtin "BaseException.__getattribute__"))) (rO:PySem.W.findIn K (.ref bC) "__getattr__" = some none) (rM:PySem.W.findIn K (.ref bC) "__class__" = some (some (.builtin "object.__class__"))) (rK:PySem.W.mroIn K bC (.type "object")=some true)
  (iT:PySem.W.keepIn K (.ref aK)=true)
  (iU:PySem.W.findIn K (.ref aK) "__init__" = some (some (.builtin "ValueError.__init__")))
  (fU:PySem.W.readsIn K aK (.type "type")=true)
  (fW:PySem.W.findCls K (.ref aK) (.type "type") "__init__" = some (.val (.builtin "ValueError.__init__")))
  (fT:PySem.W.specialIn K (.ref aK) "__getattribute__" = some (some (.builtin "type.__getattribute__")))
  (g4:PySem.W.keepIn K (.ref aC)=true)
  (sP:K.lookup bx=some ⟨yt,yr,.func (PySem.W.fnOf "__init__" "BadHeap.__init__" (bq bW) (aX bW) (aq bW) .none yu yv yq yx pP yw),yp⟩) (sU:PySem.W.codeIn K pP "BadHeap.__init__" = true) (sQ:PySem.W.keepIn K (.ref bx)=true)
  (g5:PySem.W.findIn K (.ref aC) "__init__" = some (some (.ref bx)))
  (g6:PySem.W.typeIn K (.ref bx)=some (.type "function"))
  (jw:PySem.W.takerIn K aC "place" = some none)
  (gZ:PySem.W.findIn K (.ref aC) "place" = some none)
  (kh:PySem.W.keepIn K (.ref aZ)=true)
  (km:PySem.W.findIn K (.ref aZ) "__init__" = some (some (.builtin "ValueError.__init__")))
  (mL:PySem.W.keepIn K (.ref bC)=true)
  (mO:PySem.W.findIn K (.ref bC) "__init__" = some (some (.builtin "ValueError.__init__")))
  (cG:PySem.W.subIn K (.ref aC) (.ref aK)=some true)
  (du:PySem.W.kitOne K (.ref aC) (.ref aC)=some true)
  (cT:PySem.W.kitOne K (.ref aC) (.ref aZ)=some false)
  (dq:PySem.W.kitOne K (.ref aC) (.ref bC)=some false)
  (jB:PySem.W.kitOne K (.ref aC) (.type "ValueError")=some true)
  : ∃fd:FuncData,(∀(s:Shared) (v:Value),BindsTo s fd ⟨[v],[]⟩ [("_law_script",v)])/\∀base:Heap,K.In base->base.Ns mainGlobals mg->cz l.prog w K mg base iq 14 fa fd ["_law_script"] (CZ K):=by
 have e:=hfa.symm.trans (bY X G a24)
 cases e
 have F0:=cp (st:=gO) l0 c0 k0
 have b0:=F0.binds (ps:=["thing"]) λ_ _ _ _ _ _=>xU λ_=>rfl
 have F1:=cp (st:=gN) l1 c1 k1
 have b1:=F1.binds (ps:=["thing"]) λ_ _ _ _ _ _=>xU λ_=>rfl
 have F2:=cp (st:=fQ) l2 c2 k2
 have b2:=F2.binds (ps:=["thing","deepest"]) λ_ _ _ _ _ _=>of2 λ_ _=>rfl
 have F3:=cp (st:=cZ) l3 c3 k3
 have b3:=F3.binds (ps:=["word"]) λ_ _ _ _ _ _=>xU λ_=>rfl
 have F4:=cp (st:=fN) l4 c4 k4
 have b4:=F4.binds (ps:=["rule"]) λ_ _ _ _ _ _=>xU λ_=>rfl
 have F5:=cp (st:=de) l5 c5 k5
 have b5:=F5.binds (ps:=["rules"]) λ_ _ _ _ _ _=>xU λ_=>rfl
 have F6:=cp (st:=dc) l6 c6 k6
 have b6:=F6.binds (ps:=["rule"]) λ_ _ _ _ _ _=>xU λ_=>rfl
 have F7:=cp (st:=cv) l7 c7 k7
 have b7:=F7.binds (ps:=["thing"]) λ_ _ _ _ _ _=>xU λ_=>rfl
 have F8:=cp (st:=gP) l8 c8 k8
 have b8:=F8.binds (ps:=["thing"]) λ_ _ _ _ _ _=>xU λ_=>rfl
 have F9:=cp (st:=fP) l9 c9 k9
 have b9:=F9.binds (ps:=["thing"]) λ_ _ _ _ _ _=>xU λ_=>rfl
 have F10:=cp (st:=eV) l10 c10 k10
 have b10:=F10.binds (ps:=["thing"]) λ_ _ _ _ _ _=>xU λ_=>rfl
 have F11:=cp (st:=oz) l11 c11 k11
 have b11:=F11.binds (ps:=["saying","heap"]) λ_ _ _ _ _ _=>of2 λ_ _=>rfl
 have F12:=cp (st:=fO) l12 c12 k12
 have b12:=F12.binds (ps:=["saying"]) λ_ _ _ _ _ _=>xU λ_=>rfl
 have F13:=cp (st:=gM) l13 c13 k13
 have b13:=F13.binds (ps:=["saying"]) λ_ _ _ _ _ _=>xU λ_=>rfl
 have F14:=cp (st:=fh) l14 c14 k14
 have b14:=F14.binds (ps:=["_law_script"]) λ_ _ _ _ _ _=>xU λ_=>rfl
 have F15:=cp (st:=e9) l15 c15 k15
 have b15:=F15.binds (ps:=["_law_hand_here"]) λ_ _ _ _ _ _=>xU λ_=>rfl
 have F16:=cp (st:=e8) l16 c16 k16
 have b16:=F16.binds (ps:=["_law_hand_here"]) λ_ _ _ _ _ _=>xU λ_=>rfl
 have F17:=cp (st:=fj) l17 c17 k17
 have b17:=F17.binds (ps:=["_law_hand_here","_law_many"]) λ_ _ _ _ _ _=>of2 λ_ _=>rfl
 have F18:=cp (st:=dD) l18 c18 k18
 have b18:=F18.binds (ps:=["_law_hand_here","_law_many"]) λ_ _ _ _ _ _=>of2 λ_ _=>rfl
 have F19:=cp (st:=eZ) l19 c19 k19
 have b19:=F19.binds (ps:=["_law_hand_here","_law_names"]) λ_ _ _ _ _ _=>of2 λ_ _=>rfl
 have F20:=cp (st:=cJ) l20 c20 k20
 have b20:=F20.binds (ps:=[]) λ_ _ _ _ _ _ us hl=>match us,hl with | [],_=>rfl
 have F21:=cp (st:=dC) l21 c21 k21
 have b21:=F21.binds (ps:=["_law_hand_here","_law_saying","_law_before"]) λ_ _ _ _ _ _=>of3 λ_ _ _=>rfl
 have F22:=cp (st:=fc) l22 c22 k22
 have b22:=F22.binds (ps:=["_law_hand_here"]) λ_ _ _ _ _ _=>xU λ_=>rfl
 have F23:=cp (st:=df) l23 c23 k23
 have b23:=F23.binds (ps:=["_law_thing","_law_place"]) λ_ _ _ _ _ _=>of2 λ_ _=>rfl
 have F24:=cp (st:=nG) l24 c24 k24
 have b24:=F24.binds (ps:=["_law_script"]) λ_ _ _ _ _ _=>xU λ_=>rfl
 have tJ:=cp (st:=bW) sP sU sQ
 have Cw:=tJ.binds (ps:=cx) λ_ _ _ _ _ _=>of2 λ_ _=>rfl
 have T:Txt K mg ⟨_,_,_,_,_,_,_,_,_,_,_,_,_,_,_,_,_,_,_,_,_,_,_,_,_,_,_,_,_,_,_,_,_,_,_,_,_,_,_,_,_,_,_,_,_,_,_,_,_,_,_,_,_,_,_,_,_,_,_,_,_,_⟩:=⟨F0,b0,bY X G a0,F1,b1,bY X G a1,F2,b2,bY X G a2,F3,b3,bY X G a3,F4,b4,bY X G a4,F5,b5,bY X G a5,F6,b6,bY X G a6,F7,b7,bY X G a7,F8,b8,bY X G a8,F9,b9,bY X G a9,F10,b10,bY X G a10,F11,b11,bY X G a11,F12,b12,bY X G a12,F13,b13,bY X G a13,F14,b14,bY X G a14,F15,b15,bY X G a15,F16,b16,bY X G a16,F17,b17,bY X G a17,F18,b18,bY X G a18,F19,b19,bY X G a19,F20,b20,bY X G a20,F21,b21,bY X G a21,F22,b22,bY X G a22,F23,b23,bY X G a23,F24,b24,bY X G a24,iB X G gE,iB X G CP,iB X G wZ,iB X G oq,iB X G iG,iB X G wY,iB X G aT,iB X G eU,iB X G mC,iB X G fS,iB X G wX,iB X G gd,iB X G uC,iB X G jv,bY X G fB,bY X G iJ,bY X G gJ,bY X G fz,tab_of kf j6 j8,bY X G fA,bY X G cU,bY X G mn,⟨lT,lR,lQ,lP,lO,lN,Wa,V',lM⟩,iT,iU,fU,fW,fT,bY X G tH,⟨rY,rW,rT,rR,rP,rN,Wa,V',rL⟩,g4,tJ,Cw,g5,g6,jw,gZ,bY X G pW,⟨pN,pM,pK,pJ,pI,pH,Wa,V',pG⟩,kh,km,bY X G tG,⟨rX,rV,rS,rQ,rO,rM,Wa,V',rK⟩,mL,mO,cG,du,cT,dq,jB⟩
 exact⟨PySem.W.fnOf "law" "law" (bq nG) (aX nG) (aq nG) .none U7 V8 Ul WW RV Wc,λs v=>.of_eq rfl,λbase _ _=>QB (P:=l.prog) (w:=w) (base:=base) T⟩
theorem walk{l:PySem.W.OpenLaw}{q:Program}{loose:List Str}{XP:(Str->Option Value)->Heap->Prop}{YP:World->Heap->Prop}{d:DefRec}{K:Params->PySem.W.Frag}(hn:l.most=some 63)(Vm:d.params.defaults=[])
  (hY:∀(w:World) (h:Heap),YP w h->(K w.params).In h)
  (F:∀(w:World) (mg:Str->Option Value) (fa:Addr) (h:Heap),(K w.params).In h->h.Ns mainGlobals mg->mg d.name=some (.ref fa)->
   ∃fd:FuncData,(∀(s:Shared) (u:Value),BindsTo s fd ⟨[u],[]⟩ [("_law_script",u)])/\∀base:Heap,(K w.params).In base->base.Ns mainGlobals mg->cz l.prog w (K w.params) mg base iq 14 fa fd ["_law_script"] (CZ (K w.params))) :
  PySem.W.WalkO q loose XP YP l.row.toRowW d [] (λf vs=>PySem.call f vs):=
 L2.Lc (n:=63) (k:=14) (x:="_law_script") (CX:=λ_=>iq) (sp:=λw=>CZ (K w.params)) hn (by decide) Vm ⟨rfl,by decide,by decide⟩ hY F (λ_ _ a ns hl _ hS=>⟨a,ns,rfl,hS,hl,λ_=>rfl⟩) λ_ _ _ _ _ z=>z
end
end My
open PySem PySem.W PyProof.Rows
local macro_rules | `(tactic| o_head $H:term) => `(tactic| (
  refine holds_open (q := My.view) (loose := [PySem.Str.ofString "RULES_BEHIND"]) (Xt := (fun s => xlAt My.view [] s && recOk (RowW.records (OpenRow.toRowW PySem.Challenge.rw_truceroll_k61_heap_told.row)) s)) (XP := XL My.view []) (Yf := Hook.obs $H) (Ya := Hook.val $H) (YP := Hook.says $H) (N := 40000) ?hl (Hook.of $H) (Hook.keeps $H) (fun s e => xl_of s (Bool.and_eq_true_iff.mp e).1) XL.keeps (by rfl) (by rfl) (by rfl) (fun s e => recFacts_of (Bool.and_eq_true_iff.mp e).2) (by rfl) (by first | assumption | decide +kernel) (by decide +kernel) ⟨rfl, rfl, rfl, rfl, rfl, by decide +kernel⟩ ?hw ?hc
  case hl => exact My.left))
theorem PySem.Challenge.cw_truceroll_k61_heap_told_holds : PySem.Challenge.rw_truceroll_k61_heap_told.Holds := by
 w_on;o_law;o_head (kHook My.h0.heap_1 My.as (λ_=>by kernel_rfl));(case hw=>w_witness2)
 k_fill
 refine My.walk (l:=PySem.Challenge.rw_truceroll_k61_heap_told) rfl rfl (λw h Y=>PySem.W.kIn_of Y) ?F
 case F=>
  intro w mg fa h KX G Vj
  refine' My.all_mk KX G Vj ?a0 ?l0 ?c0 ?k0 ?a1 ?l1 ?c1 ?k1 ?a2 ?l2 ?c2 ?k2 ?a3 ?l3 ?c3 ?k3 ?a4 ?l4 ?c4 ?k4 ?a5 ?l5 ?c5 ?k5 ?a6 ?l6 ?c6 ?k6 ?a7 ?l7 ?c7 ?k7 ?a8 ?l8 ?c8 ?k8 ?a9 ?l9 ?c9 ?k9 ?a10 ?l10 ?c10 ?k10 ?a11 ?l11 ?c11 ?k11 ?a12 ?l12 ?c12 ?k12 ?a13 ?l13 ?c13 ?k13 ?a14 ?l14 ?c14 ?k14 ?a15 ?l15 ?c15 ?k15 ?a16 ?l16 ?c16 ?k16 ?a17 ?l17 ?c17 ?k17 ?a18 ?l18 ?c18 ?k18 ?a19 ?l19 ?c19 ?k19 ?a20 ?l20 ?c20 ?k20 ?a21 ?l21 ?c21 ?k21 ?a22 ?l22 ?c22 ?k22 ?a23 ?l23 ?c23 ?k23 ?a24 ?l24 ?c24 ?k24 ?gE ?CP ?wZ ?oq ?iG ?wY ?aT ?eU ?mC ?fS ?wX ?gd ?uC ?jv ?fB ?iJ ?gJ ?fz ?kf ?j6 ?j8 ?fA ?cU ?Wa ?V' ?mn ?lT ?lR ?lQ ?lP ?lO ?lN ?lM ?tH ?rY ?rW ?rT ?rR ?rP ?rN ?rL ?pW ?pN ?pM ?pK ?pJ ?pI ?pH ?pG ?tG ?rX ?rV ?rS ?rQ ?rO ?rM ?rK ?iT ?iU ?fU ?fW ?fT ?g4 ?sP ?sU ?sQ ?g5 ?g6 ?jw ?gZ ?kh ?km ?mL ?mO ?cG ?du ?cT ?dq ?jB
  all_goals (first | k_is | rfl | skip)
  all_goals (first | k_is | rfl | skip)
