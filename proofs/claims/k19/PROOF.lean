import PyProof.Rows.All
import Wide.All
import OpenK.AllK
import Wide.FinOn
import Lean
import PyProof.EqAt
import PyProof.EqKinds
import PyProof.TupleCall
import PySem.Challenge.RW_truceroll_k19_refusals_apart
set_option Elab.async false
set_option linter.all false
set_option maxRecDepth 100000
set_option maxHeartbeats 0
def aL:=@PySem.wpAny_bind
def dZ:=@PySem.Heap.get?_push_of_some
def bx:=@PySem.wpAny_pure
def cp:=@PySem.Heap.lt_size
def bW:=@Nat.le_refl
def iZ:=@List.size_toArray
def kM:=@List.mem_singleton
def dY:=@PySem.W.mg_of
def nO:=@List.getElem?_eq_some_iff
def nM:=@List.getElem?_eq_getElem
def di:=@List.length_map
def gP:=@List.mem_cons_self
def gW:=@Bool.false_ne_true
def aR:=@if_neg
def gO:=@Bool.and_eq_true
def kP:=@List.mem_cons_of_mem
def kz:=@PySem.Heap.get?_push_size
def ky:=@Nat.lt_of_lt_of_le
def dm:=@Nat.ne_of_lt
def gU:=@Option.some.inj
def gN:=@List.mem_cons
def lS:=@List.length_append
def kO:=@List.length_take
def nj:=@List.mem_append_right
def mz:=@List.getElem?_map
def bH:=@if_pos
def jY:=@Nat.le_trans
def ud:=@List.getElem?_append_right
def pX:=@Array.length_toList
def qc:=@PySem.Heap.get?_update_self
def sx:=@PySem.Heap.get?_update_other
def iX:=@PySem.wpAny_mono
def lR:=@PySem.wpAny_holding
def vI:=@List.getElem?_append_left
def qb:=@PySem.W.mg_none_of
def pW:=@PySem.wpAny_newObj_type
def nS:=@PySem.W.kia_one
def nR:=@List.mem_append
def mK:=@List.map_cons
def sv:=@PySem.mem_of_lookup
def lQ:=@Nat.zero_le
def qa:=@List.lookup_cons
def p9:=@List.map_append
def vH:=@List.mem_append_left
def su:=@List.all_eq_true
def nQ:=@List.mem_map
def Bg:=@Array.getElem?_eq_some_iff
def uc:=@PySem.wpAny_truthy_bool
def ua:=@PySem.wpAny_loadPart_at
def t9:=@PySem.Str.length_append
def vG:=@PySem.F.called_set
def xt:=@PySem.W.looks_findIn
def xr:=@Nat.pow_le_pow_right
def nP:=@Nat.le_succ
def GD:=@List.eq_nil_of_length_eq_zero
def t8:=@Bool.eq_iff_iff
def Bf:=@Option.map_eq_some_iff
def vF:=@List.length_cons
def xq:=@PySem.wpAny_isSubtype_exc
def Be:=@List.getElem?_eq_none
def vE:=@List.append_nil
def xm:=@PySem.wpAny_Call_Name_kw
def Bd:=@List.mem_of_getElem?
def t7:=@Nat.lt_irrefl
def Bc:=@PySem.codeAny_call_builtin
def xl:=@beq_self_eq_true
def GC:=@Option.bind_eq_some_iff
def pV:=@PySem.wpAny_call
def Bb:=@decide_eq_true_iff
def ni:=@congrArg
def xk:=@List.nodup_cons
def Gz:=@Array.getElem?_toList
def Ba:=@Nat.lt_succ_of_lt
def my:=@Iff.rfl
def Az:=@PySem.wpAny_setField_rec
def xj:=@PySem.wpAny_passesOwn
def Ay:=@List.length_drop
def Ax:=@PySem.wpAny_setState_of
def pU:=@if_false
def Gy:=@PySem.Heap.get?_none_of_le
def Gx:=@PySem.Around.under_plainId
def Aw:=@List.foldl_cons
def Av:=@List.find?_cons
def Au:=@PySem.wpAny_call_entry
def vD:=@PySem.codeAny_mono
def Gw:=@PySem.W.callWith_K
def Gv:=@List.contains_cons
def Gu:=@Bool.false_eq_true
def Nc:=@PySem.F.plainAttrs_list
def xh:=@Nat.ne_of_gt
def Gs:=@List.take_add_one
def Nb:=@List.getElem?_set_self
def Ar:=@PySem.codeAny_builtin
def QV:=@PyProof.Rows.slot_tuple_getitem
def Gr:=@PySem.Obj.data_mapFields
def Gq:=@PySem.Code.quiet_builtin
def vC:=@PySem.wpAny_field
def M':=@List.mem_iff_getElem?
def M9:=@List.length_singleton
def M8:=@List.length_replicate
def xK:=@Option.bind_some
def xJ:=@List.take_length
def xI:=@List.not_mem_nil
def xH:=@List.getElem_mem
def vb:=@List.all_cons
def va:=@PySem.Heap.size_push
def xG:=@Nat.le_add_left
def xF:=@Int.emod_nonneg
def Ej:=@List.filterMap_cons
def mL:=@Ne.symm
def u6:=@Nat.le_of_lt
def u5:=@List.map_map
def u3:=@PySem.wpAny_standAt
def KJ:=@PySem.F.excBase_ValueError
def Ei:=@Int.emod_lt_of_pos
def xE:=@PySem.PassesOwn.never
def KH:=@Array.getElem?_eq_getElem
def Eh:=@decide_eq_true_eq
def Eg:=@Bool.not_eq_true'
def KD:=@PySem.F.type_list_append
def KC:=@PySem.F.slot_list_append
def xD:=@List.any_cons
def Ef:=@Nat.succ_le_succ
def Ee:=@Nat.le_max_right
def oi:=@if_true
def Kz:=@PySem.W.cellsFrom_some
def Ky:=@PySem.F.plainAttrs_str
def Kx:=@List.take_of_length_le
def xC:=@Bool.or_true
def Ed:=@PySem.fits_of_scanBound
def Ec:=@Nat.le_max_left
def Eb:=@List.of_mem_zip
def Ea:=@List.length_nil
def xB:=@PySem.wpAny_attempt
def Kw:=@PySem.wpAny_callSpecial?_slot
def Kv:=@PySem.StrLaws.partsBetween_eq
def Ku:=@List.mem_of_mem_take
def Kt:=@List.getElem?_set_ne
def u0:=@PySem.typeIs_str
def Ks:=@beq_eq_false_iff_ne
def Kr:=@List.map_congr_left
def D':=@PySem.wpAny_execs_nil
def DY:=@PySem.codeAny_of_tree
def Kq:=@PySem.StrLaws.glued_eq_join
def Kp:=@PySem.W.check_slot
def Ko:=@PySem.Obj.isFreed_of_fields
def xA:=@Nat.not_lt
def Kn:=@Nat.lt_of_le_of_lt
def xu:=@PySem.wpAny_of_eq
def DX:=@Nat.sub_self
def DW:=@List.map_nil
def Km:=@List.length_range
def Kl:=@List.ext_getElem?
def DT:=@List.all_map
def Kk:=@PyProof.Rows.F.plain_set_update_loop
def Kj:=@PySem.wpAny_setEntries_of
def Ki:=@PySem.wpAny_raiseNew_none
def QX:=@PyProof.Rows.callWith_builtin1
def Kh:=@Nat.lt_succ_self
def Kg:=@Nat.le_of_not_lt
def QW:=@Array.eq_empty_of_size_eq_zero
def DS:=@PySem.plainId_quiet
def DR:=@List.map_id
namespace L2
open PySem
def bA(s:Stmt):Arguments:=match s with
 | .FunctionDef _ a _ _ _ _ _ _ _ _=>a
 | _=>{ posonlyargs:=[],args:=[],vararg:=none,kwonlyargs:=[],kw_defaults:=[],kwarg:=none,defaults:=[] }
def bj(s:Stmt):List Stmt:=match s with
 | .FunctionDef _ _ b _ _ _ _ _ _ _=>b
 | _=>[]
def aA(s:Stmt):Scope:=match s with
 | .FunctionDef _ _ _ _ _ _ sc _ _ _=>sc
 | _=>{ kind:=.function,names:=[],isGenerator:=false,isCoroutine:=false }
def vX(s:Stmt)(j:Nat):Stmt:=match s with
 | .ClassDef _ _ _ b _ _ _ _ _ _ _=>b.getD j (.Pass ⟨0,0,0,0⟩)
 | _=>.Pass ⟨0,0,0,0⟩
end L2
namespace My
open PySem L2
def top(i:Nat):Stmt:=PySem.Challenge.pw_truceroll_k19_refusals_apart.main.body.getD i (.Pass ⟨0,0,0,0⟩)
abbrev mJ:Stmt:=top 21
abbrev mH:Stmt:=top 22
abbrev lJ:Stmt:=top 23
abbrev e6:Stmt:=top 24
abbrev lI:Stmt:=top 25
abbrev e8:Stmt:=top 26
abbrev kE:Stmt:=top 28
abbrev mG:Stmt:=top 29
abbrev mF:Stmt:=top 30
abbrev rM:Stmt:=top 32
abbrev lH:Stmt:=top 33
abbrev e4:Stmt:=top 34
abbrev kJ:Stmt:=top 36
abbrev kI:Stmt:=top 37
abbrev kG:Stmt:=top 38
abbrev kK:Stmt:=top 39
abbrev jg:Stmt:=top 40
abbrev jf:Stmt:=top 41
abbrev kL:Stmt:=top 42
abbrev jh:Stmt:=top 43
abbrev ji:Stmt:=top 44
abbrev kF:Stmt:=top 45
abbrev uy:Stmt:=top 46
abbrev cC:Stmt:=vX (top 2) 0
abbrev cB:Stmt:=vX (top 4) 0
abbrev cv:Stmt:=vX (top 5) 0
abbrev cx:Stmt:=vX (top 6) 0
abbrev cy:Stmt:=vX (top 7) 0
abbrev dj:Stmt:=vX (top 11) 0
abbrev cu:Stmt:=vX (top 13) 0
abbrev cw:Stmt:=vX (top 14) 0
def view:Program:={ PySem.Challenge.pw_truceroll_k19_refusals_apart with main:={ PySem.Challenge.pw_truceroll_k19_refusals_apart.main with body:=[top 1,top 2,top 3,top 4,top 5,top 6,top 7,top 8,top 9,top 10,top 11,top 12,top 13,top 14,top 15,top 17,top 18,top 19,top 20,top 21,top 22,top 23,top 24,top 25,top 26,top 28,top 29,top 30,top 32,top 33,top 34,top 36,top 37,top 38,top 39,top 40,top 41,top 42,top 43,top 44,top 45,top 46] } }
end My
section
open PySem PySem.W PyProof.Rows
local macro_rules | `(tactic| o_head $H:term) => `(tactic| assumption)
theorem My.h0(e:PySem.W.OpenRow.Holds PySem.Challenge.rw_truceroll_k19_refusals_apart.row):PySem.W.OpenRow.Holds PySem.Challenge.rw_truceroll_k19_refusals_apart.row:=by
 k_head
def My.as:List Addr:=[2,3,15,22,23,24,25,28,35,37,38,40,41,42,43,44,47,54,55,56,59,66,68,69,71,72,73,74,75,78,85,87,88,90,91,92,93,94,97,104,106,107,109,110,111,112,113,116,123,125,126,128,129,130,131,132,135,142,143,144,147,154,155,156,159,166,167,168,171,178,180,181,183,184,185,186,187,190,197,198,199,202,209,211,212,214,215,216,217,218,221,228,230,231,233,234,235,236,237,240,247,248,249,252,253,256,257,258,260,261,263,264,265,268,269,270,272,273,275,276,277,279,280,282,283,284,286,287,289,290,291,293,294,296,297,298,300,301,303,304,305,307,308,310,311,312,314,315,317,318,319,321,322,324,325,326,328,329,331,332,333,335,336,338,339,340,342,343,345,346,347,349,350,352,353,354,356,357,359,360,361,364,365,366,368,369,371,372,373,375,376,378,379,380,382,383,385,386,387,389,390,392,393,394,396,397,399,400,401,404,405]
def My.LR(b:Bool):Prop:=∀w:World,((PySem.W.Fast.tw10274390034422433532 PySem.W.Fast.tw14364793385576792824 (opening PySem.Challenge.rw_truceroll_k19_refusals_apart.row.prog) w 40000 (PySem.W.Fast.tw1435165496053646825 (opening PySem.Challenge.rw_truceroll_k19_refusals_apart.row.prog)).1 (PySem.W.Fast.tw1435165496053646825 (opening PySem.Challenge.rw_truceroll_k19_refusals_apart.row.prog)).2).bind (PySem.W.Fast.tw14289696077712309145 PySem.Challenge.rw_truceroll_k19_refusals_apart.row.prog)).map (λs₀=>
 (match s₀.heap.isNs mainGlobals&&s₀.gens.size==0 with
  | true=>(PySem.W.Fast.tw14082659384304107361 PySem.W.Fast.tw14364793385576792824 PySem.Challenge.rw_truceroll_k19_refusals_apart.row.prog (w.withFollow "special-get-raises" b) s₀.heap.objs.size (s₀.heap.nsMap mainGlobals (Str.ofString "__annotations__")) 40000 s₀ (topStub PySem.Challenge.rw_truceroll_k19_refusals_apart.row.prog)).bind λs₁=>match staticsOk (PySem.W.Fast.tw5923862056798008813 PySem.Challenge.rw_truceroll_k19_refusals_apart.row.prog.main.body) s₀.heap s₁.heap&&namesBound PySem.Challenge.rw_truceroll_k19_refusals_apart.row.prog s₁.heap&&gensDone s₁&&laidKept s₀.heap s₁.heap with
   | true=>some s₁
   | false=>none
  | false=>none).map (λs=>(PySem.W.Fast.tw4187177175401517315 My.view [PySem.Str.ofString "RULES_BEHIND"] (PySem.W.Fast.tw5923862056798008813 PySem.Challenge.rw_truceroll_k19_refusals_apart.row.prog.main.body) (λs=>xlAt My.view [] s&&recOk (RowW.records (OpenRow.toRowW PySem.Challenge.rw_truceroll_k19_refusals_apart.row)) s) true s,My.as.map s.heap.get?))) =
 some (some (openGood My.view [PySem.Str.ofString "RULES_BEHIND"],(My.h0.heap_1 (w.withFollow "special-get-raises" b).params).map λp=>some p.2))
theorem My.r1:My.LR false:=by intro w;kernel_rfl
theorem My.r2:My.LR true:=by intro w;kernel_rfl
theorem My.both{α β γ:Type}{o:Option α}{f:α->β}{g:α->γ}{a:β}{b:γ}(h1:o.map f=some a)(h2:o.map g=some b):o.map (λs=>(f s,g s))=some (a,b):=by
 cases o with
 | none=>cases h1
 | some x=>cases h1;cases h2;rfl
theorem My.left:LeftO PySem.Challenge.rw_truceroll_k19_refusals_apart.row.prog My.view [PySem.Str.ofString "RULES_BEHIND"] (λs=>xlAt My.view [] s&&recOk (RowW.records (OpenRow.toRowW PySem.Challenge.rw_truceroll_k19_refusals_apart.row)) s) (λs=>My.as.map s.heap.get?) (λw=>(My.h0.heap_1 w.params).map λp=>some p.2) 40000 true:=LeftO.of_split "special-get-raises" (λw=>by
 have h1:=My.r1 w
 have h2:=My.r2 w
 rw[<-PySem.W.Fast.te10274390034422433532,<-PySem.W.Fast.te14364793385576792824,<-PySem.W.Fast.te1435165496053646825,<-PySem.W.Fast.te14289696077712309145,<-PySem.W.Fast.te14082659384304107361,<-PySem.W.Fast.te5923862056798008813,<-PySem.W.Fast.te4187177175401517315]at h1 h2
 exact My.both h1 h2)
end
section
namespace L2
open PySem PySem.Spec PyProof.Rows
abbrev Key:=Sum Int Str
def CN:Key->Value->Bool
 | .inl k,v=>Value.isInt k v
 | .inr x,v=>Value.isStrOf x v
def aC7(w:World):Key->Int
 | .inl k=>hashInt k
 | .inr x=>hashStr w x
theorem dX:∀{k:Key} {v:Value},CN k v=true->(∃i t,k=Sum.inl i/\v=Value.int i t)\/(∃x t,k=Sum.inr x/\v=Value.str x t)
 | .inl i,v,h=>by
  obtain⟨t,e⟩:=Value.isInt_shape (k:=i) (v:=v) h
  exact .inl ⟨i,t,rfl,e⟩
 | .inr x,v,h=>by
  obtain⟨t,e⟩:=Value.isStrOf_shape (x:=x) (v:=v) h
  exact .inr ⟨x,t,rfl,e⟩
theorem P0(i:Int)(t:Tok):CN (.inl i) (.int i t)=true:=by simp[CN,Value.isInt]
theorem PX(x:Str)(t:Tok):CN (.inr x) (.str x t)=true:=by simp[CN,Value.isStrOf]
theorem YL(a b:Int):decide ((Sum.inl a:Key)=Sum.inl b)=(a==b):=by
 by_cases e:a=b
 ·subst e;simp
 ·have h:¬(Sum.inl a:Key)=Sum.inl b:=λq=>e (Sum.inl.inj q)
  rw[decide_eq_false h]
  exact(Ks.mpr e).symm
theorem YH(a b:Str):decide ((Sum.inr a:Key)=Sum.inr b)=decide (a=b):=by
 by_cases e:a=b
 ·subst e;simp
 ·have h:¬(Sum.inr a:Key)=Sum.inr b:=λq=>e (Sum.inr.inj q)
  rw[decide_eq_false h,decide_eq_false e]
theorem YK(a:Int)(b:Str):decide ((Sum.inl a:Key)=Sum.inr b)=false:=decide_eq_false (λq=>nomatch q)
theorem YJ(a:Str)(b:Int):decide ((Sum.inr a:Key)=Sum.inl b)=false:=decide_eq_false (λq=>nomatch q)
def gX(prog:Program)(w:World):PySem.KeyKind prog w Key where
 is:=CN
 hash:=aC7 w
 inj:=λv a b ha hb=>by
  rcases dX ha with ⟨i,t,rfl,rfl⟩ | ⟨x,t,rfl,rfl⟩
  ·rcases dX hb with ⟨j,u,rfl,e⟩ | ⟨y,u,rfl,e⟩
   ·injection e with e1 _;rw[e1]
   ·exact nomatch e
  ·rcases dX hb with ⟨j,u,rfl,e⟩ | ⟨y,u,rfl,e⟩
   ·exact nomatch e
   ·injection e with e1 _;rw[e1]
 byValue:=λk v h=>by
  rcases dX h with ⟨i,t,rfl,rfl⟩ | ⟨x,t,rfl,rfl⟩ <;> rfl
 pyHash:=λhv h=>by
  rcases dX hv with ⟨i,t,rfl,rfl⟩ | ⟨x,t,rfl,rfl⟩
  ·exact wpAny_pyHash_int h
  ·exact wpAny_pyHash_str h
 eqBool:=λhu hv h=>by
  rcases dX hu with ⟨i,t,rfl,rfl⟩ | ⟨x,t,rfl,rfl⟩
  ·rcases dX hv with ⟨j,u,rfl,rfl⟩ | ⟨y,u,rfl,rfl⟩
   ·rw[YL]at h;exact wpAny_eqBool_int h
   ·rw[YK]at h;exact SeqAt.EqAt.int_str i t y u _ _ _ _ h
  ·rcases dX hv with ⟨j,u,rfl,rfl⟩ | ⟨y,u,rfl,rfl⟩
   ·rw[YJ]at h;exact SeqAt.EqAt.str_int x t j u _ _ _ _ h
   ·rw[YH]at h;exact wpAny_eqBool_str h
 «strs»:=λk x t v h=>by
  rcases dX h with ⟨i,u,rfl,e⟩ | ⟨y,u,rfl,e⟩
  ·exact nomatch e
  ·injection e with e1 _
   subst e1
   cases v <;> rfl
theorem HJ(prog:Program)(w:World)(i:Int)(t:Tok):(gX prog w).is (.inl i) (.int i t)=true:=P0 i t
theorem HF(prog:Program)(w:World)(x:Str)(t:Tok):(gX prog w).is (.inr x) (.str x t)=true:=PX x t
end L2
namespace L2
open PySem PySem.Spec PyProof.Rows
inductive V where
 | non | bl (b:Bool) | int (i:Int) | str (x:Str) | QS (b:Array UInt8) | Zi (b:UInt64) | ref (a:Addr) | ty (n:String)
 deriving DecidableEq
def RelV:V->Value->Prop
 | .non,u=>u=Value.none
 | .bl b,u=>u=Value.bool b
 | .int i,u=>∃t,u=Value.int i t
 | .str x,u=>∃t,u=Value.str x t
 | .QS b,u=>∃t,u=Value.bytes b t
 | .Zi b,u=>∃t,u=Value.float b t
 | .ref a,u=>u=Value.ref a
 | .ty n,u=>u=Value.type n
abbrev Vals:List V->List Value->Prop:=Paired RelV
theorem Vals.length{xs:List V}{us:List Value}(r:Vals xs us):xs.length=us.length:=Paired.length r
theorem Vals.get:∀{xs:List V} {us:List Value} {i:Nat} {x:V},Vals xs us->xs[i]?=some x->∃u,us[i]?=some u/\RelV x u
 | _,_,_,_,.nil,e=>by simp at e
 | _,_,0,_,.cons r _,e=>by simp at e;subst e;exact⟨_,rfl,r⟩
 | _,_,i+1,x,.cons _ t,e=>by
  obtain⟨u,h1,h2⟩:=Vals.get (i:=i) (x:=x) t (by simpa using e)
  exact⟨u,by simpa using h1,h2⟩
theorem Vals.set{x:V}{u:Value}(r:RelV x u):∀{xs:List V} {us:List Value} (i:Nat),Vals xs us->Vals (xs.set i x) (us.set i u)
 | _,_,_,.nil=>.nil
 | _,_,0,.cons _ t=>.cons r t
 | _,_,i+1,.cons q t=>.cons q (Vals.set r i t)
theorem Vals.append:∀{xs ys:List V} {us ws:List Value},Vals xs us->Vals ys ws->Vals (xs++ys) (us++ws)
 | _,_,_,_,.nil,s=>s
 | _,_,_,_,.cons r t,s=>.cons r (Vals.append t s)
theorem Vals.take:∀{xs:List V} {us:List Value} (n:Nat),Vals xs us->Vals (xs.take n) (us.take n)
 | _,_,0,_=>.nil
 | _,_,_+1,.nil=>.nil
 | _,_,n+1,.cons r t=>.cons r (Vals.take n t)
theorem Vals.drop:∀{xs:List V} {us:List Value} (n:Nat),Vals xs us->Vals (xs.drop n) (us.drop n)
 | _,_,0,r=>r
 | _,_,_+1,.nil=>.nil
 | _,_,n+1,.cons _ t=>Vals.drop n t
def wW:Option V->Option Value->Prop
 | some v,some u=>RelV v u
 | none,none=>True
 | _,_=>False
def KV{κ:Type}:List (κ×V)->List (κ×Value)->Prop:=Paired λ(p:κ×V) (q:κ×Value)=>p.1=q.1/\RelV p.2 q.2
def kV:Key->V
 | .inl i=>.int i
 | .inr x=>.str x
inductive HO where
 | lst (xs:List V)
 | tup (xs:List V)
 | dK (aX:List (Key×V)) | dT (aX:List (List Key×V))
 | set (S:Int->Bool) (n:Nat)
 | ins (C dx:Addr) (fs:List (Str×V))
 | own (x:Addr)
 | xd (fs:List (Str×V))
 | met (f x:Addr)
 | rng (lo hi:Int)
 | Od (o:Obj) (u:HO)
 | Xk (ps:Array Value)
 | ext (φ:Heap->Prop)
abbrev Hp:=Addr->Option HO
def upd(H:Hp)(a:Addr)(o:HO):Hp:=λb=>if b=a then some o else H b
theorem aK{H:Hp}{a:Addr}{o:HO}:upd H a o a=some o:=by unfold upd;rw[bH rfl]
theorem aO{H:Hp}{a b:Addr}{o:HO}(h:b≠a):upd H a o b=H b:=by unfold upd;rw[aR h]
theorem Ux{H:Hp}{a:Addr}{o u:HO}:upd (upd H a o) a u=upd H a u:=by
 funext b;unfold upd;split <;> rfl
theorem HB{H:Hp}{a b:Addr}{o u:HO}(h:H a=some o)(h':H b=some u)(d:o≠u):a≠b:=by
 intro e;subst e;rw[h]at h';exact d (gU h')
theorem bu{H:Hp}{a b:Addr}{o:HO}(h:H a=some o)(h':H b=none):a≠b:=by
 intro e;subst e;rw[h]at h';cases h'
section
variable (P:Program)(w:World)
def dJ(H:Hp)(h:Heap)(a:Addr):HO->Prop
 | .lst xs=>xs.length<=sizeLine/\∃(its:List Value) (n:Nat),Vals xs its/\h.get? a=some { cls:=.type "list",data:=.seq its.toArray n }
 | .tup xs=>xs.length<=sizeLine/\∃its:List Value,Vals xs its/\IsTup h a its.toArray
 | .dK aX=>aX.length<=sizeLine/\(a==sysModules)=false/\∃vs,KV aX vs/\h.DictOf (gX P w) a vs
 | .dT aX=>aX.length<=sizeLine/\(a==sysModules)=false/\∃xs:List (List Key×Addr×Value),
   Paired (λ(p:List Key×V) (q:List Key×Addr×Value)=>p.1=q.1/\H q.2.1=some (.tup (p.1.map kV))/\RelV p.2 q.2.2) aX xs/\
   ∃o es ep,h.get? a=some o/\o.ExactDict/\o.data=.dict es ep/\es.toList=xs.map (entryOfKey (tupleKind (gX P w)))/\(xs.map (·.1)).Nodup
 | .set S n=>h.SetOf (intKind P w) a S n
 | .ins C dx fs=>H dx=some (.own a)/\fs.length<=1000/\dx≠a/\h.get? a=some (PySem.W.instObj C dx)/\
   ∃mA,h.Ns1 dx mA/\(∀f,wW (fs.lookup f) (mA f))/\PySem.Within mA (fs.map (·.1))
 | .own _=>∃o,h.get? a=some o
 | .xd fs=>∃mA,h.Ns1 a mA/\∀f,wW (fs.lookup f) (mA f)
 | .rng lo hi=>∃t u v,h.get? a=some { cls:=.type "range",data:=.fields #[.int lo t,.int hi u,.int 1 v] }
 | .Od o u=>h.get? a=some o/\dJ H h a u
 | .Xk ps=>h.get? a=some { cls:=.none,data:=.fields ps }
 | .met f x=>h.get? a=some (PySem.W.methodObj (.ref f) (.ref x))
 | .ext φ=>φ h/\(∃o,h.get? a=some o)/\∀h1 h2:Heap,φ h1->(∀o,h1.get? a=some o->h2.get? a=some o)->φ h2
def sf(H:Hp)(h:Heap):Prop:=∀a o,H a=some o->dJ P w H h a o
end
section
variable {P:Program}{w:World}{H H':Hp}{h h':Heap}{a:Addr}{o:HO}
theorem dJ.lt(x:dJ P w H h a o):a<h.objs.size:=by
 cases o with
 | lst xs=>obtain⟨_,_,_,_,e⟩:=x;exact cp e
 | tup xs=>obtain⟨_,_,_,p⟩:=x;exact p.lt
 | dK aX=>obtain⟨_,_,_,_,o,_,_,e,_⟩:=x;exact cp e
 | dT aX=>obtain⟨_,_,_,_,o,_,_,e,_⟩:=x;exact cp e
 | set S n=>obtain⟨o,_,_,_,e,_⟩:=x;exact cp e
 | ins C dx fs=>obtain⟨_,_,_,e,_⟩:=x;exact cp e
 | own y=>obtain⟨_,e⟩:=x;exact cp e
 | xd fs=>obtain⟨_,⟨_,_,_,e,_⟩,_⟩:=x;exact cp e
 | rng lo hi=>obtain⟨_,_,_,e⟩:=x;exact cp e
 | Od ob u=>obtain⟨e,_⟩:=x;exact cp e
 | Xk ps=>exact cp (show h.get? a=some _ from x)
 | met f y=>exact cp (show h.get? a=some _ from x)
 | ext φ=>obtain⟨_,⟨_,e⟩,_⟩:=x;exact cp e
theorem Paired.aAG{α β:Type}{F G:α->β->Prop}:∀{l₁:List α} {l₂:List β},Paired F l₁ l₂->(∀a b,F a b->G a b)->Paired G l₁ l₂
 | _,_,.nil,_=>.nil
 | _,_,.cons r t,f=>.cons (f _ _ r) (Paired.aAG t f)
theorem dJ.stay(x:dJ P w H h a o)(k:∀b u,(b=a\/H b=some (.own a))->h.get? b=some u->h'.get? b=some u)
  (ho:∀b,H b=some (.own a)->H' b=some (.own a)) (ht:∀b xs,H b=some (.tup xs)->H' b=some (.tup xs)):dJ P w H' h' a o:=by
 induction o with
 | lst xs=>obtain⟨z,its,n,r,e⟩:=x;exact⟨z,its,n,r,k _ _ (.inl rfl) e⟩
 | tup xs=>obtain⟨z,its,r,ob,e,c⟩:=x;exact⟨z,its,r,ob,k _ _ (.inl rfl) e,c⟩
 | dK aX=>obtain⟨z,y,vs,r,ob,es,ep,e,c⟩:=x;exact⟨z,y,vs,r,ob,es,ep,k _ _ (.inl rfl) e,c⟩
 | dT aX=>
  obtain⟨z,y,xs,r,ob,es,ep,e,c⟩:=x
  exact⟨z,y,xs,Paired.aAG r λp q z=>⟨z.1,ht _ _ z.2.1,z.2.2⟩,ob,es,ep,k _ _ (.inl rfl) e,c⟩
 | set S n=>obtain⟨ob,es,ep,t,e,c⟩:=x;exact⟨ob,es,ep,t,k _ _ (.inl rfl) e,c⟩
 | ins C dx fs=>
  obtain⟨d,z,ne,e,mA,⟨od,es,ep,e2,c⟩,r⟩:=x
  exact⟨ho _ d,z,ne,k _ _ (.inl rfl) e,mA,⟨od,es,ep,k _ _ (.inr d) e2,c⟩,r⟩
 | own y=>obtain⟨ob,e⟩:=x;exact⟨ob,k _ _ (.inl rfl) e⟩
 | xd fs=>obtain⟨mA,⟨od,es,ep,e,c⟩,r⟩:=x;exact⟨mA,⟨od,es,ep,k _ _ (.inl rfl) e,c⟩,r⟩
 | rng lo hi=>obtain⟨t,u,v,e⟩:=x;exact⟨t,u,v,k _ _ (.inl rfl) e⟩
 | Od ob u ih=>obtain⟨e,q⟩:=x;exact⟨k _ _ (.inl rfl) e,ih q⟩
 | Xk ps=>
  have e:h.get? a=some { cls:=.none,data:=.fields ps }:=x
  show h'.get? a=some { cls:=.none,data:=.fields ps }
  exact k a _ (.inl rfl) e
 | met f y=>
  have e:h.get? a=some (PySem.W.methodObj (.ref f) (.ref y)):=x
  show h'.get? a=some (PySem.W.methodObj (.ref f) (.ref y))
  exact k a _ (.inl rfl) e
 | ext φ=>obtain⟨p,⟨o,e⟩,st⟩:=x;exact⟨st _ _ p λo q=>k _ _ (.inl rfl) q,⟨o,k _ _ (.inl rfl) e⟩,st⟩
theorem sf.lt(x:sf P w H h)(e:H a=some o):a<h.objs.size:=(x a o e).lt
theorem sf.fresh(x:sf P w H h)(e:h.objs.size<=a):H a=none:=by
 cases q:H a with
 | none=>rfl
 | some u=>exact absurd (ky (x.lt q) e) (t7 _)
theorem sf.kept(x:sf P w H h)(k:∀b u,h.get? b=some u->h'.get? b=some u):sf P w H h':=λa o e=>
 (x a o e).stay (λb u _ q=>k b u q) (λ_ q=>q) λ_ _ q=>q
theorem sf.laid(x:sf P w H h)(k:∀b u,h.get? b=some u->h'.get? b=some u)(hp:h.objs.size<=a)(new:dJ P w (upd H a o) h' a o):sf P w (upd H a o) h':=λb u e=>by
 have hn:=x.fresh hp
 by_cases hb:b=a
 ·subst hb;rw[aK]at e;cases e;exact new
 ·rw[aO hb]at e
  exact(x b u e).stay (λc v _ q=>k c v q) (λc q=>by rw[aO (bu q hn)];exact q) λc xs q=>by rw[aO (bu q hn)];exact q
end
def Rd(H:Hp)(a:Addr)(u:HO):Prop:=H a=some u\/∃o,H a=some (.Od o u)
theorem Rd.ok{P:Program}{w:World}{H:Hp}{h:Heap}{a:Addr}{u:HO}(r:Rd H a u)(x:sf P w H h):dJ P w H h a u:=by
 rcases r with r | ⟨o,r⟩
 ·exact x a u r
 ·obtain⟨_,q⟩:=x a _ r
  exact q
def Mut:Option HO->Prop
 | some (.lst _)=>True
 | some (.dK _)=>True
 | some (.dT _)=>True
 | some (.set _ _)=>True
 | some (.ins _ _ _)=>True
 | some (.ext _)=>True
 | _=>False
section
variable {P:Program}{w:World}{H:Hp}{h h':Heap}{x e:Addr}{o':HO}
theorem sf.write(ok:sf P w H h)(mu:Mut (H x))(he:e=x\/H e=some (.own x))(k:∀b u,b≠e->h.get? b=some u->h'.get? b=some u)(Z6:∃u,h'.get? e=some u)
  (new:dJ P w (upd H x o') h' x o'):sf P w (upd H x o') h':=λb u q=>by
 have aAD:∀c y,H c=some (.own y)->c≠x:=λc y r z=>by subst z;rw[r]at mu;exact mu
 have Yy:∀c xs,H c=some (.tup xs)->c≠x:=λc xs r z=>by subst z;rw[r]at mu;exact mu
 by_cases hb:b=x
 ·subst hb;rw[aK]at q;cases q;exact new
 ·rw[aO hb]at q
  by_cases Zc:b=e
  ·have q':H b=some (.own x):=by
    rcases he with z | z
    ·exact absurd (Zc.trans z) hb
    ·rw[Zc];exact z
   rw[q]at q';cases q'
   obtain⟨v,hv⟩:=Z6
   exact⟨v,by rw[Zc];exact hv⟩
  ·refine(ok b u q).stay (λc v hc r=>k c v ?_ r) (λc r=>by rw[aO (aAD c b r)];exact r) λc xs r=>by rw[aO (Yy c xs r)];exact r
   rcases hc with rfl | hc
   ·exact Zc
   ·rintro rfl
    rcases he with z | z
    ·exact aAD c b hc z
    ·rw[hc]at z;cases z;exact hb rfl
end
structure Un(fs ex:List Addr)(H H':Hp)(h h':Heap):Prop where
 keep:∀b o,h.get? b=some o->H b=none->b∉fs->b∉ex->h'.get? b=some o
 slot:∀b o,h.get? b=some o->H b=none->b∈fs->b∉ex->∃sl,h'.get? b=some { o with slots:=sl }
 free:∀b o,h.get? b=some o->H b=none->b∉ex->H' b=none
 there:∀b o,h.get? b=some o->b∉ex->∃o',h'.get? b=some o'
 tups:∀b xs,H b=some (.tup xs)->H' b=some (.tup xs)
 frzs:∀b o u,H b=some (.Od o u)->H' b=some (.Od o u)
 tbls:∀b ps,H b=some (.Xk ps)->∃more,H' b=some (.Xk (ps++more))
section
variable {fs fs' ex ex':List Addr}{H H1 H2:Hp}{h h1 h2 h':Heap}{a x e:Addr}{o:HO}
theorem Un.any(u:Un fs ex H H1 h h1){b:Addr}{ob:Obj}(q:h.get? b=some ob)(n:H b=none)(hx:b∉ex):∃sl,h1.get? b=some { ob with slots:=sl }:=by
 by_cases hb:b∈fs
 ·exact u.slot b ob q n hb hx
 ·exact⟨ob.slots,u.keep b ob q n hb hx⟩
theorem Un.kept(k:∀b u,h.get? b=some u->h'.get? b=some u):Un fs ex H H h h':=
 ⟨λb ob q _ _ _=>k b ob q,λb ob q _ _ _=>⟨ob.slots,k b ob q⟩,λ_ _ _ n _=>n,λb ob q _=>⟨ob,k b ob q⟩,λ_ _ q=>q,λ_ _ _ q=>q,λ_ ps q=>⟨#[],by rw[q];simp⟩⟩
theorem Un.refl:Un fs ex H H h h:=Un.kept λ_ _ q=>q
theorem Un.laid(k:∀b u,h.get? b=some u->h'.get? b=some u)(hp:h.objs.size<=a)(hn:H a=none):Un fs ex H (upd H a o) h h' where
 keep:=λb u q _ _ _=>k b u q
 slot:=λb u q _ _ _=>⟨u.slots,k b u q⟩
 free:=λb u q n _=>by rw[aO (dm (ky (cp q) hp))];exact n
 there:=λb u q _=>⟨u,k b u q⟩
 tups:=λb xs q=>by rw[aO (bu q hn)];exact q
 frzs:=λb u xs q=>by rw[aO (bu q hn)];exact q
 tbls:=λb ps q=>⟨#[],by rw[aO (bu q hn),q];simp⟩
theorem Un.write(mu:Mut (H x))(he:e=x\/H e=some (.own x))(k:∀b u,b≠e->h.get? b=some u->h'.get? b=some u)(Z6:∃u,h'.get? e=some u):Un fs ex H (upd H x o) h h':=by
 have hx:∀b,H b=none->b≠x:=λb n z=>by subst z;rw[n]at mu;exact mu
 have hb:∀b,H b=none->b≠e:=λb n z=>by
  subst z
  rcases he with r | r
  ·exact hx b n r
  ·rw[n]at r;cases r
 have hm:∀b u,H b=some u->¬Mut (some u)->b≠x:=λb u q nm z=>by subst z;rw[q]at mu;exact nm mu
 refine⟨λb u q n _ _=>k b u (hb b n) q,λb u q n _ _=>⟨u.slots,k b u (hb b n) q⟩,λb u q n _=>by rw[aO (hx b n)];exact n,λb u q _=>?_,
  λb xs q=>by rw[aO (hm b _ q λz=>z)];exact q,λb u xs q=>by rw[aO (hm b _ q λz=>z)];exact q,λb ps q=>⟨#[],by rw[aO (hm b _ q λz=>z),q];simp⟩⟩
 by_cases Zc:b=e
 ·subst Zc;exact Z6
 ·exact⟨u,k b u Zc q⟩
end
def trk(h:Heap)(H:Hp):List Addr:=(List.range h.objs.size).filter λa=>(H a).isSome
def Fx(h:Heap)(H:Hp):Heap:=PySem.W.hideAll h (trk h H)
theorem Qc(h:Heap)(H:Hp):(Fx h H).objs.size=h.objs.size:=PySem.W.hideAll_size _ _
theorem Ts{h:Heap}{H:Hp}{b:Addr}{o:Obj}(e:h.get? b=some o)(n:H b=none):(Fx h H).get? b=some o:=
 PySem.W.hideAll_get _ e λhm=>by
  have q:(H b).isSome=true:=(List.mem_filter.mp hm).2
  rw[n]at q;simp at q
theorem VG{h:Heap}{H:Hp}{b:Addr}{o:Obj}(e:(Fx h H).get? b=some o):h.get? b=some o/\H b=none:=by
 have e':h.get? b=some o:=PySem.W.of_hideAll (trk h H) e
 refine⟨e',?_⟩
 cases q:H b with
 | none=>rfl
 | some x=>
  have hm:b∈trk h H:=List.mem_filter.mpr ⟨List.mem_range.mpr (cp e'),by simp[q]⟩
  have z:(Fx h H).get? b=none:=PySem.W.hideAll_none (trk h H) hm
  rw[z]at e;cases e
def Wk(g h:Heap)(L:Addr):List (Addr×Obj):=(List.range h.objs.size).filterMap λa=>if a=L\/(g.get? a).isSome=true then none else (h.get? a).map λo=>(a,o)
def rest(g h:Heap)(L d:Addr):List (Addr×Obj):=(Wk g h L).filter λp=>decide (p.1≠d)
end L2
namespace L2
open PySem PySem.Spec PyProof.Rows
structure Mod(K:PySem.W.Frag)(mg:Str->Option Value)(base:Heap):Prop where
 WT:K.In base
 glob:base.Ns mainGlobals mg
 blt:∃mb,base.Ns builtinsNs mb/\∀x:Str,x≠"__name__"->mb x=bootBuiltins x
 nolimit:base.NoLimit
structure Cx where
 prog:Program
 w:World
 K:PySem.W.Frag
 mg:Str->Option Value
 base:Heap
 A:Around
 N:List Str
 s₀:Shared
 H₀:Hp
 env:Env
 outer:List Env
 stack:List Env
 ex:List Addr
 fn:Str->Bool
 calm:Bool
 pn:List (Addr×Obj)
 xe:Value->Shared->Prop
def tZ(l:List Env):List Addr:=l.filterMap (·.frame)
abbrev Cx.fs(X:Cx):List Addr:=tZ X.outer
def Vis(sc:Scope)(x:Str):Prop:=sc.names.lookup x=some .local\/sc.names.lookup x=some .cell\/sc.names.lookup x=some .free
def Loc(sc:Scope)(x:Str):Prop:=sc.names.lookup x=some .local\/sc.names.lookup x=some .cell
def Look(env:Env)(h:Heap)(m:Str->Option Value)(x:Str)(u:Value):Prop:=
 (env.kindOf x=some .local/\m x=some u)\/((env.kindOf x=some .cell\/env.kindOf x=some .free)/\∃c,env.cells.lookup x=some c/\h.IsCell c (some u))
structure Cx.Ok(X:Cx):Prop where
 mod:Mod X.K X.mg X.base
 kind:X.env.scope.kind=.function
 glob:X.env.globals=mainGlobals
 blt:X.env.builtins=builtinsNs
 above:X.s₀.heap.objs.size<=X.env.locals
 inj:∀x y c,X.env.cells.lookup x=some c->X.env.cells.lookup y=some c->x=y
 has:∀x,(X.env.kindOf x=some .cell\/X.env.kindOf x=some .free)->∃c,X.env.cells.lookup x=some c
 Wg:∀x c,X.fn x=true->X.env.cells.lookup x=some c->X.s₀.heap.objs.size<=c
 hd:X.calm=true->X.A.handled=none
 frames:X.A.frames=some X.stack
 Wu:X.stack=X.outer\/(X.stack=X.env::X.outer/\X.env.frame=some X.env.locals)
 exf:∀b∈X.ex,b≠X.env.locals/\∀x c,X.env.cells.lookup x=some c->c≠b
 bs:∀b o,X.base.get? b=some o->X.s₀.heap.get? b=some o/\X.H₀ b=none
 Oq:X.base.objs.size<=X.s₀.heap.objs.size
 Fg:∀b o,X.base.get? b=some o->b∉X.ex
 JG:∀b∈X.ex,b∉X.fs
 qI:X.s₀.heap.FunFrames X.base X.outer
 QR:∀b∈X.fs,X.H₀ b=none
structure Inv(X:Cx)(pins:List (Addr×Obj))(σ:List (Option V))(H:Hp)(s:Shared):Prop where
 ok:X.Ok
 os:s.os=X.s₀.os
 bare:AllBare s.gens
 base:Un X.fs X.ex X.H₀ H X.s₀.heap s.heap
 loc:∃m,s.heap.Ns X.env.locals m/\∀(i:Nat) (x:Str) (v:V),X.N[i]?=some x->σ[i]?=some (some v)->Vis X.env.scope x->∃u,RelV v u/\Look X.env s.heap m x u
 cell:∀x c,X.env.cells.lookup x=some c->∃v,s.heap.IsCell c v
 free:H X.env.locals=none
 lu:∀x c,X.env.cells.lookup x=some c->H c=none
 pin:∀p∈X.pn++pins,s.heap.get? p.1=some p.2/\H p.1=none/\p.1≠X.env.locals/\p.1∉X.fs/\∀v,p.2.data≠.cell v
 cA:sf X.prog X.w H s.heap
 len:σ.length=X.N.length
section
variable {X:Cx}{pins:List (Addr×Obj)}{σ:List (Option V)}{H H':Hp}{s:Shared}{h':Heap}
theorem Cx.Ok.aCN(ok:X.Ok){b:Addr}{o:Obj}(e:X.base.get? b=some o):b∉X.fs:=λhb=>by
 have:=(ok.qI.mem hb).1
 rw[e]at this;cases this
theorem Inv.bs(I:Inv X pins σ H s):∀b o,X.base.get? b=some o->s.heap.get? b=some o/\H b=none:=λb o e=>
 ⟨I.base.keep b o (I.ok.bs b o e).1 (I.ok.bs b o e).2 (I.ok.aCN e) (I.ok.Fg b o e),I.base.free b o (I.ok.bs b o e).1 (I.ok.bs b o e).2 (I.ok.Fg b o e)⟩
theorem Inv.bk(I:Inv X pins σ H s):∀b o,X.base.get? b=some o->s.heap.get? b=some o:=λb o e=>(I.bs b o e).1
theorem Inv.mod(I:Inv X pins σ H s):Mod X.K X.mg X.base:=I.ok.mod
theorem Inv.o9(I:Inv X pins σ H s):X.K.In s.heap:=I.ok.mod.WT.keeps I.bk
theorem Inv.lt(I:Inv X pins σ H s):X.env.locals<s.heap.objs.size:=let ⟨_,hn,_⟩:=I.loc;hn.lt
theorem Inv.sz(I:Inv X pins σ H s):X.s₀.heap.objs.size<=s.heap.objs.size:=jY I.ok.above (u6 I.lt)
theorem Inv.aCM(I:Inv X pins σ H s){a:Addr}(h:s.heap.objs.size<=a):a∉X.fs:=λhb=>by
 obtain⟨_,o,ho,_⟩:=I.ok.qI.mem hb
 exact absurd (ky (cp ho) (jY I.sz h)) (t7 _)
theorem Inv.Wf(I:Inv X pins σ H s):∀x c,X.env.cells.lookup x=some c->c≠X.env.locals:=λx c e z=>by
 obtain⟨v,o,ho,hd⟩:=I.cell x c e
 obtain⟨m,⟨o',es,ep,Gp,hd',_⟩,_⟩:=I.loc
 rw[z,Gp]at ho;cases ho;rw[hd']at hd;cases hd
theorem Inv.qI(I:Inv X pins σ H s):s.heap.FunFrames X.base X.outer:=by
 have all:∀(l:List Env),(∀b∈tZ l,b∈X.fs)->X.s₀.heap.FunFrames X.base l->s.heap.FunFrames X.base l:=by
  intro l
  induction l with
  | nil=>intro _ _;trivial
  | cons env r ih=>
   intro hs hl
   obtain⟨hk,⟨L,o,hf,hn,ho,hd⟩,hr⟩:=hl
   have hL:L∈X.fs:=hs L (by unfold tZ;rw[Ej,hf];exact gP)
   obtain⟨sl,e⟩:=I.base.slot L o ho (I.ok.QR L hL) hL λz=>I.ok.JG L z hL
   exact⟨hk,⟨L,_,hf,hn,e,hd⟩,ih (λb hb=>hs b (by unfold tZ;rw[Ej,hf];exact kP _ hb)) hr⟩
 exact all X.outer (λ_ hb=>hb) I.ok.qI
theorem Inv.stack(I:Inv X pins σ H s):s.heap.FunFrames X.base X.stack:=by
 rcases I.ok.Wu with e | ⟨e,hf⟩
 ·rw[e];exact I.qI
 ·rw[e]
  obtain⟨m,hn,_⟩:=I.loc
  refine .cons (by rw[I.ok.kind];decide) hf hn ?_ I.qI
  exact Gy (jY I.ok.Oq I.ok.above)
theorem Inv.Ex(I:Inv X pins σ H s):∀b∈tZ X.stack,b∈X.env.locals::X.fs:=λb hb=>by
 rcases I.ok.Wu with e | ⟨e,hf⟩
 ·rw[e]at hb;exact kP _ hb
 ·rw[e]at hb
  unfold tZ at hb
  rw[Ej,hf]at hb
  exact hb
theorem Inv.wZ(I:Inv X pins σ H s):∀b∈tZ X.stack,H b=none:=λb hb=>by
 rcases gN.mp (I.Ex b hb) with e | hb
 ·rw[e];exact I.free
 ·obtain⟨_,o,ho,_⟩:=I.ok.qI.mem hb
  exact I.base.free b o ho (I.ok.QR b hb) λz=>I.ok.JG b z hb
theorem Inv.step{g':Array GenState}{t':Nat}{d':Drawn}{ch:List Addr}(I:Inv X pins σ H s)
  (Aj:∀b∈ch,(b∈X.ex\/X.s₀.heap.objs.size<=b)/\b≠X.env.locals/\(∀x c,X.env.cells.lookup x=some c->c≠b)/\∀p∈X.pn++pins,p.1≠b)
  (keep:∀b o,b≠X.env.locals->b∉X.fs->b∉ch->s.heap.get? b=some o->H b=none->h'.get? b=some o)
  (slot:∀b o,b≠X.env.locals->b∈X.fs->b∉ch->s.heap.get? b=some o->H b=none->∃sl,h'.get? b=some { o with slots:=sl }) (free:∀b o,b∉ch->s.heap.get? b=some o->H b=none->H' b=none)
  (there:∀b o,b∉ch->s.heap.get? b=some o->∃o',h'.get? b=some o')
  (tups:∀b xs,H b=some (.tup xs)->H' b=some (.tup xs)) (frzs:∀b o u,H b=some (.Od o u)->H' b=some (.Od o u)) (tbls:∀b ps,H b=some (.Xk ps)->∃more,H' b=some (.Xk (ps++more)))
  (ns:∀m,s.heap.Ns X.env.locals m->h'.Ns X.env.locals m) (cA:sf X.prog X.w H' h') (hg:AllBare g') :
  Inv X pins σ H' { s with heap:=h',gens:=g',drawn:=d',toks:=t' }:=by
 have neL:∀b o,X.s₀.heap.get? b=some o->b≠X.env.locals:=λb o e=>dm (ky (cp e) I.ok.above)
 have neC:∀b o,X.s₀.heap.get? b=some o->b∉X.ex->b∉ch:=λb o e hx hb=>by
  rcases(Aj b hb).1 with z | z
  ·exact hx z
  ·exact absurd (ky (cp e) z) (t7 _)
 have cellK:∀x c,X.env.cells.lookup x=some c->∀v,s.heap.IsCell c v->h'.IsCell c v:=λx c e v ⟨o,ho,hd⟩=>by
  have nch:c∉ch:=λz=>(Aj c z).2.2.1 x c e rfl
  by_cases hc:c∈X.fs
  ·obtain⟨sl,q⟩:=slot c o (I.Wf x c e) hc nch ho (I.lu x c e)
   exact⟨_,q,hd⟩
  ·exact⟨o,keep c o (I.Wf x c e) hc nch ho (I.lu x c e),hd⟩
 refine⟨I.ok,I.os,hg,⟨λb o e n hb hx=>?_,λb o e n hb hx=>?_,λb o e n hx=>?_,λb o e hx=>?_,λb xs e=>tups b xs (I.base.tups b xs e),λb o xs e=>frzs b o xs (I.base.frzs b o xs e),λb ps e=>?_⟩,?_,λx c e=>?_,?_,λx c e=>?_,λp hp=>?_,cA,I.len⟩
 ·exact keep b o (neL b o e) hb (neC b o e hx) (I.base.keep b o e n hb hx) (I.base.free b o e n hx)
 ·obtain⟨sl,e1⟩:=I.base.slot b o e n hb hx
  obtain⟨sl',e2⟩:=slot b _ (neL b o e) hb (neC b o e hx) e1 (I.base.free b o e n hx)
  exact⟨sl',e2⟩
 ·obtain⟨o',e1⟩:=I.base.there b o e hx
  exact free b o' (neC b o e hx) e1 (I.base.free b o e n hx)
 ·obtain⟨o',e1⟩:=I.base.there b o e hx
  exact there b o' (neC b o e hx) e1
 ·obtain⟨m1,e1⟩:=I.base.tbls b ps e
  obtain⟨m2,e2⟩:=tbls b _ e1
  exact⟨m1++m2,by rw[e2,Array.append_assoc]⟩
 ·obtain⟨m,hn,hl⟩:=I.loc
  refine⟨m,ns m hn,λi x v e1 e2 e3=>?_⟩
  obtain⟨u,r,l⟩:=hl i x v e1 e2 e3
  refine⟨u,r,?_⟩
  rcases l with l | ⟨k,c,e,z⟩
  ·exact .inl l
  ·exact .inr ⟨k,c,e,cellK x c e _ z⟩
 ·obtain⟨v,z⟩:=I.cell x c e
  exact⟨v,cellK x c e v z⟩
 ·obtain⟨m,⟨o,_,_,ho,_⟩,_⟩:=I.loc
  exact free _ o (λz=>(Aj _ z).2.1 rfl) ho I.free
 ·obtain⟨v,o,ho,hd⟩:=I.cell x c e
  exact free c o (λz=>(Aj c z).2.2.1 x c e rfl) ho (I.lu x c e)
 ·obtain⟨e,n,ne,nf,d⟩:=I.pin p hp
  have nch:p.1∉ch:=λz=>(Aj p.1 z).2.2.2 p hp rfl
  exact⟨keep p.1 p.2 ne nf nch e n,free p.1 p.2 nch e n,ne,nf,d⟩
theorem Inv.un{t':Nat}(I:Inv X pins σ H s)(u:Un X.fs [] H H' s.heap h')(cA:sf X.prog X.w H' h'):Inv X pins σ H' { s with heap:=h',toks:=t' }:=by
 obtain⟨m,⟨o,es,ep,ho,r⟩,_⟩:=id I.loc
 obtain⟨sl,hL⟩:=u.any ho I.free (by simp)
 exact I.step (g':=s.gens) (d':=s.drawn) (ch:=[]) (λ_ z=>nomatch z) (λb o _ hb _ e n=>u.keep b o e n hb (by simp)) (λb o _ hb _ e n=>u.slot b o e n hb (by simp)) (λb o _ e n=>u.free b o e n (by simp)) (λb o _ e=>u.there b o e (by simp)) u.tups u.frzs u.tbls (λm' hm=>by
  obtain⟨o',es',ep',Gp,r'⟩:=hm
  rw[ho]at Gp;cases Gp
  exact⟨_,es',ep',hL,r'⟩) cA I.bare
theorem Inv.call{g':Array GenState}{t':Nat}{d':Drawn}{ch:List Addr}(I:Inv X pins σ H s)(u:Un (tZ X.stack) ch H H' s.heap h')(cA:sf X.prog X.w H' h')(hg:AllBare g')
  (Aj:∀b∈ch,(b∈X.ex\/X.s₀.heap.objs.size<=b)/\b≠X.env.locals/\(∀x c,X.env.cells.lookup x=some c->c≠b)/\∀p∈X.pn++pins,p.1≠b) :
  Inv X pins σ H' { s with heap:=h',gens:=g',drawn:=d',toks:=t' }:=by
 obtain⟨m,⟨o,es,ep,ho,r⟩,_⟩:=id I.loc
 obtain⟨sl,hL⟩:=u.any ho I.free λz=>(Aj _ z).2.1 rfl
 exact I.step (ch:=ch) Aj (λb o hL hb hc e n=>u.keep b o e n (λz=>(gN.mp (I.Ex b z)).elim hL hb) hc) (λb o _ _ hc e n=>u.any e n hc) (λb o hc e n=>u.free b o e n hc) (λb o hc e=>u.there b o e hc) u.tups u.frzs u.tbls (λm' hm=>by
  obtain⟨o',es',ep',Gp,r'⟩:=hm
  rw[ho]at Gp;cases Gp
  exact⟨_,es',ep',hL,r'⟩) cA hg
theorem Inv.turned{t':Nat}{it:Addr}(I:Inv X pins σ H s)(k:∀b o,b≠it->s.heap.get? b=some o->h'.get? b=some o)(hn:H it=none)(hL:it≠X.env.locals)
  (h1:it∈X.ex\/X.s₀.heap.objs.size<=it) (h2:∀x c,X.env.cells.lookup x=some c->c≠it) (h3:∀p∈X.pn++pins,p.1≠it):Inv X pins σ H { s with heap:=h',toks:=t' }:=by
 have nit:∀b u,H b=some u->b≠it:=λb u e z=>by rw[z,hn]at e;cases e
 refine I.step (g':=s.gens) (d':=s.drawn) (ch:=[it]) (λb hb=>?_) (λb o _ _ hc e _=>k b o (λz=>hc (by simp[z])) e) (λb o _ _ hc e _=>⟨o.slots,k b o (λz=>hc (by simp[z])) e⟩) (λ_ _ _ _ n=>n)
  (λb o hc e=>⟨o,k b o (λz=>hc (by simp[z])) e⟩) (λ_ _ e=>e) (λ_ _ _ e=>e) (λb ps e=>⟨#[],by rw[e];simp⟩) (λm hm=>?_) (λb u e=>?_) I.bare
 ·have e:b=it:=by simpa using hb
  subst e
  exact⟨h1,hL,h2,h3⟩
 ·obtain⟨o,es,ep,ho,r⟩:=hm
  exact⟨o,es,ep,k _ o (mL hL) ho,r⟩
 ·refine(I.cA b u e).stay (λc v hc q=>k c v ?_ q) (λ_ q=>q) λ_ _ q=>q
  rcases hc with z | z
  ·rw[z];exact nit b u e
  ·exact nit c _ z
theorem Inv.tok(I:Inv X pins σ H s)(t:Nat):Inv X pins σ H { s with toks:=t }:=I.un (h':=s.heap) (t':=t) Un.refl I.cA
theorem Inv.kept{t':Nat}(I:Inv X pins σ H s)(k:∀b u,s.heap.get? b=some u->h'.get? b=some u):Inv X pins σ H { s with heap:=h',toks:=t' }:=I.un (Un.kept k) (I.cA.kept k)
theorem Inv.laid{a:Addr}{o:HO}{t':Nat}(I:Inv X pins σ H s)(k:∀b u,s.heap.get? b=some u->h'.get? b=some u)(hp:s.heap.objs.size<=a)(new:dJ X.prog X.w (upd H a o) h' a o) :
  Inv X pins σ (upd H a o) { s with heap:=h',toks:=t' }:=I.un (Un.laid k hp (I.cA.fresh hp)) (I.cA.laid k hp new)
theorem Inv.write{x e:Addr}{o:HO}{t':Nat}(I:Inv X pins σ H s)(mu:Mut (H x))(he:e=x\/H e=some (.own x))(k:∀b u,b≠e->s.heap.get? b=some u->h'.get? b=some u)(Z6:∃u,h'.get? e=some u)
  (new:dJ X.prog X.w (upd H x o) h' x o):Inv X pins σ (upd H x o) { s with heap:=h',toks:=t' }:=I.un (Un.write mu he k Z6) (I.cA.write mu he k Z6 new)
theorem Inv.NP{Ho:List (Addr×Obj)}(I:Inv X pins σ H s)(h:∀p∈Ho,s.heap.get? p.1=some p.2/\H p.1=none/\p.1≠X.env.locals/\p.1∉X.fs/\∀v,p.2.data≠.cell v):Inv X Ho σ H s:=
 ⟨I.ok,I.os,I.bare,I.base,I.loc,I.cell,I.free,I.lu,λp hp=>(nR.mp hp).elim (λz=>I.pin p (vH _ z)) (h p),I.cA,I.len⟩
theorem y4{N:List Str}(hN:N.Nodup){i j:Nat}{x:Str}(a:N[i]?=some x)(b:N[j]?=some x):i=j:=by
 obtain⟨h1,e1⟩:=nO.mp a
 obtain⟨h2,e2⟩:=nO.mp b
 exact(List.getElem_inj hN).mp (e1.trans e2.symm)
theorem O'{M:Model}{A:Around}{E:Value->Shared->Prop}{i:Nat}{x:Str}{v:V}{u:Value}{Q:Unit->Shared->Prop}(I:Inv X pins σ H s)(hN:X.N.Nodup)(hi:X.N[i]?=some x)(hx:Loc X.env.scope x)(r:RelV v u)
  (h:∀s',Inv X pins (σ.set i (some v)) H s'->(∃a,Heap.SameBut a s.heap s'.heap/\(a=X.env.locals\/X.env.cells.lookup x=some a))->Q () s') (hf:X.fn x=true\/X.env.scope.names.lookup x=some .local:=by first | exact .inl rfl | exact .inr rfl | assumption):wpAny M A (storeName X.env x u) Q E s:=by
 obtain⟨m,hn,hl⟩:=id I.loc
 have Zb:(X.env.scope.kind == .class||(X.env.scope.kind == .module&&X.env.locals != X.env.globals))=false:=by rw[I.ok.kind];rfl
 have Z4:i<σ.length:=by rw[I.len];exact(nO.mp hi).1
 have Wf:=I.Wf
 have tracked:∀{a:Addr} {h':Heap},(∃o,s.heap.get? a=some o/\H a=none)->Heap.SameBut a s.heap h'->sf X.prog X.w H h':=λ{a h'} ha hs b ob e=>by
  obtain⟨_,_,JB⟩:=ha
  refine(I.cA b ob e).stay (λc w' hc q=>(hs.2 c ?_).trans q) (λ_ q=>q) λ_ _ q=>q
  rintro rfl
  rcases hc with rfl | hc
  ·rw[JB]at e;cases e
  ·rw[JB]at hc;cases hc
 rcases hx with hk | hk
 ·refine wpAny_storeName_local hk hn (λh' Tp hs=>?_) Zb
  obtain⟨oL,_,_,hoL,_⟩:=id hn
  refine h _ ⟨I.ok,I.os,I.bare,⟨λb o e n hb hx=>?_,λb o e n hb hx=>?_,I.base.free,λb o e hx=>?_,I.base.tups,I.base.frzs,I.base.tbls⟩,⟨_,Tp,λj y v' e1 e2 e3=>?_⟩,λy c e=>?_,I.free,I.lu,λp hp=>?_,tracked ⟨oL,hoL,I.free⟩ hs,by simpa using I.len⟩ ⟨_,hs,.inl rfl⟩
  ·exact(hs.2 b (dm (ky (cp e) I.ok.above))).trans (I.base.keep b o e n hb hx)
  ·obtain⟨sl,e1⟩:=I.base.slot b o e n hb hx
   exact⟨sl,(hs.2 b (dm (ky (cp e) I.ok.above))).trans e1⟩
  ·obtain⟨o',e1⟩:=I.base.there b o e hx
   exact⟨o',(hs.2 b (dm (ky (cp e) I.ok.above))).trans e1⟩
  ·by_cases hj:j=i
   ·subst hj
    rw[hi]at e1;cases e1
    rw[Nb Z4]at e2
    cases e2
    exact⟨u,r,.inl ⟨hk,by simp⟩⟩
   ·rw[Kt (mL hj)]at e2
    obtain⟨u',r',q⟩:=hl j y v' e1 e2 e3
    refine⟨u',r',?_⟩
    rcases q with ⟨k,e⟩ | ⟨k,c,e,z⟩
    ·refine .inl ⟨k,?_⟩
     have:y≠x:=λe=>hj (y4 hN e1 (e ▸ hi))
     simp[this,e]
    ·exact .inr ⟨k,c,e,z.sameBut hs (Wf y c e)⟩
  ·obtain⟨w',z⟩:=I.cell y c e
   exact⟨w',z.sameBut hs (Wf y c e)⟩
  ·obtain⟨e,n,ne,nf,d⟩:=I.pin p hp
   exact⟨(hs.2 p.1 ne).trans e,n,ne,nf,d⟩
 ·have hfn:X.fn x=true:=by
   rcases hf with z | z
   ·exact z
   ·rw[z]at hk;cases hk
  obtain⟨c,hc⟩:=I.ok.has x (.inl hk)
  obtain⟨w',z⟩:=I.cell x c hc
  refine wpAny_storeName_cell I.ok.kind hk hc z (λh' W3 hs=>?_)
  obtain⟨oc,hoc,aDs⟩:=id z
  refine h { s with heap:=h' } ⟨I.ok,I.os,I.bare,⟨λb o e n hb hx=>?_,λb o e n hb hx=>?_,I.base.free,λb o e hx=>?_,I.base.tups,I.base.frzs,I.base.tbls⟩,⟨m,hn.sameBut hs (mL (Wf x c hc)),λj y v' e1 e2 e3=>?_⟩,λy c' e=>?_,I.free,I.lu,λp hp=>?_,tracked ⟨oc,hoc,I.lu x c hc⟩ hs,by simpa using I.len⟩ ⟨c,hs,.inr hc⟩
  ·exact(hs.2 b (dm (ky (cp e) (I.ok.Wg x c hfn hc)))).trans (I.base.keep b o e n hb hx)
  ·obtain⟨sl,e1⟩:=I.base.slot b o e n hb hx
   exact⟨sl,(hs.2 b (dm (ky (cp e) (I.ok.Wg x c hfn hc)))).trans e1⟩
  ·obtain⟨o',e1⟩:=I.base.there b o e hx
   exact⟨o',(hs.2 b (dm (ky (cp e) (I.ok.Wg x c hfn hc)))).trans e1⟩
  ·by_cases hj:j=i
   ·subst hj
    rw[hi]at e1;cases e1
    rw[Nb Z4]at e2
    cases e2
    exact⟨u,r,.inr ⟨.inl hk,c,hc,W3⟩⟩
   ·rw[Kt (mL hj)]at e2
    obtain⟨u',r',q⟩:=hl j y v' e1 e2 e3
    refine⟨u',r',?_⟩
    rcases q with q | ⟨k,c',e,z'⟩
    ·exact .inl q
    ·refine .inr ⟨k,c',e,z'.sameBut hs ?_⟩
     rintro rfl
     exact hj (y4 hN e1 (I.ok.inj _ _ _ e hc ▸ hi))
  ·by_cases hcc:c'=c
   ·subst hcc;exact⟨_,W3⟩
   ·obtain⟨w2,z2⟩:=I.cell y c' e
    exact⟨w2,z2.sameBut hs hcc⟩
  ·obtain⟨e,n,ne,nf,d⟩:=I.pin p hp
   refine⟨(hs.2 p.1 ?_).trans e,n,ne,nf,d⟩
   intro q
   rw[q,hoc]at e
   have q':oc=p.2:=gU e
   exact d w' (by rw[<-q'];exact aDs)
theorem um{M:Model}{A:Around}{E:Value->Shared->Prop}{i:Nat}{x:Str}{v:V}{u:Value}{Q:Unit->Shared->Prop}(I:Inv X pins σ H s)(hN:X.N.Nodup)(hi:X.N[i]?=some x)(hx:Loc X.env.scope x)(r:RelV v u)
  (h:∀s',Inv X pins (σ.set i (some v)) H s'->Q () s') (hf:X.fn x=true\/X.env.scope.names.lookup x=some .local:=by first | exact .inl rfl | exact .inr rfl | assumption):wpAny M A (storeName X.env x u) Q E s:=
 O' I hN hi hx r (λs' I' _=>h s' I') hf
theorem Inv.call'{s':Shared}{ch:List Addr}(I:Inv X pins σ H s)(ho:s'.os=s.os)(u:Un (tZ X.stack) ch H H' s.heap s'.heap)(cA:sf X.prog X.w H' s'.heap)(hg:AllBare s'.gens)
  (Aj:∀b∈ch,(b∈X.ex\/X.s₀.heap.objs.size<=b)/\b≠X.env.locals/\(∀x c,X.env.cells.lookup x=some c->c≠b)/\∀p∈X.pn++pins,p.1≠b):Inv X pins σ H' s':=by
 obtain⟨h',g',d',t',o'⟩:=s'
 have e:o'=s.os:=ho
 subst e
 exact I.call (g':=g') (t':=t') (d':=d') u cA hg Aj
end
abbrev XK:=Value->Option Addr->Hp->Prop
abbrev St:=List (Option V)
abbrev VK:=V->Hp->Prop
abbrev TE:=St->Hp->VK->Prop
abbrev TT:=St->Hp->(Bool->Hp->Prop)->Prop
abbrev TA:=St->Hp->(List V->Hp->Prop)->Prop
structure Ends where
 nx:St->Hp->Prop
 rt:VK
 bk:St->Hp->Prop:=λ_ _=>False
 ct:St->Hp->Prop:=λ_ _=>False
abbrev TS:=Ends->St->Hp->Prop
def EP(X:Cx)(pins:List (Addr×Obj))(σ:St)(Q:VK)(u:Value)(s':Shared):Prop:=∃v H',Inv X pins σ H' s'/\RelV v u/\Q v H'
def TP(X:Cx)(pins:List (Addr×Obj))(σ:St)(Q:Bool->Hp->Prop)(b:Bool)(s':Shared):Prop:=∃H',Inv X pins σ H' s'/\Q b H'
def AP(X:Cx)(pins:List (Addr×Obj))(σ:St)(Q:List V->Hp->Prop)(us:List Value)(s':Shared):Prop:=∃vs H',Inv X pins σ H' s'/\Vals vs us/\Q vs H'
def SP(X:Cx)(pins:List (Addr×Obj))(D:Ends)(f:Flow)(s':Shared):Prop:=
 match f with
 | .next=>∃σ' H',Inv X pins σ' H' s'/\D.nx σ' H'
 | .brk=>∃σ' H',Inv X pins σ' H' s'/\D.bk σ' H'
 | .cont=>∃σ' H',Inv X pins σ' H' s'/\D.ct σ' H'
 | .ret u=>∃v σ' H',Inv X pins σ' H' s'/\RelV v u/\D.rt v H'
def PE(X:Cx)(e:Expr)(t:TE):Prop:=
 ∀(pins:List (Addr×Obj)) (s:Shared) (σ:St) (H:Hp) (Q:VK),Inv X pins σ H s->t σ H Q->wpAny (model X.prog X.w) X.A (eval e X.env) (EP X pins σ Q) X.xe s
def PT(X:Cx)(e:Expr)(t:TT):Prop:=
 ∀(pins:List (Addr×Obj)) (s:Shared) (σ:St) (H:Hp) (Q:Bool->Hp->Prop),Inv X pins σ H s->t σ H Q->wpAny (model X.prog X.w) X.A (isTrue e X.env (eval e X.env)) (TP X pins σ Q) X.xe s
def PW(X:Cx)(e:Expr)(t:TT):Prop:=
 ∀(whole:Sem Value) (pins:List (Addr×Obj)) (s:Shared) (σ:St) (H:Hp) (Q:Bool->Hp->Prop),Inv X pins σ H s->t σ H Q->wpAny (model X.prog X.w) X.A (isTrue e X.env whole) (TP X pins σ Q) X.xe s
theorem PW.pt{X:Cx}{e:Expr}{t:TT}(h:PW X e t):PT X e t:=h _
def PA(X:Cx)(es:List Expr)(t:TA):Prop:=
 ∀(pos:Pos) (pins:List (Addr×Obj)) (s:Shared) (σ:St) (H:Hp) (Q:List V->Hp->Prop),Inv X pins σ H s->t σ H Q->wpAny (model X.prog X.w) X.A (spliced (backTo pos (starEach es X.env))) (AP X pins σ Q) X.xe s
def PS(X:Cx)(st:Stmt)(t:TS):Prop:=
 ∀(pins:List (Addr×Obj)) (s:Shared) (σ:St) (H:Hp) (D:Ends),Inv X pins σ H s->t D σ H->wpAny (model X.prog X.w) X.A (exec st X.env) (SP X pins D) X.xe s
def zU(X:Cx)(st:List Stmt)(t:TS):Prop:=
 ∀(pins:List (Addr×Obj)) (s:Shared) (σ:St) (H:Hp) (D:Ends),Inv X pins σ H s->t D σ H->wpAny (model X.prog X.w) X.A (execs st X.env) (SP X pins D) X.xe s
theorem dH{α:Type}{t:Sem α}{Q Q':α->Shared->Prop}{M:Model}{A:Around}{E:Value->Shared->Prop}{s:Shared}(h:wpAny M A t Q E s)(hQ:∀a s,Q a s->Q' a s):wpAny M A t Q' E s:=iX h hQ λ_ _ x=>x
end L2
namespace L2
open PySem PySem.Spec PyProof.Rows
section
variable {X:Cx}
theorem bin{a b:Expr}{ta tb:TE}(ha:PE X a ta)(hb:PE X b tb){pins:List (Addr×Obj)}{s:Shared}{σ:St}{H:Hp}{R:V->V->Hp->Prop}(I:Inv X pins σ H s)(h:ta σ H λx H1=>tb σ H1 λy H2=>R x y H2)
  {α:Type} {Q:α->Shared->Prop} {f:Value->Value->Sem α}
  (hf:∀v u s2 x y H2,Inv X pins σ H2 s2->RelV x v->RelV y u->R x y H2->wpAny (model X.prog X.w) X.A (f v u) Q X.xe s2) :
  wpAny (model X.prog X.w) X.A (eval a X.env) (λv s₁=>wpAny (model X.prog X.w) X.A (eval b X.env) (λu s₂=>wpAny (model X.prog X.w) X.A (f v u) Q X.xe s₂) X.xe s₁) X.xe s:=by
 refine dH (ha pins s σ H _ I h) λv s1 ⟨x,H1,I1,r1,q1⟩=>?_
 refine dH (hb pins s1 σ H1 _ I1 q1) λu s2 ⟨y,H2,I2,r2,q2⟩=>?_
 exact hf v u s2 x y H2 I2 r1 r2 q2
def Er(i:Nat):TE:=λσ H Q=>∃v,σ[i]?=some (some v)/\Q v H
def tC(v:V):TE:=λ_ H Q=>Q v H
theorem Sh{i:Nat}{x:Str}{pos:Pos}(hN:X.N[i]?=some x)(hv:Vis X.env.scope x)(hd:(x==("__debug__" : Str))=false:=by decide)(Fy:(x==("__classdict__" : Str))=false:=by decide):PE X (.Name x pos) (Er i):=by
 intro pins s σ H Q I h
 obtain⟨v,e,h⟩:=h
 obtain⟨m,hn,hl⟩:=I.loc
 obtain⟨u,r,l⟩:=hl i x v hN e hv
 have fin:EP X pins σ Q u s:=⟨v,H,I,r,h⟩
 rcases l with ⟨hk,hm⟩ | ⟨hk,c,hc,v9⟩
 ·exact wpAny_Name (wpAny_loadName_local I.ok.kind hk hn hm fin) hd
 ·rcases hk with hk | hk
  ·exact wpAny_Name (wpAny_loadName_cell I.ok.kind hk hc v9 fin) hd
  ·exact wpAny_Name (wpAny_loadName_free I.ok.kind hk hc v9 fin Fy) hd
theorem Yo{i j pos}:PE X (.Constant (.int i) j pos) (tC (.int i)):=λ_ _ _ H _ I h=>wpAny_Constant_int ⟨.int i,H,I.tok _,⟨_,rfl⟩,h⟩
theorem aAz{b j pos}:PE X (.Constant (.bool b) j pos) (tC (.bl b)):=λ_ _ _ H _ I h=>Constant_bool ⟨.bl b,H,I,rfl,h⟩
theorem Ym{j pos}:PE X (.Constant .none j pos) (tC .non):=λ_ _ _ H _ I h=>Constant_none ⟨.non,H,I,rfl,h⟩
theorem Si{x j pos}:PE X (.Constant (.str x) j pos) (tC (.str x)):=λ_ _ _ H _ I h=>Calls.Constant_str ⟨.str x,H,I.tok _,⟨_,rfl⟩,h⟩
def Gl(X:Cx)(x:Str):Prop:=X.env.kindOf x=some .globalImplicit
theorem mC{E:Value->Shared->Prop}{pins:List (Addr×Obj)}{s:Shared}{σ:St}{H:Hp}{x:Str}{u:Value}{pos:Pos}{Q:Value->Shared->Prop}(I:Inv X pins σ H s)(hg:Gl X x)(hm:X.mg x=some u)(h:Q u s)
  (hd:(x==("__debug__" : Str))=false:=by decide):wpAny (model X.prog X.w) X.A (eval (.Name x pos) X.env) Q E s:=
 Calls.Name_function_global I.ok.kind hg (Calls.loadGlobal_global (by rw[I.ok.glob];exact I.mod.glob.keeps I.bk) hm h) hd
theorem Fu{E:Value->Shared->Prop}{pins:List (Addr×Obj)}{s:Shared}{σ:St}{H:Hp}{x:Str}{u:Value}{pos:Pos}{Q:Value->Shared->Prop}(I:Inv X pins σ H s)(hg:Gl X x)(hm:X.mg x=none)(hv:bootBuiltins x=some u)(h:Q u s)
  (hn:x≠"__name__":=by decide) (hd:(x==("__debug__" : Str))=false:=by decide):wpAny (model X.prog X.w) X.A (eval (.Name x pos) X.env) Q E s:=by
 obtain⟨mb,h1,h2⟩:=I.mod.blt
 exact Calls.Name_function_global I.ok.kind hg (Calls.loadGlobal_builtin (by rw[I.ok.glob];exact I.mod.glob.keeps I.bk) hm (by rw[I.ok.blt];exact h1.keeps I.bk) ((h2 x hn).trans hv) h) hd
theorem Vo{x:Str}{v:V}{u:Value}{pos:Pos}(hg:Gl X x)(hm:X.mg x=some u)(r:RelV v u)(hd:(x==("__debug__" : Str))=false:=by decide):PE X (.Name x pos) (tC v):=
 λ_ _ _ H _ I h=>mC I hg hm ⟨v,H,I,r,h⟩ hd
theorem Fe{x:Str}{v:V}{u:Value}{pos:Pos}(hg:Gl X x)(hm:X.mg x=none)(hv:bootBuiltins x=some u)(r:RelV v u)(hn:x≠"__name__":=by decide)(hd:(x==("__debug__" : Str))=false:=by decide):PE X (.Name x pos) (tC v):=
 λ_ _ _ H _ I h=>Fu I hg hm hv ⟨v,H,I,r,h⟩ hn hd
variable {a b:Expr}{ta tb:TE}{pos:Pos}
def PC(X:Cx)(op:CmpOp)(a b:Expr)(t:TE):Prop:=
 ∀(pins:List (Addr×Obj)) (s:Shared) (σ:St) (H:Hp) (Q:VK),Inv X pins σ H s->t σ H Q->
  wpAny (model X.prog X.w) X.A (eval a X.env) (λv s₁=>wpAny (model X.prog X.w) X.A (eval b X.env) (λu s₂=>wpAny (model X.prog X.w) X.A (compareOp op v u) (EP X pins σ Q) X.xe s₂) X.xe s₁) X.xe s
theorem S4(b:Expr){op:CmpOp}(h:op≠.In)(h2:op≠.NotIn):behindInMarks op b=false:=by
 have e1:(op==CmpOp.In)=false:=by cases op <;> first | rfl | exact absurd rfl h
 have e2:(op==CmpOp.NotIn)=false:=by cases op <;> first | rfl | exact absurd rfl h2
 cases b <;> simp[behindInMarks,e1,e2]
def tB(t:TE):TT:=λσ H Q=>t σ H λx H1=>∃c,x=.bl c/\Q c H1
theorem R7{op:CmpOp}{t:TE}(h:PC X op a b t)(h1:behindInMarks op b=false:=by first | exact S4 _ (by decide) (by decide) | rfl):PT X (.Compare a [op] [b] pos) (tB t):=by
 intro pins s σ H Q I hw
 refine wpAny_isTrue_Compare1 (dH (h pins s σ H _ I hw) λv s1 h1=>dH h1 λu s2 h2=>dH h2 λc s3 ⟨x,H1,I1,r1,q1⟩=>?_) h1
 obtain⟨d,rfl,q⟩:=q1
 cases r1
 exact uc ⟨H1,I1,q⟩
theorem R6{e:Expr}{t:TE}(h:PE X e t)(he:∀whole,isTrue e X.env whole=(do let v <-whole;standAt e.pos;holding [v] (truthy v)):=by intro _;rfl):PT X e (tB t):=by
 intro pins s σ H Q I hw
 refine isTrue_plain (dH (h pins s σ H _ I hw) λv s1 ⟨x,H1,I1,r1,q1⟩=>?_) (he _)
 obtain⟨d,rfl,q⟩:=q1
 cases r1
 exact uc ⟨H1,I1,q⟩
variable {tA Uh:TT}{rest:List Expr}
def Xw(t u:TT):TT:=λσ H Q=>t σ H λc H1=>if c=true then u σ H1 Q else Q false H1
def tOr(t u:TT):TT:=λσ H Q=>t σ H λc H1=>if c=true then Q true H1 else u σ H1 Q
def Xq(t:TT):TT:=λσ H Q=>t σ H λc H1=>Q (!c) H1
theorem Ve(ha:PT X a tA):PW X (.BoolOp .And [a] pos) tA:=by
 intro wh pins s σ H Q I h
 refine isTrue_and (dH (ha pins s σ H Q I h) λc s1 e=>?_)
 cases c with
 | true=>exact isTrue_and_nil e
 | false=>exact e
theorem X8(ha:PT X a tA):PW X (.BoolOp .Or [a] pos) tA:=by
 intro wh pins s σ H Q I h
 refine isTrue_or (dH (ha pins s σ H Q I h) λc s1 e=>?_)
 cases c with
 | false=>exact isTrue_or_nil e
 | true=>exact e
theorem X9(ha:PT X a tA)(hb:PW X (.BoolOp .And (b::rest) pos) Uh):PW X (.BoolOp .And (a::b::rest) pos) (Xw tA Uh):=by
 intro wh pins s σ H Q I h
 refine isTrue_and (dH (ha pins s σ H _ I h) λc s1 ⟨H1,I1,q1⟩=>?_)
 cases c with
 | true=>exact hb wh pins s1 σ H1 Q I1 q1
 | false=>exact⟨H1,I1,q1⟩
theorem aAt(ha:PT X a tA)(hb:PW X (.BoolOp .Or (b::rest) pos) Uh):PW X (.BoolOp .Or (a::b::rest) pos) (tOr tA Uh):=by
 intro wh pins s σ H Q I h
 refine isTrue_or (dH (ha pins s σ H _ I h) λc s1 ⟨H1,I1,q1⟩=>?_)
 cases c with
 | true=>exact⟨H1,I1,q1⟩
 | false=>exact hb wh pins s1 σ H1 Q I1 q1
theorem Yb(ha:PT X a tA):PT X (.UnaryOp .Not a pos) (Xq tA):=by
 intro pins s σ H Q I h
 exact isTrue_not (ha pins s σ H (λc H1=>Q (!c) H1) I h)
def Ru(ta tb:TE):TE:=λσ H Q=>ta σ H λx H1=>∃c,x=.bl c/\if c=true then tb σ H1 Q else Q (.bl false) H1
def Xp(ta tb:TE):TE:=λσ H Q=>ta σ H λx H1=>∃c,x=.bl c/\if c=true then Q (.bl true) H1 else tb σ H1 Q
def Rj(ta:TE):TE:=λσ H Q=>ta σ H λx H1=>∃c,x=.bl c/\Q (.bl (!c)) H1
theorem Yk{op}{t:TE}(h:PE X a t):PE X (.BoolOp op [a] pos) t:=λpins s σ H Q I hw=>BoolOp_one (h pins s σ H Q I hw)
theorem Yp(ha:PE X a ta)(hb:PE X (.BoolOp .And (b::rest) pos) tb):PE X (.BoolOp .And (a::b::rest) pos) (Ru ta tb):=by
 intro pins s σ H Q I h
 refine BoolOp_and (dH (ha pins s σ H _ I h) λv s1 ⟨x,H1,I1,r1,q1⟩=>?_)
 obtain⟨c,rfl,q1⟩:=q1
 cases r1
 refine uc ?_
 cases c with
 | true=>exact hb pins s1 σ H1 Q I1 q1
 | false=>exact⟨.bl false,H1,I1,rfl,q1⟩
theorem aAw(ha:PE X a ta)(hb:PE X (.BoolOp .Or (b::rest) pos) tb):PE X (.BoolOp .Or (a::b::rest) pos) (Xp ta tb):=by
 intro pins s σ H Q I h
 refine BoolOp_or (dH (ha pins s σ H _ I h) λv s1 ⟨x,H1,I1,r1,q1⟩=>?_)
 obtain⟨c,rfl,q1⟩:=q1
 cases r1
 refine uc ?_
 cases c with
 | false=>exact hb pins s1 σ H1 Q I1 q1
 | true=>exact⟨.bl true,H1,I1,rfl,q1⟩
theorem Yl(ha:PE X a ta):PE X (.UnaryOp .Not a pos) (Rj ta):=by
 intro pins s σ H Q I h
 refine UnaryOp_ (dH (ha pins s σ H _ I h) λv s1 ⟨x,H1,I1,r1,q1⟩=>?_)
 obtain⟨c,rfl,q1⟩:=q1
 cases r1
 exact not_of (uc ⟨.bl (!c),H1,I1,rfl,q1⟩)
def tIf(t:TT)(ta tb:TE):TE:=λσ H Q=>t σ H λc H1=>if c=true then ta σ H1 Q else tb σ H1 Q
end
end L2
namespace L2
open PySem PySem.Spec PyProof.Rows
def uZ(K:PySem.W.Frag)(H:Hp)(a:Addr)(xs:List V):Prop:=
 Rd H a (.lst xs)\/
  ∃(o:Obj) (its:Array Value) (n:Nat),K.lookup a=some o/\o.cls=.type "list"/\o.dict=none/\o.data=.seq its n/\its.size<=sizeLine/\Vals xs its.toList
def wV(K:PySem.W.Frag)(H:Hp)(a:Addr)(xs:List V):Prop:=
 Rd H a (.tup xs)\/
  ∃(o:Obj) (its:Array Value) (n:Nat),K.lookup a=some o/\o.cls=.type "tuple"/\o.data=.seq its n/\its.size<=sizeLine/\Vals xs its.toList
def aD8:Value->Option V
 | .none=>some .non
 | .bool b=>some (.bl b)
 | .int i _=>some (.int i)
 | .str x _=>some (.str x)
 | .bytes b _=>some (.QS b)
 | .float b _=>some (.Zi b)
 | .ref a=>some (.ref a)
 | .type n=>some (.ty n)
 | _=>none
theorem RelV.abs{x:V}{u:Value}(r:RelV x u):aD8 u=some x:=by
 cases x with
 | non=>cases r;rfl
 | bl _=>cases r;rfl
 | int _=>obtain⟨t,rfl⟩:=r;rfl
 | str _=>obtain⟨t,rfl⟩:=r;rfl
 | QS _=>obtain⟨t,rfl⟩:=r;rfl
 | Zi _=>obtain⟨t,rfl⟩:=r;rfl
 | ref _=>cases r;rfl
 | ty _=>cases r;rfl
theorem RelV.inj{x y:V}{u:Value}(r:RelV x u)(q:RelV y u):x=y:=gU (r.abs.symm.trans q.abs)
theorem Vals.inj:∀{xs ys:List V} {us:List Value},Vals xs us->Vals ys us->xs=ys
 | _,_,_,.nil,.nil=>rfl
 | _,_,_,.cons r t,.cons r' t'=>by rw[r.inj r',Vals.inj t t']
section
variable {X:Cx}{pins:List (Addr×Obj)}{σ:St}{H:Hp}{s:Shared}{a:Addr}{xs ys:List V}
theorem uZ.of{K:PySem.W.Frag}(h:H a=some (.lst xs)):uZ K H a xs:=.inl (.inl h)
theorem wV.of{K:PySem.W.Frag}(h:H a=some (.tup xs)):wV K H a xs:=.inl (.inl h)
theorem Inv.list(I:Inv X pins σ H s)(h:uZ X.K H a xs):∃its:List Value,Vals xs its/\PlainL s.heap a its.toArray/\xs.length<=sizeLine:=by
 rcases h with h | ⟨o,its,n,hk,hc,hd,hs,hz,r⟩
 ·obtain⟨z,its,n,r,e⟩:=h.ok I.cA
  exact⟨its,r,⟨_,n,e,rfl,rfl,rfl⟩,z⟩
 ·refine⟨its.toList,r,⟨o,n,I.o9 a o hk,hc,hd,by simpa using hs⟩,?_⟩
  have e:=r.length
  simp only[pX]at e
  lia
theorem Inv.tuple(I:Inv X pins σ H s)(h:wV X.K H a xs):∃its:List Value,Vals xs its/\IsTup s.heap a its.toArray/\xs.length<=sizeLine:=by
 rcases h with h | ⟨o,its,n,hk,hc,hs,hz,r⟩
 ·obtain⟨z,its,r,p⟩:=h.ok I.cA
  exact⟨its,r,p,z⟩
 ·refine⟨its.toList,r,⟨o,I.o9 a o hk,hc,n,by simpa using hs⟩,?_⟩
  have e:=r.length
  simp only[pX]at e
  lia
theorem Inv.Tf(I:Inv X pins σ H s)(h:uZ X.K H a xs)(h':uZ X.K H a ys):xs=ys:=by
 obtain⟨its,r,⟨o,n,e,_,_,d⟩,_⟩:=I.list h
 obtain⟨its',r',⟨o',n',e',_,_,d'⟩,_⟩:=I.list h'
 rw[e]at e';cases e'
 rw[d]at d'
 injection d' with d1 _
 have:its=its':=by simpa using ni Array.toList d1
 subst this
 exact r.inj r'
theorem Inv.O7(I:Inv X pins σ H s)(h:wV X.K H a xs)(h':wV X.K H a ys):xs=ys:=by
 obtain⟨its,r,⟨o,e,_,n,d⟩,_⟩:=I.tuple h
 obtain⟨its',r',⟨o',e',_,n',d'⟩,_⟩:=I.tuple h'
 rw[e]at e';cases e'
 rw[d]at d'
 injection d' with d1 _
 have:its=its':=by simpa using ni Array.toList d1
 subst this
 exact r.inj r'
end
abbrev Cx.wish(X:Cx)(E:Value->Shared->Prop):Cx:={ X with xe:=E }
abbrev Cx.Uj(X:Cx):Cx:=X.wish λ_ _=>False
theorem Cx.Ok.wish{X:Cx}(ok:X.Ok)(E:Value->Shared->Prop):(X.wish E).Ok:=
 ⟨ok.mod,ok.kind,ok.glob,ok.blt,ok.above,ok.inj,ok.has,ok.Wg,ok.hd,ok.frames,ok.Wu,ok.exf,ok.bs,ok.Oq,ok.Fg,ok.JG,ok.qI,ok.QR⟩
theorem Cx.Ok.qu{X:Cx}{E:Value->Shared->Prop}(ok:(X.wish E).Ok):X.Ok:=
 ⟨ok.mod,ok.kind,ok.glob,ok.blt,ok.above,ok.inj,ok.has,ok.Wg,ok.hd,ok.frames,ok.Wu,ok.exf,ok.bs,ok.Oq,ok.Fg,ok.JG,ok.qI,ok.QR⟩
section
variable {X:Cx}{pins:List (Addr×Obj)}{σ:St}{H:Hp}{s:Shared}{E:Value->Shared->Prop}
theorem Inv.wish(I:Inv X pins σ H s)(E:Value->Shared->Prop):Inv (X.wish E) pins σ H s:=⟨I.ok.wish E,I.os,I.bare,I.base,I.loc,I.cell,I.free,I.lu,I.pin,I.cA,I.len⟩
theorem Inv.qu(I:Inv (X.wish E) pins σ H s):Inv X pins σ H s:=⟨I.ok.qu,I.os,I.bare,I.base,I.loc,I.cell,I.free,I.lu,I.pin,I.cA,I.len⟩
theorem SP.qu{D:Ends}{f:Flow}{s':Shared}(h:SP (X.wish E) pins D f s'):SP X pins D f s':=by
 cases f with
 | next=>obtain⟨σ',H',I,q⟩:=h;exact⟨σ',H',I.qu,q⟩
 | brk=>obtain⟨σ',H',I,q⟩:=h;exact⟨σ',H',I.qu,q⟩
 | cont=>obtain⟨σ',H',I,q⟩:=h;exact⟨σ',H',I.qu,q⟩
 | ret u=>obtain⟨v,σ',H',I,r,q⟩:=h;exact⟨v,σ',H',I.qu,r,q⟩
theorem zU.Uj{st:List Stmt}{t:TS}(h:zU X.Uj st t):zU X st t:=λpins s σ H D I hw=>
 iX (h pins s σ H D (I.wish _) hw) (λ_ _ q=>q.qu) λ_ _ z=>False.elim z
end
section
variable {X:Cx}{st:Stmt}{rest:List Stmt}{t u:TS}{e:Expr}{te:TE}{pos:Pos}
def Np:TS:=λD σ H=>D.nx σ H
def tSeq(t u:TS):TS:=λD σ H=>t { D with nx:=u D } σ H
theorem Vh:zU X [] Np:=λ_ _ σ H _ I h=>D' ⟨σ,H,I,h⟩
theorem R8(h1:PS X st t)(h2:zU X rest u):zU X (st::rest) (tSeq t u):=by
 intro pins s σ H D I h
 refine wpAny_execs_cons (dH (h1 pins s σ H { D with nx:=u D } I h) λf s1 q=>?_)
 cases f with
 | next=>
  obtain⟨σ',H',I',q⟩:=q
  exact h2 pins s1 σ' H' D I' q
 | ret v=>exact q
 | brk=>exact q
 | cont=>exact q
theorem Vg(h1:PS X st t):zU X [st] t:=by
 intro pins s σ H D I h
 refine wpAny_execs_cons (dH (h1 pins s σ H D I h) λf s1 q=>?_)
 cases f with
 | next=>exact D' q
 | ret v=>exact q
 | brk=>exact q
 | cont=>exact q
theorem Inv.quiet{pins:List (Addr×Obj)}{σ:St}{H:Hp}{s:Shared}(I:Inv X pins σ H s):interactive X.env=false:=by simp[interactive,I.ok.kind]
def Rn(te:TE):TS:=λD σ H=>te σ H λ_ H1=>D.nx σ H1
theorem NC(he:PE X e te)(hs:swapsWith e none pos.line X.env=pure false:=by rfl):PS X (.Expr e pos) (Rn te):=by
 intro pins s σ H D I h
 exact wpAny_Expr_any (dH (he pins s σ H _ I h) λv s1 ⟨x,H1,I1,r1,q1⟩=>⟨σ,H1,I1,q1⟩) I.quiet hs
def Xo(te:TE):TS:=λD σ H=>te σ H D.rt
theorem Ye(he:PE X e te):PS X (.Return (some e) pos) (Xo te):=by
 intro pins s σ H D I h
 exact wpAny_Return_some (dH (he pins s σ H _ I h) λv s1 ⟨x,H1,I1,r1,q1⟩=>⟨x,σ,H1,I1,r1,q1⟩)
def aAa:TS:=λD _ H=>D.rt .non H
def UG(c:TT)(t u:TS):TS:=λD σ H=>c σ H λb H1=>if b=true then t D σ H1 else u D σ H1
theorem aAu{c:Expr}{a b:List Stmt}{tc:TT}(hc:PT X c tc)(ha:zU X a t)(hb:zU X b u):PS X (.If c a b pos) (UG tc t u):=by
 intro pins s σ H D I h
 refine wpAny_If (dH (hc pins s σ H _ I h) λd s1 ⟨H1,I1,q1⟩=>?_)
 cases d with
 | true=>exact ha pins s1 σ H1 D I1 q1
 | false=>exact hb pins s1 σ H1 D I1 q1
def Xr:TS:=λ_ _ _=>False
end
abbrev TG:=V->St->Hp->(St->Hp->Prop)->Prop
def PG(X:Cx)(target:Expr)(t:TG):Prop:=
 ∀(pins:List (Addr×Obj)) (s:Shared) (σ:St) (H:Hp) (v:V) (u:Value) (Q:St->Hp->Prop),Inv X pins σ H s->RelV v u->t v σ H Q->
  wpAny (model X.prog X.w) X.A (assign target X.env u) (λ_ s'=>∃σ' H',Inv X pins σ' H' s'/\Q σ' H') X.xe s
abbrev MP:=V->V->V->Hp->(Hp->Prop)->Prop
def Qt(X:Cx)(t:MP):Prop:=
 ∀(pins:List (Addr×Obj)) (s:Shared) (σ:St) (H:Hp) (o i v:V) (ov iv u:Value) (Q:Hp->Prop),Inv X pins σ H s->RelV o ov->RelV i iv->RelV v u->t o i v H Q->
  wpAny (model X.prog X.w) X.A (setItem ov iv u) (λ_ s'=>∃H',Inv X pins σ H' s'/\Q H') X.xe s
abbrev TIp:=V->V->Hp->VK->Prop
def PIp(X:Cx)(op:Operator)(t:TIp):Prop:=
 ∀(pins:List (Addr×Obj)) (s:Shared) (σ:St) (H:Hp) (x y:V) (v u:Value) (Q:VK),Inv X pins σ H s->RelV x v->RelV y u->t x y H Q->
  wpAny (model X.prog X.w) X.A (inplaceOp op v u) (EP X pins σ Q) X.xe s
section
variable {X:Cx}{pos:Pos}
def ll(i:Nat):TG:=λv σ H Q=>Q (σ.set i (some v)) H
theorem NR{i:Nat}{x:Str}(hN:X.N.Nodup)(hi:X.N[i]?=some x)(hx:Loc X.env.scope x)(hf:X.fn x=true\/X.env.scope.names.lookup x=some .local:=by first | exact .inl rfl | exact .inr rfl | assumption):PG X (.Name x pos) (ll i):=by
 intro pins s σ H v u Q I r h
 exact wpAny_assign_Name (um I hN hi hx r (λs' I'=>⟨_,H,I',h⟩) hf)
def Zg(to ti:TE)(t:MP):TG:=λv σ H Q=>to σ H λo H1=>ti σ H1 λi H2=>t o i v H2 λH3=>Q σ H3
theorem Sg{o i:Expr}{to ti:TE}{t:MP}(ho:PE X o to)(hi:PE X i ti)(hs:Qt X t)
  (ha:∀v,assign (.Subscript o i pos) X.env v=(do
   let ov <-holding [v] (eval o X.env)
   let iv <-holding [v,ov] (eval i X.env)
   standAt pos
   holding [v,ov,iv] (setItem ov iv v)
   release [v,ov,iv] []):=by intro _;rfl):PG X (.Subscript o i pos) (Zg to ti t):=by
 intro pins s σ H v u Q I r h
 rw[ha]
 refine aL (lR (dH (ho pins s σ H _ I h) λov s1 ⟨x,H1,I1,r1,q1⟩=>?_))
 refine aL (lR (dH (hi pins s1 σ H1 _ I1 q1) λiv s2 ⟨y,H2,I2,r2,q2⟩=>?_))
 refine aL (u3 (aL (lR (dH (hs pins s2 σ H2 x y v ov iv u _ I2 r1 r2 r q2) λ_ s3 ⟨H3,I3,q3⟩=>?_))))
 exact wpAny_release ⟨σ,H3,I3,q3⟩
def O8(te:TE)(g:TG):TS:=λD σ H=>te σ H λx H1=>g x σ H1 D.nx
theorem Fd{tg e:Expr}{te:TE}{g:TG}(he:PE X e te)(hg:PG X tg g)(hs:swapsWithSole [tg] e pos.line X.env=pure false:=by rfl)(hw:swappedStores [tg] e X.env=pure none:=by rfl)
  (h1:(assignEach [tg] X.env).map (·.2)=[assign tg X.env]:=by rfl):PS X (.Assign [tg] e pos) (O8 te g):=by
 intro pins s σ H D I h
 refine wpAny_Assign_stores (dH (he pins s σ H _ I h) λv s1 ⟨x,H1,I1,r1,q1⟩=>?_) hs hw
 rw[h1]
 exact dH (hg pins s1 σ H1 x v _ I1 r1 q1) λ_ s2 q=>q
theorem Yd{i:Nat}{x:Str}{e:Expr}{te:TE}{pos':Pos}(hN:X.N.Nodup)(hi:X.N[i]?=some x)(hx:Loc X.env.scope x)(he:PE X e te)(hs:swapsWith e (some (.Name x pos')) pos.line X.env=pure false:=by rfl)(hf:X.fn x=true\/X.env.scope.names.lookup x=some .local:=by first | exact .inl rfl | exact .inr rfl | assumption) :
  PS X (.Assign [.Name x pos'] e pos) (O8 te (ll i)):=by
 intro pins s σ H D I h
 refine wpAny_Assign_Name (dH (he pins s σ H _ I h) λv s1 ⟨y,H1,I1,r1,q1⟩=>?_) hs
 exact um I1 hN hi hx r1 (λs2 I2=>⟨_,H1,I2,q1⟩) hf
def aBM(i:Nat)(te:TE)(ti:TIp):TS:=λD σ H=>∃x,σ[i]?=some (some x)/\te σ H λy H1=>ti x y H1 λz H2=>D.nx (σ.set i (some z)) H2
def Rt(to ti te:TE)(K1:V->V->Hp->VK->Prop)(Xj:TIp)(K0:MP):TS:=λD σ H=>to σ H λo H1=>ti σ H1 λi H2=>K1 o i H2 λx H3=>te σ H3 λy H4=>Xj x y H4 λz H5=>K0 o i z H5 λH6=>D.nx σ H6
def ZJ(X:Cx)(t:V->V->Hp->VK->Prop):Prop:=
 ∀(pins:List (Addr×Obj)) (s:Shared) (σ:St) (H:Hp) (o i:V) (ov iv:Value) (Q:VK),Inv X pins σ H s->RelV o ov->RelV i iv->t o i H Q->
  wpAny (model X.prog X.w) X.A (getItem ov iv) (EP X pins σ Q) X.xe s
theorem NK{o i e:Expr}{to ti te:TE}{K1:V->V->Hp->VK->Prop}{Xj:TIp}{K0:MP}{op:Operator}{Rf:Pos}(ho:PE X o to)(hi:PE X i ti)(hg:ZJ X K1)(he:PE X e te)(hp:PIp X op Xj)(hs:Qt X K0)
  (ha:∀ov iv new,augStore i ov iv new=(do holding [new,ov,iv] (setItem ov iv new);release [new,ov,iv] [];pure .next):=by intros;rfl):PS X (.AugAssign (.Subscript o i Rf) op e pos) (Rt to ti te K1 Xj K0):=by
 intro pins s σ H D I h
 refine wpAny_AugAssign_SubscriptAny (dH (ho pins s σ H _ I h) λov s1 ⟨x1,H1,I1,r1,q1⟩=>?_) ha
 refine dH (hi pins s1 σ H1 _ I1 q1) λiv s2 ⟨x2,H2,I2,r2,q2⟩=>?_
 refine dH (hg pins s2 σ H2 x1 x2 ov iv _ I2 r1 r2 q2) λold s3 ⟨x3,H3,I3,r3,q3⟩=>?_
 refine dH (he pins s3 σ H3 _ I3 q3) λv s4 ⟨x4,H4,I4,r4,q4⟩=>?_
 refine dH (hp pins s4 σ H4 x3 x4 old v _ I4 r3 r4 q4) λnew s5 ⟨x5,H5,I5,r5,q5⟩=>?_
 exact dH (hs pins s5 σ H5 x1 x2 x5 ov iv new _ I5 r1 r2 r5 q5) λ_ s6 ⟨H6,I6,q6⟩=>⟨σ,H6,I6,q6⟩
def ipI(f:Int->Int->Int):TIp:=λx y H Q=>∃i j,x=.int i/\y=.int j/\Q (.int (f i j)) H
theorem Y2:PIp X .Add (ipI λi j=>i+j):=by
 intro pins s σ H x y v u Q I r1 r2 h
 obtain⟨i,j,e1,e2,q⟩:=h
 subst e1;subst e2
 obtain⟨t,rfl⟩:=r1
 obtain⟨t',rfl⟩:=r2
 exact iadd_int ⟨.int _,H,I.tok _,⟨_,rfl⟩,q⟩
theorem Y1:PIp X .Sub (ipI λi j=>i-j):=by
 intro pins s σ H x y v u Q I r1 r2 h
 obtain⟨i,j,e1,e2,q⟩:=h
 subst e1;subst e2
 obtain⟨t,rfl⟩:=r1
 obtain⟨t',rfl⟩:=r2
 exact isub_int ⟨.int _,H,I.tok _,⟨_,rfl⟩,q⟩
def K3(c:TT)(tb:TS):TS:=λD σ H=>∃W:Nat->St->Hp->Prop,(∃m,W m σ H)/\∀m σ H,W m σ H->
 c σ H λb H1=>if b=true then ∃N:St->Hp->Prop,(∀σ' H',N σ' H'->∃m',m'<m/\W m' σ' H')/\tb { D with nx:=N,ct:=N,bk:=D.nx } σ H1 else D.nx σ H1
theorem R9{c:Expr}{body:List Stmt}{tc:TT}{tb:TS}(hp:PassesOwn (model X.prog X.w) X.A X.env X.xe)(hc:PT X c tc)(hb:zU X body tb):PS X (.While c body [] pos) (K3 tc tb):=by
 intro pins s σ H D I h
 obtain⟨W,⟨m0,w0⟩,turn⟩:=h
 refine wpAny_While (codeAny_whileLoop (λn s'=>∃σ' H',Inv X pins σ' H' s'/\W n σ' H') ?_ m0 ⟨σ,H,I,w0⟩)
 rintro n s1 ⟨σ1,H1,I1,w1⟩
 refine xj hp (dH (hc pins s1 σ1 H1 _ I1 (turn n σ1 H1 w1)) λb s2 ⟨H2,I2,q2⟩=>?_)
 cases b with
 | true=>
  obtain⟨N,hN,q2⟩:=q2
  rw[bH rfl]
  refine xj hp (dH (hb pins s2 σ1 H2 _ I2 q2) λf s3 q3=>?_)
  cases f with
  | next=>
   obtain⟨σ3,H3,I3,n3⟩:=q3
   obtain⟨m',hm,w3⟩:=hN σ3 H3 n3
   exact⟨m',hm,σ3,H3,I3,w3⟩
  | cont=>
   obtain⟨σ3,H3,I3,n3⟩:=q3
   obtain⟨m',hm,w3⟩:=hN σ3 H3 n3
   exact⟨m',hm,σ3,H3,I3,w3⟩
  | brk=>exact q3
  | ret v=>exact q3
 | false=>
  rw[aR gW]
  exact D' ⟨σ1,H2,I2,q2⟩
end
structure It where
 go:Nat->Hp->Prop
 O2:Nat->Hp->V->Hp->Prop
 stop:Nat->Hp->Prop
def Gi(X:Cx)(pins:List (Addr×Obj))(H:Hp)(b:Addr):Prop:=
 H b=none/\b≠X.env.locals/\b∉X.fs/\(b∈X.ex\/X.s₀.heap.objs.size<=b)/\(∀x c,X.env.cells.lookup x=some c->c≠b)/\∀p∈X.pn++pins,p.1≠b
theorem Inv.V7{X:Cx}{pins:List (Addr×Obj)}{σ:St}{H H':Hp}{s:Shared}{b:Addr}(I:Inv X pins σ H s)(hb:s.heap.objs.size<=b)(hn:H' b=none):Gi X pins H' b:=by
 refine⟨hn,xh (ky I.lt hb),I.aCM hb,.inr (jY I.sz hb),λx c e z=>?_,λp hp z=>?_⟩
 ·obtain⟨v,q⟩:=I.cell x c e
  exact absurd (ky q.lt (by rw[z];exact hb)) (t7 _)
 ·exact absurd (ky (cp (I.pin p hp).1) (by rw[z];exact hb)) (t7 _)
structure Turn(P:Program)(w:World)(K:PySem.W.Frag)(tg:Expr)(J:It)(fp:List Addr)(it:Addr)(tn:Nat->Heap->Prop):Prop where
 mem:it∈fp
 obj:∀i h,tn i h->∀b∈fp,∃o,h.get? b=some o/\∀v,o.data≠.cell v
 keep:∀i h h',tn i h->(∀b∈fp,∀o,h.get? b=some o->h'.get? b=some o)->tn i h'
 item:∀(X:Cx),X.prog=P->X.w=w->X.K=K->X.calm=true->∀(i:Nat) (pins:List (Addr×Obj)) (s:Shared) (σ:St) (H:Hp) (E:Value->Shared->Prop),Inv X pins σ H s->(∀b∈fp,Gi X pins H b)->tn i s.heap->J.go i H->
  wpAny (model P w) X.A (pyNext (.ref it)) (λr s1=>∃u,r=some u/\
   wpAny (model P w) X.A (letOwnedTupleGo tg (.ref it) u) (λ_ s2=>∃x H',Inv X pins σ H' s2/\RelV x u/\J.O2 i H x H'/\tn (i+1) s2.heap/\∀b∈fp,H' b=none) E s1) E s
 done:∀(X:Cx),X.prog=P->X.w=w->X.K=K->X.calm=true->∀(i:Nat) (pins:List (Addr×Obj)) (s:Shared) (σ:St) (H:Hp) (E:Value->Shared->Prop),Inv X pins σ H s->(∀b∈fp,Gi X pins H b)->tn i s.heap->J.stop i H->
  wpAny (model P w) X.A (pyNext (.ref it)) (λr s1=>r=none/\Inv X pins σ H s1) E s
 self:∀(A:Around) (i:Nat) (s:Shared) (Q:Value->Shared->Prop) (E:Value->Shared->Prop),tn i s.heap->Q (.ref it) s->wpAny (model P w) A (pyIter (.ref it)) Q E s
abbrev TI:=St->Hp->(It->Hp->Prop)->Prop
def PIE(X:Cx)(pins:List (Addr×Obj))(σ:St)(tg:Expr)(R:It->Hp->Prop)(itv:Value)(s2:Shared):Prop:=
 ∃(it:Addr) (fp:List Addr) (tn:Nat->Heap->Prop) (J:It) (H':Hp),itv=.ref it/\Inv X pins σ H' s2/\Turn X.prog X.w X.K tg J fp it tn/\tn 0 s2.heap/\(∀b∈fp,Gi X pins H' b)/\R J H'
def PI(X:Cx)(tg iter:Expr)(wi:TI):Prop:=
 ∀(pins:List (Addr×Obj)) (s:Shared) (σ:St) (H:Hp) (R:It->Hp->Prop),Inv X pins σ H s->wi σ H R->
  wpAny (model X.prog X.w) X.A (eval iter X.env) (λv s1=>wpAny (model X.prog X.w) X.A (pyIter v) (PIE X pins σ tg R) X.xe s1) X.xe s
theorem Oc{M : Model}{A : Around}{E : Value → Shared → Prop}{s : Shared}{tg : Expr}{it : Addr}{u : Value}{o : Obj}{n : String}{vs : Array Value}{Q : Unit → Shared → Prop}(ho : s.heap.get? it=some o)(hc : o.cls=.type n)(hd : o.data=.fields vs)
    (hn : ["enumerate", "zip", "dict_itemiterator", "dict_reverseitemiterator", "odict_iterator", "itertools.zip_longest", "itertools.pairwise"].contains n=false) (hQ : Q () s) : wpAny M A (letOwnedTupleGo tg (.ref it) u) Q E s := by
  unfold letOwnedTupleGo
  cases tg <;> first
    | exact bx hQ
    | (cases u <;> first
        | exact bx hQ
        | (refine aL (wpAny_load ho ?_)
           rw[hc, hd]
           show wpAny M A (if (["enumerate", "zip", "dict_itemiterator", "dict_reverseitemiterator", "odict_iterator", "itertools.zip_longest", "itertools.pairwise"].contains n&&vs[0]? == some (rawInt _))=true then _ else _) Q E s
           rw[aR (by intro h; rw[hn, Bool.false_and]at h; cases h)]
           exact bx hQ))
def Qu(K:PySem.W.Frag)(a:Addr):It:=
 ⟨λi H=>∃xs x,uZ K H a xs/\xs[i]?=some x,λi H x H'=>H'=H/\∀xs,uZ K H a xs->xs[i]?=some x,λi H=>∃xs,uZ K H a xs/\xs.length<=i⟩
def ZM(K:PySem.W.Frag)(a:Addr):It:=
 ⟨λi H=>∃xs x,wV K H a xs/\xs[i]?=some x,λi H x H'=>H'=H/\∀xs,wV K H a xs->xs[i]?=some x,λi H=>∃xs,wV K H a xs/\xs.length<=i⟩
def J6(lo:Int)(n:Nat):It:=⟨λi _=>i<n,λi H x H'=>H'=H/\x=.int (lo+i),λi _=>n<=i⟩
theorem O6{P:Program}{w:World}{K:PySem.W.Frag}{tg:Expr}(a it:Addr):Turn P w K tg (Qu K a) [it] it (λi h=>h.IsListIter it a i) where
 mem:=by simp
 obj:=λi h st b hb=>by
  have e:b=it:=by simpa using hb
  subst e
  obtain⟨o,e,c,d⟩:=st
  exact⟨o,e,λv z=>by rw[d]at z;cases z⟩
 keep:=λi h h' st k=>st.at λo e=>k it (by simp) o e
 item:=by
  intro X hP hw hK hc i pins s σ H E I hf st hg
  subst hP hw hK
  obtain⟨xs,x,hq,hx⟩:=hg
  obtain⟨its,rv,p,hz⟩:=I.list hq
  obtain⟨u,hu,ru⟩:=rv.get hx
  obtain⟨f0,f1,f2,f3,f4,f5⟩:=hf it (by simp)
  refine wpAny_pyNext_list_item st p.isList (x:=u) (by simpa using hu) λh' Kb sb=>?_
  have I1:Inv X pins σ H { s with heap:=h' }:=I.turned (t':=s.toks) (λb o hb e=>(sb.2 b hb).trans e) f0 f1 f3 f4 f5
  obtain⟨o,e,c,d⟩:=id Kb
  exact⟨u,rfl,Oc (s:={ s with heap:=h' }) e c d (by decide) ⟨x,H,I1,ru,⟨rfl,λys hy=>by rw[I.Tf hy hq];exact hx⟩,Kb,λb hb=>(hf b hb).1⟩⟩
 done:=by
  intro X hP hw hK hc i pins s σ H E I hf st hg
  subst hP hw hK
  obtain⟨xs,hq,hx⟩:=hg
  obtain⟨its,rv,p,hz⟩:=I.list hq
  obtain⟨f0,f1,f2,f3,f4,f5⟩:=hf it (by simp)
  have hl:=rv.length
  exact wpAny_pyNext_list_end (I.ok.hd hc) st p.isList (by simp;lia) λh' eb=>⟨rfl,I.turned (t':=s.toks) (λb o hb e=>eb b o hb e) f0 f1 f3 f4 f5⟩
 self:=λ_ _ _ _ _ st h=>wpAny_pyIter_listiter st h
theorem KY{P:Program}{w:World}{K:PySem.W.Frag}{tg:Expr}(a it:Addr):Turn P w K tg (ZM K a) [it] it (λi h=>h.IsTupleIter it a i) where
 mem:=by simp
 obj:=λi h st b hb=>by
  have e:b=it:=by simpa using hb
  subst e
  obtain⟨o,e,c,d⟩:=st
  exact⟨o,e,λv z=>by rw[d]at z;cases z⟩
 keep:=λi h h' st k=>st.at λo e=>k it (by simp) o e
 item:=by
  intro X hP hw hK hc i pins s σ H E I hf st hg
  subst hP hw hK
  obtain⟨xs,x,hq,hx⟩:=hg
  obtain⟨its,rv,p,hz⟩:=I.tuple hq
  obtain⟨u,hu,ru⟩:=rv.get hx
  obtain⟨f0,f1,f2,f3,f4,f5⟩:=hf it (by simp)
  refine wpAny_pyNext_tuple_item st (show s.heap.IsTuple a its.toArray from p) (x:=u) (by simpa using hu) λh' Kb sb=>?_
  have I1:Inv X pins σ H { s with heap:=h' }:=I.turned (t':=s.toks) (λb o hb e=>(sb.2 b hb).trans e) f0 f1 f3 f4 f5
  obtain⟨o,e,c,d⟩:=id Kb
  exact⟨u,rfl,Oc (s:={ s with heap:=h' }) e c d (by decide) ⟨x,H,I1,ru,⟨rfl,λys hy=>by rw[I.O7 hy hq];exact hx⟩,Kb,λb hb=>(hf b hb).1⟩⟩
 done:=by
  intro X hP hw hK hc i pins s σ H E I hf st hg
  subst hP hw hK
  obtain⟨xs,hq,hx⟩:=hg
  obtain⟨its,rv,p,hz⟩:=I.tuple hq
  obtain⟨f0,f1,f2,f3,f4,f5⟩:=hf it (by simp)
  have hl:=rv.length
  exact wpAny_pyNext_tuple_end (I.ok.hd hc) st (show s.heap.IsTuple a its.toArray from p) (by simp;lia) λh' eb=>⟨rfl,I.turned (t':=s.toks) (λb o hb e=>eb b o hb e) f0 f1 f3 f4 f5⟩
 self:=λ_ _ _ _ _ st h=>wpAny_pyIter_tupleiter st h
theorem KZ{P:Program}{w:World}{K:PySem.W.Frag}{tg:Expr}(it:Addr)(lo:Int)(n:Nat):Turn P w K tg (J6 lo n) [it] it (λi h=>IsRangeIter h it (lo+(i:Nat)*1) ((n:Int)-(i:Nat)) 1) where
 mem:=by simp
 obj:=λi h st b hb=>by
  have e:b=it:=by simpa using hb
  subst e
  exact⟨_,st,λv z=>by
   have z':Data.fields _=Data.cell v:=z
   cases z'⟩
 keep:=λi h h' st k=>k it (by simp) _ st
 item:=by
  intro X hP hw hK hc i pins s σ H E I hf st hg
  subst hP hw hK
  obtain⟨f0,f1,f2,f3,f4,f5⟩:=hf it (by simp)
  have W:=Walks.range (prog:=X.prog) (w:=X.w) (I.ok.hd hc) it lo 1 n
  refine W.item i s _ _ hg st λv h' tk hv Kb kk=>?_
  obtain⟨t,rfl⟩:=hv
  have I1:Inv X pins σ H { s with heap:=h',toks:=tk }:=I.turned (λb o hb e=>kk b o (by simpa using hb) e) f0 f1 f3 f4 f5
  refine⟨_,rfl,Oc (s:={ s with heap:=h',toks:=tk }) (n:="range_iterator") Kb rfl rfl (by decide) ⟨.int (lo+i),H,I1,⟨t,?_⟩,⟨rfl,rfl⟩,Kb,λb hb=>(hf b hb).1⟩⟩
  rw[Int.mul_one]
 done:=by
  intro X hP hw hK hc i pins s σ H E I hf st hg
  subst hP hw hK
  obtain⟨f0,f1,f2,f3,f4,f5⟩:=hf it (by simp)
  exact wpAny_pyNext_range_end (I.ok.hd hc) st (by have:n<=i:=hg;lia) λh' eb=>⟨rfl,I.turned (t':=s.toks) (λb o hb e=>eb b o hb e) f0 f1 f3 f4 f5⟩
 self:=λ_ _ _ _ _ st h=>wpAny_pyIter_rangeiter st h
end L2
namespace L2
open PySem PySem.Spec PyProof.Rows
section
variable {X:Cx}{tg:Expr}
def Tn(K:PySem.W.Frag)(tl:TE):TI:=λσ H R=>tl σ H λx H1=>∃a,x=.ref a/\(∃xs,uZ K H1 a xs)/\R (Qu K a) H1
def Y3(K:PySem.W.Frag)(tl:TE):TI:=λσ H R=>tl σ H λx H1=>∃a,x=.ref a/\(∃xs,wV K H1 a xs)/\R (ZM K a) H1
theorem Vn{l:Expr}{tl:TE}(hl:PE X l tl):PI X tg l (Tn X.K tl):=by
 intro pins s σ H R I h
 refine dH (hl pins s σ H _ I h) λv s1 ⟨x,H1,I1,r1,q1⟩=>?_
 obtain⟨a,e,⟨xs,hq⟩,q⟩:=q1
 subst e
 cases r1
 obtain⟨its,rv,p,hz⟩:=I1.list hq
 refine wpAny_pyIter_list p.isList ?_
 refine⟨s1.heap.objs.size,[s1.heap.objs.size],_,_,H1,rfl,I1.kept (t':=s1.toks) λb o e=>dZ _ e,O6 a _,⟨_,kz _ rfl,rfl,rfl⟩,λb hb=>?_,q⟩
 have e:b=s1.heap.objs.size:=by simpa using hb
 subst e
 exact I1.V7 (bW _) (I1.cA.fresh (bW _))
theorem Yh{l:Expr}{tl:TE}(hl:PE X l tl):PI X tg l (Y3 X.K tl):=by
 intro pins s σ H R I h
 refine dH (hl pins s σ H _ I h) λv s1 ⟨x,H1,I1,r1,q1⟩=>?_
 obtain⟨a,e,⟨xs,hq⟩,q⟩:=q1
 subst e
 cases r1
 obtain⟨its,rv,p,hz⟩:=I1.tuple hq
 refine wpAny_pyIter_tuple (show s1.heap.IsTuple a its.toArray from p) ?_
 refine⟨s1.heap.objs.size,[s1.heap.objs.size],_,_,H1,rfl,I1.kept (t':=s1.toks) λb o e=>dZ _ e,KY a _,⟨_,kz _ rfl,rfl,rfl⟩,λb hb=>?_,q⟩
 have e:b=s1.heap.objs.size:=by simpa using hb
 subst e
 exact I1.V7 (bW _) (I1.cA.fresh (bW _))
theorem RZ{pins:List (Addr×Obj)}{σ:St}{H:Hp}{s:Shared}{R:It->Hp->Prop}{E:Value->Shared->Prop}{lo hi:Int}{t u v:Tok}{tk:Nat}(I:Inv X pins σ H s)(h1 : -(2 ^ 62)<=lo)(h2:lo<2 ^ 62)(h3 : -(2 ^ 62)<=hi)(h4:hi<2 ^ 62)
  (q:R (J6 lo (hi-lo).toNat) H):wpAny (model X.prog X.w) X.A (pyIter (.ref s.heap.objs.size)) (PIE X pins σ tg R) E { s with heap:=s.heap.push { cls:=.type "range",data:=.fields #[.int lo t,.int hi u,.int 1 v] },toks:=tk }:=by
 refine wpAny_pyIter_range (IsRange.new ..) (small_one h1 h2 h3 h4) ?_
 have I1:Inv X pins σ H { s with heap:=s.heap.push { cls:=.type "range",data:=.fields #[.int lo t,.int hi u,.int 1 v] },toks:=tk }:=I.kept λb o e=>dZ _ e
 refine⟨(s.heap.push { cls:=.type "range",data:=.fields #[.int lo t,.int hi u,.int 1 v] }).objs.size,[(s.heap.push { cls:=.type "range",data:=.fields #[.int lo t,.int hi u,.int 1 v] }).objs.size],_,_,H,rfl,
  I1.kept (t':=tk) λb o e=>dZ _ e,KZ _ lo (hi-lo).toNat,?_,λb hb=>?_,q⟩
 ·have e1:lo+((0:Nat):Int)*1=lo:=by simp
  have e2:(((hi-lo).toNat:Nat):Int)-((0:Nat):Int)=Builtin.Range.rangeSize lo hi 1:=by rw[rangeSize_one];split <;> lia
  show IsRangeIter _ _ (lo+((0:Nat):Int)*1) ((((hi-lo).toNat:Nat):Int)-((0:Nat):Int)) 1
  rw[e1,e2]
  exact kz _ rfl
 ·have e:b=(s.heap.push { cls:=.type "range",data:=.fields #[.int lo t,.int hi u,.int 1 v] }).objs.size:=by simpa using hb
  subst e
  exact I1.V7 (bW _) (I1.cA.fresh (bW _))
def Tj(ta:TA):TI:=λσ H R=>ta σ H λvs H1=>∃j:Int,vs=[.int j]/\-(2 ^ 62)<=j/\j<2 ^ 62/\R (J6 0 j.toNat) H1
def aAR(ta:TA):TI:=λσ H R=>ta σ H λvs H1=>∃i j:Int,vs=[.int i,.int j]/\(-(2 ^ 62)<=i/\i<2 ^ 62/\-(2 ^ 62)<=j/\j<2 ^ 62)/\R (J6 i (j-i).toNat) H1
theorem Cg{a:Expr}{ta:TA}{p pos:Pos}(hg:Gl X "range")(hm:X.mg "range" = none)(ha:PA X [a] ta)(hs:starEach [a] X.env=[(false,eval a X.env)]:=by rfl):PI X tg (.Call (.Name "range" p) [a] [] pos) (Tj ta):=by
 intro pins s σ H R I h
 refine Call_ (Fu I hg hm boot_range (PyProof.Rows.callWith_type1 (dH (ha pos pins s σ H _ I h) λus s1 ⟨vs,H1,I1,r1,q1⟩=>?_) hs rfl))
 obtain⟨j,e,q1,q2,q⟩:=q1
 subst e
 cases r1 with
 | cons r rr=>
  cases rr
  obtain⟨t,rfl⟩:=r
  exact call_range_1 (RZ I1 (by lia) (by lia) q1 q2 (by simpa using q))
def UL(wi:TI)(g:TG)(tb:TS):TS:=λD σ H=>wi σ H λJ H1=>∃W:Nat->Nat->St->Hp->Prop,(∃m,W 0 m σ H1)/\∀i m σ H,W i m σ H->
 (J.stop i H/\D.nx σ H)\/(J.go i H/\∃N:St->Hp->Prop,(∀σ' H',N σ' H'->∃m',m'<m/\W (i+1) m' σ' H')/\∀x H',J.O2 i H x H'->g x σ H' λσ2 H2=>tb { D with nx:=N,ct:=N,bk:=D.nx } σ2 H2)
def yZ(fp:List Addr)(h:Heap):List (Addr×Obj):=fp.filterMap λb=>(h.get? b).map λo=>(b,o)
theorem oO{fp:List Addr}{h:Heap}{b:Addr}{o:Obj}(hb:b∈fp)(e:h.get? b=some o):(b,o)∈yZ fp h:=List.mem_filterMap.mpr ⟨b,hb,by rw[e];rfl⟩
theorem Pz{fp:List Addr}{h:Heap}{p:Addr×Obj}(hp:p∈yZ fp h):p.1∈fp/\h.get? p.1=some p.2:=by
 obtain⟨b,hb,e⟩:=List.mem_filterMap.mp hp
 cases q:h.get? b with
 | none=>rw[q]at e;cases e
 | some o=>
  rw[q]at e
  have e':(b,o)=p:=gU e
  subst e'
  exact⟨hb,q⟩
theorem Inv.pinned{pins:List (Addr×Obj)}{σ:St}{H:Hp}{s:Shared}{fp:List Addr}(I:Inv X pins σ H s)(hf:∀b∈fp,Gi X pins H b)(ho:∀b∈fp,∃o,s.heap.get? b=some o/\∀v,o.data≠.cell v):Inv X (pins++yZ fp s.heap) σ H s:=
 I.NP λp hp=>(nR.mp hp).elim (λz=>I.pin p (nj _ z)) λz=>by
  obtain⟨hb,e⟩:=Pz z
  obtain⟨f0,f1,f2,_⟩:=hf p.1 hb
  obtain⟨o,e',d⟩:=ho p.1 hb
  rw[e]at e';cases e'
  exact⟨e,f0,f1,f2,d⟩
theorem Inv.uj{pins pl:List (Addr×Obj)}{σ:St}{H:Hp}{s:Shared}(I:Inv X (pins++pl) σ H s):Inv X pins σ H s:=I.NP λp hp=>I.pin p (nj _ (vH _ hp))
theorem Yg{iter:Expr}{body:List Stmt}{wi:TI}{g:TG}{tb:TS}{pos:Pos}(hp:PassesOwn (model X.prog X.w) X.A X.env X.xe)(hc:X.calm=true)(hi:PI X tg iter wi)(hg:PG X tg g)(hb:zU X body tb)
  (hs:∀x,foldedSetIterable iter X.env x=pure x:=by intro _;rfl):PS X (.For tg iter body [] pos) (UL wi g tb):=by
 intro pins s σ H D I h
 refine wpAny_For (dH (hi pins s σ H _ I h) λv s1 h1=>dH h1 λitv s2 h2=>?_) hs
 obtain⟨it,fp,tn,J,H2,e,I2,T,Wv,f2,W,⟨m0,w0⟩,turn⟩:=h2
 subst e
 have stat:∀{H':Hp},(∀b∈fp,H' b=none)->∀b∈fp,Gi X pins H' b:=λhn b hb=>⟨hn b hb,(f2 b hb).2⟩
 refine codeAny_forLoop_any (λn s'=>∃i σ' H',Inv X pins σ' H' s'/\tn i s'.heap/\(∀b∈fp,H' b=none)/\W i n σ' H') ?_ m0 ⟨0,σ,H2,I2,Wv,λb hb=>(f2 b hb).1,w0⟩
 rintro n s3 ⟨i,σ3,H3,I3,st3,fr3,w3⟩
 rcases turn i n σ3 H3 w3 with ⟨stop,qn⟩ | ⟨go,N,hN,step⟩
 ·refine xj hp (dH (T.done X rfl rfl rfl hc i pins s3 σ3 H3 X.xe I3 (stat fr3) st3 stop) λr s4 ⟨hr,I4⟩=>?_)
  subst hr
  exact D' ⟨σ3,H3,I4,qn⟩
 ·refine xj hp (dH (T.item X rfl rfl rfl hc i pins s3 σ3 H3 X.xe I3 (stat fr3) st3 go) λr s4 ⟨u,hr,h4⟩=>?_)
  subst hr
  refine xj hp (dH h4 λ_ s5 ⟨x,H5,I5,r5,y5,st5,fr5⟩=>?_)
  have I5':=I5.pinned (stat fr5) (T.obj _ _ st5)
  refine xj hp (dH (hg _ s5 σ3 H5 x u _ I5' r5 (step x H5 y5)) λ_ s6 ⟨σ6,H6,I6,q6⟩=>?_)
  refine xj hp (dH (hb _ s6 σ6 H6 _ I6 q6) λf s7 q7=>?_)
  have again:∀{σ7:St} {H7:Hp},Inv X (pins++yZ fp s5.heap) σ7 H7 s7->N σ7 H7->∃m,m<n/\∃i σ' H',Inv X pins σ' H' s7/\tn i s7.heap/\(∀b∈fp,H' b=none)/\W i m σ' H':=λ{σ7 H7} I7 n7=>by
   obtain⟨m',hm,w7⟩:=hN σ7 H7 n7
   refine⟨m',hm,i+1,σ7,H7,I7.uj,T.keep _ _ _ st5 λb hb o e=>(I7.pin (b,o) (nj _ (nj _ (oO hb e)))).1,λb hb=>?_,w7⟩
   obtain⟨o,e,d⟩:=T.obj _ _ st5 b hb
   exact(I7.pin (b,o) (nj _ (nj _ (oO hb e)))).2.1
  cases f with
  | next=>obtain⟨σ7,H7,I7,n7⟩:=q7;exact again I7 n7
  | cont=>obtain⟨σ7,H7,I7,n7⟩:=q7;exact again I7 n7
  | brk=>obtain⟨σ7,H7,I7,q7⟩:=q7;exact⟨σ7,H7,I7.uj,q7⟩
  | ret v=>obtain⟨x7,σ7,H7,I7,r7,q7⟩:=q7;exact⟨x7,σ7,H7,I7.uj,r7,q7⟩
end
theorem Tv{K:PySem.W.Frag}{a:Addr}{xs:List V}{g:TG}{tb:TS}{D:Ends}{σ:St}{H:Hp}(Pv:Nat->St->Hp->Prop)(h0:Pv 0 σ H)(hl:∀i σ H,i<=xs.length->Pv i σ H->uZ K H a xs)
  (hs:∀i x σ H,xs[i]?=some x->Pv i σ H->g x σ H λσ2 H2=>tb { D with nx:=Pv (i+1),ct:=Pv (i+1),bk:=D.nx } σ2 H2) (hd:∀σ H,Pv xs.length σ H->D.nx σ H) :
  ∃W:Nat->Nat->St->Hp->Prop,(∃m,W 0 m σ H)/\∀i m σ H,W i m σ H->
   ((Qu K a).stop i H/\D.nx σ H)\/((Qu K a).go i H/\∃N:St->Hp->Prop,(∀σ' H',N σ' H'->∃m',m'<m/\W (i+1) m' σ' H')/\∀x H',(Qu K a).O2 i H x H'->g x σ H' λσ2 H2=>tb { D with nx:=N,ct:=N,bk:=D.nx } σ2 H2):=by
 refine⟨λi m σ H=>m=xs.length-i/\i<=xs.length/\Pv i σ H,⟨xs.length,by simp,lQ _,h0⟩,?_⟩
 rintro i m σ H ⟨rfl,hi,p⟩
 have q:=hl i σ H hi p
 by_cases uL:i<xs.length
 ·refine .inr ⟨⟨xs,xs[i],q,by simp[uL]⟩,Pv (i+1),λσ' H' p'=>⟨xs.length-(i+1),by lia,rfl,uL,p'⟩,λx H' y=>?_⟩
  obtain⟨e,y⟩:=y
  subst e
  exact hs i x σ _ (y xs q) p
 ·have e:i=xs.length:=by lia
  subst e
  exact .inl ⟨⟨xs,q,bW _⟩,hd σ H p⟩
theorem V8{K:PySem.W.Frag}{a:Addr}{xs:List V}{g:TG}{tb:TS}{D:Ends}{σ:St}{H:Hp}(Pv:Nat->St->Hp->Prop)(h0:Pv 0 σ H)(hl:∀i σ H,i<=xs.length->Pv i σ H->wV K H a xs)
  (hs:∀i x σ H,xs[i]?=some x->Pv i σ H->g x σ H λσ2 H2=>tb { D with nx:=Pv (i+1),ct:=Pv (i+1),bk:=D.nx } σ2 H2) (hd:∀σ H,Pv xs.length σ H->D.nx σ H) :
  ∃W:Nat->Nat->St->Hp->Prop,(∃m,W 0 m σ H)/\∀i m σ H,W i m σ H->
   ((ZM K a).stop i H/\D.nx σ H)\/((ZM K a).go i H/\∃N:St->Hp->Prop,(∀σ' H',N σ' H'->∃m',m'<m/\W (i+1) m' σ' H')/\∀x H',(ZM K a).O2 i H x H'->g x σ H' λσ2 H2=>tb { D with nx:=N,ct:=N,bk:=D.nx } σ2 H2):=by
 refine⟨λi m σ H=>m=xs.length-i/\i<=xs.length/\Pv i σ H,⟨xs.length,by simp,lQ _,h0⟩,?_⟩
 rintro i m σ H ⟨rfl,hi,p⟩
 have q:=hl i σ H hi p
 by_cases uL:i<xs.length
 ·refine .inr ⟨⟨xs,xs[i],q,by simp[uL]⟩,Pv (i+1),λσ' H' p'=>⟨xs.length-(i+1),by lia,rfl,uL,p'⟩,λx H' y=>?_⟩
  obtain⟨e,y⟩:=y
  subst e
  exact hs i x σ _ (y xs q) p
 ·have e:i=xs.length:=by lia
  subst e
  exact .inl ⟨⟨xs,q,bW _⟩,hd σ H p⟩
theorem Qf{lo:Int}{n:Nat}{g:TG}{tb:TS}{D:Ends}{σ:St}{H:Hp}(Pv:Nat->St->Hp->Prop)(h0:Pv 0 σ H)
  (hs:∀i σ H,i<n->Pv i σ H->g (.int (lo+i)) σ H λσ2 H2=>tb { D with nx:=Pv (i+1),ct:=Pv (i+1),bk:=D.nx } σ2 H2) (hd:∀σ H,Pv n σ H->D.nx σ H) :
  ∃W:Nat->Nat->St->Hp->Prop,(∃m,W 0 m σ H)/\∀i m σ H,W i m σ H->
   ((J6 lo n).stop i H/\D.nx σ H)\/((J6 lo n).go i H/\∃N:St->Hp->Prop,(∀σ' H',N σ' H'->∃m',m'<m/\W (i+1) m' σ' H')/\∀x H',(J6 lo n).O2 i H x H'->g x σ H' λσ2 H2=>tb { D with nx:=N,ct:=N,bk:=D.nx } σ2 H2):=by
 refine⟨λi m σ H=>m=n-i/\i<=n/\Pv i σ H,⟨n,by simp,lQ _,h0⟩,?_⟩
 rintro i m σ H ⟨rfl,hi,p⟩
 by_cases uL:i<n
 ·refine .inr ⟨uL,Pv (i+1),λσ' H' p'=>⟨n-(i+1),by lia,rfl,uL,p'⟩,λx H' y=>?_⟩
  obtain⟨e,y⟩:=y
  subst e y
  exact hs i σ _ uL p
 ·have e:i=n:=by lia
  subst e
  exact .inl ⟨bW _,hd σ H p⟩
end L2
namespace L2
open PySem PySem.Spec PyProof.Rows
abbrev R2:=V->V->Hp->VK->Prop
def nJ(X:Cx)(f:Value->Value->Sem Value)(r:R2):Prop:=
 ∀(pins:List (Addr×Obj)) (s:Shared) (σ:St) (H:Hp) (x y:V) (v u:Value) (Q:VK),Inv X pins σ H s->RelV x v->RelV y u->r x y H Q->
  wpAny (model X.prog X.w) X.A (f v u) (EP X pins σ Q) X.xe s
def e9(X:Cx)(f:Value)(r:List V->Hp->VK->Prop):Prop:=
 ∀(pins:List (Addr×Obj)) (s:Shared) (σ:St) (H:Hp) (xs:List V) (us:List Value) (Q:VK),Inv X pins σ H s->Vals xs us->r xs H Q->
  wpAny (model X.prog X.w) X.A (call f us) (EP X pins σ Q) X.xe s
def QH(r:R2)(ta tb:TE):TE:=λσ H Q=>ta σ H λx H1=>tb σ H1 λy H2=>r x y H2 Q
def tUn(r:V->Hp->VK->Prop)(ta:TE):TE:=λσ H Q=>ta σ H λx H1=>r x H1 Q
def rI(C:Int->Int->Prop)(g:Int->Int->V):R2:=λx y H Q=>∃i j,x=.int i/\y=.int j/\C i j/\Q (g i j) H
def Ui(g:Int->Int->V):R2:=λx y H Q=>∃i j,x=.int i/\y=.int j/\Q (g i j) H
def rU(g:Int->V):V->Hp->VK->Prop:=λx H Q=>∃i,x=.int i/\Q (g i) H
section
variable {X:Cx}{a b c:Expr}{ta tb tc:TE}{pos:Pos}
theorem Zw(ha:PE X a ta)(hb:PE X b tb){pins:List (Addr×Obj)}{s:Shared}{σ:St}{H:Hp}{R:V->V->Hp->Prop}(I:Inv X pins σ H s)
  (h:ta σ H λx H1=>tb σ H1 λy H2=>R x y H2) {Q:Value->Shared->Prop} {f:Value->Value->Sem Value}
  (hf:∀v u s2 x y H2,Inv X pins σ H2 s2->RelV x v->RelV y u->R x y H2->wpAny (model X.prog X.w) X.A (f v u) Q X.xe s2) :
  wpAny (model X.prog X.w) X.A (eval a X.env) (λv s₁=>wpAny (model X.prog X.w) X.A (eval b X.env) (λu s₂=>wpAny (model X.prog X.w) X.A (f v u) Q X.xe s₂) X.xe s₁) X.xe s:=by
 refine dH (ha pins s σ H _ I h) λv s1 ⟨x,H1,I1,r1,q1⟩=>?_
 refine dH (hb pins s1 σ H1 _ I1 q1) λu s2 ⟨y,H2,I2,r2,q2⟩=>?_
 exact hf v u s2 x y H2 I2 r1 r2 q2
theorem aAx{op:Operator}{r:R2}(ho:nJ X (binaryOp op) r)(ha:PE X a ta)(hb:PE X b tb):PE X (.BinOp a op b pos) (QH r ta tb):=by
 intro pins s σ H Q I h
 exact wpAny_BinOp (Zw ha hb I h λv u s2 x y H2 I2 rx ry q=>ho pins s2 σ H2 x y v u Q I2 rx ry q)
theorem opI{f:Value->Value->Sem Value}{C:Int->Int->Prop}{g:Int->Int->Int}
  (rule:∀(i j:Int) (t u:Tok) (s:Shared) (Q:Value->Shared->Prop) (E:Value->Shared->Prop),C i j->Q (.int (g i j) s.toks) { s with toks:=s.toks+1 }->wpAny (model X.prog X.w) X.A (f (.int i t) (.int j u)) Q E s) :
  nJ X f (rI C λi j=>.int (g i j)):=by
 intro pins s σ H x y v u Q I rx ry h
 obtain⟨i,j,rfl,rfl,hc,q⟩:=h
 obtain⟨t,rfl⟩:=rx
 obtain⟨t',rfl⟩:=ry
 exact rule i j t t' s _ _ hc ⟨.int (g i j),H,I.tok _,⟨_,rfl⟩,q⟩
theorem aAB{f:Value->Value->Sem Value}{g:Int->Int->Int}
  (rule:∀(i j:Int) (t u:Tok) (s:Shared) (Q:Value->Shared->Prop) (E:Value->Shared->Prop),Q (.int (g i j) s.toks) { s with toks:=s.toks+1 }->wpAny (model X.prog X.w) X.A (f (.int i t) (.int j u)) Q E s) :
  nJ X f (Ui λi j=>.int (g i j)):=by
 intro pins s σ H x y v u Q I rx ry h
 obtain⟨i,j,rfl,rfl,q⟩:=h
 obtain⟨t,rfl⟩:=rx
 obtain⟨t',rfl⟩:=ry
 exact rule i j t t' s _ _ ⟨.int (g i j),H,I.tok _,⟨_,rfl⟩,q⟩
theorem Vy{f:Value->Value->Sem Value}{g:Int->Int->Bool}
  (rule:∀(i j:Int) (t u:Tok) (s:Shared) (Q:Value->Shared->Prop) (E:Value->Shared->Prop),Q (.bool (g i j)) s->wpAny (model X.prog X.w) X.A (f (.int i t) (.int j u)) Q E s) :
  nJ X f (Ui λi j=>.bl (g i j)):=by
 intro pins s σ H x y v u Q I rx ry h
 obtain⟨i,j,rfl,rfl,q⟩:=h
 obtain⟨t,rfl⟩:=rx
 obtain⟨t',rfl⟩:=ry
 exact rule i j t t' s _ _ ⟨.bl (g i j),H,I,rfl,q⟩
def aBD(i j:Int):Prop:=0<=j/\j<=1000000/\i.natAbs<2 ^ 64
def og(i j:Int):Prop:=(-(2 ^ 64)<i/\i<2 ^ 64)\/(-(2 ^ 64)<j/\j<2 ^ 64)
theorem og.ok{i j:Int}(h:og i j):IntMulOk i j:=by
 rcases h with ⟨h1,h2⟩ | ⟨h1,h2⟩
 ·exact .of_left (intBits_le_64 h1 h2)
 ·exact .of_right (intBits_le_64 h1 h2)
theorem gT:nJ X (binaryOp .Add) (Ui λi j=>.int (i+j)):=aAB λ_ _ _ _ _ _ _ q=>add_int q
theorem y0:nJ X (binaryOp .Sub) (Ui λi j=>.int (i-j)):=aAB λ_ _ _ _ _ _ _ q=>sub_int q
theorem oH:nJ X (binaryOp .Mult) (rI og λi j=>.int (i*j)):=opI λ_ _ _ _ _ _ _ hc q=>mul_int q hc.ok
theorem mS:nJ X (binaryOp .Mod) (rI (λ_ j=>0<j) λi j=>.int (i%j)):=opI λi j _ _ _ _ _ hc q=>by
 have h1:(0:Int)<j:=hc
 exact mod_int' (by lia) (by rw[Int.fmod_eq_emod_of_nonneg i (by lia)];exact q)
theorem Sr:nJ X (binaryOp .Pow) (rI aBD λi j=>.int (i ^ j.toNat)):=opI λ_ _ _ _ _ _ _ hc q=>pow_int_small hc.1 hc.2.1 hc.2.2 q
end
def XM:V->V->Bool
 | .non,.non=>true | .non,.int _=>true | .int _,.non=>true | .non,.bl _=>true | .bl _,.non=>true | .non,.str _=>true | .str _,.non=>true
 | .int _,.int _=>true | .bl _,.bl _=>true | .str _,.str _=>true | .QS _,.QS _=>true
 | .int _,.str _=>true | .str _,.int _=>true | .bl _,.str _=>true | .str _,.bl _=>true
 | _,_=>false
def rEq:R2:=λx y H Q=>XM x y=true/\Q (.bl (decide (x=y))) H
def rNe:R2:=λx y H Q=>XM x y=true/\Q (.bl (!decide (x=y))) H
theorem Oi{i j:Int}:decide (V.int i=V.int j)=(i==j):=by
 rw[t8]
 simp
theorem TK{i j:Bool}:decide (V.bl i=V.bl j)=(i==j):=by
 rw[t8]
 simp
theorem Oh{i j:Str}:decide (V.str i=V.str j)=(i==j):=by
 rw[t8]
 simp
theorem Oj{i j:Array UInt8}:decide (V.QS i=V.QS j)=(i.toList==j.toList):=by
 rw[t8]
 cases i
 cases j
 simp
section
variable {X:Cx}{a b c:Expr}{ta tb tc:TE}{pos:Pos}
theorem bR{pins:List (Addr×Obj)}{σ:St}{H:Hp}{s:Shared}{Q:VK}{k k':Bool}(I:Inv X pins σ H s)(q:Q (.bl k) H)(e:k=k'):EP X pins σ Q (.bool k') s:=by
 subst e
 exact⟨.bl k,H,I,rfl,q⟩
theorem bZ:nJ X (compareOp .Eq) rEq:=by
 intro pins s σ H x y v u Q I rx ry h
 obtain⟨hs,q⟩:=h
 cases x with
 | non=>
  cases rx
  cases y with
  | non=>cases ry;exact PySem.EqNone.eq_none_none (bR I q (by simp))
  | bl j=>cases ry;exact PySem.EqNone.eq_none_bool (bR I q (by simp))
  | int j=>obtain⟨t',rfl⟩:=ry;exact PySem.EqNone.eq_none_int (bR I q (by simp))
  | str j=>obtain⟨t',rfl⟩:=ry;exact PySem.EqNone.eq_none_str (bR I q (by simp))
  | _=>exact absurd (show false=true from hs) gW
 | bl i=>
  cases rx
  cases y with
  | non=>cases ry;exact PySem.EqNone.eq_bool_none (bR I q (by simp))
  | bl j=>cases ry;exact eq_bool (bR I q TK)
  | str j=>obtain⟨t',rfl⟩:=ry;exact PySem.EqMixed.eq_bool_str (bR I q (by simp))
  | _=>exact absurd (show false=true from hs) gW
 | int i=>
  obtain⟨t,rfl⟩:=rx
  cases y with
  | non=>cases ry;exact PySem.EqNone.eq_int_none (bR I q (by simp))
  | int j=>obtain⟨t',rfl⟩:=ry;exact eq_int (bR I q Oi)
  | str j=>obtain⟨t',rfl⟩:=ry;exact PySem.EqMixed.eq_int_str (bR I q (by simp))
  | _=>exact absurd (show false=true from hs) gW
 | str i=>
  obtain⟨t,rfl⟩:=rx
  cases y with
  | non=>cases ry;exact PySem.EqNone.eq_str_none (bR I q (by simp))
  | bl j=>cases ry;exact PySem.EqMixed.eq_str_bool (bR I q (by simp))
  | int j=>obtain⟨t',rfl⟩:=ry;exact PySem.EqMixed.eq_str_int (bR I q (by simp))
  | str j=>obtain⟨t',rfl⟩:=ry;exact eq_str (bR I q Oh)
  | _=>exact absurd (show false=true from hs) gW
 | QS i=>
  obtain⟨t,rfl⟩:=rx
  cases y with
  | QS j=>obtain⟨t',rfl⟩:=ry;exact PySem.W.eq_bytes (bR I q Oj)
  | _=>exact absurd (show false=true from hs) gW
 | _=>cases y <;> exact absurd (show false=true from hs) gW
theorem WQ:nJ X (compareOp .NotEq) rNe:=by
 intro pins s σ H x y v u Q I rx ry h
 obtain⟨hs,q⟩:=h
 cases x with
 | non=>
  cases rx
  cases y with
  | non=>cases ry;exact PySem.EqNone.ne_none_none (bR I q (by simp))
  | bl j=>cases ry;exact PySem.EqNone.ne_none_bool (bR I q (by simp))
  | int j=>obtain⟨t',rfl⟩:=ry;exact PySem.EqNone.ne_none_int (bR I q (by simp))
  | str j=>obtain⟨t',rfl⟩:=ry;exact PySem.EqNone.ne_none_str (bR I q (by simp))
  | _=>exact absurd (show false=true from hs) gW
 | bl i=>
  cases rx
  cases y with
  | non=>cases ry;exact PySem.EqNone.ne_bool_none (bR I q (by simp))
  | bl j=>cases ry;exact ne_bool (bR I q (ni not TK))
  | str j=>obtain⟨t',rfl⟩:=ry;exact PySem.EqMixed.ne_bool_str (bR I q (by simp))
  | _=>exact absurd (show false=true from hs) gW
 | int i=>
  obtain⟨t,rfl⟩:=rx
  cases y with
  | non=>cases ry;exact PySem.EqNone.ne_int_none (bR I q (by simp))
  | int j=>obtain⟨t',rfl⟩:=ry;exact ne_int (bR I q (ni not Oi))
  | str j=>obtain⟨t',rfl⟩:=ry;exact PySem.EqMixed.ne_int_str (bR I q (by simp))
  | _=>exact absurd (show false=true from hs) gW
 | str i=>
  obtain⟨t,rfl⟩:=rx
  cases y with
  | non=>cases ry;exact PySem.EqNone.ne_str_none (bR I q (by simp))
  | bl j=>cases ry;exact PySem.EqMixed.ne_str_bool (bR I q (by simp))
  | int j=>obtain⟨t',rfl⟩:=ry;exact PySem.EqMixed.ne_str_int (bR I q (by simp))
  | str j=>obtain⟨t',rfl⟩:=ry;exact ne_str (bR I q (ni not Oh))
  | _=>exact absurd (show false=true from hs) gW
 | QS i=>
  obtain⟨t,rfl⟩:=rx
  cases y with
  | QS j=>obtain⟨t',rfl⟩:=ry;exact PySem.W.ne_bytes (bR I q (ni not Oj))
  | _=>exact absurd (show false=true from hs) gW
 | _=>cases y <;> exact absurd (show false=true from hs) gW
theorem Ht:nJ X (compareOp .Lt) (Ui λi j=>.bl (decide (i<j))):=Vy λ_ _ _ _ _ _ _ q=>lt_int q
theorem Ss:nJ X (compareOp .LtE) (Ui λi j=>.bl (decide (i<=j))):=Vy λ_ _ _ _ _ _ _ q=>le_int q
theorem WR:nJ X (compareOp .Gt) (Ui λi j=>.bl (decide (j<i))):=Vy λ_ _ _ _ _ _ _ q=>gt_int q
theorem aAA:nJ X (compareOp .GtE) (Ui λi j=>.bl (decide (j<=i))):=Vy λ_ _ _ _ _ _ _ q=>ge_int q
theorem Yt:nJ X (compareOp .Is) (λx y H Q=>y=.non/\Q (.bl (decide (x=.non))) H):=by
 intro pins s σ H x y v u Q I rx ry h
 obtain⟨rfl,q⟩:=h
 cases ry
 refine is_none_gen (bR I q ?_)
 cases x <;> first
  | (cases rx;rfl)
  | (obtain⟨t,rfl⟩:=rx;rfl)
theorem bf(b:Expr){op:CmpOp}(h:op≠.In:=by decide)(h2:op≠.NotIn:=by decide):behindInMarks op b=false:=by
 have e1:(op==CmpOp.In)=false:=by cases op <;> first | rfl | exact absurd rfl h
 have e2:(op==CmpOp.NotIn)=false:=by cases op <;> first | rfl | exact absurd rfl h2
 cases b <;> simp[behindInMarks,e1,e2]
theorem Vt{op:CmpOp}{r:R2}(ho:nJ X (compareOp op) r)(ha:PE X a ta)(hb:PE X b tb)(hm:behindInMarks op b=false):PE X (.Compare a [op] [b] pos) (QH r ta tb):=by
 intro pins s σ H Q I h
 exact wpAny_Compare1 (Zw ha hb I h λv u s2 x y H2 I2 rx ry q=>ho pins s2 σ H2 x y v u Q I2 rx ry q) hm
def He(t:TE):TT:=λσ H Q=>t σ H λx H'=>∃k,x=.bl k/\Q k H'
theorem Vf{op:CmpOp}{r:R2}(ho:nJ X (compareOp op) r)(ha:PE X a ta)(hb:PE X b tb)(hm:behindInMarks op b=false):PT X (.Compare a [op] [b] pos) (He (QH r ta tb)):=by
 intro pins s σ H Q I h
 refine wpAny_isTrue_Compare1 (dH (ha pins s σ H _ I h) λv s1 ⟨x,H1,I1,r1,q1⟩=>dH (hb pins s1 σ H1 _ I1 q1) λu s2 ⟨y,H2,I2,r2,q2⟩=>
  dH (ho pins s2 σ H2 x y v u _ I2 r1 r2 q2) λc s3 ⟨z,H3,I3,r3,k,e,q3⟩=>?_) hm
 subst e
 cases r3
 exact uc ⟨H3,I3,q3⟩
def yS(r r':R2)(ta tb tc:TE):TE:=λσ H Q=>ta σ H λx H1=>tb σ H1 λy H2=>r x y H2 λz H3=>∃k,z=.bl k/\
 (if k=true then tc σ H3 λw' H4=>r' y w' H4 Q else Q (.bl false) H3)
theorem Hs{op op':CmpOp}{r r':R2}(ho:nJ X (compareOp op) r)(Gp:nJ X (compareOp op') r')(ha:PE X a ta)(hb:PE X b tb)(hc:PE X c tc)
  (hm:lastMarks [op,op'] [b,c]=false:=by with_unfolding_all rfl):PE X (.Compare a [op,op'] [b,c] pos) (yS r r' ta tb tc):=by
 intro pins s σ H Q I h
 refine Compare_chain (dH (ha pins s σ H _ I h) λv s1 ⟨x,H1,I1,r1,q1⟩=>chain_link (dH (hb pins s1 σ H1 _ I1 q1) λu s2 ⟨y,H2,I2,r2,q2⟩=>
  dH (ho pins s2 σ H2 x y v u _ I2 r1 r2 q2) λd s3 ⟨z,H3,I3,r3,k,e,q3⟩=>?_)) hm
 subst e
 cases r3
 refine uc ?_
 cases k with
 | false=>exact ite_ff ⟨.bl false,H3,I3,rfl,q3⟩
 | true=>exact ite_tt (chain_last (dH (hc pins s3 σ H3 _ I3 q3) λw' s4 ⟨z',H4,I4,r4,q4⟩=>Gp pins s4 σ H4 y z' u w' Q I4 r2 r4 q4))
theorem Hn{op op':CmpOp}{r r':R2}(ho:nJ X (compareOp op) r)(Gp:nJ X (compareOp op') r')(ha:PE X a ta)(hb:PE X b tb)(hc:PE X c tc)
  (hm:lastMarks [op,op'] [b,c]=false:=by with_unfolding_all rfl):PT X (.Compare a [op,op'] [b,c] pos) (He (yS r r' ta tb tc)):=by
 intro pins s σ H Q I h
 refine isTrue_chain (dH (ha pins s σ H _ I h) λv s1 ⟨x,H1,I1,r1,q1⟩=>test_link (dH (hb pins s1 σ H1 _ I1 q1) λu s2 ⟨y,H2,I2,r2,q2⟩=>
  dH (ho pins s2 σ H2 x y v u _ I2 r1 r2 q2) λd s3 ⟨z,H3,I3,r3,k,e,q3⟩=>?_)) hm
 subst e
 cases r3
 refine uc ?_
 cases k with
 | false=>
  obtain⟨k',e',q'⟩:=q3
  cases e'
  exact ite_ff ⟨H3,I3,q'⟩
 | true=>
  refine ite_tt (test_last (dH (hc pins s3 σ H3 _ I3 q3) λw' s4 ⟨z',H4,I4,r4,q4⟩=>dH (Gp pins s4 σ H4 y z' u w' _ I4 r2 r4 q4) λd' s5 ⟨z2,H5,I5,r5,k2,e2,q5⟩=>?_))
  subst e2
  cases r5
  exact uc ⟨H5,I5,q5⟩
theorem tf:(sizeLine:Nat)<2 ^ 63:=by rw[sizeLine_eq];decide
theorem lK:nJ X (binaryOp .Add) (λx y H Q=>∃i j,x=.str i/\y=.str j/\i.length+j.length<=sizeLine/\Q (.str (i++j)) H):=by
 intro pins s σ H x y v u Q I rx ry h
 obtain⟨i,j,rfl,rfl,hz,q⟩:=h
 obtain⟨t,rfl⟩:=rx
 obtain⟨t',rfl⟩:=ry
 exact add_str (λt' tk=>⟨.str (i++j),H,I.tok _,⟨_,rfl⟩,q⟩) hz
theorem vals1{x:V}{us:List Value}(r:Vals [x] us):∃u,us=[u]/\RelV x u:=by
 cases r with
 | cons r1 r2=>cases r2;exact⟨_,rfl,r1⟩
theorem TY:e9 X (.builtin "abs") (λxs H Q=>∃i,xs=[.int i]/\Q (.int (if i<0 then -i else i)) H):=by
 intro pins s σ H xs us Q I r h
 obtain⟨i,rfl,q⟩:=h
 obtain⟨u,rfl,t,rfl⟩:=vals1 r
 exact call_abs_int λu tk=>⟨.int (if i<0 then -i else i),H,I.tok _,⟨_,rfl⟩,q⟩
end
end L2
namespace L2
open PySem PySem.Spec PyProof.Rows
structure ZK(h:Heap)(x dx C:Addr)(mA:Str->Option Value):Prop where
 obj:h.get? x=some (PySem.W.instObj C dx)
 ns:h.Ns1 dx mA
 ne:dx≠x
theorem vh{h:Heap}{dx:Addr}{mA:Str->Option Value}(n:h.Ns1 dx mA):∃od,h.get? dx=some od/\∀name,PySem.W.lookIn name od=some (mA name):=by
 obtain⟨o,es,ep,ho,hd,hk,_,hm⟩:=n
 refine⟨o,ho,λname=>?_⟩
 have e:=hm name
 unfold nsFind findBy at e
 rw[<-Array.find?_toList]at e
 unfold PySem.W.lookIn
 rw[hd]
 dsimp only
 split
 ·rename_i y q
  rw[q]at e
  exact ni some e
 ·rename_i q
  rw[q]at e
  have a:es.toList.any (·.refKey)=false:=by
   rw[List.any_eq_false]
   intro y hy
   obtain⟨z,t,hkey⟩:=hk y (Array.mem_toList_iff.mp hy)
   simp[DictEntry.refKey,hkey]
  have a':¬es.toList.any (·.refKey)=true:=by rw[a];exact gW
  rw[aR a']
  exact ni some e
theorem ZK.look{h:Heap}{x dx C:Addr}{mA:Str->Option Value}(I:ZK h x dx C mA):∃od,PySem.W.InstAt h x (PySem.W.instObj C dx) C (some od)/\∀name,PySem.W.lookIn name od=some (mA name):=
 let ⟨od,ho,hl⟩:=vh I.ns
 ⟨od,⟨I.obj,rfl,rfl,ho⟩,hl⟩
section
variable {prog:Program}{w:World}{A:Around}{E:Value->Shared->Prop}{s:Shared}{K:PySem.W.Frag}{x dx C f:Addr}{mA:Str->Option Value}{name:Str}{v:Value}
end
theorem wW.some_of{v:V}{o:Option Value}(r:wW (some v) o):∃u,o=some u/\RelV v u:=by
 cases o with
 | none=>exact(show False from r).elim
 | some u=>exact⟨u,rfl,r⟩
theorem Qd{v:V}{u:Value}(r:RelV v u):PySem.W.handedIn u=true:=by
 cases v with
 | non=>cases (show u=Value.none from r);rfl
 | bl b=>cases (show u=Value.bool b from r);rfl
 | int i=>obtain⟨t,e⟩:=(show ∃t,u=Value.int i t from r);cases e;rfl
 | str x=>obtain⟨t,e⟩:=(show ∃t,u=Value.str x t from r);cases e;rfl
 | QS b=>obtain⟨t,e⟩:=(show ∃t,u=Value.bytes b t from r);cases e;rfl
 | Zi b=>obtain⟨t,e⟩:=(show ∃t,u=Value.float b t from r);cases e;rfl
 | ref a=>cases (show u=Value.ref a from r);rfl
 | ty n=>cases (show u=Value.type n from r);rfl
section
variable {P:Program}{w:World}{H H':Hp}{h h':Heap}{a C dx:Addr}{fs fs':List (Str×V)}
theorem VN(cA:sf P w H h)(e:H a=some (.ins C dx fs)):∃mA,ZK h a dx C mA/\(∀f,wW (fs.lookup f) (mA f))/\PySem.Within mA (fs.map (·.1))/\fs.length<=1000/\H dx=some (.own a):=by
 obtain⟨d,z,ne,ob,mA,n,r,q⟩:=(show dJ P w H h a (.ins C dx fs) from cA a _ e)
 exact⟨mA,⟨ob,n,ne⟩,r,q,z,d⟩
end
structure Cls(K:PySem.W.Frag)(C:Addr):Prop where
 pg:PySem.W.plainGet K C Str.empty=true
 hd:PySem.W.hasDictIn K C=true
 po:PySem.W.plainOver K C=true
 sa:PySem.W.findIn K (.ref C) "__setattr__" = some (some (.builtin "object.__setattr__"))
theorem Cls.get{K:PySem.W.Frag}{C:Addr}(c:Cls K C)(f:Str):PySem.W.plainGet K C f=true:=c.pg
section
variable {X:Cx}{pins:List (Addr×Obj)}{σ:St}{H:Hp}{s:Shared}{a C dx:Addr}{fs:List (Str×V)}{f:Str}{v:V}{A:Around}{E:Value->Shared->Prop}
theorem Wj{prog:Program}{w:World}{env:Env}{e:Expr}{f:Str}{pos:Pos}{s:Shared}{Q:Value->Shared->Prop}(hb:attributeBase e f env (eval e env)=eval e env)
  (h:wpAny (model prog w) A (eval e env) (λo s₁=>wpAny (model prog w) A (getAttr o f true) Q E s₁) E s):wpAny (model prog w) A (eval (.Attribute e f pos) env) Q E s:=
 Attribute_any_ h (by rw[arm_eval_Attribute,hb])
end
section
variable {X:Cx}{o e value:Expr}{f:Str}{pos pos' Rf:Pos}{ta tv:TE}
end
section
variable {X:Cx}{pins:List (Addr×Obj)}{σ:St}{H:Hp}{s:Shared}{A:Around}{E:Value->Shared->Prop}{Q:Value->Shared->Prop}{c:Value}{b:Bool}
inductive tQ (K:PySem.W.Frag) (H:Hp):V->Value->Prop where
 | non:tQ K H .non (.type "NoneType")
 | bl (x:Bool):tQ K H (.bl x) (.type "bool")
 | int (i:Int):tQ K H (.int i) (.type "int")
 | str (x:Str):tQ K H (.str x) (.type "str")
 | Zi (x:UInt64):tQ K H (.Zi x) (.type "float")
 | lst {a:Addr} {xs:List V} (e:H a=some (.lst xs)):tQ K H (.ref a) (.type "list")
 | Od {a:Addr} {o:Obj} {xs:List V} (e:H a=some (.Od o (.lst xs))):tQ K H (.ref a) (.type "list")
 | tup {a:Addr} {xs:List V} (e:H a=some (.tup xs)):tQ K H (.ref a) (.type "tuple")
 | dK {a:Addr} {aX:List (Key×V)} (e:H a=some (.dK aX)):tQ K H (.ref a) (.type "dict")
 | dT {a:Addr} {aX:List (List Key×V)} (e:H a=some (.dT aX)):tQ K H (.ref a) (.type "dict")
 | ins {a C dx:Addr} {fs:List (Str×V)} (e:H a=some (.ins C dx fs)) (cl:Cls K C) (ha:PySem.W.findIn K (.ref C) "__class__" = some (some (.builtin "object.__class__")))
   (hn:PySem.W.specialIn K (.builtin "object.__class__") "__get__" = some (some (.builtin "getset_descriptor.__get__"))) (htk:PySem.W.takesIn K (.builtin "object.__class__")=some true)
   (hm:PySem.W.mroIn K C (.type "object")=some true):tQ K H (.ref a) (.ref C)
theorem P5{x:V}{u t:Value}(I:Inv X pins σ H s)(rx:RelV x u)(ty:tQ X.K H x t)(e:PySem.W.kitOne X.K t c=some b)(h:∀tk,Q (.bool b) { s with toks:=tk }) :
  wpAny (model X.prog X.w) A (call (.builtin "isinstance") [u,c]) Q E s:=by
 cases ty with
 | non=>cases (show u=Value.none from rx);exact nS PySem.W.kitx_none I.o9 True.intro e (λz=>nomatch z) h
 | bl y=>cases (show u=Value.bool y from rx);exact nS PySem.W.kitx_bool I.o9 True.intro e (λz=>nomatch z) h
 | int i=>obtain⟨t,q⟩:=(show ∃t,u=Value.int i t from rx);cases q;exact nS PySem.W.kitx_int I.o9 True.intro e (λz=>nomatch z) h
 | str y=>obtain⟨t,q⟩:=(show ∃t,u=Value.str y t from rx);cases q;exact nS PySem.W.kitx_str I.o9 True.intro e (λz=>nomatch z) h
 | Zi y=>obtain⟨t,q⟩:=(show ∃t,u=Value.float y t from rx);cases q;exact nS PySem.W.kitx_float I.o9 True.intro e (λz=>nomatch z) h
 | @lst a xs ea=>
  cases (show u=Value.ref a from rx)
  obtain⟨_,_,n,_,h1⟩:=(show dJ X.prog X.w H s.heap a (.lst xs) from I.cA a _ ea)
  exact nS PySem.W.kitx_list I.o9 ⟨_,h1,rfl⟩ e (λz=>nomatch z) h
 | @Od a ob xs ea=>
  cases (show u=Value.ref a from rx)
  obtain⟨_,_,_,n,_,h1⟩:=(show dJ X.prog X.w H s.heap a (.Od ob (.lst xs)) from I.cA a _ ea)
  exact nS PySem.W.kitx_list I.o9 ⟨_,h1,rfl⟩ e (λz=>nomatch z) h
 | @tup a xs ea=>
  cases (show u=Value.ref a from rx)
  obtain⟨_,_,_,p⟩:=(show dJ X.prog X.w H s.heap a (.tup xs) from I.cA a _ ea)
  obtain⟨o,h1,h2,_⟩:=p
  exact nS PySem.W.kitx_tuple I.o9 ⟨o,h1,h2⟩ e (λz=>nomatch z) h
 | @dK a aX ea=>
  cases (show u=Value.ref a from rx)
  obtain⟨_,_,vs,_,p⟩:=(show dJ X.prog X.w H s.heap a (.dK aX) from I.cA a _ ea)
  obtain⟨o,es,ep,h1,h2,_⟩:=p
  exact nS PySem.W.kitx_dict I.o9 ⟨o,h1,h2.1⟩ e (λz=>nomatch z) h
 | @dT a aX ea=>
  cases (show u=Value.ref a from rx)
  obtain⟨_,_,xs,_,o,es,ep,h1,h2,_⟩:=(show dJ X.prog X.w H s.heap a (.dT aX) from I.cA a _ ea)
  exact nS PySem.W.kitx_dict I.o9 ⟨o,h1,h2.1⟩ e (λz=>nomatch z) h
 | @ins a C dx fs ea cl ha hn htk hm=>
  cases (show u=Value.ref a from rx)
  obtain⟨mA,O,_⟩:=VN I.cA ea
  obtain⟨od,J,_⟩:=O.look
  exact nS (PySem.W.kitx_own (cl.get _) cl.hd ha hn htk hm) I.o9 J e (λz=>nomatch z) h
end
end L2
namespace L2
open PySem PySem.Spec PyProof.Rows
structure jV(k:Nat)(A:Around):Prop where
 hd:A.handled=none
 dp:A.depth+3*k+5<recursionLimit
 un:A.units+16*k+200<cLine
theorem jV.mono{j k:Nat}{A:Around}(r:jV k A)(h:j<=k:=by lia):jV j A:=⟨r.hd,by have:=r.dp;lia,by have:=r.un;lia⟩
theorem jV.deeper{k:Nat}{A:Around}(r:jV (k+1) A)(env:Env):jV k (A.deeper env):=
 ⟨r.hd,by have:=r.dp;show A.depth+1+3*k+5<_;lia,by have:=r.un;show A.units+3+16*k+200<_;lia⟩
theorem Ls{A:Around}{C:Addr}{us:List Value}{kw:List (Str×Value)}:(A.under (.builtin "type.__call__" ⟨.ref C::us,kw⟩)).depth=A.depth+1:=by
 first | rfl | simp[Around.under,Code.weight,Code.isCreation,Code.isGuard,Code.isCaller,Code.frames,Code.isFrame,guardIds]
theorem Lr{A:Around}{C:Addr}{us:List Value}{kw:List (Str×Value)}:(A.under (.builtin "type.__call__" ⟨.ref C::us,kw⟩)).units=A.units+1:=by
 first | rfl | simp[Around.under,Code.cUnits,Code.frames,Code.isFrame]
theorem jV.make{k:Nat}{A:Around}(r:jV (k+1) A)(C:Addr)(us:List Value)(kw:List (Str×Value)):jV k (A.under (.builtin "type.__call__" ⟨.ref C::us,kw⟩)):=
 ⟨r.hd,by have:=r.dp;rw[Ls];lia,by have:=r.un;rw[Lr];lia⟩
theorem jV.depth{k:Nat}{A:Around}(r:jV k A):A.depth<recursionLimit:=by have:=r.dp;lia
theorem jV.units{k:Nat}{A:Around}(r:jV k A):A.units+64<cLine:=by have:=r.un;lia
theorem jV.ou{k:Nat}{A:Around}(r:jV k A):A.units<cLine:=by have:=r.un;lia
def Rk:TA:=λ_ H Q=>Q [] H
def yR(ta:TE)(tr:TA):TA:=λσ H Q=>ta σ H λx H1=>tr σ H1 λxs H2=>Q (x::xs) H2
section
variable {X:Cx}{e:Expr}{es:List Expr}{te:TE}{t:TA}{pos:Pos}
theorem Lg:PA X [] Rk:=λ_ _ _ _ H Q I h=>Calls.spliced_nil ⟨[],H,I,.nil,h⟩
theorem w6(ha:PE X e te)(hr:PA X es t)(hs:starEach (e::es) X.env=(false,eval e X.env)::starEach es X.env:=by rfl):PA X (e::es) (yR te t):=by
 intro pos pins s σ H Q I h
 rw[hs]
 show wpAny _ _ (spliced ((false,eval e X.env)::backTo pos (starEach es X.env))) _ _ s
 refine Calls.spliced_cons (dH (ha pins s σ H _ I h) λu s1 ⟨x,H1,I1,r1,q1⟩=>?_)
 exact dH (hr pos pins s1 σ H1 _ I1 q1) λus s2 ⟨xs,H2,I2,r2,q2⟩=>⟨x::xs,H2,I2,.cons r1 r2,q2⟩
def Xm(t:TA):TE:=λσ H Q=>t σ H λxs H1=>xs.length<=sizeLine/\∀p,H1 p=none->Q (.ref p) (upd H1 p (.tup xs))
def Xs(t:TA):TE:=λσ H Q=>t σ H λxs H1=>xs.length<=sizeLine/\∀p,H1 p=none->Q (.ref p) (upd H1 p (.lst xs))
theorem Yj{x1}(h:PA X es t):PE X (.Tuple es x1 pos) (Xm t):=by
 intro pins s σ H Q I hq
 refine wpAny_Tuple_spliced (dH (h pos pins s σ H _ I hq) λus s1 ⟨xs,H1,I1,r,z,q⟩=>⟨by rw[<-r.length];exact z,?_⟩)
 have hf:H1 s1.heap.objs.size=none:=I1.cA.fresh (bW _)
 refine⟨.ref s1.heap.objs.size,upd H1 s1.heap.objs.size (.tup xs),I1.laid (t':=s1.toks) (λb u e=>dZ _ e) (bW _) ?_,rfl,q _ hf⟩
 exact⟨z,us,r,⟨_,kz _ rfl,rfl,_,rfl⟩⟩
theorem Yn(h:PA X es t):PE X (.List es pos) (Xs t):=by
 intro pins s σ H Q I hq
 refine wpAny_List_spliced (dH (h pos pins s σ H _ I hq) λus s1 ⟨xs,H1,I1,r,z,q⟩=>⟨by rw[<-r.length];exact z,?_⟩)
 have hf:H1 s1.heap.objs.size=none:=I1.cA.fresh (bW _)
 refine⟨.ref s1.heap.objs.size,upd H1 s1.heap.objs.size (.lst xs),I1.laid (t':=s1.toks) (λb u e=>dZ _ e) (bW _) ?_,rfl,q _ hf⟩
 exact⟨z,us,0,r,kz _ rfl⟩
end
abbrev Sp:=List V->Hp->VK->XK->Prop
abbrev QG:=List Env->Hp->Shared->XK->Value->Shared->Prop
structure Aq(P:Program)(w:World)(K:PySem.W.Frag)(mg:Str->Option Value)(base:Heap)(A:Around)(outer:List Env)(s:Shared)(H:Hp):Prop where
 frames:A.frames=some outer
 mod:Mod K mg base
 bs:∀b o,base.get? b=some o->s.heap.get? b=some o/\H b=none
 Oq:base.objs.size<=s.heap.objs.size
 qI:s.heap.FunFrames base outer
 QR:∀b∈tZ outer,H b=none
 cA:sf P w H s.heap
 bare:AllBare s.gens
def CE(outer:List Env)(P:Program)(w:World)(H:Hp)(s:Shared)(Q:VK)(u:Value)(s':Shared):Prop:=
 ∃v H',s'.os=s.os/\AllBare s'.gens/\Un (tZ outer) [] H H' s.heap s'.heap/\sf P w H' s'.heap/\RelV v u/\Q v H'
def CR(CX:QG)(outer:List Env)(P:Program)(w:World)(H:Hp)(s:Shared)(Q:VK)(E:XK)(r:Result)(s':Shared):Prop:=
 match r with
 | .ok (.ret u)=>CE outer P w H s Q u s'
 | .ok _=>False
 | .error e=>CX outer H s E e s'
structure dI(P:Program)(w:World)(K:PySem.W.Frag)(mg:Str->Option Value)(base:Heap)(CX:QG)(k:Nat)(f:Addr)(fd:FuncData)(ps:List Str)(sp:Sp):Prop where
 len:∀vs H Q E,sp vs H Q E->vs.length=ps.length
 run:∀(A:Around) (outer:List Env) (s:Shared) (H:Hp) (args:Args) (us:List Value) (vs:List V) (Q:VK) (E:XK),jV k A->Aq P w K mg base A outer s H->BindsTo s fd args (ps.zip us)->Vals vs us->sp vs H Q E->
  codeAny (model P w) A (.call (.ref f) args) (CR CX outer P w H s Q E) s
theorem Aq.make{P:Program}{w:World}{K:PySem.W.Frag}{mg:Str->Option Value}{base:Heap}{A:Around}{outer:List Env}{s:Shared}{H:Hp}(e:Aq P w K mg base A outer s H)(C:Addr)(us:List Value)(kw:List (Str×Value)) :
  Aq P w K mg base (A.under (.builtin "type.__call__" ⟨.ref C::us,kw⟩)) outer s H:=⟨by first | exact e.frames | (simpa [Around.under,Code.envs,Code.isFrame,pushEnvs]using e.frames),e.mod,e.bs,e.Oq,e.qI,e.QR,e.cA,e.bare⟩
section
variable {X:Cx}{pins:List (Addr×Obj)}{σ:St}{H:Hp}{s s':Shared}
theorem Inv.Wa(I:Inv X pins σ H s):Aq X.prog X.w X.K X.mg X.base X.A X.stack s H:=
 ⟨I.ok.frames,I.ok.mod,I.bs,jY I.ok.Oq I.sz,I.stack,I.wZ,I.cA,I.bare⟩
theorem Inv.after{Q:VK}{u:Value}(I:Inv X pins σ H s)(h:CE X.stack X.prog X.w H s Q u s'):EP X pins σ Q u s':=by
 obtain⟨v,H',os,bare,un,cA,r,q⟩:=h
 obtain⟨hh,g,d,t,os'⟩:=s'
 obtain rfl:os'=s.os:=os
 exact⟨v,H',I.call (h':=hh) (g':=g) (d':=d) (t':=t) (ch:=[]) un cA bare (λb z=>absurd z (by simp)),r,q⟩
end
def Ca(sp:Sp)(TF:List V)(E:XK)(t:TA):TE:=λσ H Q=>t σ H λvs H1=>sp (vs++TF) H1 Q E
def Binds(K:PySem.W.Frag)(fd:FuncData)(ps:List Str)(ds:List Value):Prop:=
 ∀(s:Shared) (us:List Value),K.In s.heap->(us++ds).length=ps.length->BindsTo s fd ⟨us,[]⟩ (ps.zip (us++ds))
theorem Binds.all{K:PySem.W.Frag}{fd:FuncData}{ps:List Str}(h:∀us:List Value,us.length=ps.length->bindArgs fd ⟨us,[]⟩=pure (ps.zip us)):Binds K fd ps []:=λs us _ hl=>by
 rw[vE]at hl ⊢
 exact .of_eq (h us hl)
def Passes(CX:QG)(X:Cx)(E:XK):Prop:=∀(pins:List (Addr×Obj)) (σ:St) (H:Hp) (s:Shared) (e:Value) (s':Shared),Inv X pins σ H s->CX X.stack H s E e s'->X.xe e s'
section
variable {X:Cx}{CX:QG}{k:Nat}{f C:Addr}{fd:FuncData}{ps:List Str}{sp:Sp}{TF:List V}{ds:List Value}{E:XK}{x m:Str}{p pos apos:Pos}{e o:Expr}{es:List Expr}{ta:TE}{t:TA}
theorem XR{pins:List (Addr×Obj)}{σ:St}{H:Hp}{s:Shared}{Q:VK}{us:List Value}{vs:List V}(F:dI X.prog X.w X.K X.mg X.base CX k f fd ps sp)(hr:jV k X.A)(hb:Binds X.K fd ps ds)(hd:Vals TF ds)(hx:Passes CX X E)
  (I:Inv X pins σ H s) (r:Vals vs us) (h:sp (vs++TF) H Q E):wpAny (model X.prog X.w) X.A (call (.ref f) us) (EP X pins σ Q) X.xe s:=by
 have r2:Vals (vs++TF) (us++ds):=r.append hd
 have hl:(us++ds).length=ps.length:=by rw[<-r2.length];exact F.len _ _ _ _ h
 refine pV (vD (F.run X.A X.stack s H ⟨us,[]⟩ (us++ds) (vs++TF) Q E hr I.Wa (hb s us I.o9 hl) r2 h) λr s' hq=>?_)
 cases r with
 | error e=>exact hx pins σ H s e s' I hq
 | ok fl=>
  cases fl with
  | ret u=>exact I.after hq
  | next=>exact False.elim hq
  | brk=>exact False.elim hq
  | cont=>exact False.elim hq
theorem w5(F:dI X.prog X.w X.K X.mg X.base CX k f fd ps sp)(hr:jV k X.A)(hg:Gl X x)(hm:X.mg x=some (.ref f))(hk:PySem.W.keepIn X.K (.ref f)=true)(hb:Binds X.K fd ps ds)(hd:Vals TF ds)(hx:Passes CX X E)
  (ha:PA X (e::es) t) (uM:(x==("__debug__" : Str))=false:=by decide) (he:starEach (e::es) X.env=(false,eval e X.env)::starEach es X.env:=by rfl) (sU:(backTo pos (starEach es X.env)).any (·.1)=false:=by rfl) :
  PE X (.Call (.Name x p) (e::es) [] pos) (Ca sp TF E t):=by
 intro pins s σ H Q I h
 refine xm (mC I hg hm ?_ uM)
 refine Gw (h₀:=X.base) I.ok.mod.WT hk (dH (ha pos pins s σ H _ I h) λus s1 ⟨vs,H1,I1,r,q⟩=>⟨I1.o9,?_⟩) he sU
 exact XR F hr hb hd hx I1 r q
end
section
variable {X:Cx}{CX:QG}{k:Nat}{f C:Addr}{fd:FuncData}{ps ks:List Str}{sp:Sp}{E:XK}{x m:Str}{p pos apos YF:Pos}{e o:Expr}{es:List Expr}{kws:List Keyword}{te ta:TE}{t tk:TA}{nm:Option Str}
variable {g:List Value->List Value->List Value}{gV:List V->List V->List V}
end
structure bp(N P:List Str)(sc:Scope):Prop where
 kind:sc.kind=.function
 co:sc.isCoroutine=false
 gen:sc.isGenerator=false
 nd:N.Nodup
 pre:N.take P.length=P
 par:∀x∈P,sc.names.lookup x=some .local\/sc.names.lookup x=some .cell
 Yz:∀y∈sc.names,y.2≠.free
theorem Dn{kindOf:Str->Option NameKind}{x:Str}:∀{binds:List (Str×Value)} {m:Str->Option Value},(∀v,(x,v)∉binds)->bindL kindOf binds m x=m x
 | [],_,_=>rfl
 | (n,v)::r,m,h=>by
  unfold bindL
  rw[Dn λw hw=>h w (kP _ hw)]
  split
  ·have:x≠n:=by rintro rfl;exact h v gP
   simp[this]
  ·rfl
theorem Dq{kindOf:Str->Option NameKind}{x:Str}:∀{binds:List (Str×Value)} {m:Str->Option Value},(∀v,(x,v)∉binds)->bindC kindOf binds m x=m x
 | [],_,_=>rfl
 | (n,v)::r,m,h=>by
  unfold bindC
  rw[Dq λw hw=>h w (kP _ hw)]
  split
  ·rfl
  ·have:x≠n:=by rintro rfl;exact h v gP
   simp[this]
theorem Dp{kindOf:Str->Option NameKind}{x:Str}{v:Value}:∀{P:List Str} {vs:List Value} {i:Nat} {m:Str->Option Value},P.Nodup->P[i]?=some x->vs[i]?=some v->kindOf x=some .local->
  bindL kindOf (P.zip vs) m x=some v
 | [],_,_,_,_,h,_,_=>by simp at h
 | _::_,[],_,_,_,_,h,_=>by simp at h
 | p::P,w::vs,0,m,nd,h1,h2,hk=>by
  simp at h1 h2;subst h1;subst h2
  show bindL kindOf ((p,w)::P.zip vs) m p=_
  unfold bindL
  rw[Dn λv hv=>(xk.mp nd).1 (Eb hv).1,bH hk]
  simp
 | p::P,w::vs,i+1,m,nd,h1,h2,hk=>by
  show bindL kindOf ((p,w)::P.zip vs) m x=_
  unfold bindL
  exact Dp (i:=i) (xk.mp nd).2 (by simpa using h1) (by simpa using h2) hk
theorem Dt{kindOf:Str->Option NameKind}{x:Str}{v:Value}:∀{P:List Str} {vs:List Value} {i:Nat} {m:Str->Option Value},P.Nodup->P[i]?=some x->vs[i]?=some v->kindOf x≠some .local->
  bindC kindOf (P.zip vs) m x=some v
 | [],_,_,_,_,h,_,_=>by simp at h
 | _::_,[],_,_,_,_,h,_=>by simp at h
 | p::P,w::vs,0,m,nd,h1,h2,hk=>by
  simp at h1 h2;subst h1;subst h2
  show bindC kindOf ((p,w)::P.zip vs) m p=_
  unfold bindC
  rw[Dq λv hv=>(xk.mp nd).1 (Eb hv).1,aR hk]
  simp
 | p::P,w::vs,i+1,m,nd,h1,h2,hk=>by
  show bindC kindOf ((p,w)::P.zip vs) m x=_
  unfold bindC
  exact Dt (i:=i) (xk.mp nd).2 (by simpa using h1) (by simpa using h2) hk
def start(N:List Str)(vs:List V):St:=vs.map some++List.replicate (N.length-vs.length) none
def lE(CX:QG)(P:Program)(w:World)(K:PySem.W.Frag)(mg:Str->Option Value)(base:Heap)(N:List Str)(qual:Str)(scope:Scope)(f:Addr)(cd:Value)(A:Around)(outer:List Env)(s:Shared)(H:Hp)(E:XK):Cx where
 prog:=P
 w:=w
 K:=K
 mg:=mg
 base:=base
 A:=A.deeper (envOfC qual scope s.heap.objs.size f cd)
 N:=N
 s₀:=s
 H₀:=H
 env:=envOfC qual scope s.heap.objs.size f cd
 outer:=outer
 stack:=envOfC qual scope s.heap.objs.size f cd::outer
 ex:=[]
 calm:=true
 fn:=λ_=>true
 pn:=[]
 xe:=λe s'=>wpAny (model P w) (A.deeper (envOfC qual scope s.heap.objs.size f cd)) (leaving (envOfC qual scope s.heap.objs.size f cd) e) (λ_ s''=>CX outer H s E e s'') (λe' s''=>CX outer H s E e' s'') s'
theorem JS{sc:Scope}{n:Nat}{x:Str}(h:sc.names.lookup x=some .cell):∃c,(cellsFrom n sc.names []).lookup x=some c:=by
 have q:=Kz sc.names n [] (.inl h)
 exact Option.isSome_iff_exists.mp q
theorem CV{CX:QG}{P:Program}{w:World}{K:PySem.W.Frag}{mg:Str->Option Value}{base:Heap}{N ps:List Str}{qual:Str}{scope:Scope}{f:Addr}{cd:Value}{A:Around}{outer:List Env}{s s1:Shared}{H:Hp}{E:XK}{us:List Value}{vs:List V}
  (S:bp N ps scope) (hd:A.handled=none) (e0:Aq P w K mg base A outer s H) (hl:vs.length=ps.length) (r:Vals vs us)
  (x:InCallC s s.heap.objs.size (bindL (envOfC qual scope s.heap.objs.size f cd).kindOf (ps.zip us) λ_=>none) (cellsFrom (s.heap.objs.size+1) scope.names []) (bindC (envOfC qual scope s.heap.objs.size f cd).kindOf (ps.zip us) λ_=>none) s1) :
  Inv (lE CX P w K mg base N qual scope f cd A outer s H E) [] (start N vs) H s1:=by
 have sU:ps.length<=N.length:=by have:=ni List.length S.pre;rw[kO]at this;lia
 obtain⟨h1,tk,rfl,hk⟩:=x.done
 have noA:∀b:Addr,b∉(lE CX P w K mg base N qual scope f cd A outer s H E).ex:=λb z=>absurd (show b∈([]:List Addr) from z) (by simp)
 refine⟨⟨e0.mod,S.kind,rfl,rfl,bW _,λy z c h1 h2=>?_,λy hy=>?_,λy c _ h=>?_,λ_=>hd,Around.frames_deeper e0.frames,.inr ⟨rfl,rfl⟩,λb z=>absurd z (noA b),e0.bs,e0.Oq,λb _ _=>noA b,λb z=>absurd z (noA b),e0.qI,e0.QR⟩,
  rfl,e0.bare,Un.kept hk,⟨_,x.toInCall.ns,λi y v h1 h2 h3=>?_⟩,λy c h=>⟨_,x.cell y c h⟩,e0.cA.fresh (bW _),λy c h=>?_,λp hp=>absurd (show p∈([]:List (Addr×Obj)) from hp) (by simp),e0.cA.kept hk,?_⟩
 ·exact name_of_addr x.apart (sv h1) (sv h2)
 ·have hy:scope.names.lookup y=some .cell\/scope.names.lookup y=some .free:=hy
  rcases hy with hy | hy
  ·exact JS hy
  ·exact absurd rfl (S.Yz _ (sv hy))
 ·exact u6 (x.above y c (sv h))
 ·have hi:i<vs.length:=by
   unfold start at h2
   by_cases hi:i<vs.length
   ·exact hi
   ·rw[ud (by simpa using hi)]at h2
    rw[List.getElem?_replicate]at h2
    split at h2 <;> cases h2
  have ha:vs[i]?=some v:=by
   unfold start at h2
   rw[vI (by simpa using hi),mz]at h2
   cases e:vs[i]? with
   | none=>rw[e]at h2;cases h2
   | some a=>rw[e]at h2;cases h2;rfl
  obtain⟨u,hu,rv⟩:=r.get ha
  have hp:ps[i]?=some y:=by
   rw[<-S.pre,List.getElem?_take_of_lt (by lia)];exact h1
  have ndP:ps.Nodup:=by rw[<-S.pre];exact S.nd.sublist (List.take_sublist _ _)
  refine⟨u,rv,?_⟩
  rcases S.par y (Bd hp) with k | k
  ·exact .inl ⟨k,Dp ndP hp hu k⟩
  ·obtain⟨c,e⟩:=JS (n:=s.heap.objs.size+1) k
   refine .inr ⟨.inl k,c,e,?_⟩
   have q:=x.cell y c e
   rw[Dt ndP hp hu (by show scope.names.lookup y≠_;rw[k];decide)]at q
   exact q
 ·exact e0.cA.fresh (u6 (x.above y c (sv h)))
 ·unfold start
  show _=N.length
  rw[lS,di,M8]
  lia
theorem W6{CX:QG}{P:Program}{w:World}{K:PySem.W.Frag}{mg:Str->Option Value}{base:Heap}{k:Nat}{f:Addr}{name qual:Str}{params:Arguments}{body:List Stmt}{scope:Scope}{dV kV doc pm dh ct oc:Value}{an od:Option Addr}
  {Kc:Array (Option Value)} {N ps:List Str} {sp:Sp} (lk:K.lookup f=some ⟨oc,od,.func (PySem.W.fnOf name qual params body scope dV kV doc pm an dh ct),Kc⟩) (Fy:PySem.W.codeIn K dh qual=true) (S:bp N ps scope)
  (len:∀vs H Q E,sp vs H Q E->vs.length=ps.length)
  (nZ:∀(A:Around) (outer:List Env) (s:Shared) (H:Hp) (vs:List V) (Q:VK) (E:XK),jV k (A.deeper (envOfC qual scope s.heap.objs.size f dh))->sp vs H Q E->
   ∃t,zU (lE CX P w K mg base N qual scope f dh A outer s H E) body t/\t { nx:=λ_ H'=>Q .non H',rt:=Q } (start N vs) H) :
  dI P w K mg base CX (k+1) f (PySem.W.fnOf name qual params body scope dV kV doc pm an dh ct) ps sp:=by
 refine⟨len,λA outer s H args us vs Q E hr e0 hb r Mp=>?_⟩
 have hl:=len _ _ _ _ Mp
 have KX:K.In s.heap:=e0.mod.WT.keeps λb o e=>(e0.bs b o e).1
 have lim:s.heap.NoLimit:=e0.mod.nolimit.keeps λb o e=>(e0.bs b o e).1
 have Tr:∀y∈ps.zip us,scope.names.lookup y.1=some .local\/(scope.names.lookup y.1=some .cell/\((cellsFrom (s.heap.objs.size+1) scope.names []).lookup y.1).isSome=true):=λ⟨n,v⟩ hy=>by
  rcases S.par n (Eb hy).1 with q | q
  ·exact .inl q
  ·exact .inr ⟨q,Kz _ _ _ (.inl q)⟩
 refine codeAny_call_function hr.depth (KX _ _ lk) rfl S.co S.gen rfl (PySem.W.codeRec_of KX Fy) (hb _ _ _ _ ?_)
 refine wpAny_newFunctionEnv_cells S.kind Tr λenv he s1 x=>?_
 subst he
 refine⟨lim.keeps x.toInCall.keep,codeAny_func ?_⟩
 obtain⟨t,ht,hq⟩:=nZ A outer s H vs Q E (hr.deeper _) Mp
 have I:Inv (lE CX P w K mg base N qual scope f dh A outer s H E) [] (start N vs) H s1:=CV S hr.hd e0 hl r x
 refine iX (ht [] s1 (start N vs) H _ I hq) (λfl s' hs=>?_) λe s' hs=>hs
 have fin:∀{σ':St} {H':Hp} {v:V} {u:Value},Inv (lE CX P w K mg base N qual scope f dh A outer s H E) [] σ' H' s'->RelV v u->Q v H'->CE outer P w H s Q u s':=
  λ{σ' H' v u} J rv q=>⟨v,H',J.os,J.bare,J.base,J.cA,rv,q⟩
 cases fl with
 | ret u=>
  obtain⟨v,σ',H',J,rv,q⟩:=hs
  exact fin J rv q
 | next=>
  obtain⟨σ',H',J,q⟩:=hs
  exact fin (v:=V.non) (u:=Value.none) J rfl q
 | brk=>
  obtain⟨_,_,_,q⟩:=hs
  exact False.elim q
 | cont=>
  obtain⟨_,_,_,q⟩:=hs
  exact False.elim q
end L2
namespace L2
open PySem PySem.Spec PyProof.Rows
section
variable {X:Cx}{x:Str}{p pos:Pos}{e:Expr}{es:List Expr}{t:TA}{id T:String}{r:List V->Hp->VK->Prop}
def tCB(r:List V->Hp->VK->Prop)(t:TA):TE:=λσ H Q=>t σ H λvs H1=>r vs H1 Q
theorem qy(hc:e9 X (.builtin id) r)(hg:Gl X x)(hm:X.mg x=none)(hv:bootBuiltins x=some (.builtin id))(ha:PA X (e::es) t)(hn:x≠"__name__":=by decide)(uM:(x==("__debug__" : Str))=false:=by decide)
  (he:starEach (e::es) X.env=(false,eval e X.env)::starEach es X.env:=by rfl) (sU:(backTo pos (starEach es X.env)).any (·.1)=false:=by rfl):PE X (.Call (.Name x p) (e::es) [] pos) (tCB r t):=by
 intro pins s σ H Q I h
 refine xm (Fu I hg hm hv ?_ hn uM)
 exact QX (dH (ha pos pins s σ H _ I h) λus s1 ⟨vs,H1,I1,r1,q1⟩=>hc pins s1 σ H1 vs us Q I1 r1 q1) he sU
theorem nV(hc:e9 X (.type T) r)(hg:Gl X x)(hm:X.mg x=none)(hv:bootBuiltins x=some (.type T))(ha:PA X (e::es) t)(hn:x≠"__name__":=by decide)(uM:(x==("__debug__" : Str))=false:=by decide)
  (he:starEach (e::es) X.env=(false,eval e X.env)::starEach es X.env:=by rfl) (sU:(backTo pos (starEach es X.env)).any (·.1)=false:=by rfl):PE X (.Call (.Name x p) (e::es) [] pos) (tCB r t):=by
 intro pins s σ H Q I h
 refine xm (Fu I hg hm hv ?_ hn uM)
 exact PyProof.Rows.callWith_type1 (dH (ha pos pins s σ H _ I h) λus s1 ⟨vs,H1,I1,r1,q1⟩=>hc pins s1 σ H1 vs us Q I1 r1 q1) he sU
end
end L2
namespace HT
open PySem PyProof.Rows
section
open PySem.SeqAt
open PySem.AutoSeq1 (wpAny_loadPart')
open PySem.MeetsSeq PySem.MeetsSeq2 PySem.MeetsSeq3
end
section
variable {prog:Program}{w:World}{A:Around}{E:Value->Shared->Prop}{s:Shared}
def eB(n d:Nat):Option Int->Nat
 | none=>d
 | some v=>if v<0 then (v+(n:Int)).toNat else min v.toNat n
theorem RT(n d:Nat)(hd:d<=n)(o:Option Int):eB n d o<=n:=by
 cases o with
 | none=>exact hd
 | some v=>
  show(if v<0 then (v+(n:Int)).toNat else min v.toNat n)<=n
  by_cases hv:v<0
  ·rw[bH hv];lia
  ·rw[aR hv];exact Nat.min_le_right _ _
theorem Oo(v:Int)(n d:Nat):(if v<0 then max (v+(n:Int)) 0 else min v (n:Int))=((eB n d (some v):Nat):Int):=by
 show(if v<0 then max (v+(n:Int)) 0 else min v (n:Int))=(((if v<0 then (v+(n:Int)).toNat else min v.toNat n):Nat):Int)
 by_cases hv:v<0
 ·simp only[bH hv];lia
 ·simp only[aR hv];lia
theorem MK(lo hi:Option Int)(n:Nat):Builtin.Slice.sliceAdjust lo hi 1 (n:Int)=(((eB n 0 lo:Nat):Int),((eB n n hi:Nat):Int)):=by
 have h1:¬((1:Int)<0):=by lia
 unfold Builtin.Slice.sliceAdjust
 simp only[h1,pU]
 refine Prod.ext ?_ ?_
 ·cases lo with
  | none=>rfl
  | some v=>exact Oo v n 0
 ·cases hi with
  | none=>rfl
  | some v=>exact Oo v n n
theorem Lf(i j:Nat):Builtin.Slice.slicePlaces (i:Int) (j:Int) 1=j-i:=by
 unfold Builtin.Slice.slicePlaces
 have h1:(1:Int) > 0:=by lia
 simp only[h1,oi,Int.ediv_one]
 split <;> lia
theorem yX{v:Value}{o:Option Int}{Q:Option Int->Shared->Prop}(p:IsPart v o)(h:Q o s):wpAny (model prog w) A (Builtin.Slice.slicePartIndex v) Q E s:=by
 cases p with
 | none=>exact slicePart_none h
 | int i t=>exact slicePart_int h
theorem vd{sl:Addr}{vl vu:Value}{lo hi:Option Int}{n:Nat}{Q:Int×Int×Nat->Shared->Prop}(hs:s.heap.IsSliceOf sl vl vu .none)(pl:IsPart vl lo)(pu:IsPart vu hi)
  (h:Q (((eB n 0 lo:Nat):Int),1,eB n n hi-eB n 0 lo) s):wpAny (model prog w) A (Builtin.Slice.sliceApplied (.ref sl) (pure (n:Int))) Q E s:=by
 obtain⟨os,hos,W2,hds⟩:=id hs
 unfold Builtin.Slice.sliceApplied Builtin.Slice.sliceFields
 refine aL (aL (vC hos hds (x:=vl) rfl (aL (vC hos hds (x:=vu) rfl (aL (vC hos hds (x:=.none) rfl (bx ?_)))))))
 refine aL (slicePart_none ?_)
 show wpAny _ _ (if ((1:Int)==0)=true then _ else _) _ _ s
 rw[aR (by decide)]
 refine aL (yX pl (aL (yX pu (aL (bx ?_)))))
 show wpAny _ _ (match Builtin.Slice.sliceAdjust lo hi 1 (n:Int) with | (lo,hi)=>pure (lo,(1:Int),Builtin.Slice.slicePlaces lo hi 1)) _ _ s
 rw[MK lo hi n]
 show wpAny _ _ (pure (((eB n 0 lo:Nat):Int),(1:Int),Builtin.Slice.slicePlaces ((eB n 0 lo:Nat):Int) ((eB n n hi:Nat):Int) 1)) _ _ s
 rw[Lf]
 exact bx h
theorem Sf(xs:Array Value)(i k:Nat):((List.range k).filterMap λ(m:Nat)=>xs[((i:Int)+(m:Int)*1).toNat]?).toArray=((xs.toList.drop i).take k).toArray:=by
 have e:(λ(m:Nat)=>xs[((i:Int)+(m:Int)*1).toNat]?)=λm=>xs[i+m]?:=by
  funext m
  have:((i:Int)+(m:Int)*1).toNat=i+m:=by lia
  rw[this]
 rw[e]
 have:=pick_run xs i k
 rw[List.filterMap_map]at this
 have e2:((λx=>xs[x]?) ∘ λx=>i+x)=λm=>xs[i+m]?:=rfl
 rw[e2]at this
 rw[this]
theorem uN{t sl:Addr}{items:Array Value}{vl vu:Value}{lo hi:Option Int}{Q:Value->Shared->Prop}(ht:IsTup s.heap t items)(hs:s.heap.IsSliceOf sl vl vu .none)(pl:IsPart vl lo)(pu:IsPart vu hi)
  (hw:¬(eB items.size 0 lo=0/\eB items.size items.size hi=items.size))
  (h:Q (.ref s.heap.objs.size) { s with heap:=s.heap.push { cls:=.type "tuple",data:=.seq ((items.toList.drop (eB items.size 0 lo)).take (eB items.size items.size hi-eB items.size 0 lo)).toArray } })
  (xf:items.size<=sizeLine):wpAny (model prog w) A (getItem (.ref t) (.ref sl)) Q E s:=by
 have Oa:sizeOk (.seq ((items.toList.drop (eB items.size 0 lo)).take (eB items.size items.size hi-eB items.size 0 lo)).toArray):=by
  show((items.toList.drop (eB items.size 0 lo)).take (eB items.size items.size hi-eB items.size 0 lo)).toArray.size<=sizeLine
  rw[iZ,kO,Ay,pX]
  lia
 have hj:eB items.size items.size hi<=items.size:=RT _ _ (bW _) hi
 obtain⟨os,hos,W2,hds⟩:=id hs
 have hTs:s.TypeIs (.ref sl) "slice":=⟨os,hos,W2⟩
 unfold getItem
 try with_reducible refine lR ?_
 first | refine aL (bx ?_) | skip
 refine aL (wpAny_sequenceKey ht.typeIs (by decide) ?_)
 refine aL (Kw (name:=Str.ofString "__getitem__") ht.typeIs QV
  (Au QV ht.typeIs entry_tuple_getitem ?_ (args_tuple_getitem _ _)))
 show wpAny _ _ (Builtin.Tuple.tupleItemsOf (.ref t) >>= _) _ _ s
 refine aL (tupleItemsOf_ ht ?_)
 refine aL (wpAny_typeOf hTs ?_)
 rw[bH (by decide)]
 refine aL (vd hs pl pu ?_)
 have hno:¬((((eB items.size 0 lo:Nat):Int)==0&&(1:Int)==1&&(eB items.size items.size hi-eB items.size 0 lo)==items.size)=true):=by
  intro q
  rw[gO,gO]at q
  have q1:((eB items.size 0 lo:Nat):Int)=0:=eq_of_beq q.1.1
  have q2:eB items.size items.size hi-eB items.size 0 lo=items.size:=eq_of_beq q.2
  exact hw ⟨by lia,by lia⟩
 show wpAny _ _ (if (((eB items.size 0 lo:Nat):Int)==0&&(1:Int)==1&&(eB items.size items.size hi-eB items.size 0 lo)==items.size)=true then _ else _) _ _ s
 rw[aR hno,Sf]
 first
  | exact aL (m:=Builtin.Tuple.tupleExact _) (pW (bx ⟨_,rfl,bx h⟩) Oa)
  | exact aL (m:=Builtin.Tuple.tupleExact _) (pW (aL (bx (bx ⟨_,rfl,bx h⟩))) Oa)
  | exact aL (aL (m:=Builtin.Tuple.tupleExact _) (pW (bx (bx ⟨_,rfl,bx h⟩)) Oa))
  | exact aL (aL (m:=Builtin.Tuple.tupleExact _) (pW (bx ⟨_,rfl,bx h⟩) Oa))
end
end HT
namespace L2
open PySem PySem.Spec PyProof.Rows
abbrev TO:=St->Hp->(Option Int->Hp->Prop)->Prop
def PO(X:Cx)(e:Option Expr)(t:TO):Prop:=
 ∀(pins:List (Addr×Obj)) (s:Shared) (σ:St) (H:Hp) (Q:Option Int->Hp->Prop),Inv X pins σ H s->t σ H Q->
  wpAny (model X.prog X.w) X.A (evalPart e X.env) (λu s'=>∃o H',Inv X pins σ H' s'/\IsPart u o/\Q o H') X.xe s
def Ew:TO:=λ_ H Q=>Q none H
def Ri(t:TE):TO:=λσ H Q=>t σ H λx H1=>∃i,x=.int i/\Q (some i) H1
section
variable {X:Cx}{e:Expr}{te:TE}{lo hi:Option Expr}{tl th:TO}{pos p2:Pos}
theorem Vm:PO X none Ew:=by
 intro pins s σ H Q I h
 rw[evalPart_none]
 exact bx ⟨none,H,I,.none,h⟩
theorem Vl(h:PE X e te):PO X (some e) (Ri te):=by
 intro pins s σ H Q I hw
 rw[evalPart_some]
 refine dH (h pins s σ H _ I hw) λu s1 ⟨x,H1,I1,r1,q1⟩=>?_
 obtain⟨i,rfl,q⟩:=q1
 obtain⟨t,rfl⟩:=r1
 exact⟨some i,H1,I1,.int i t,q⟩
def Wn(X:Cx)(r:V->Option Int->Option Int->Hp->VK->Prop):Prop:=
 ∀(pins:List (Addr×Obj)) (s:Shared) (σ:St) (H:Hp) (x:V) (v vl vu:Value) (lo hi:Option Int) (sl:Addr) (Q:VK),Inv X pins σ H s->RelV x v->s.heap.IsSliceOf sl vl vu .none->IsPart vl lo->IsPart vu hi->r x lo hi H Q->
  ∃T id,typeLookup (.type T) "__getitem__" = pure (some (.builtin id))/\s.TypeIs v T/\wpAny (model X.prog X.w) X.A (getItem v (.ref sl)) (EP X pins σ Q) X.xe s
def tSl(r:V->Option Int->Option Int->Hp->VK->Prop)(te:TE)(tl th:TO):TE:=λσ H Q=>te σ H λx H1=>tl σ H1 λl H2=>th σ H2 λu H3=>r x l u H3 Q
theorem Sj{r:V->Option Int->Option Int->Hp->VK->Prop}(hr:Wn X r)(he:PE X e te)(hl:PO X lo tl)(hu:PO X hi th):PE X (.Subscript e (.Slice lo hi none p2) pos) (tSl r te tl th):=by
 intro pins s σ H Q I h
 refine Subscript_ (dH (he pins s σ H _ I h) λv s1 ⟨x,H1,I1,r1,q1⟩=>?_)
 refine wpAny_Slice (dH (hl pins s1 σ H1 _ I1 q1) λvl s2 ⟨l,H2,I2,pl,q2⟩=>dH (hu pins s2 σ H2 _ I2 q2) λvu s3 ⟨u,H3,I3,pu,q3⟩=>?_)
 rw[evalPart_none]
 refine bx ?_
 have I4:Inv X pins σ H3 { s3 with heap:=s3.heap.push { cls:=.type "slice",data:=.fields #[vl,vu,.none] } }:=I3.kept (t':=s3.toks) λb ob q=>dZ _ q
 obtain⟨T,id,hT,ht,hg⟩:=hr pins { s3 with heap:=s3.heap.push { cls:=.type "slice",data:=.fields #[vl,vu,.none] } } σ H3 x v vl vu l u s3.heap.objs.size Q I4 r1 (Heap.IsSliceOf.new ..) pl pu q3
 show wpAny (model X.prog X.w) X.A (subscriptTail e (.Slice lo hi none p2) v (.ref s3.heap.objs.size)) (EP X pins σ Q) X.xe { s3 with heap:=s3.heap.push { cls:=.type "slice",data:=.fields #[vl,vu,.none] } }
 exact tail_any (ops:=[.ref s3.heap.objs.size,v]) ht hT hg (by with_unfolding_all rfl)
def tH(xs:List V)(lo hi:Option Int):List V:=(xs.drop (HT.eB xs.length 0 lo)).take (HT.eB xs.length xs.length hi-HT.eB xs.length 0 lo)
theorem wc(xs:List V)(lo hi:Option Int):(tH xs lo hi).length<=xs.length:=by
 unfold tH
 rw[kO,Ay]
 lia
def aB0(K:PySem.W.Frag):V->Option Int->Option Int->Hp->VK->Prop:=λx lo hi H Q=>∃a xs,x=.ref a/\wV K H a xs/\
 ¬(HT.eB xs.length 0 lo=0/\HT.eB xs.length xs.length hi=xs.length)/\∀p,H p=none->Q (.ref p) (upd H p (.tup (tH xs lo hi)))
theorem XJ:Wn X (aB0 X.K):=by
 intro pins s σ H x v vl vu lo hi sl Q I rx hs pl pu h
 obtain⟨a,xs,rfl,hx,hw,q⟩:=h
 cases rx
 obtain⟨its,r,ht,hz⟩:=I.tuple hx
 have hlen:its.toArray.size=xs.length:=by rw[iZ];exact r.length.symm
 refine⟨"tuple",_,QV.lookup,ht.typeIs,?_⟩
 refine HT.uN ht hs pl pu (by rw[hlen];exact hw) ?_ (by rw[hlen];exact hz)
 rw[hlen]
 refine⟨.ref s.heap.objs.size,_,I.laid (t':=s.toks) (o:=.tup (tH xs lo hi)) (λb ob q=>dZ _ q) (bW _) ?_,rfl,q _ (I.cA.fresh (bW _))⟩
 exact⟨jY (wc xs lo hi) hz,_,(r.drop (HT.eB xs.length 0 lo)).take (HT.eB xs.length xs.length hi-HT.eB xs.length 0 lo),IsTup.new _ _⟩
end
end L2
namespace L2
open PySem PySem.Spec PyProof.Rows
def P1(n:Nat)(i:Int):Option Nat:=if 0<=i then (if i<n then some i.toNat else none) else if -(n:Int)<=i then some (i+n).toNat else none
def wU{α:Type}(xs:List α)(i:Int):Option α:=(P1 xs.length i).bind λj=>xs[j]?
theorem N8{n:Nat}{i:Int}{j:Nat}(h:P1 n i=some j):seqIndex? i n=some j/\j<n/\-(n:Int)<=i/\i<n:=by
 unfold P1 at h
 by_cases h0:0<=i
 ·rw[bH h0]at h
  by_cases h1:i<n
  ·rw[bH h1]at h
   have e:i.toNat=j:=gU h
   exact⟨by rw[seqIndex_of h0 h1,e],by lia,by lia,h1⟩
  ·rw[aR h1]at h;cases h
 ·rw[aR h0]at h
  by_cases h1 : -(n:Int)<=i
  ·rw[bH h1]at h
   have e:(i+n).toNat=j:=gU h
   exact⟨by rw[seqIndex_neg (by lia) h1,e],by lia,h1,by lia⟩
  ·rw[aR h1]at h;cases h
theorem xg{α:Type}{xs:List α}{i:Int}{v:α}(h:wU xs i=some v):∃j,seqIndex? i xs.length=some j/\xs[j]?=some v/\j<xs.length/\-(xs.length:Int)<=i/\i<xs.length:=by
 unfold wU at h
 cases e:P1 xs.length i with
 | none=>rw[e]at h;cases h
 | some j=>
  rw[e]at h
  obtain⟨h1,h2,h3,h4⟩:=N8 e
  exact⟨j,h1,h,h2,h3,h4⟩
theorem kh{α:Type}{xs:List α}{j:Nat}{v:α}(h:xs[j]?=some v):wU xs (j:Int)=some v:=by
 have hj:j<xs.length:=(nO.mp h).1
 have e:P1 xs.length (j:Int)=some j:=by
  unfold P1
  rw[bH (by lia),bH (by lia)];simp
 unfold wU;rw[e];exact h
def Ow(b:Expr):Prop:=∀o i,subscripted b false o i=operate [o,i] (getItem o i)
def Ud(X:Cx)(r:R2):Prop:=
 ∀(value slice:Expr) (pins:List (Addr×Obj)) (s:Shared) (σ:St) (H:Hp) (x y:V) (v u:Value) (Q:VK),Inv X pins σ H s->RelV x v->RelV y u->r x y H Q->
  subscripted slice false v u=operate [v,u] (getItem v u)->wpAny (model X.prog X.w) X.A (subscriptTail value slice v u) (EP X pins σ Q) X.xe s
def W9(X:Cx)(id:String)(r:V->List V->Hp->VK->Prop):Prop:=
 ∀(pins:List (Addr×Obj)) (s:Shared) (σ:St) (H:Hp) (x:V) (xs:List V) (v:Value) (us:List Value) (Q:VK),Inv X pins σ H s->RelV x v->Vals xs us->r x xs H Q->
  wpAny (model X.prog X.w) X.A (call (.builtin id) (v::us)) (EP X pins σ Q) X.xe s
section
variable {X:Cx}{a b:Expr}{ta tb:TE}{pos:Pos}
theorem aAy{r:R2}(hr:Ud X r)(ha:PE X a ta)(hb:PE X b tb)(hs:Ow b):PE X (.Subscript a b pos) (QH r ta tb):=by
 intro pins s σ H Q I h
 exact Subscript_ (Zw ha hb I h λv u s2 x y H2 I2 rx ry q=>hr a b pins s2 σ H2 x y v u Q I2 rx ry q (hs _ _))
def aB4(K:PySem.W.Frag):R2:=λx y H Q=>∃p xs i v,x=.ref p/\y=.int i/\uZ K H p xs/\wU xs i=some v/\Q v H
def aB2(K:PySem.W.Frag):R2:=λx y H Q=>∃p xs i v,x=.ref p/\y=.int i/\wV K H p xs/\wU xs i=some v/\Q v H
def aB3:R2:=λx y H Q=>∃z i c,x=.str z/\y=.int i/\z.length<=sizeLine/\wU z.cps.toList i=some c/\Q (.str ⟨#[c]⟩) H
theorem VM:Ud X (aB4 X.K):=by
 intro value slice pins s σ H x y v u Q I rx ry h hs
 obtain⟨p,xs,i,z,rfl,rfl,hq,he,q⟩:=h
 cases rx
 obtain⟨t,rfl⟩:=ry
 obtain⟨its,r,pl,hz⟩:=I.list hq
 obtain⟨j,h1,h2,h3,h4,h5⟩:=xg he
 obtain⟨w,ew,RV⟩:=r.get h2
 have hl:=r.length
 have hn:=tf
 have fin:EP X pins σ Q w s:=⟨z,H,I,RV,q⟩
 by_cases h0:0<=i
 ·have hj:i.toNat=j:=by
   rw[seqIndex_of h0 h5]at h1
   exact gU h1
  exact item_listR pl.isList h0 (by lia) (by rw[hj];simpa using ew) fin hs
 ·have hj:(i+(its.toArray.size:Int)).toNat=j:=by
   rw[seqIndex_neg (by lia) h4]at h1
   rw[iZ,<-hl]
   exact gU h1
  exact subscriptTail_builtinR (x:=w) pl.isList.typeIs slot_list_getitem.lookup
   (wpAny_getItem_list_neg (Q:=λr s'=>r=w/\EP X pins σ Q r s') pl.isList (by lia) (by rw[iZ] <;> lia) (by lia) (by rw[hj];simpa using ew) ⟨rfl,fin⟩) hs
theorem YM:Ud X (aB2 X.K):=by
 intro value slice pins s σ H x y v u Q I rx ry h hs
 obtain⟨p,xs,i,z,rfl,rfl,hq,he,q⟩:=h
 cases rx
 obtain⟨t,rfl⟩:=ry
 obtain⟨its,r,pl,hz⟩:=I.tuple hq
 obtain⟨j,h1,h2,h3,h4,h5⟩:=xg he
 obtain⟨w,ew,RV⟩:=r.get h2
 have hl:=r.length
 have hn:=tf
 have fin:EP X pins σ Q w s:=⟨z,H,I,RV,q⟩
 exact subscriptTail_builtinR (x:=w) pl.typeIs slot_tuple_getitem.lookup
  (getItem_tuple (j:=j) (Q:=λr s'=>r=w/\EP X pins σ Q r s') pl (by lia) (by lia) (by rw[iZ,<-hl];exact h1) (by simpa using ew) ⟨rfl,fin⟩) hs
theorem YQ:Ud X aB3:=by
 intro value slice pins s σ H x y v u Q I rx ry h hs
 obtain⟨z,i,c,rfl,rfl,hz,he,q⟩:=h
 obtain⟨t,rfl⟩:=rx
 obtain⟨t',rfl⟩:=ry
 obtain⟨j,h1,h2,h3,h4,h5⟩:=xg he
 have hl:z.cps.toList.length=z.length:=by simp[Str.length]
 rw[hl]at h1 h4 h5
 have hn:=tf
 exact tail_any (u0 s z t) slot_str_getitem.lookup (getItem_str (c:=c) (by
  have e1:decide (i < -(2 ^ 63:Int))=false:=decide_eq_false (by lia)
  have e2:decide (i>=2 ^ 63)=false:=decide_eq_false (by lia)
  rw[e1,e2,Bool.or_false]) (by rw[h1];simpa using h2) ⟨.str ⟨#[c]⟩,H,I.tok _,⟨_,rfl⟩,q⟩) hs
theorem Lq(its:List Value)(n j:Nat)(u:Value):Obj.mapSeq (·.setIfInBounds j u) { cls:=.type "list",data:=.seq its.toArray n }={ cls:=.type "list",data:=.seq (its.set j u).toArray n }:=by
 simp[Obj.mapSeq]
theorem Inv.lst{pins:List (Addr×Obj)}{σ:St}{H:Hp}{s:Shared}{p:Addr}{xs:List V}(I:Inv X pins σ H s)(h:H p=some (.lst xs)) :
  ∃(its:List Value) (n:Nat),Vals xs its/\s.heap.get? p=some { cls:=.type "list",data:=.seq its.toArray n }/\xs.length<=sizeLine:=by
 obtain⟨z,its,n,r,e⟩:=I.cA p _ h
 exact⟨its,n,r,e,z⟩
theorem Inv.YC{pins:List (Addr×Obj)}{σ:St}{H:Hp}{s:Shared}{p:Addr}{xs ys:List V}{its its':List Value}{n n':Nat}{f:Obj->Obj}(I:Inv X pins σ H s)(h:H p=some (.lst xs))
  (ho:s.heap.get? p=some { cls:=.type "list",data:=.seq its.toArray n }) (hf:f { cls:=.type "list",data:=.seq its.toArray n }={ cls:=.type "list",data:=.seq its'.toArray n' }) (r:Vals ys its') (hz:ys.length<=sizeLine) (t:Nat) :
  Inv X pins σ (upd H p (.lst ys)) { s with heap:=s.heap.update p f,toks:=t }:=by
 have e:(s.heap.update p f).get? p=some { cls:=.type "list",data:=.seq its'.toArray n' }:=by
  rw[qc f ho (by rw[hf] <;> rfl),hf]
 refine I.write (x:=p) (e:=p) (by rw[h];trivial) (.inl rfl) (λb u hb q=>(sx _ _ (mL hb)).trans q) ⟨_,e⟩ ?_
 exact⟨hz,its',n',r,e⟩
def aAh:V->V->V->Hp->(Hp->Prop)->Prop:=λo i v H Q=>∃p xs k j,o=.ref p/\i=.int k/\H p=some (.lst xs)/\P1 xs.length k=some j/\Q (upd H p (.lst (xs.set j v)))
theorem set_list:Qt X aAh:=by
 intro pins s σ H o i v ov iv u Q I ro ri rv h
 obtain⟨p,xs,k,j,rfl,rfl,hp,hj,q⟩:=h
 cases ro
 obtain⟨t,rfl⟩:=ri
 obtain⟨its,n,r,ho,hz⟩:=I.lst hp
 obtain⟨h1,h2,h3,h4⟩:=N8 hj
 have hl:=r.length
 have hn:=tf
 have I':Inv X pins σ (upd H p (.lst (xs.set j v))) { s with heap:=s.heap.update p (Obj.mapSeq (·.setIfInBounds j u)) }:=
  I.YC hp ho (Lq its n j u) (r.set rv j) (by rw[List.length_set];exact hz) s.toks
 by_cases h0:0<=k
 ·have hk:k.toNat=j:=by
   rw[seqIndex_of h0 h4]at h1
   exact gU h1
  exact PySem.W.ki_setAt ho h0 (by lia) (by rw[iZ,<-hl];exact h4) (by rw[hk];exact⟨_,I',q⟩)
 ·have hk:(k+(its.toArray.size:Int)).toNat=j:=by
   rw[seqIndex_neg (by lia) h3]at h1
   rw[iZ,<-hl]
   exact gU h1
  exact PySem.W.ki_setBack ho (by lia) (by rw[iZ,<-hl];exact h3) (by lia) (by rw[hk];exact⟨_,I',q⟩)
theorem uo(lo hi:Option Int)(n:Nat):(sliceBounds lo hi none n).1=((HT.eB n 0 lo:Nat):Int)/\(sliceBounds lo hi none n).2.1=((HT.eB n n hi:Nat):Int)/\(sliceBounds lo hi none n).2.2=1:=by
 refine⟨?_,?_,rfl⟩
 ·cases lo with
  | none=>simp[sliceBounds,HT.eB]
  | some i=>
   simp only[sliceBounds,HT.eB,Option.getD_none,show(1:Int) > 0 by decide,oi]
   by_cases h:i<0
   ·simp only[h,oi] <;> lia
   ·simp only[h,pU] <;> lia
 ·cases hi with
  | none=>simp[sliceBounds,HT.eB]
  | some i=>
   simp only[sliceBounds,HT.eB,Option.getD_none,show(1:Int) > 0 by decide,oi]
   by_cases h:i<0
   ·simp only[h,oi] <;> lia
   ·simp only[h,pU] <;> lia
theorem z8(its:List Value)(lo hi:Option Int):slicePick its.toArray lo hi none=((its.drop (HT.eB its.length 0 lo)).take (HT.eB its.length its.length hi-HT.eB its.length 0 lo)).toArray:=by
 obtain⟨h1,h2,h3⟩:=uo lo hi its.toArray.size
 unfold slicePick
 rw[h1,h2,h3]
 simp only[sliceRange_one,pick_run,iZ] <;> rfl
def aB1(K:PySem.W.Frag):V->Option Int->Option Int->Hp->VK->Prop:=λx lo hi H Q=>∃a xs,x=.ref a/\uZ K H a xs/\∀p,H p=none->Q (.ref p) (upd H p (.lst (tH xs lo hi)))
theorem U7:Wn X (aB1 X.K):=by
 intro pins s σ H x v vl vu lo hi sl Q I rx hs pl pu h
 obtain⟨a,xs,rfl,hx,q⟩:=h
 cases rx
 obtain⟨its,r,ht,hz⟩:=I.list hx
 have hlen:=r.length
 refine⟨"list",_,slot_list_getitem.lookup,ht.isList.typeIs,?_⟩
 refine wpAny_getItem_list_slice ht.isList hs pl pu .none (by simp) ?_ (by rw[iZ] <;> lia)
 rw[z8,<-hlen]
 refine⟨.ref s.heap.objs.size,_,I.laid (t':=s.toks) (o:=.lst (tH xs lo hi)) (λb ob q=>dZ _ q) (bW _) ?_,rfl,q _ (I.cA.fresh (bW _))⟩
 exact⟨jY (wc xs lo hi) hz,_,0,(r.drop (HT.eB xs.length 0 lo)).take (HT.eB xs.length xs.length hi-HT.eB xs.length 0 lo),kz _ rfl⟩
def md:V->Bool
 | .non=>true
 | .bl _=>true
 | .int _=>true
 | .str _=>true
 | _=>false
def Qg:V->V->Bool
 | .non,.non=>true
 | .bl a,.bl b=>a==b
 | .bl a,.int b=>(if a then 1 else 0)==b
 | .int a,.bl b=>a==(if b then 1 else 0)
 | .int a,.int b=>a==b
 | .str a,.str b=>a==b
 | _,_=>false
theorem Mt{A:Around}{s:Shared}{y x:V}{u v:Value}(ry:RelV y u)(rx:RelV x v)(fy:md y=true)(fx:md x=true):SeqAt.EqAt A s u v (Qg y x):=by
 cases y with
 | non=>
  cases ry
  cases x with
  | non=>cases rx;exact SeqAt.EqAt.same _
  | bl b=>cases rx;exact SeqAt.EqAt.none_bool b
  | int b=>obtain⟨t,rfl⟩:=rx;exact SeqAt.EqAt.none_int b t
  | str b=>obtain⟨t,rfl⟩:=rx;exact SeqAt.EqAt.none_str b t
  | _=>exact absurd (show false=true from fx) gW
 | bl a=>
  cases ry
  cases x with
  | non=>cases rx;exact SeqAt.EqAt.bool_none a
  | bl b=>cases rx;exact SeqAt.EqAt.bool_bool a b
  | int b=>obtain⟨t,rfl⟩:=rx;exact SeqAt.EqAt.bool_int a b t
  | str b=>obtain⟨t,rfl⟩:=rx;exact SeqAt.EqAt.bool_str a b t
  | _=>exact absurd (show false=true from fx) gW
 | int a=>
  obtain⟨t',rfl⟩:=ry
  cases x with
  | non=>cases rx;exact SeqAt.EqAt.int_none a t'
  | bl b=>cases rx;exact SeqAt.EqAt.int_bool a t' b
  | int b=>obtain⟨t,rfl⟩:=rx;exact SeqAt.EqAt.int_int a t' b t
  | str b=>obtain⟨t,rfl⟩:=rx;exact SeqAt.EqAt.int_str a t' b t
  | _=>exact absurd (show false=true from fx) gW
 | str a=>
  obtain⟨t',rfl⟩:=ry
  cases x with
  | non=>cases rx;exact SeqAt.EqAt.str_none a t'
  | bl b=>cases rx;exact SeqAt.EqAt.str_bool a t' b
  | int b=>obtain⟨t,rfl⟩:=rx;exact SeqAt.EqAt.str_int a t' b t
  | str b=>obtain⟨t,rfl⟩:=rx;exact SeqAt.EqAt.str_str a t' b t
  | _=>exact absurd (show false=true from fx) gW
 | _=>exact absurd (show false=true from fy) gW
def Ms(x:V)(u:Value):Bool:=match u with
 | .none=>Qg .non x
 | .bool b=>Qg (.bl b) x
 | .int i _=>Qg (.int i) x
 | .str z _=>Qg (.str z) x
 | _=>false
theorem Tz{x y:V}{u:Value}(r:RelV y u)(f:md y=true):Ms x u=Qg y x:=by
 cases y with
 | non=>cases r;rfl
 | bl b=>cases r;rfl
 | int i=>obtain⟨t,rfl⟩:=r;rfl
 | str z=>obtain⟨t,rfl⟩:=r;rfl
 | _=>exact absurd (show false=true from f) gW
theorem uR{x:V}:∀{xs:List V} {us:List Value},Vals xs us->xs.all md=true->us.any (Ms x)=xs.any λy=>Qg y x
 | _,_,.nil,_=>rfl
 | y::xs,u::us,.cons r t,f=>by
  rw[vb,gO]at f
  rw[xD,xD,Tz r f.1,uR t f.2]
theorem qC{A:Around}{s:Shared}{x:V}{v:Value}(rx:RelV x v)(fx:md x=true):∀{xs:List V} {us:List Value},Vals xs us->xs.all md=true->∀u∈us,SeqAt.EqAt A s u v (Ms x u)
 | _,_,.nil,_=>λu hu=>by cases hu
 | y::xs,u::us,.cons r t,f=>λu' hu=>by
  rw[vb,gO]at f
  rcases gN.mp hu with rfl | hu
  ·rw[Tz r f.1];exact Mt r rx f.1 fx
  ·exact qC rx fx t f.2 u' hu
def WW(x:V)(xs:List V):Bool:=xs.any λy=>Qg y x
def rIn(K:PySem.W.Frag)(neg:Bool):R2:=λx y H Q=>∃p xs,y=.ref p/\(uZ K H p xs\/wV K H p xs)/\md x=true/\xs.all md=true/\Q (.bl (if neg then !WW x xs else WW x xs)) H
theorem Pw:nJ X (compareOp .In) (rIn X.K false):=by
 intro pins s σ H x y v u Q I rx ry h
 obtain⟨p,xs,rfl,hq,fx,fs,q⟩:=h
 cases ry
 rcases hq with hq | hq
 ·obtain⟨its,r,pl,hz⟩:=I.list hq
  refine SeqAt.in_listAt (Ms x) pl.isList (λw hw=>qC rx fx r fs w (by simpa using hw)) ⟨.bl _,H,I,rfl,?_⟩
  rw[show its.toArray.any (Ms x)=its.any (Ms x) by simp,uR r fs]
  exact q
 ·obtain⟨its,r,pl,hz⟩:=I.tuple hq
  refine SeqAt.in_tupleAt (Ms x) pl (λw hw=>qC rx fx r fs w (by simpa using hw)) ⟨.bl _,H,I,rfl,?_⟩
  rw[show its.toArray.any (Ms x)=its.any (Ms x) by simp,uR r fs]
  exact q
theorem Ff:nJ X (compareOp .NotIn) (rIn X.K true):=by
 intro pins s σ H x y v u Q I rx ry h
 obtain⟨p,xs,rfl,hq,fx,fs,q⟩:=h
 cases ry
 rcases hq with hq | hq
 ·obtain⟨its,r,pl,hz⟩:=I.list hq
  refine SeqAt.notIn_listAt (Ms x) pl.isList (λw hw=>qC rx fx r fs w (by simpa using hw)) ⟨.bl _,H,I,rfl,?_⟩
  rw[show its.toArray.any (Ms x)=its.any (Ms x) by simp,uR r fs]
  exact q
 ·obtain⟨its,r,pl,hz⟩:=I.tuple hq
  refine SeqAt.notIn_tupleAt (Ms x) pl (λw hw=>qC rx fx r fs w (by simpa using hw)) ⟨.bl _,H,I,rfl,?_⟩
  rw[show its.toArray.any (Ms x)=its.any (Ms x) by simp,uR r fs]
  exact q
theorem uO:e9 X (.builtin "len") (λxs H Q=>∃p ys,xs=[.ref p]/\(uZ X.K H p ys\/wV X.K H p ys)/\Q (.int ys.length) H):=by
 intro pins s σ H xs us Q I r h
 obtain⟨p,ys,rfl,hq,q⟩:=h
 obtain⟨u,rfl,rx⟩:=vals1 r
 cases rx
 have hn:=tf
 rcases hq with hq | hq
 ·obtain⟨its,r',pl,hz⟩:=I.list hq
  have hlen:=r'.length
  exact Calls.call_len_list pl.isList (by simp only[iZ] <;> lia) ⟨.int ys.length,H,I.tok _,⟨s.toks+1,by rw[iZ,hlen]⟩,q⟩
 ·obtain⟨its,r',pl,hz⟩:=I.tuple hq
  have hlen:=r'.length
  exact len_tuple pl (by simp only[iZ] <;> lia) ⟨.int ys.length,H,I.tok _,⟨s.toks+1,by rw[iZ,hlen]⟩,q⟩
theorem FN:e9 X (.builtin "len") (λxs H Q=>∃z,xs=[.str z]/\z.length<=sizeLine/\Q (.int z.length) H):=by
 intro pins s σ H xs us Q I r h
 obtain⟨z,rfl,hz,q⟩:=h
 obtain⟨u,rfl,t,rfl⟩:=vals1 r
 have hn:=tf
 exact len_str (by lia) ⟨.int z.length,H,I.tok _,⟨_,rfl⟩,q⟩
theorem FK:e9 X (.type "list") (λxs H Q=>∃p ys,xs=[.ref p]/\(uZ X.K H p ys\/wV X.K H p ys)/\∀l,H l=none->Q (.ref l) (upd H l (.lst ys))):=by
 intro pins s σ H xs us Q I r h
 obtain⟨p,ys,rfl,hq,q⟩:=h
 obtain⟨u,rfl,rx⟩:=vals1 r
 cases rx
 have fin:∀(its:List Value),Vals ys its->ys.length<=sizeLine->∀(h':Heap) (c':Nat),(∀b o',s.heap.get? b=some o'->h'.get? b=some o')->
   h'.get? s.heap.objs.size=some { cls:=.type "list",dict:=none,data:=.seq its.toArray c',slots:=#[] }->EP X pins σ Q (.ref s.heap.objs.size) { s with heap:=h' }:=λits r' hz h' c' kp e=>
  ⟨.ref s.heap.objs.size,_,I.laid (t':=s.toks) kp (bW _) (show dJ X.prog X.w _ h' _ (.lst ys) from ⟨hz,its,c',r',e⟩),rfl,q _ (I.cA.fresh (bW _))⟩
 rcases hq with hq | hq
 ·obtain⟨its,r',pl,hz⟩:=I.list hq
  have hlen:=r'.length
  obtain⟨o,ho,hc,n,hd⟩:=pl.isList
  exact call_list_seq p (.inl rfl) ho hc hd (λh' c' kp e=>fin its r' hz h' c' kp e) (by simp only[iZ] <;> lia)
 ·obtain⟨its,r',pl,hz⟩:=I.tuple hq
  have hlen:=r'.length
  obtain⟨o,ho,hc,n,hd⟩:=pl
  exact call_list_seq p (.inr rfl) ho hc hd (λh' c' kp e=>fin its r' hz h' c' kp e) (by simp only[iZ] <;> lia)
theorem Al:e9 X (.type "tuple") (λxs H Q=>∃p ys,xs=[.ref p]/\((uZ X.K H p ys/\∀l,H l=none->Q (.ref l) (upd H l (.tup ys)))\/(wV X.K H p ys/\Q (.ref p) H))):=by
 intro pins s σ H xs us Q I r h
 obtain⟨p,ys,rfl,h⟩:=h
 obtain⟨u,rfl,rx⟩:=vals1 r
 cases rx
 rcases h with ⟨hq,q⟩ | ⟨hq,q⟩
 ·obtain⟨its,r',pl,hz⟩:=I.list hq
  have hlen:=r'.length
  refine call_tuple_list pl.isList (λh' kp=>?_) (by simp only[iZ] <;> lia)
  have I1:Inv X pins σ H { s with heap:=h' }:=I.kept (t':=s.toks) kp
  have I2:Inv X pins σ (upd H h'.objs.size (.tup ys)) { s with heap:=h'.push { cls:=.type "tuple",data:=.seq its.toArray } }:=
   I1.laid (t':=s.toks) (λb o e=>dZ _ e) (bW _) (show dJ X.prog X.w _ _ _ (.tup ys) from ⟨hz,its,r',IsTup.new _ _⟩)
  exact⟨.ref h'.objs.size,_,I2,rfl,q _ (I1.cA.fresh (bW _))⟩
 ·obtain⟨its,r',pl,hz⟩:=I.tuple hq
  exact call_tuple_same pl ⟨.ref p,H,I,rfl,q⟩
def tyV(K:PySem.W.Frag)(T:String)(x:V)(H:Hp):Prop:=match x with
 | .str _=>T = "str"
 | .int _=>T = "int"
 | .ref p=>(T = "list"/\∃xs,uZ K H p xs)\/(T = "tuple"/\∃o,K.lookup p=some o/\o.cls=.type "tuple"/\o.dict=none)\/
   (T = "dict"/\((∃aX,H p=some (.dK aX))\/∃aX,H p=some (.dT aX)))\/(T = "set"/\∃S n,H p=some (.set S n))
 | _=>False
theorem Xg{pins:List (Addr×Obj)}{σ:St}{H:Hp}{s:Shared}{T:String}{x:V}{v:Value}(I:Inv X pins σ H s)(r:RelV x v)(ty:tyV X.K T x H) :
  s.TypeIs v T/\∀a,v=.ref a->∃ob,s.heap.get? a=some ob/\ob.dict=none:=by
 cases x with
 | str z=>
  obtain⟨t,rfl⟩:=r
  cases (show T = "str" from ty)
  exact⟨u0 s z t,λ_ e=>nomatch e⟩
 | int i=>
  obtain⟨t,rfl⟩:=r
  cases (show T = "int" from ty)
  exact⟨typeIs_int s i t,λ_ e=>nomatch e⟩
 | ref p=>
  cases r
  rcases ty with ⟨rfl,xs,hq⟩ | ⟨rfl,o,hk,hc,hd⟩ | ⟨rfl,hk⟩ | ⟨rfl,S,n,hk⟩
  ·obtain⟨its,_,pl,_⟩:=I.list hq
   refine⟨pl.isList.typeIs,λa e=>?_⟩
   cases e
   obtain⟨o,n,e,c,hd,_⟩:=pl
   exact⟨o,e,hd⟩
  ·refine⟨⟨o,I.o9 p o hk,hc⟩,λa e=>?_⟩
   cases e
   exact⟨o,I.o9 _ o hk,hd⟩
  ·have z:∃o,s.heap.get? p=some o/\o.ExactDict:=by
    rcases hk with ⟨aX,hk⟩ | ⟨aX,hk⟩
    ·obtain⟨_,_,_,_,o,_,_,e,ex,_⟩:=I.cA p _ hk
     exact⟨o,e,ex⟩
    ·obtain⟨_,_,_,_,o,_,_,e,ex,_⟩:=I.cA p _ hk
     exact⟨o,e,ex⟩
   obtain⟨o,e,ex⟩:=z
   refine⟨⟨o,e,ex.1⟩,λa e2=>?_⟩
   cases e2
   exact⟨o,e,ex.2.1⟩
  ·obtain⟨o,_,_,_,e,ex,_⟩:=I.cA p _ hk
   refine⟨⟨o,e,ex.1⟩,λa e2=>?_⟩
   cases e2
   exact⟨o,e,ex.2.1⟩
 | _=>exact False.elim ty
def aBL(K:PySem.W.Frag)(T:String)(r:V->List V->Hp->VK->Prop)(to:TE):TE:=λσ H Q=>to σ H λx H1=>tyV K T x H1/\r x [] H1 Q
def tBM(K:PySem.W.Frag)(T:String)(r:V->List V->Hp->VK->Prop)(to:TE)(t:TA):TE:=λσ H Q=>to σ H λx H1=>tyV K T x H1/\t σ H1 λxs H2=>r x xs H2 Q
variable {o e:Expr}{es:List Expr}{to:TE}{t:TA}{name:Str}{apos bY:Pos}{T id:String}{r:V->List V->Hp->VK->Prop}
theorem Ci(pa:PlainAttrs T)(slot:Slot T name id)(hty:typeOf (.builtin id)=pure (.type "method_descriptor"))(hm:W9 X id r)(ho:PE X o to)(ha:PA X (e::es) t)
  (aAY:attributeBase o name X.env (eval o X.env)=eval o X.env:=by rfl)
  (aDv:((backTo bY (starEach (e::es) X.env)).all (λx=>!x.1)&&(backToKw bY (keywordEach [] X.env)).all (λx=>x.1.isSome)
   && decide ((e::es).length+([]:List Keyword).length+(if ([]:List Keyword).isEmpty then 0 else 1)<30))=true:=by rfl)
  (hline:(apos.endLine==bY.line)=true:=by rfl) (hs:starEach (e::es) X.env=(false,eval e X.env)::starEach es X.env:=by rfl) (Y5:(backTo bY (starEach es X.env)).any (·.1)=false:=by rfl) :
  PE X (.Call (.Attribute o name apos) (e::es) [] bY) (tBM X.K T r to t):=by
 intro pins s σ H Q I h
 refine wpAny_Call_method_late aAY aDv hline rfl (dH (ho pins s σ H _ I h) λv s1 ⟨x,H1,I1,r1,ty,q1⟩=>?_)
 obtain⟨h1,h2⟩:=Xg I1 r1 ty
 refine⟨T,id,pa,slot,hty,h1,h2,?_⟩
 have hA:=ha bY pins s1 σ H1 _ I1 q1
 rw[hs]at hA ⊢
 refine Calls.callWith_builtin (by show(false||(backTo bY (starEach es X.env)).any (·.1))=false;rw[Y5] <;> rfl) (Calls.evalArgs_plain ?_)
 exact dH hA λus s2 ⟨vs,H2,I2,r2,q2⟩=>hm pins s2 σ H2 x vs v us Q I2 r1 r2 q2
end
end L2
namespace L2
open PySem PySem.Spec PyProof.Rows
def MtM(X:Cx)(id:String)(r:V->List V->Hp->VK->Prop):Prop:=
 ∀(pins:List (Addr×Obj)) (s:Shared) (σ:St) (H:Hp) (x:V) (xs:List V) (v:Value) (us:List Value) (Q:VK),Inv X pins σ H s->RelV x v->Vals xs us->r x xs H Q->
  wpAny (model X.prog X.w) X.A (call (.builtin id) (v::us)) (EP X pins σ Q) X.xe s
theorem Vals.one:∀{x:V} {us:List Value},Vals [x] us->∃u,us=[u]/\RelV x u
 | _,_,.cons r .nil=>⟨_,rfl,r⟩
theorem Vals.two:∀{x y:V} {us:List Value},Vals [x,y] us->∃u v,us=[u,v]/\RelV x u/\RelV y v
 | _,_,_,.cons r (.cons q .nil)=>⟨_,_,rfl,r,q⟩
section
variable {X:Cx}{pins:List (Addr×Obj)}{σ:St}{H:Hp}{s:Shared}{l b:Addr}{xs ys zs:List V}
theorem Inv.aAH{its its':List Value}{n:Nat}{f:Array Value->Array Value}{t':Nat}(I:Inv X pins σ H s)(hH:H l=some (.lst xs))
  (e:s.heap.get? l=some { cls:=.type "list",data:=.seq its.toArray n }) (hf:f its.toArray=its'.toArray) (hv:Vals ys its') (hz:ys.length<=sizeLine) :
  Inv X pins σ (upd H l (.lst ys)) { s with heap:=s.heap.update l (Obj.mapSeq f),toks:=t' }:=by
 have q:=PySem.IsL.update e f
 rw[hf]at q
 refine I.write (x:=l) (e:=l) (by rw[hH];exact trivial) (.inl rfl) (λb' u hb hu=>(sx s.heap (Obj.mapSeq f) (mL hb)).trans hu) ⟨_,q⟩ ?_
 exact⟨hz,its',_,hv,q⟩
theorem Inv.aCU{its:List Value}{t':Nat}(I:Inv X pins σ H s)(hv:Vals ys its)(hz:ys.length<=sizeLine) :
  Inv X pins σ (upd H s.heap.objs.size (.lst ys)) { s with heap:=s.heap.push { cls:=.type "list",data:=.seq its.toArray },toks:=t' }:=
 I.laid (λ_ _ q=>dZ _ q) (bW _) ⟨hz,its,0,hv,kz _ rfl⟩
theorem Inv.fresh(I:Inv X pins σ H s):H s.heap.objs.size=none:=I.cA.fresh (bW _)
theorem Inv.Tc(I:Inv X pins σ H s)(hH:H l=some (.lst xs)):xs.length<=sizeLine/\∃(its:List Value) (n:Nat),Vals xs its/\xs.length=its.length/\s.heap.get? l=some { cls:=.type "list",data:=.seq its.toArray n }:=by
 obtain⟨z,its,n,r,e⟩:=I.cA l _ hH
 exact⟨z,its,n,r,r.length,e⟩
theorem SQ{n:Nat}(h:n<=sizeLine):Builtin.List.listTooLong n=false:=by
 unfold Builtin.List.listTooLong
 exact decide_eq_false (by lia)
end
section
variable {X:Cx}
def Ny:V->List V->Hp->VK->Prop:=λx vs H Q=>∃l xs y,x=.ref l/\vs=[y]/\H l=some (.lst xs)/\xs.length<sizeLine/\Q .non (upd H l (.lst (xs++[y])))
theorem rP:MtM X "list.append" Ny:=by
 intro pins s σ H x vs v us Q I rx rv h
 obtain⟨l,xs,y,rfl,rfl,hH,hz,q⟩:=h
 cases rx
 obtain⟨u,rfl,ru⟩:=rv.one
 obtain⟨z,its,n,r,hl,e⟩:=I.Tc hH
 refine call_meets F.slot_list_append ⟨_,e,rfl⟩ F.entry_list_append (F.args_list_append_2 _ _) (PySem.list_append l its.toArray n u (by rw[iZ];lia)) ⟨e,?_⟩
 refine⟨.non,_,I.aAH (its':=its++[u]) hH e (by simp) (r.append (.cons ru .nil)) ?_,rfl,q⟩
 rw[lS,M9]
 lia
def Nw:V->List V->Hp->VK->Prop:=λx vs H Q=>∃l b xs zs,x=.ref l/\vs=[.ref b]/\H l=some (.lst xs)/\H b=some (.lst zs)/\xs.length+zs.length<=sizeLine/\Q .non (upd H l (.lst (xs++zs)))
theorem PB:MtM X "list.extend" Nw:=by
 intro pins s σ H x vs v us Q I rx rv h
 obtain⟨l,b,xs,zs,rfl,rfl,hH,hB,hz,q⟩:=h
 cases rx
 obtain⟨u,rfl,ru⟩:=rv.one
 cases ru
 obtain⟨z,its,n,r,hl,e⟩:=I.Tc hH
 obtain⟨z2,Ly,n2,r2,hl2,e2⟩:=I.Tc hB
 have xf:its.toArray.size+Ly.toArray.size<=sizeLine:=by rw[iZ,iZ];lia
 have aAT:¬(!its.toArray.isEmpty&&Builtin.List.listTooLong (its.toArray.size+Ly.toArray.size))=true:=by
  rw[SQ xf,Bool.and_false]
  exact gW
 refine call_meets F.slot_list_extend ⟨_,e,rfl⟩ F.entry_list_extend (F.args_list_extend_2 _ _)
  (AutoSeq1.list_extend_list_list_0 l its.toArray n b Ly.toArray n2 aAT (by rw[iZ];lia) (by lia)) ⟨e,e2,?_⟩
 refine⟨.non,_,I.aAH (its':=its++Ly) hH e (by simp) (r.append r2) ?_,rfl,q⟩
 rw[lS]
 lia
def aAj:R2:=λx y H Q=>∃l b xs zs,x=.ref l/\y=.ref b/\H l=some (.lst xs)/\H b=some (.lst zs)/\xs.length+zs.length<=sizeLine/\∀p,H p=none->Q (.ref p) (upd H p (.lst (xs++zs)))
theorem Lh:nJ X (binaryOp .Add) aAj:=by
 intro pins s σ H x y v u Q I rx ry h
 obtain⟨l,b,xs,zs,rfl,rfl,hH,hB,hz,q⟩:=h
 cases rx
 cases ry
 obtain⟨z,its,n,r,hl,e⟩:=I.Tc hH
 obtain⟨z2,Ly,n2,r2,hl2,e2⟩:=I.Tc hB
 refine PySem.P.add_list e e2 ?_ (by rw[iZ,iZ];lia)
 have ea:its.toArray++Ly.toArray=(its++Ly).toArray:=by simp
 rw[ea]
 exact⟨.ref _,_,I.aCU (t':=s.toks) (r.append r2) (by rw[lS];lia),rfl,q _ I.fresh⟩
end
section
variable {prog:Program}{w:World}{A:Around}{E:Value->Shared->Prop}{s:Shared}
end
section
variable {X:Cx}
end
end L2
namespace L2
open PySem PySem.Spec PyProof.Rows
section
variable {κ:Type} [DecidableEq κ]
def lW(aX:List (κ×V))(k:κ):Option V:=(aX.find? λkv=>decide (kv.1=k)).map (·.2)
def putK(aX:List (κ×V))(k:κ)(v:V):List (κ×V):=
 if (aX.any λkv=>decide (kv.1=k))=true then aX.map (λkv=>if kv.1=k then (kv.1,v) else kv) else aX++[(k,v)]
theorem yM{p:κ×V}{r:List (κ×V)}{k:κ}(e:p.1=k):lW (p::r) k=some p.2:=by simp[lW,Av,e]
theorem yN{p:κ×V}{r:List (κ×V)}{k:κ}(e:¬p.1=k):lW (p::r) k=lW r k:=by simp[lW,Av,e]
theorem Ha(k:κ):∀aX:List (κ×V),(aX.any λkv=>decide (kv.1=k))=(lW aX k).isSome
 | []=>rfl
 | p::r=>by
  rw[xD]
  by_cases e:p.1=k
  ·simp only[yM e,decide_eq_true e,Bool.true_or,Option.isSome_some]
  ·rw[yN e,decide_eq_false e,Bool.false_or];exact Ha k r
theorem Ia(aX:List (κ×V))(k:κ)(v:V):(putK aX k v).length<=aX.length+1:=by
 unfold putK
 split
 ·rw[di];lia
 ·rw[lS,vF,Ea];lia
theorem wW.CT{o:Option V}{u:Option Value}(r:wW o u):o.isSome=u.isSome:=by
 cases o with
 | none=>cases u with
  | none=>rfl
  | some _=>exact(show False from r).elim
 | some _=>cases u with
  | none=>exact(show False from r).elim
  | some _=>rfl
theorem KV.val{aX:List (κ×V)}{vs:List (κ×Value)}(r:KV aX vs)(k:κ):wW (lW aX k) (valueAt vs k):=by
 unfold KV at r
 induction r with
 | nil=>exact True.intro
 | @cons p q ps qs h t ih=>
  obtain⟨h1,h2⟩:=h
  by_cases e:p.1=k
  ·have e':q.1=k:=h1.symm.trans e
   have b:valueAt (q::qs) k=some q.2:=by simp[valueAt,Av,e']
   rw[yM e,b];exact h2
  ·have e':¬q.1=k:=λz=>e (h1.trans z)
   have b:valueAt (q::qs) k=valueAt qs k:=by simp[valueAt,Av,e']
   rw[yN e,b];exact ih
theorem KV.any{aX:List (κ×V)}{vs:List (κ×Value)}(r:KV aX vs)(k:κ):(aX.any λkv=>decide (kv.1=k))=vs.any λkv=>decide (kv.1=k):=by
 unfold KV at r
 induction r with
 | nil=>rfl
 | cons h t ih=>rw[xD,xD,ih,h.1]
theorem KV.repl{aX:List (κ×V)}{vs:List (κ×Value)}(r:KV aX vs)(k:κ){y:V}{u:Value}(ry:RelV y u) :
  KV (aX.map λkv=>if kv.1=k then (kv.1,y) else kv) (vs.map λkv=>if kv.1=k then (kv.1,u) else kv):=by
 unfold KV at r ⊢
 induction r with
 | nil=>exact .nil
 | @cons p q ps qs h t ih=>
  rw[mK,mK]
  refine .cons ?_ ih
  obtain⟨h1,h2⟩:=h
  by_cases e:p.1=k
  ·rw[bH e,bH (h1.symm.trans e)];exact⟨h1,ry⟩
  ·rw[aR e,aR (λz=>e (h1.trans z))];exact⟨h1,h2⟩
theorem KV.put{aX:List (κ×V)}{vs:List (κ×Value)}(r:KV aX vs)(k:κ){y:V}{u:Value}(ry:RelV y u):KV (putK aX k y) (stored vs k u):=by
 unfold putK stored
 rw[r.any k]
 by_cases e:(vs.any λkv=>decide (kv.1=k))=true
 ·rw[bH e,bH e];exact r.repl k ry
 ·rw[aR e,aR e];exact Paired.snoc r ⟨rfl,ry⟩
end
theorem N6{P:Program}{w:World}{k:Key}{u:Value}(r:RelV (kV k) u):(gX P w).is k u=true:=by
 cases k with
 | inl i=>obtain⟨t,e⟩:=(show ∃t,u=Value.int i t from r);subst e;exact HJ P w i t
 | inr x=>obtain⟨t,e⟩:=(show ∃t,u=Value.str x t from r);subst e;exact HF P w x t
theorem CQ{P:Program}{w:World}:∀{ks:List Key} {us:List Value},Vals (ks.map kV) us->ItemsAre (gX P w) ks us
 | [],_,r=>by rw[DW]at r;cases r;exact .nil
 | k::ks,_,r=>by
  rw[mK]at r
  cases r with
  | cons h t=>exact .cons (N6 h) (CQ t)
abbrev KT(H:Hp):List (List Key×V)->List (List Key×Addr×Value)->Prop:=Paired λp q=>p.1=q.1/\H q.2.1=some (.tup (p.1.map kV))/\RelV p.2 q.2.2
theorem KT.val{H:Hp}{aX:List (List Key×V)}{xs:List (List Key×Addr×Value)}(r:KT H aX xs)(k:List Key):wW (lW aX k) ((atKey xs k).map (·.2)):=by
 induction r with
 | nil=>exact True.intro
 | @cons p q ps qs h t ih=>
  obtain⟨h1,_,h2⟩:=h
  by_cases e:p.1=k
  ·have e':q.1=k:=h1.symm.trans e
   have b:atKey (q::qs) k=some q.2:=by simp[atKey,Av,e']
   rw[yM e,b];exact h2
  ·have e':¬q.1=k:=λz=>e (h1.trans z)
   have b:atKey (q::qs) k=atKey qs k:=by simp[atKey,Av,e']
   rw[yN e,b];exact ih
section
variable {P:Program}{w:World}{H:Hp}{h:Heap}{a:Addr}
theorem Wx{u:HO}(ok:sf P w H h)(e:Rd H a u):dJ P w H h a u:=e.ok ok
theorem Og{aX:List (Key×V)}(ok:sf P w H h)(e:Rd H a (.dK aX)):aX.length<=sizeLine/\(a==sysModules)=false/\∃vs,KV aX vs/\h.DictOf (gX P w) a vs:=
 show dJ P w H h a (.dK aX) from Wx ok e
theorem aA5{aX:List (Key×V)}(ok:sf P w H h)(e:H a=some (.dK aX)):aX.length<=sizeLine/\(a==sysModules)=false/\∃vs,KV aX vs/\h.DictOf (gX P w) a vs:=Og ok (.inl e)
theorem Lx{ks:List Key}(ok:sf P w H h)(e:H a=some (.tup (ks.map kV))):(tupleKind (gX P w)).is h ks a:=by
 obtain⟨_,its,r,o,h1,h2,n,h3⟩:=(show dJ P w H h a (.tup (ks.map kV)) from ok a _ e)
 exact⟨o,its.toArray,n,h1,h2,h3,by simpa using CQ r⟩
theorem TJ{aX:List (List Key×V)}(ok:sf P w H h)(e:Rd H a (.dT aX)):aX.length<=sizeLine/\(a==sysModules)=false/\
  ∃xs,KT H aX xs/\h.DictOfH (tupleKind (gX P w)) a xs:=by
 obtain⟨z,y,xs,r,o,es,ep,h1,h2,h3,h4,h5⟩:=(show dJ P w H h a (.dT aX) from Wx ok e)
 refine⟨z,y,xs,r,o,es,ep,h1,h2,h3,h4,λx hx=>?_,h5⟩
 have all:∀{l:List (List Key×V)} {m:List (List Key×Addr×Value)},KT H l m->∀x∈m,(tupleKind (gX P w)).is h x.1 x.2.1:=by
  intro l m q
  induction q with
  | nil=>intro x hx;exact nomatch hx
  | @cons p q ps qs hq t ih=>
   intro x hx
   rcases gN.mp hx with e | hx
   ·subst e
    exact Lx ok (by rw[<-hq.1];exact hq.2.1)
   ·exact ih x hx
 exact all r x hx
end
def Gm(H:Hp)(a:Addr)(y:V)(r:Option V):Prop:=
 (∃aX k,Rd H a (.dK aX)/\y=kV k/\r=lW aX k)\/∃aX k b,Rd H a (.dT aX)/\y=.ref b/\H b=some (.tup (k.map kV))/\r=lW aX k
theorem Gm.k{H:Hp}{a:Addr}{aX:List (Key×V)}{k:Key}(e:H a=some (.dK aX)):Gm H a (kV k) (lW aX k):=.inl ⟨aX,k,.inl e,rfl,rfl⟩
section
variable {X:Cx}{pins:List (Addr×Obj)}{σ:St}{H:Hp}{s:Shared}{a:Addr}{y v:V}{u r:Value}{o:Option V}{A:Around}{E:Value->Shared->Prop}
theorem Inv.big(I:Inv X pins σ H s):sysModules<s.heap.objs.size:=by
 have h:mainGlobals<s.heap.objs.size:=(I.mod.glob.keeps I.bk).lt
 exact Nat.lt_trans (by decide) h
theorem Qj{Q:Value->Shared->Prop}(hu:A.units+1<cLine)(I:Inv X pins σ H s)(g:Gm H a y (some v))(ry:RelV y u)(h:∀w' s',Inv X pins σ H s'->RelV v w'->Q w' s') :
  wpAny (model X.prog X.w) A (getItem (.ref a) u) Q E s:=by
 rcases g with ⟨aX,k,e,ey,l⟩ | ⟨aX,k,b,e,ey,eb,l⟩
 ·subst ey
  obtain⟨z,hd,vs,rel,dd⟩:=Og I.cA e
  obtain⟨w',hw,RV⟩:=wW.some_of (v:=v) (o:=valueAt vs k) (by rw[l];exact rel.val k)
  exact wpAny_getItem_of (N6 ry) dd.mapOf hw (h w' _ (I.tok _) RV)
 ·subst ey
  cases (show u=Value.ref b from ry)
  obtain⟨z,hd,xs,rel,dd⟩:=TJ I.cA e
  obtain⟨w',hw,RV⟩:=wW.some_of (v:=v) (o:=(atKey xs k).map (·.2)) (by rw[l];exact rel.val k)
  obtain⟨p,hp,V1⟩:=Bf.mp hw
  refine wpAny_getItem_heap (tupleKind_room_in1 hu) (Lx I.cA eb) dd hp ?_
  rw[V1]
  exact h w' _ (I.tok _) RV
theorem Wc{Q:Value->Shared->Prop}(hu:A.units+1<cLine)(I:Inv X pins σ H s)(g:Gm H a y o)(ry:RelV y u)(h:∀s',Inv X pins σ H s'->Q (.bool (!o.isSome)) s') :
  wpAny (model X.prog X.w) A (compareOp .NotIn u (.ref a)) Q E s:=by
 rcases g with ⟨aX,k,e,ey,l⟩ | ⟨aX,k,b,e,ey,eb,l⟩
 ·subst ey
  obtain⟨z,hd,vs,rel,dd⟩:=Og I.cA e
  refine wpAny_notIn_of (N6 ry) hd dd.mapOf ?_
  rw[<-(rel.val k).CT,<-l]
  exact h _ (I.tok _)
 ·subst ey
  cases (show u=Value.ref b from ry)
  obtain⟨z,hd,xs,rel,dd⟩:=TJ I.cA e
  refine wpAny_notIn_heap (tupleKind_room_in1 hu) (Lx I.cA eb) hd dd ?_
  have q:=(rel.val k).CT
  rw[Option.isSome_map]at q
  rw[<-q,<-l]
  exact h _ (I.tok _)
theorem Wb{h':Heap}{t':Nat}{ob:HO}(I:Inv X pins σ H s)(mu:Mut (H a))(hs:Heap.SameBut a s.heap h')(he:∃q,h'.get? a=some q)(new:dJ X.prog X.w (upd H a ob) h' a ob) :
  Inv X pins σ (upd H a ob) { s with heap:=h',toks:=t' }:=
 I.write (x:=a) (e:=a) mu (.inl rfl) (λb q hb z=>(hs.2 b hb).trans z) he new
theorem Zm{P:Program}{w:World}{H':Hp}{h':Heap}{aX:List (Key×V)}{vs:List (Key×Value)}(z:aX.length<=sizeLine)(hd:(a==sysModules)=false)(rel:KV aX vs)(dd:h'.DictOf (gX P w) a vs) :
  dJ P w H' h' a (.dK aX):=⟨z,hd,vs,rel,dd⟩
end
section
variable {X:Cx}{pins:List (Addr×Obj)}{σ:St}{H:Hp}{s:Shared}{a:Addr}{aX:List (Key×V)}{k:Key}{u:Value}{A:Around}{E:Value->Shared->Prop}
end
def ZL(i:Expr):Prop:=∀ov iv,subscripted i false ov iv=operate [ov,iv] (getItem ov iv)
theorem UT{prog:Program}{w:World}{A:Around}{E:Value->Shared->Prop}{s:Shared}{env:Env}{value slice:Expr}{pos:Pos}{T id:String}{Q:Value->Shared->Prop}
  (hl:typeLookup (.type T) "__getitem__" = pure (some (.builtin id))) (hs:ZL slice)
  (h:wpAny (model prog w) A (eval value env) (λo s₁=>wpAny (model prog w) A (eval slice env) (λi s₂=>s₂.TypeIs o T/\wpAny (model prog w) A (getItem o i) Q E s₂) E s₁) E s) :
  wpAny (model prog w) A (eval (.Subscript value slice pos) env) Q E s:=by
 refine Subscript_ (iX h (λo s₁ h₁=>iX h₁ (λi s₂ h₂=>?_) λ_ _ x=>x) λ_ _ x=>x)
 obtain⟨hT,h₂⟩:=h₂
 unfold subscriptTail
 refine aL ?_
 rw[getitemInPython_of_ne hT.not_modules]
 refine aL (wpAny_specialOf hT hl ?_)
 have fin:wpAny (model prog w) A (subscripted slice false o i) (λr s₃=>wpAny (model prog w) A (letTemporaryGo value o r >>= λ_=>pure r) Q E s₃) E s₂:=by
  rw[hs o i]
  exact wpAny_operating (iX h₂ (λr s₃ h₃=>aL (wpAny_letTemporaryGo (bx h₃))) λ_ _ x=>x)
 first
  | exact bx (aL fin)
  | exact aL (bx (aL fin))
  | exact aL fin
theorem JL{X:Cx}{pins:List (Addr×Obj)}{σ:St}{H:Hp}{s:Shared}{a:Addr}{y:V}{o:Option V}(I:Inv X pins σ H s)(g:Gm H a y o):s.TypeIs (.ref a) "dict":=by
 rcases g with ⟨aX,k,e,_,_⟩ | ⟨aX,k,b,e,_,_,_⟩
 ·obtain⟨_,_,vs,_,dd⟩:=Og I.cA e
  exact dd.typeIs
 ·obtain⟨_,_,xs,_,dd⟩:=TJ I.cA e
  exact dd.typeIs
def Rp(td ty:TE):TE:=λσ H Q=>td σ H λx H1=>ty σ H1 λy H2=>∃a v,x=.ref a/\Gm H2 a y (some v)/\Q v H2
def wY(ty td:TE):TE:=λσ H Q=>ty σ H λy H1=>td σ H1 λx H2=>∃a o,x=.ref a/\Gm H2 a y o/\Q (.bl (!o.isSome)) H2
section
variable {X:Cx}{o i e value:Expr}{pos pos' Rf:Pos}{td ty tv:TE}
theorem Vr(hu:X.A.units+1<cLine)(ho:PE X o td)(hi:PE X i ty)(hs:ZL i):PE X (.Subscript o i pos) (Rp td ty):=by
 intro pins s σ H Q I h
 refine UT PySem.F.slot_dict_getitem.lookup hs (dH (ho pins s σ H _ I h) λu s1 ⟨x,H1,I1,rx,q1⟩=>dH (hi pins s1 σ H1 _ I1 q1) λiv s2 ⟨y,H2,I2,ry,a,v,ex,g,q2⟩=>?_)
 subst ex
 obtain rfl:u=Value.ref a:=rx
 exact⟨JL I2 g,Qj hu I2 g ry λw' s3 I3 RV=>⟨v,H2,I3,RV,q2⟩⟩
theorem Pt(hu:X.A.units+1<cLine)(hi:PE X i ty)(ho:PE X o td):PC X .NotIn i o (wY ty td):=by
 intro pins s σ H Q I h
 refine dH (hi pins s σ H _ I h) λiv s1 ⟨y,H1,I1,ry,q1⟩=>dH (ho pins s1 σ H1 _ I1 q1) λu s2 ⟨x,H2,I2,rx,a,ov,ex,g,q2⟩=>?_
 subst ex
 obtain rfl:u=Value.ref a:=rx
 exact Wc hu I2 g ry λs3 I3=>⟨.bl (!ov.isSome),H2,I3,rfl,q2⟩
end
theorem JK{P:Program}{w:World}{H:Hp}(h:Heap)(hb:sysModules<h.objs.size):dJ P w H (h.push { cls:=.type "dict",data:=.dict #[] }) h.objs.size (.dK []):=
 ⟨lQ _,Ks.mpr (mL (dm hb)),[],.nil,Heap.DictOf.new h⟩
def K5:TE:=λ_ H Q=>∀p,H p=none->Q (.ref p) (upd H p (.dK []))
section
variable {X:Cx}{pos:Pos}
theorem Sl:PE X (.Dict [] [] pos) K5:=λpins s σ H Q I h=>
 wpAny_Dict_empty ⟨.ref s.heap.objs.size,_,I.laid (a:=s.heap.objs.size) (o:=.dK []) (t':=s.toks) (λ_ _ q=>dZ _ q) (bW _) (JK s.heap I.big),rfl,h _ (I.cA.fresh (bW _))⟩
end
def K4:List (TE×TE)->St->Hp->(List (V×V)->Hp->Prop)->Prop
 | [],_,H,Q=>Q [] H
 | (tk,tv)::r,σ,H,Q=>tk σ H λx H1=>tv σ H1 λy H2=>K4 r σ H2 λps H3=>Q ((x,y)::ps) H3
abbrev VV:List (V×V)->List (Value×Value)->Prop:=Paired λp q=>RelV p.1 q.1/\RelV p.2 q.2
def PPs(X:Cx)(pos:Pos)(keys:List (Option Expr))(values:List Expr)(Uz:List (TE×TE)):Prop:=
 ∀(pins:List (Addr×Obj)) (s:Shared) (σ:St) (H:Hp) (Q:List (V×V)->Hp->Prop),Inv X pins σ H s->K4 Uz σ H Q->
  wpAny (model X.prog X.w) X.A (evalPairs (pairTrees keys values X.env pos)) (λvs s'=>∃ps H',Inv X pins σ H' s'/\VV ps vs/\Q ps H') X.xe s
theorem Vk{X:Cx}{pos:Pos}:PPs X pos [] [] []:=λpins s σ H Q I h=>pairTrees_nil_walk ⟨[],H,I,.nil,h⟩
theorem Sb{X:Cx}{pos:Pos}{k v:Expr}{ks:List (Option Expr)}{vs:List Expr}{tk tv:TE}{Uz:List (TE×TE)}(hk:PE X k tk)(hv:PE X v tv)(hr:PPs X pos ks vs Uz) :
  PPs X pos (some k::ks) (v::vs) ((tk,tv)::Uz):=λpins s σ H Q I h=>
 pairTrees_cons_walk (dH (hk pins s σ H _ I h) λu s1 ⟨x,H1,I1,rx,q1⟩=>dH (hv pins s1 σ H1 _ I1 q1) λw2 s2 ⟨y,H2,I2,ry,q2⟩=>
  dH (hr pins s2 σ H2 _ I2 q2) λws s3 ⟨ps,H3,I3,rel,q3⟩=>⟨(x,y)::ps,H3,I3,.cons ⟨rx,ry⟩ rel,q3⟩)
def iY(aX more:List (Key×V)):List (Key×V):=more.foldl (λacc kv=>putK acc kv.1 kv.2) aX
theorem KV.merge:∀{more:List (Key×V)} {rs:List (Key×Value)} {aX:List (Key×V)} {vs:List (Key×Value)},KV more rs->KV aX vs->KV (iY aX more) (merged vs rs):=by
 intro more rs aX vs r
 unfold KV at r
 induction r generalizing aX vs with
 | nil=>intro q;exact q
 | @cons p q ps qs h t ih=>
  intro r0
  have e:KV (putK aX p.1 p.2) (stored vs q.1 q.2):=by
   have:=r0.put p.1 h.2
   rw[<-h.1];exact this
  exact ih e
theorem sO:∀(more aX:List (Key×V)),(iY aX more).length<=aX.length+more.length
 | [],aX=>by show aX.length<=aX.length+0;lia
 | p::r,aX=>by
  have h1:=sO r (putK aX p.1 p.2)
  have h2:=Ia aX p.1 p.2
  show(iY (putK aX p.1 p.2) r).length<=_
  rw[vF];lia
theorem zH{P:Program}{w:World}:∀{aX:List (Key×V)} {ws:List (Value×Value)},VV (aX.map λkv=>(kV kv.1,kv.2)) ws->∃rs,Carries (gX P w) ws rs/\KV aX rs
 | [],_,r=>by rw[DW]at r;cases r;exact⟨[],True.intro,.nil⟩
 | p::aX,_,r=>by
  rw[mK]at r
  cases r with
  | @cons a b as bs h t=>
   obtain⟨rs,c,q⟩:=zH (P:=P) (w:=w) t
   obtain⟨b1,b2⟩:=b
   exact⟨(p.1,b2)::rs,⟨N6 h.1,rfl,c⟩,.cons ⟨rfl,h.2⟩ q⟩
def aAb(Uz:List (TE×TE)):TE:=λσ H Q=>∀p,H p=none->K4 Uz σ (upd H p (.dK [])) λps H2=>H2 p=some (.dK [])/\∃aX:List (Key×V),ps=aX.map (λkv=>(kV kv.1,kv.2))/\aX.length<=15/\Q (.ref p) (upd H2 p (.dK (iY [] aX)))
theorem Vq{X:Cx}{pos:Pos}{keys:List (Option Expr)}{values:List Expr}{Uz:List (TE×TE)}(h:PPs X pos keys values Uz)(JD:keys.all (·.isSome)=true)(hl:keys.length=values.length)(h0:keys≠[])
  (h15:keys.length<=15):PE X (.Dict keys values pos) (aAb Uz):=by
 intro pins s σ H Q I q
 have hn:=I.cA.fresh (bW s.heap.objs.size)
 have I1:=I.laid (a:=s.heap.objs.size) (o:=.dK []) (h':=s.heap.push { cls:=.type "dict",data:=.dict #[] }) (t':=s.toks) (λ_ _ q=>dZ _ q) (bW _) (JK s.heap I.big)
 refine wpAny_Dict_walk (knd:=gX X.prog X.w) JD hl h0 h15 (dH (h pins _ σ _ _ I1 (q _ hn)) λws s2 ⟨ps,H2,I2,rel,e,aX,ep,lk,q2⟩=>?_)
 subst ep
 obtain⟨rs,c,rk⟩:=zH (P:=X.prog) (w:=X.w) rel
 obtain⟨z,hd,vs0,r0,dd⟩:=aA5 I2.cA e
 cases r0
 refine⟨rs,c,dd,λh' dd' hs=>⟨.ref s.heap.objs.size,_,?_,rfl,q2⟩⟩
 have hz:(iY [] aX).length<=sizeLine:=by
  have h1:=sO aX []
  rw[Ea]at h1
  rw[sizeLine_eq];lia
 have he:∃q,h'.get? s.heap.objs.size=some q:=let ⟨q,_,_,hq,_⟩:=dd';⟨q,hq⟩
 exact Wb I2 (by rw[e];exact True.intro) hs he (Zm hz hd (rk.merge .nil) dd')
structure M1(X:Cx)(o:Expr)(m:Str)(apos:Pos)(e:Expr)(bY:Pos):Prop where
 base:attributeBase o m X.env (eval o X.env)=eval o X.env
 few:((backTo bY (starEach [e] X.env)).all (λx=>!x.1)&&(backToKw bY (keywordEach [] X.env)).all (λx=>x.1.isSome)
  && decide (([e]:List Expr).length+([]:List Keyword).length+(if ([]:List Keyword).isEmpty then 0 else 1)<30))=true
 line:(apos.endLine==bY.line)=true
 trees:backTo bY (starEach [e] X.env)=[(false,eval e X.env)]
structure M2(X:Cx)(o:Expr)(m:Str)(apos:Pos)(e f:Expr)(bY:Pos):Prop where
 base:attributeBase o m X.env (eval o X.env)=eval o X.env
 few:((backTo bY (starEach [e,f] X.env)).all (λx=>!x.1)&&(backToKw bY (keywordEach [] X.env)).all (λx=>x.1.isSome)
  && decide (([e,f]:List Expr).length+([]:List Keyword).length+(if ([]:List Keyword).isEmpty then 0 else 1)<30))=true
 line:(apos.endLine==bY.line)=true
 trees:backTo bY (starEach [e,f] X.env)=[(false,eval e X.env),(false,eval f X.env)]
section
variable {X:Cx}{pins:List (Addr×Obj)}{σ:St}{H:Hp}{s:Shared}{a:Addr}{y d:V}{u r:Value}{o:Option V}{A:Around}{E:Value->Shared->Prop}
end
section
variable {X:Cx}{o e f:Expr}{apos bY:Pos}{td ty tx:TE}
end
section
variable {X:Cx}{pins:List (Addr×Obj)}{σ:St}{H:Hp}{s:Shared}{a:Addr}{aX:List (Key×V)}{A:Around}{E:Value->Shared->Prop}
end
section
variable {X:Cx}{pins:List (Addr×Obj)}{σ:St}{H:Hp}{s:Shared}{a:Addr}{y:V}{u:Value}{A:Around}{E:Value->Shared->Prop}
end
end L2
namespace Att
open PySem PySem.W PySem.Calls PyProof.Rows
theorem wQ{P:Params}{h:Heap}:∀(ns:List Int) (vs:List Value),WellAll P h vs (ns.map WData.int)->IntsAre vs ns:=by
 intro ns
 induction ns with
 | nil=>
  intro vs w
  rw[DW]at w
  cases w
  exact .nil
 | cons n ns ih=>
  intro vs w
  rw[mK]at w
  cases w with
  | cons a b=>
   cases a
   exact .cons _ _ (ih _ b)
theorem Pl{l:OpenLaw}{n:Nat}(hn:l.most=some n){P:Params}{h:Heap}{args:List WData}{vals:List Value}
  (VR:l.row.toRowW.claim.pre args=true) (hwl:WellAll P h vals args) :
  ∃a vs ns,vals=[Value.ref a]/\args=[WData.list (ns.map WData.int)]/\h.get? a=some { cls:=.type "list",data:=.seq vs.toArray }/\IntsAre vs ns/\ns.length<=n:=by
 have hsh:WShape.hasAll [] args [.list .int]=true:=(pre_splitW VR).1
 have hc:l.pre.holds [] { args:=args }=true:=(pre_splitW VR).2
 obtain⟨d,r,rfl,h1,h2⟩:=hasAllW_cons hsh
 obtain rfl:=hasAllW_nil h2
 obtain⟨xs,rfl,h3⟩:=hasW_list h1
 obtain⟨ns,rfl⟩:=items_int h3
 have hlen:ns.length<=n:=by
  unfold OpenLaw.pre at hc
  have h4:(WTm.not (.lt (.lit (.int (n:Int))) (.len (.arg 0)))).holds [] { args:=[.list (ns.map .int)] }=true:=by
   have h4:=(holds_andW hc).1
   rw[hn]at h4
   exact h4
  have h5:=condW_of h4 (w_not (w_lt w_lit (w_len_list (w_arg rfl))))
  rw[di]at h5
  refine Kg λq=>?_
  have q':(n:Int)<((ns.length:Nat):Int):=by lia
  first
   | (rw[decide_eq_true q']at h5;exact absurd h5 (by decide))
   | (simp at h5;lia)
 cases hwl with
 | cons w1 w2=>
  cases w2
  cases w1 with
  | list ho JD=>exact⟨_,_,ns,rfl,rfl,ho,wQ ns _ JD,hlen⟩
theorem Pq(l:OpenLaw)(args:List WData):l.row.toRowW.claim.post args (.bool true) args=true:=
 postW_of (r:=l.row.toRowW) (X:=(true==true))
  (show WShape.has [] (.bool true) .bool=true by first | rfl | decide | simp[WShape.has,WShape.arms,WShape.armsAll])
  (show(WTm.eq .res (.lit (.bool true))).value [] { args:=args,res:=some (.bool true),after:=args }=some (.bool (true==true)) from w_eq_bool (w_res rfl) w_lit) rfl
theorem J1{l:OpenLaw}{n:Nat}{q:Program}{loose:List Str}{XP:(Str->Option Value)->Heap->Prop}{YP:World->Heap->Prop}{d:DefRec}
  (hn:l.most=some n) (hdf:d.params.defaults=[])
  (call:∀(w:World) (s₀ s₁:Shared) (mg mb:Str->Option Value) (fa:Addr) (o:Obj) (pm cd doc:Value) (a:Addr) (vs:List Value) (ns:List Int),
   Ground q loose [] XP w s₀ mg mb s₁.heap->YP w s₁.heap->
   s₁.heap.get? fa=some o->o.data=.func (docDef d.name d.params d.body d.scope pm cd doc)->s₁.heap.CodeRec cd d.name->mg d.name=some (.ref fa)->
   s₁.heap.get? a=some { cls:=.type "list",data:=.seq vs.toArray }->IntsAre vs ns->ns.length<=n->s₁.gens = #[]->
   codeAny (model l.prog w) callerA (.call (.ref fa) ⟨[.ref a],[]⟩) (λr s'=>r=.ok (.ret (.bool true))/\OldK s₁.heap s'.heap/\s'.os=s₁.os/\AllBare s'.gens) s₁) :
  WalkO q loose XP YP l.row.toRowW d [] (λf vs=>PySem.call f vs):=by
 intro w s₀ s₁ mg mb G Y fa o pm cd doc dV kV ho hd Fy hD hmg hg args vals as VR hlay hrd hwl hlo
 obtain rfl:dV=.none:=Dflts.none hD hdf
 obtain rfl:kV=.none:=Dflts.noKw hD
 obtain⟨a,vs,ns,rfl,rfl,Y7,hints,hlen⟩:=Pl hn VR hwl
 refine enter_call (vD (call w s₀ s₁ mg mb fa o pm cd doc a vs ns G Y ho (fd_plain hd) Fy hmg Y7 hints hlen hg) λr s' hq=>?_)
 obtain⟨rfl,h2,h3,h4⟩:=hq
 exact⟨.inl ⟨.bool true,.bool true,[],rfl,λ_=>rfl,.bool true,Pq l _,λ_=>⟨List.Pairwise.nil,λ_ hm=>(nomatch hm)⟩⟩,h2,h3,h4⟩
section
variable {prog:Program}{w:World}{A:Around}{E:Value->Shared->Prop}{s:Shared}{K:Frag}
end
end Att
namespace L2
open PySem PySem.Spec PyProof.Rows
theorem BX:∀{vs:List Value} {ns:List Int},IntsAre vs ns->Vals (ns.map V.int) vs
 | _,_,.nil=>.nil
 | _,_,.cons n t h=>.cons ⟨t,rfl⟩ (BX h)
def Only(H:Hp):Prop:=∀b,H b=none\/∃o xs,H b=some (.Od o (.lst xs))
theorem Tg{P:Program}{w:World}{K:PySem.W.Frag}{mg mb:Str->Option Value}{CX:QG}{k:Nat}{fa a:Addr}{fd:FuncData}{x:Str}{sp:Sp}{s₁:Shared}{vs:List Value}{ns:List Int}
  (KX:K.In s₁.heap) (hns:s₁.heap.Ns mainGlobals mg) (hb:s₁.heap.Ns builtinsNs mb) (hbb:∀x:Str,x≠"__name__"->mb x=bootBuiltins x) (aDu:s₁.heap.NoLimit) (hg:s₁.gens = #[])
  (ha:s₁.heap.get? a=some { cls:=.type "list",data:=.seq vs.toArray }) (hi:IntsAre vs ns) (hl:ns.length<=sizeLine) (hr:jV k callerA)
  (F:∀base:Heap,K.In base->base.Ns mainGlobals mg->dI P w K mg base CX k fa fd [x] sp) (aAX:∀(s:Shared) (u:Value),BindsTo s fd ⟨[u],[]⟩ [(x,u)])
  (Mp:∀H:Hp,Only H->uZ K H a (ns.map V.int)->sp [.ref a] H (λv _=>v=.bl true) λ_ _ _=>False)
  (hCX:∀H e s',CX [] H s₁ (λ_ _ _=>False) e s'->False) :
  codeAny (model P w) callerA (.call (.ref fa) ⟨[.ref a],[]⟩) (λr s'=>r=.ok (.ret (.bool true))/\OldK s₁.heap s'.heap/\s'.os=s₁.os/\AllBare s'.gens) s₁:=by
 have rv:=BX hi
 have aCV:=hi.length
 have core:∀H:Hp,Only H->uZ K H a (ns.map V.int)->sf P w H s₁.heap->(∀b,H b≠none->b=a)->(H a≠none->K.lookup a=none)->
   codeAny (model P w) callerA (.call (.ref fa) ⟨[.ref a],[]⟩) (λr s'=>r=.ok (.ret (.bool true))/\OldK s₁.heap s'.heap/\s'.os=s₁.os/\AllBare s'.gens) s₁:=by
  intro H hO hS cA hA hK
  have Ot:∀{b:Addr} {o:Obj},s₁.heap.get? b=some o->H b=none->(Fx s₁.heap H).get? b=some o:=λe n=>Ts e n
  have noA:∀{b:Addr} {o:Obj} {es:Array DictEntry} {ep:Nat},s₁.heap.get? b=some o->o.data=.dict es ep->H b=none:=λ{b o es ep} e d=>by
   cases q:H b with
   | none=>rfl
   | some u=>
    have e':b=a:=hA b (by rw[q];simp)
    subst e'
    rw[ha]at e;cases e
    have d':Data.seq vs.toArray _=Data.dict es ep:=d
    cases d'
  have nsK:∀{b:Addr} {m:Str->Option Value},s₁.heap.Ns b m->(Fx s₁.heap H).Ns b m:=λ{b m} ⟨o,es,ep,e,d,r⟩=>⟨o,es,ep,Ot e (noA e d),d,r⟩
  have hKb:K.In (Fx s₁.heap H):=λb o e=>Ot (KX b o e) (by
   cases q:H b with
   | none=>rfl
   | some u=>
    have e':b=a:=hA b (by rw[q];simp)
    subst e'
    rw[hK (by rw[q];simp)]at e;cases e)
  have hM:Mod K mg (Fx s₁.heap H):=⟨hKb,nsK hns,⟨mb,nsK hb,hbb⟩,let ⟨mc,h1,h2⟩:=aDu;⟨mc,nsK h1,h2⟩⟩
  have e0:Aq P w K mg (Fx s₁.heap H) callerA [] s₁ H:=⟨rfl,hM,λb o e=>VG e,Nat.le_of_eq (Qc _ _),trivial,λb hb=>absurd (show b∈([]:List Addr) from hb) (by simp),cA,.of_eq hg⟩
  refine vD ((F _ hKb (nsK hns)).run callerA [] s₁ H ⟨[.ref a],[]⟩ [.ref a] [.ref a] _ _ hr e0 (aAX s₁ (.ref a)) (.cons rfl .nil) (Mp H hO hS)) λr s' h=>?_
  cases r with
  | error e=>exact(hCX H e s' h).elim
  | ok fl=>
   cases fl with
   | next=>exact False.elim h
   | brk=>exact False.elim h
   | cont=>exact False.elim h
   | ret u=>
    obtain⟨v,H',os,bare,un,aDr,r',q⟩:=h
    have q':v=.bl true:=q
    subst q'
    obtain rfl:u=Value.bool true:=r'
    refine⟨rfl,OldK.of_keep λb o e=>?_,os,bare⟩
    cases q:H b with
    | none=>exact un.keep b o e q (by intro z;exact absurd (show b∈([]:List Addr) from z) (by simp)) (by simp)
    | some u=>
     rcases hO b with z | ⟨ob,xs,z⟩
     ·rw[q]at z;cases z
     ·have z2:=un.frzs b ob _ z
      obtain⟨e1,_⟩:=cA b _ z
      obtain⟨e2,_⟩:=aDr b _ z2
      rw[e]at e1;cases e1
      exact e2
 cases hk:K.lookup a with
 | some o=>
  have e:=KX a o hk
  rw[ha]at e
  cases e
  refine core (λ_=>none) (λ_=>.inl rfl) (.inr ⟨_,vs.toArray,_,hk,rfl,rfl,rfl,by rw[iZ,aCV];exact hl,by simpa using rv⟩) (λb u z=>by have z':(none:Option HO)=some u:=z;cases z') (λb z=>absurd rfl z) λz=>absurd rfl z
 | none=>
  refine core (λb=>if b=a then some (.Od { cls:=.type "list",data:=.seq vs.toArray } (.lst (ns.map V.int))) else none) (λb=>?_) (.inl (.inr ⟨{ cls:=.type "list",data:=.seq vs.toArray },bH rfl⟩)) (λb u z=>?_) (λb z=>?_) λ_=>hk
  ·by_cases hb:b=a
   ·exact .inr ⟨_,_,bH hb⟩
   ·exact .inl (aR hb)
  ·by_cases hb:b=a
   ·have z':=(bH hb).symm.trans z
    cases z'
    subst hb
    exact⟨ha,by rw[di];exact hl,vs,_,rv,ha⟩
   ·have z':=(aR hb).symm.trans z
    cases z'
  ·by_cases hb:b=a
   ·exact hb
   ·exact absurd (aR hb) z
end L2
namespace L2
open PySem PySem.Spec PyProof.Rows
theorem Uv{l:PySem.W.OpenLaw}{n k:Nat}{q:Program}{loose:List Str}{XP:(Str->Option Value)->Heap->Prop}{YP:World->Heap->Prop}{d:DefRec}{K:Params->PySem.W.Frag}{CX:World->QG}{sp:World->Sp}{x:Str}
  (hn:l.most=some n) (hn2:n<=sizeLine) (hdf:d.params.defaults=[]) (hr:jV k callerA)
  (hY:∀(w:World) (h:Heap),YP w h->(K w.params).In h)
  (F:∀(w:World) (mg:Str->Option Value) (fa:Addr) (h:Heap),(K w.params).In h->h.Ns mainGlobals mg->mg d.name=some (.ref fa)->
   ∃fd:FuncData,(∀(s:Shared) (u:Value),BindsTo s fd ⟨[u],[]⟩ [(x,u)])/\
    ∀base:Heap,(K w.params).In base->base.Ns mainGlobals mg->dI l.prog w (K w.params) mg base (CX w) k fa fd [x] (sp w))
  (Mp:∀(w:World) (H:Hp) (a:Addr) (ns:List Int),ns.length<=n->Only H->uZ (K w.params) H a (ns.map V.int)->sp w [.ref a] H (λv _=>v=.bl true) λ_ _ _=>False)
  (hCX:∀(w:World) (H:Hp) (s:Shared) (e:Value) (s':Shared),CX w [] H s (λ_ _ _=>False) e s'->False) :
  PySem.W.WalkO q loose XP YP l.row.toRowW d [] (λf vs=>PySem.call f vs):=by
 refine Att.J1 hn hdf λw s₀ s₁ mg mb fa o pm cd doc a vs ns G Y ho hd Fy hmg Y7 hints hlen hg=>?_
 have KX:=hY w _ Y
 obtain⟨fd,hb,hF⟩:=F w mg fa _ KX G.T.g hmg
 exact Tg KX G.T.g G.T.b G.T.builtins G.T.nolimit hg Y7 hints (jY hlen hn2) hr hF hb (λH hO hS=>Mp w H a ns hlen hO hS) λH e s'=>hCX w H s₁ e s'
end L2
namespace L2
open PySem PySem.Spec PyProof.Rows
abbrev mE:QG:=λ_ _ _ _ _ _=>False
abbrev E0:XK:=λ_ _ _=>False
theorem cj{X:Cx}:Passes mE X E0:=λ_ _ _ _ _ _ _ h=>h.elim
structure nG(K:PySem.W.Frag)(x qual:Str)(st:Stmt)(f:Addr)(fd:FuncData):Prop where
 ex:∃(oc:Value) (od:Option Addr) (kV doc pm:Value) (an:Option Addr) (dh ct:Value) (Kc:Array (Option Value)),
  fd=PySem.W.fnOf x qual (bA st) (bj st) (aA st) .none kV doc pm an dh ct/\K.lookup f=some ⟨oc,od,.func fd,Kc⟩/\PySem.W.codeIn K dh qual=true
 kp:PySem.W.keepIn K (.ref f)=true
section
variable {P:Program}{w:World}{K:PySem.W.Frag}{mg:Str->Option Value}{base:Heap}
theorem nG.ok{x qual:Str}{st:Stmt}{f:Addr}{fd:FuncData}{N ps:List Str}{k:Nat}{sp:Sp}(F:nG K x qual st f fd)(S:bp N ps (aA st))(len:∀vs H Q E,sp vs H Q E->vs.length=ps.length)
  (nZ:∀(dh:Value) (A:Around) (outer:List Env) (s:Shared) (H:Hp) (vs:List V) (Q:VK) (E:XK),jV k (A.deeper (envOfC qual (aA st) s.heap.objs.size f dh))->sp vs H Q E->
   ∃t,zU (lE mE P w K mg base N qual (aA st) f dh A outer s H E).Uj (bj st) t/\t { nx:=λ_ H'=>Q .non H',rt:=Q } (start N vs) H):dI P w K mg base mE (k+1) f fd ps sp:=by
 obtain⟨oc,od,kV,doc,pm,an,dh,ct,Kc,rfl,lk,Fy⟩:=F.ex
 refine W6 lk Fy S len λA outer s H vs Q E hr Mp=>?_
 obtain⟨t,h,q⟩:=nZ dh A outer s H vs Q E hr Mp
 exact⟨t,h.Uj,q⟩
theorem nG.binds{x qual:Str}{st:Stmt}{f:Addr}{fd:FuncData}{ps:List Str}(F:nG K x qual st f fd)
  (h:∀(kV doc pm:Value) (an:Option Addr) (dh ct:Value) (us:List Value),us.length=ps.length->bindArgs (PySem.W.fnOf x qual (bA st) (bj st) (aA st) .none kV doc pm an dh ct) ⟨us,[]⟩=pure (ps.zip us)):Binds K fd ps []:=by
 obtain⟨oc,od,kV,doc,pm,an,dh,ct,Kc,rfl,lk,Fy⟩:=F.ex
 exact .all (h kV doc pm an dh ct)
theorem bT{x qual:Str}{st:Stmt}{f:Addr}{oc:Value}{od an:Option Addr}{Kc:Array (Option Value)}{kV doc pm dh ct:Value}(l:K.lookup f=some ⟨oc,od,.func (PySem.W.fnOf x qual (bA st) (bj st) (aA st) .none kV doc pm an dh ct),Kc⟩)
  (c:PySem.W.codeIn K dh qual=true) (k:PySem.W.keepIn K (.ref f)=true):nG K x qual st f (PySem.W.fnOf x qual (bA st) (bj st) (aA st) .none kV doc pm an dh ct):=⟨⟨oc,od,kV,doc,pm,an,dh,ct,Kc,rfl,l,c⟩,k⟩
end
theorem uK{A:Around}{k:Nat}(hr:jV k A):A.units+1<cLine:=Kn (Nat.add_le_add_left (by decide:1<=64) _) hr.units
theorem eZ{n:Nat}(h:n<=1000):n<sizeLine:=Kn h (by decide)
section
variable {X:Cx}
theorem pv(i:Nat){x:Str}{pos:Pos}(hN:X.N[i]?=some x:=by rfl)(hv:Vis X.env.scope x:=by first | exact Or.inl rfl | exact Or.inr (Or.inl rfl) | exact Or.inr (Or.inr rfl))(hd:(x==("__debug__" : Str))=false:=by decide)
  (Fy:(x==("__classdict__" : Str))=false:=by decide):PE X (.Name x pos) (Er i):=Sh hN hv hd Fy
end
def dk(H H':Hp):Prop:=∀b o,H b=some o->H' b=some o
theorem dk.refl(H:Hp):dk H H:=λ_ _ h=>h
theorem dk.trans{H H1 H2:Hp}(a:dk H H1)(b:dk H1 H2):dk H H2:=λc o h=>b c o (a c o h)
theorem dk.free{H H':Hp}(e:dk H H'){l:Addr}(h:H' l=Option.none):H l=Option.none:=by
 cases q:H l with
 | none=>rfl
 | some o=>
  rw[e l o q]at h
  cases h
section
variable {κ:Type} [DecidableEq κ]
theorem Uw{aX:List (κ×V)}{k:κ}{v:V}(h:lW aX k=some v):k∈aX.map (·.1):=by
 have q:(aX.any λkv=>decide (kv.1=k))=true:=by
  rw[Ha,h]
  all_goals rfl
 obtain⟨p,hp,e⟩:=List.any_eq_true.mp q
 exact nQ.mpr ⟨p,hp,of_decide_eq_true e⟩
end
end L2
end
section
theorem L2.hide{p:Prop}(h:∀q:Prop,(p->q)->q):p:=h p id
end
section
namespace L2
open PySem PySem.Spec PyProof.Rows
theorem wa{α β:Type}{f:α->β->Sem (ForInStep β)}(g:α->β->β):∀(l:List α) (b:β),(∀x∈l,∀c,f x c=pure (.yield (g x c)))->forIn l b f=pure (l.foldl (λc x=>g x c) b)
 | [],b,_=>rfl
 | x::l,b,h=>by
  rw[List.forIn_cons,h x gP,pure_bind]
  exact wa g l (g x b) λy hy=>h y (kP _ hy)
def jW(env:Env)(names:List (Str×NameKind))(cs:List (Str×Addr)):List (Str×Addr):=
 names.foldl (λc y=>if y.2==NameKind.free then (y.1,(env.cells.lookup y.1).getD 0)::c else c) cs
theorem vp{scope:Scope}{env:Env}(h:∀y∈scope.names,y.2=.free->∃c,env.cells.lookup y.1=some c):closureFor scope env=pure (jW env scope.names []):=by
 simp only[closureFor]
 rw[wa (λy c=>if y.2==NameKind.free then (y.1,(env.cells.lookup y.1).getD 0)::c else c) scope.names [] (λx hx c=>by
  obtain⟨n,kind⟩:=x
  dsimp only
  by_cases hk:kind=.free
  ·subst hk
   obtain⟨a,e⟩:=h (n,.free) hx rfl
   have e':env.cells.lookup n=some a:=e
   have:cellOf env n=pure a:=by unfold cellOf;rw[e']
   rw[this,e']
   rfl
  ·have hb:(kind==NameKind.free)=false:=by simpa using hk
   rw[hb];rfl)]
 simp only[pure_bind]
 rfl
theorem vq{env:Env}:∀(names:List (Str×NameKind)) (cs:List (Str×Addr)),(∀y∈names,y.2=.free->∃c,env.cells.lookup y.1=some c)->(∀p∈cs,env.cells.lookup p.1=some p.2)->
  ∀p∈jW env names cs,env.cells.lookup p.1=some p.2
 | [],cs,_,hc=>hc
 | y::r,cs,h,hc=>by
  unfold jW
  rw[Aw]
  refine vq r _ (λz hz=>h z (kP _ hz)) λp hp=>?_
  by_cases hk:y.2=.free
  ·have hb:(y.2==NameKind.free)=true:=by simpa using hk
   rw[bH hb]at hp
   rcases gN.mp hp with e | hp
   ·obtain⟨c,e1⟩:=h y gP hk
    rw[e];dsimp only;rw[e1];rfl
   ·exact hc p hp
  ·have hb:¬(y.2==NameKind.free)=true:=by simpa using hk
   rw[aR hb]at hp
   exact hc p hp
theorem wg{env:Env}{p:Str×Addr}:∀(names:List (Str×NameKind)) (cs:List (Str×Addr)),p∈cs->p∈jW env names cs
 | [],_,h=>h
 | y::r,cs,h=>by
  unfold jW
  rw[Aw]
  refine wg r _ ?_
  split
  ·exact kP _ h
  ·exact h
theorem Dl{env:Env}{x:Str}:∀(names:List (Str×NameKind)) (cs:List (Str×Addr)),(x,NameKind.free)∈names->∃c,(x,c)∈jW env names cs
 | y::r,cs,h=>by
  rcases gN.mp h with e | h
  ·subst e
   exact⟨_,by
    unfold jW;rw[Aw]
    refine wg r _ ?_
    rw[bH (by rfl)]
    exact gP⟩
  ·obtain⟨c,hc⟩:=Dl r (if y.2==NameKind.free then (y.1,(env.cells.lookup y.1).getD 0)::cs else cs) h
   exact⟨c,by unfold jW;rw[Aw];exact hc⟩
theorem sN{f:Str->Option Addr}{x:Str}:∀{cs:List (Str×Addr)},(∀p∈cs,f p.1=some p.2)->(∃c,(x,c)∈cs)->cs.lookup x=f x
 | [],_,⟨_,h⟩=>nomatch h
 | (n,a)::r,hc,⟨c,h⟩=>by
  rw[qa]
  by_cases e:x=n
  ·subst e
   rw[xl]
   exact(hc (x,a) gP).symm
  ·have hb:(x==n)=false:=by simpa using e
   rw[hb]
   refine sN (λp hp=>hc p (kP _ hp)) ⟨c,?_⟩
   rcases gN.mp h with q | q
   ·exact absurd (ni Prod.fst q) e
   ·exact q
theorem uz{env : Env}{y : Str} : ∀ {names : List (Str × NameKind)}, (∀ z ∈ names, z.2 ≠ .cell) →
    ((names.map λ(n, k) => if (k==NameKind.free&&env.scope.kind == .function&&env.kindOf n==some .cell) then (n, NameKind.cell) else (n, k)).lookup y=some .cell ∨
     (names.map λ(n, k) => if (k==NameKind.free&&env.scope.kind == .function&&env.kindOf n==some .cell) then (n, NameKind.cell) else (n, k)).lookup y=some .free) → names.lookup y=some .free
  | [], _, h => by rcases h with h | h <;> cases h
  | (n, k)::r, hc, h => by
    have ih := @uz env y r λz hz => hc z (kP _ hz)
    rw[mK]at h
    rw[qa]
    by_cases e : y=n
    · subst e
      rw[xl]
      by_cases hb : (k==NameKind.free&&env.scope.kind == .function&&env.kindOf y==some .cell)=true
      · have hk : k=.free := by
          rw[gO, gO]at hb
          simpa using hb.1.1
        rw[hk]
      · dsimp only at h
        rw[aR hb, qa, xl]at h
        dsimp only at h
        rcases h with h | h
        · exact absurd (gU h) (hc (y, k) gP)
        · exact h
    · have hn : (y==n)=false := by simpa using e
      rw[hn]
      dsimp only at h ⊢
      apply ih
      by_cases hb : (k==NameKind.free&&env.scope.kind == .function&&env.kindOf n==some .cell)=true
      · rw[bH hb, qa, hn]at h
        exact h
      · rw[aR hb, qa, hn]at h
        exact h
structure CB where
 C:Addr
 cl:List (Str×Addr)
 s2:Shared
 H2:Hp
 ex:List Addr
@[reducible] def zG (X:Cx) (scope:Scope) (N:List Str) (c:CB):Cx:=
 { prog:=X.prog,w:=X.w,K:=X.K,mg:=X.mg,base:=X.base,A:=X.A,N:=N,s₀:=c.s2,H₀:=c.H2,env:=compEnvC scope c.cl c.C X.env,outer:=X.stack,stack:=X.stack,ex:=c.ex,fn:=λ_=>false,calm:=X.calm,pn:=[],xe:=λ_ _=>False }
def cH(σ:St)(idx:List Nat):St:=idx.map λi=>(σ[i]?).join
def iW(N:List Str)(idx:List Nat):List Str:=idx.map λi=>N.getD i ""
def MT(X:Cx)(ifs:List Expr)(t:TT):Prop:=
 ∀(pins:List (Addr×Obj)) (s:Shared) (σ:St) (H:Hp) (Q:Bool->Hp->Prop),Inv X pins σ H s->t σ H Q->
  wpAny (model X.prog X.w) X.A (forIn ifs true λc r=>if r=true then do let ok <-isTrue c X.env (eval c X.env);pure (ForInStep.yield ok) else pure (ForInStep.yield r)) (TP X pins σ Q) X.xe s
def Rg:TT:=λ_ H Q=>Q true H
theorem Se{X:Cx}:MT X [] Rg:=λ_ _ _ H _ I h=>wpAny_tests_nil ⟨H,I,h⟩
theorem Sd{X:Cx}{e:Expr}{t:TT}(h:PT X e t):MT X [e] t:=λpins s σ H Q I q=>wpAny_tests_one (h pins s σ H Q I q)
def Nq(wi:TI)(k:Nat)(idx:List Nat)(g:CB->TG)(tt:CB->TT)(te:CB->TE):TE:=λσ H Q=>wi σ H λJ H1=>∀D,H1 D=none->∃W:Nat->Nat->List V->Hp->Prop,(∃m,W 0 m [] (upd H1 D (.lst [])))/\
 ∀i m ys H',W i m ys H'->(J.stop i H'/\Q (.ref D) H')\/(J.go i H'/\∃N:List V->Hp->Prop,(∀uY z4,N uY z4->∃m',m'<m/\W (i+1) m' uY z4)/\∀(c:CB) (own:St),own.length=k->∀x H2,J.O2 i H' x H2->g c x (own++cH σ idx) H2 λσ3 H3=>
  (∃gQ,gQ.length=k/\σ3=gQ++cH σ idx)/\tt c σ3 H3 λb H4=>if b=true then te c σ3 H4 λy H5=>H5 D=some (.lst ys)/\ys.length<sizeLine/\N (ys++[y]) (upd H5 D (.lst (ys++[y]))) else N ys H4)
structure Gn(X:Cx)(scope:Scope)(xs:List Str)(idx:List Nat):Prop where
 kind:scope.kind=.function
 SX:∀y∈scope.names,y.2≠.cell
 loc:∀y∈scope.names,y.2=.local->scope.names.lookup y.1=some .local
 free:∀y∈scope.names,y.2=.free->scope.names.lookup y.1=some .free/\(X.env.kindOf y.1=some .cell\/X.env.kindOf y.1=some .free)
 ix:∀i∈idx,∃y,X.N[i]?=some y/\scope.names.lookup y=some .free
section
variable {prog:Program}{w:World}{A:Around}{R:Result->Shared->Prop}{s:Shared}
theorem qR{elt target iter:Expr}{ifs:List Expr}{scope:Scope}{pos:Pos}{it acc:Value}{env:Env}(I:Nat->Shared->Prop)
  (turn:∀n s,I n s->wpAny (model prog w) A (pyNext it) (λr s₁=>match r with
   | none=>R (.ok .next) s₁
   | some v=>wpAny (model prog w) A (letOwnedTupleGo target it v) (λ_ s₁'=>wpAny (model prog w) A (assign target env v) (λ_ s₂=>
     wpAny (model prog w) A (forIn ifs true λc r=>if r=true then do let ok <-isTrue c env (eval c env);pure (ForInStep.yield ok) else pure (ForInStep.yield r)) (λok s₃=>
      if ok=true then wpAny (model prog w) A (eval elt env) (λx s₄=>
       wpAny (model prog w) A (call (.builtin "list.append") [acc,x]) (λ_ s₅=>∃m,m<n/\I m s₅) (λ_ _=>False) s₄) (λ_ _=>False) s₃
      else ∃m,m<n/\I m s₃) (λ_ _=>False) s₂) (λ_ _=>False) s₁') (λ_ _=>False) s₁) (λ_ _=>False) s)
  (n:Nat) (h:I n s) :
  codeAny (model prog w) A (.compLoop (.ListComp elt [⟨target,iter,ifs,0⟩] scope pos) 0 it acc env) R s:=by
 refine codeAny_loop rfl I (λn s hI=>?_) n h
 show wpAny _ A ((compTurn (.ListComp elt [⟨target,iter,ifs,0⟩] scope pos) 0 it acc env).onRaise (λx=>do noteFrame x env;theTreesLotGoes x)) _ _ s
 refine wpAny_noted ?_
 rw[compTurn_list]
 refine aL (u3 (aL (iX (turn n s hI) (λr s₁ h₁=>?_) λ_ _ h'=>False.elim h')))
 cases r with
 | none=>exact bx h₁
 | some v=>
  refine aL (iX h₁ (λ_ s₁' h₁'=>?_) λ_ _ h'=>False.elim h')
  refine aL (iX h₁' (λ_ s₂ h₂=>aL (iX h₂ (λok s₃ h₃=>?_) λ_ _ h'=>False.elim h')) λ_ _ h'=>False.elim h')
  cases ok with
  | false=>exact bx ⟨rfl,h₃⟩
  | true=>
   exact aL (aL (iX h₃ (λx s₄ h₄=>aL (iX h₄ (λ_ s₅ h₅=>bx (bx ⟨rfl,h₅⟩)) λ_ _ h'=>False.elim h')) λ_ _ h'=>False.elim h'))
end
section
variable {X:Cx}{pins:List (Addr×Obj)}{σ:St}{H:Hp}{s:Shared}
theorem sf.but{P:Program}{w:World}{h h':Heap}{C:Addr}(x:sf P w H h)(hn:H C=none)(hs:Heap.SameBut C h h'):sf P w H h':=λb ob e=>by
 refine(x b ob e).stay (λc w' hc q=>(hs.2 c ?_).trans q) (λ_ q=>q) λ_ _ q=>q
 rintro rfl
 rcases hc with rfl | hc
 ·rw[hn]at e;cases e
 ·rw[hn]at hc;cases hc
theorem Un.but{fs ex:List Addr}{H':Hp}{h h1 h2:Heap}{C:Addr}(u:Un fs ex H H' h h1)(hC:h.get? C=none)(hs:Heap.SameBut C h1 h2):Un fs ex H H' h h2:=by
 have ne:∀b o,h.get? b=some o->b≠C:=λb o e z=>by rw[z,hC]at e;cases e
 exact⟨λb o e n h1 h2=>(hs.2 b (ne b o e)).trans (u.keep b o e n h1 h2),λb o e n h1 h2=>by
   obtain⟨sl,q⟩:=u.slot b o e n h1 h2
   exact⟨sl,(hs.2 b (ne b o e)).trans q⟩,u.free,λb o e h2=>by
   obtain⟨o',q⟩:=u.there b o e h2
   exact⟨o',(hs.2 b (ne b o e)).trans q⟩,u.tups,u.frzs,u.tbls⟩
theorem Rv{idx:List Nat}{j:Nat}{v:V}(h:(cH σ idx)[j]?=some (some v)):∃i,idx[j]?=some i/\σ[i]?=some (some v):=by
 unfold cH at h
 rw[mz]at h
 cases e:idx[j]? with
 | none=>rw[e]at h;cases h
 | some i=>
  rw[e]at h
  refine⟨i,rfl,?_⟩
  have h':(σ[i]?).join=some v:=gU h
  cases q:σ[i]? with
  | none=>rw[q]at h';cases h'
  | some o=>rw[q]at h';cases o with
   | none=>cases h'
   | some z=>cases h';rfl
theorem Rw{N:List Str}{idx:List Nat}{j i:Nat}{y:Str}(h:idx[j]?=some i)(e:N[i]?=some y):(iW N idx)[j]?=some y:=by
 unfold iW
 rw[mz,h]
 show some (N.getD i "")=some y
 rw[List.getD_eq_getElem?_getD,e];rfl
theorem Inv.block{scope:Scope}{xs:List Str}{idx:List Nat}{fp:List Addr}{C:Addr}{h':Heap}{t':Nat}{H1:Hp}{D:Addr}{m0:Str->Option Value}(I:Inv X pins σ H s)(S:Gn X scope xs idx)
  (hfp:∀b∈fp,Gi X pins H b) (hfo:∀b∈fp,∃o,s.heap.get? b=some o) (hC:s.heap.objs.size<=C) (hDC:D≠C) (hD:s.heap.objs.size<=D) (hn:h'.Ns C m0) (hk:∀b o,s.heap.get? b=some o->h'.get? b=some o)
  (hl:∃n,h'.get? D=some { cls:=.type "list",data:=.seq #[] n }) :
  Inv (zG X scope (xs++iW X.N idx) ⟨C,jW X.env scope.names [],s,H,fp⟩) [] (List.replicate xs.length none++cH σ idx) (upd H D (.lst [])) { s with heap:=h',toks:=t' }:=by
 have JB:∀y∈scope.names,y.2=.free->∃c,X.env.cells.lookup y.1=some c:=λy hy e=>I.ok.has y.1 (S.free y hy e).2
 have JD:=vq (env:=X.env) scope.names [] JB (λp hp=>(nomatch hp))
 have v9:∀y c,(jW X.env scope.names []).lookup y=some c->X.env.cells.lookup y=some c:=λy c e=>JD (y,c) (sv e)
 have aAU:∀y,scope.names.lookup y=some .free->(jW X.env scope.names []).lookup y=X.env.cells.lookup y:=λy e=>sN (f:=λn=>X.env.cells.lookup n) JD (Dl scope.names [] (sv e))
 have lt:∀b,(∃o,s.heap.get? b=some o)->b<s.heap.objs.size:=λb ⟨o,e⟩=>cp e
 have hDn:H D=none:=I.cA.fresh hD
 refine⟨⟨I.ok.mod,S.kind,I.ok.glob,I.ok.blt,hC,λx y c h1 h2=>I.ok.inj x y c (v9 x c h1) (v9 y c h2),λy hy=>?_,λ_ _ e=>(nomatch e),I.ok.hd,I.ok.frames,.inl rfl,λb hb=>⟨?_,λx c e=>(hfp b hb).2.2.2.2.1 x c (v9 x c e)⟩,I.bs,jY I.ok.Oq I.sz,λb o e hb=>?_,λb hb z=>?_,I.stack,I.wZ⟩,
  rfl,I.bare,?_,⟨m0,hn,λi y v e1 e2 hv=>?_⟩,λx c e=>?_,?_,λx c e=>?_,λp hp=>(nomatch hp),?_,?_⟩
 ·
  have q:scope.names.lookup y=some .free:=uz S.SX hy
  have q2:=sv q
  obtain⟨c,e⟩:=JB _ q2 rfl
  exact⟨c,(aAU y q).trans e⟩
 ·
  exact dm (ky (lt b (hfo b hb)) hC)
 ·
  rcases(hfp b hb).2.2.2.1 with z | z
  ·exact I.ok.Fg b o e z
  ·exact absurd (ky (cp e) (jY I.ok.Oq z)) (t7 _)
 ·
  rcases gN.mp (I.Ex b z) with q | q
  ·exact(hfp b hb).2.1 q
  ·exact(hfp b hb).2.2.1 q
 ·
  exact Un.laid hk hD hDn
 ·
  by_cases hi:i<xs.length
  ·rw[vI (by simpa using hi)]at e2
   rw[List.getElem?_replicate]at e2
   split at e2 <;> cases e2
  ·have Z5:xs.length<=i:=Kg hi
   rw[ud (by simpa using Z5),M8]at e2
   obtain⟨i0,ei,es⟩:=Rv e2
   obtain⟨y',ey,ef⟩:=S.ix i0 (Bd ei)
   have e1':(xs++iW X.N idx)[i]?=some y:=e1
   rw[ud Z5,Rw ei ey]at e1'
   cases e1'
   obtain⟨m,hm,hl'⟩:=I.loc
   have ef2:=S.free (y,.free) (sv ef) rfl
   have vis:Vis X.env.scope y:=.inr ef2.2
   obtain⟨u,ru,lk⟩:=hl' i0 y v ey es vis
   refine⟨u,ru,?_⟩
   rcases lk with ⟨k1,_⟩ | ⟨_,c,ec,hc⟩
   ·rcases ef2.2 with z | z
    ·have z':X.env.kindOf y=some .cell:=z
     rw[k1]at z';cases z'
    ·have z':X.env.kindOf y=some .free:=z
     rw[k1]at z';cases z'
   ·refine .inr ⟨?_,c,(aAU y ef).trans ec,hc.keeps hk⟩
    rcases hv with z | z | z
    ·exfalso
     have z':(relabel scope X.env).names.lookup y=some .local:=z
     have:∀(names:List (Str×NameKind)),names.lookup y=some .free->(names.map λ(n,k)=>if (k==NameKind.free&&X.env.scope.kind == .function&&X.env.kindOf n==some .cell) then (n,NameKind.cell) else (n,k)).lookup y≠some .local:=by
      intro names
      induction names with
      | nil=>intro h;cases h
      | cons p r ih=>
       obtain⟨n,k⟩:=p
       intro h
       rw[mK]
       by_cases e:y=n
       ·subst e
        rw[qa,xl]at h
        cases h
        dsimp only
        split
        ·rw[qa,xl];exact λq=>nomatch q
        ·rw[qa,xl];exact λq=>nomatch q
       ·have hn:(y==n)=false:=by simpa using e
        rw[qa,hn]at h
        dsimp only
        split
        ·rw[qa,hn];exact ih h
        ·rw[qa,hn];exact ih h
     exact this scope.names ef z'
    ·exact .inl z
    ·exact .inr z
 ·
  obtain⟨v,q⟩:=I.cell x c (v9 x c e)
  exact⟨v,q.keeps hk⟩
 ·
  show upd H D (.lst []) C=none
  rw[aO (mL hDC)]
  exact I.cA.fresh hC
 ·
  have e':=v9 x c e
  obtain⟨v,q⟩:=I.cell x c e'
  rw[aO (dm (ky q.lt hD))]
  exact I.lu x c e'
 ·
  obtain⟨n,e⟩:=hl
  exact I.cA.laid hk hD ⟨lQ _,[],n,.nil,e⟩
 ·show(List.replicate xs.length none++cH σ idx).length=(xs++iW X.N idx).length
  rw[lS,lS,M8]
  unfold cH iW
  rw[di,di]
end
section
variable {X:Cx}{elt target iter:Expr}{ifs:List Expr}{scope:Scope}{pos:Pos}{xs:List Str}{idx:List Nat}{wi:TI}{g:CB->TG}{tt:CB->TT}{te:CB->TE}
theorem TQ{pins:List (Addr×Obj)}{σ:St}{H2:Hp}{s2:Shared}{fp:List Addr}{it:Addr}{tn:Nat->Heap->Prop}{J:It}{Q:V->Hp->Prop}{RR:Value->Addr->Result->Shared->Prop}{E:Value->Shared->Prop}(hc:X.calm=true)(S:Gn X scope xs idx)
  (hg:∀c,PG (zG X scope (xs++iW X.N idx) c) target (g c)) (ht:∀c,MT (zG X scope (xs++iW X.N idx) c) ifs (tt c)) (he:∀c,PE (zG X scope (xs++iW X.N idx) c) elt (te c))
  (I2:Inv X pins σ H2 s2) (T:Turn X.prog X.w X.K target J fp it tn) (Wv:tn 0 s2.heap) (f2:∀b∈fp,Gi X pins H2 b)
  (h:∀D,H2 D=none->∃W:Nat->Nat->List V->Hp->Prop,(∃m,W 0 m [] (upd H2 D (.lst [])))/\
   ∀i m ys H',W i m ys H'->(J.stop i H'/\Q (.ref D) H')\/(J.go i H'/\∃N:List V->Hp->Prop,(∀uY z4,N uY z4->∃m',m'<m/\W (i+1) m' uY z4)/\∀(c:CB) (own:St),own.length=xs.length->∀x H2,J.O2 i H' x H2->g c x (own++cH σ idx) H2 λσ3 H3=>
    (∃gQ,gQ.length=xs.length/\σ3=gQ++cH σ idx)/\tt c σ3 H3 λb H4=>if b=true then te c σ3 H4 λy H5=>H5 D=some (.lst ys)/\ys.length<sizeLine/\N (ys++[y]) (upd H5 D (.lst (ys++[y]))) else N ys H4))
  (hRR:∀D C σ' H' s',s2.heap.objs.size<=C->Inv (zG X scope (xs++iW X.N idx) ⟨C,jW X.env scope.names [],s2,H2,fp⟩) [] σ' H' s'->Q (.ref D) H'->RR (.ref D) C (.ok .next) s') :
  wpAny (model X.prog X.w) X.A (newList []) (λacc s₃=>wpAny (model X.prog X.w) X.A (newFunctionEnv scope X.env.globals (jW X.env scope.names []) [] X.env.qual none .none (some X.env)) (λaBe s₄=>
   codeAny (model X.prog X.w) X.A (.compStart (.ListComp elt [⟨target,iter,ifs,0⟩] scope pos) 0 (.ref it) acc { aBe with scope:=relabel scope X.env }) (RR acc aBe.locals) s₄) E s₃) E s2:=by
 refine pW (wpAny_newFunctionEnv S.SX (by intro y hy;simp at hy) (λh₁ Y8 VP=>?_) S.kind)
 dsimp only at Y8 VP ⊢
 generalize hH2:s2.heap.push { cls:=.type "list",dict:=none,data:=.seq ([]:List Value).toArray }=HH at Y8 VP ⊢
 have hCs:HH.objs.size=s2.heap.objs.size+1:=by rw[<-hH2,va]
 have hDC:s2.heap.objs.size≠HH.objs.size:=by rw[hCs];exact dm (Kh _)
 have Zf:s2.heap.objs.size<=HH.objs.size:=by rw[hCs];exact nP _
 have old:∀b o,s2.heap.get? b=some o->h₁.get? b=some o:=λb o e=>VP.extBut b o (by rw[hCs];exact dm (Ba (cp e))) (dZ _ (hH2 ▸ dZ _ e))
 have Tt:∃n,h₁.get? s2.heap.objs.size=some { cls:=.type "list",data:=.seq #[] n }:=⟨_,VP.extBut _ _ hDC (dZ _ (hH2 ▸ kz _ rfl))⟩
 have st1:tn 0 h₁:=T.keep _ _ _ Wv λb _ o e=>old b o e
 obtain⟨W,⟨m0,w0⟩,turn⟩:=h s2.heap.objs.size I2.fresh
 have loop:∀s₃:Shared,s₃={ s2 with heap:=h₁,toks:=s2.toks+([]:List (Str×Value)).length }->
   codeAny (model X.prog X.w) X.A (.compLoop (.ListComp elt [⟨target,iter,ifs,0⟩] scope pos) 0 (.ref it) (.ref s2.heap.objs.size) (compEnvC scope (jW X.env scope.names []) HH.objs.size X.env)) (RR (.ref s2.heap.objs.size) HH.objs.size) s₃:=by
  rintro s₃ rfl
  have I3:=I2.block (t':=s2.toks+([]:List (Str×Value)).length) (H1:=H2) S f2 (λb hb=>let ⟨o,e,_⟩:=T.obj _ _ Wv b hb;⟨o,e⟩) Zf hDC (bW _) Y8 old Tt
  generalize hY:zG X scope (xs++iW X.N idx) ⟨HH.objs.size,jW X.env scope.names [],s2,H2,fp⟩=Y at I3
  have eY:Y=zG X scope (xs++iW X.N idx) ⟨HH.objs.size,jW X.env scope.names [],s2,H2,fp⟩:=hY.symm
  have nof:∀b∈fp,b∉Y.fs:=λb hb z=>by
   rw[eY]at z
   rcases gN.mp (I2.Ex b z) with q | q
   ·exact(f2 b hb).2.1 q
   ·exact(f2 b hb).2.2.1 q
  have stat:∀{H':Hp},(∀b∈fp,H' b=none)->∀b∈fp,Gi Y [] H' b:=λ{H'} hn b hb=>by
   have lt:b<s2.heap.objs.size:=let ⟨o,e,_⟩:=T.obj _ _ Wv b hb;cp e
   refine⟨hn b hb,?_,nof b hb,.inl (by rw[eY];exact hb),λx c e=>?_,λp hp=>?_⟩
   ·rw[eY];exact dm (ky lt Zf)
   ·rw[eY]at e
    have JD:=vq (env:=X.env) scope.names [] (λy hy e=>I2.ok.has y.1 (S.free y hy e).2) (λp hp=>nomatch hp)
    exact(f2 b hb).2.2.2.2.1 x c (JD (x,c) (sv e))
   ·rw[eY]at hp;exact nomatch hp
  have T':Turn Y.prog Y.w Y.K target J fp it tn:=by rw[eY];exact T
  have hg':PG Y target (g ⟨HH.objs.size,jW X.env scope.names [],s2,H2,fp⟩):=by rw[eY];exact hg _
  have ht':MT Y ifs (tt ⟨HH.objs.size,jW X.env scope.names [],s2,H2,fp⟩):=by rw[eY];exact ht _
  have he':PE Y elt (te ⟨HH.objs.size,jW X.env scope.names [],s2,H2,fp⟩):=by rw[eY];exact he _
  have hcY:Y.calm=true:=by rw[eY];exact hc
  have eA:Y.A=X.A:=by rw[eY]
  have eP:Y.prog=X.prog:=by rw[eY]
  have eW:Y.w=X.w:=by rw[eY]
  have eE:Y.env=compEnvC scope (jW X.env scope.names []) HH.objs.size X.env:=by rw[eY]
  have eX:Y.xe=λ_ _=>False:=by rw[eY]
  have fin:∀σ' H' s',Inv Y [] σ' H' s'->Q (.ref s2.heap.objs.size) H'->RR (.ref s2.heap.objs.size) HH.objs.size (.ok .next) s':=λσ' H' s' I' q=>hRR _ _ σ' H' s' Zf (by rw[<-eY];exact I') q
  rw[<-eE,<-eA,<-eP,<-eW]
  have fr0:∀b∈fp,(upd H2 s2.heap.objs.size (.lst [])) b=none:=λb hb=>by
   have lt:b<s2.heap.objs.size:=let ⟨o,e,_⟩:=T.obj _ _ Wv b hb;cp e
   rw[aO (dm lt)];exact(f2 b hb).1
  refine qR (λn s'=>∃i ys own H',own.length=xs.length/\Inv Y [] (own++cH σ idx) H' s'/\tn i s'.heap/\(∀b∈fp,H' b=none)/\W i n ys H') ?_ m0
   ⟨0,[],_,_,M8,I3,st1,fr0,w0⟩
  rintro n s4 ⟨i,ys,own,H4,aDp,I4,st4,fr4,w4⟩
  rcases turn i n ys H4 w4 with ⟨stop,qn⟩ | ⟨go,NN,hNN,step⟩
  ·exact dH (T'.done Y rfl rfl rfl hcY i [] s4 _ H4 _ I4 (stat fr4) st4 stop) λr s5 ⟨hr,I5⟩=>by subst hr;exact fin _ _ _ I5 qn
  ·refine dH (T'.item Y rfl rfl rfl hcY i [] s4 _ H4 _ I4 (stat fr4) st4 go) λr s5 ⟨u,hr,h5⟩=>?_
   subst hr
   refine dH h5 λ_ s6 ⟨x,H6,I6,r6,y6,st6,fr6⟩=>?_
   have I6':=I6.pinned (stat fr6) (T'.obj _ _ st6)
   have step':=step ⟨HH.objs.size,jW X.env scope.names [],s2,H2,fp⟩ own aDp x H6 y6
   refine iX (hg' _ s6 _ H6 x u _ I6' r6 step') (λ_ s7 ⟨σ7,H7,I7,q7⟩=>?_) (λ_ _ z=>by rw[eX]at z;exact z)
   obtain⟨⟨aCl,ho7,e7⟩,q7⟩:=q7
   refine iX (ht' _ s7 σ7 H7 _ I7 q7) (λb s8 ⟨H8,I8,q8⟩=>?_) (λ_ _ z=>by rw[eX]at z;exact z)
   have again:∀{H9:Hp} {s9:Shared} {uY:List V},Inv Y ([]++yZ fp s6.heap) σ7 H9 s9->NN uY H9->∃m,m<n/\∃i ys own H',own.length=xs.length/\Inv Y [] (own++cH σ idx) H' s9/\tn i s9.heap/\(∀b∈fp,H' b=none)/\W i m ys H':=λ{H9 s9 uY} I9 n9=>by
    obtain⟨m',hm,w9⟩:=hNN _ _ n9
    rw[e7]at I9
    refine⟨m',hm,i+1,uY,aCl,H9,ho7,I9.uj,T'.keep _ _ _ st6 λb hb o e=>(I9.pin (b,o) (nj _ (nj _ (oO hb e)))).1,λb hb=>?_,w9⟩
    obtain⟨o,e,d⟩:=T'.obj _ _ st6 b hb
    exact(I9.pin (b,o) (nj _ (nj _ (oO hb e)))).2.1
   cases b with
   | false=>exact again I8 q8
   | true=>
    refine iX (he' _ s8 σ7 H8 _ I8 q8) (λu9 s9 ⟨y,H9,I9,r9,hy,hz,q9⟩=>?_) (λ_ _ z=>by rw[eX]at z;exact z)
    have ap:=rP (X:=Y) _ s9 σ7 H9 (.ref s2.heap.objs.size) [y] (.ref s2.heap.objs.size) [u9] (λ_ H10=>NN (ys++[y]) H10) I9 rfl (.cons r9 .nil) ⟨_,ys,y,rfl,rfl,hy,hz,q9⟩
    refine iX ap (λ_ XQ ⟨_,H10,I10,_,q10⟩=>again I10 q10) (λ_ _ z=>by rw[eX]at z;exact z)
 exact codeAny_compStart_list (loop _ rfl) (T.self _ 0 _ _ _ st1 (loop _ rfl))
theorem Vs(hc:X.calm=true)(S:Gn X scope xs idx)(hi:PI X target iter wi)
  (hg:∀c,PG (zG X scope (xs++iW X.N idx) c) target (g c)) (ht:∀c,MT (zG X scope (xs++iW X.N idx) c) ifs (tt c)) (he:∀c,PE (zG X scope (xs++iW X.N idx) c) elt (te c))
  (hs:∀x,foldedSetIterable iter X.env x=pure x:=by intro _;rfl):PE X (.ListComp elt [⟨target,iter,ifs,0⟩] scope pos) (Nq wi xs.length idx g tt te):=by
 intro pins s σ H Q I h
 rw[eval_ListComp]
 have aAV:closureFor scope X.env=pure (jW X.env scope.names []):=vp λy hy e=>I.ok.has y.1 (S.free y hy e).2
 refine wpAny_comprehension_free (use:=none) rfl hs aAV S.kind S.loc (dH (hi pins s σ H _ I h) λxv s₁ h₁=>dH h₁ λitv s₂ h₂=>?_)
 obtain⟨it,fp,tn,J,H2,e,I2,T,Wv,f2,hW⟩:=h₂
 subst e
 refine TQ (Q:=Q) (RR:=λacc C=>compPost (model X.prog X.w) X.A X.xe none (EP X pins σ Q) acc C) hc S hg ht he I2 T Wv f2 hW ?_
 intro D C σ' H' s' hC I' q
 obtain⟨m',hn,_⟩:=I'.loc
 refine⟨m',hn,λh'' aAS=>?_⟩
 obtain⟨hh,gg,d,t,os⟩:=s'
 obtain rfl:os=s₂.os:=I'.os
 have Cn:s₂.heap.get? C=none:=Gy hC
 refine⟨.ref D,H',I2.call (s:=s₂) (h':=h'') (g':=gg) (d':=d) (t':=t) (ch:=fp) (I'.base.but Cn aAS) (I'.cA.but I'.free aAS) I'.bare (λb hb=>?_),rfl,q⟩
 obtain⟨_,f1,_,f3,f4,f5⟩:=f2 b hb
 exact⟨f3,f1,f4,f5⟩
end
theorem Mv{lo:Int}{n k:Nat}{idx:List Nat}{g:CB->TG}{tt:CB->TT}{te:CB->TE}{σ:St}{Q:VK}{H1:Hp}{D:Addr}(Pv:Nat->List V->Hp->Prop)(h0:Pv 0 [] (upd H1 D (.lst [])))
  (hs:∀i ys H,i<n->Pv i ys H->∀(c:CB) (own:St),own.length=k->g c (.int (lo+i)) (own++cH σ idx) H λσ3 H3=>
   (∃gQ,gQ.length=k/\σ3=gQ++cH σ idx)/\tt c σ3 H3 λb H4=>if b=true then te c σ3 H4 λy H5=>H5 D=some (.lst ys)/\ys.length<sizeLine/\Pv (i+1) (ys++[y]) (upd H5 D (.lst (ys++[y]))) else Pv (i+1) ys H4)
  (hd:∀ys H,Pv n ys H->Q (.ref D) H) :
  ∃W:Nat->Nat->List V->Hp->Prop,(∃m,W 0 m [] (upd H1 D (.lst [])))/\
   ∀i m ys H',W i m ys H'->((J6 lo n).stop i H'/\Q (.ref D) H')\/((J6 lo n).go i H'/\∃N:List V->Hp->Prop,(∀uY z4,N uY z4->∃m',m'<m/\W (i+1) m' uY z4)/\∀(c:CB) (own:St),own.length=k->∀x H2,(J6 lo n).O2 i H' x H2->g c x (own++cH σ idx) H2 λσ3 H3=>
    (∃gQ,gQ.length=k/\σ3=gQ++cH σ idx)/\tt c σ3 H3 λb H4=>if b=true then te c σ3 H4 λy H5=>H5 D=some (.lst ys)/\ys.length<sizeLine/\N (ys++[y]) (upd H5 D (.lst (ys++[y]))) else N ys H4):=by
 refine⟨λi m ys H=>m=n-i/\i<=n/\Pv i ys H,⟨n,by simp,lQ _,h0⟩,?_⟩
 rintro i m ys H ⟨rfl,hi,p⟩
 by_cases uL:i<n
 ·refine .inr ⟨uL,Pv (i+1),λuY H' p'=>⟨n-(i+1),by omega,rfl,uL,p'⟩,λc own ho x H' y=>?_⟩
  obtain⟨e,y⟩:=y
  subst e y
  exact hs i ys _ uL p c own ho
 ·have e:i=n:=by omega
  subst e
  exact .inl ⟨bW _,hd ys H p⟩
theorem Qm{K:PySem.W.Frag}{a:Addr}{zs:List V}{k:Nat}{idx:List Nat}{g:CB->TG}{tt:CB->TT}{te:CB->TE}{σ:St}{Q:VK}{H1:Hp}{D:Addr}(Pv:Nat->List V->Hp->Prop)(h0:Pv 0 [] (upd H1 D (.lst [])))
  (hl:∀i ys H,i<=zs.length->Pv i ys H->uZ K H a zs)
  (hs:∀i x ys H,zs[i]?=some x->Pv i ys H->∀(c:CB) (own:St),own.length=k->g c x (own++cH σ idx) H λσ3 H3=>
   (∃gQ,gQ.length=k/\σ3=gQ++cH σ idx)/\tt c σ3 H3 λb H4=>if b=true then te c σ3 H4 λy H5=>H5 D=some (.lst ys)/\ys.length<sizeLine/\Pv (i+1) (ys++[y]) (upd H5 D (.lst (ys++[y]))) else Pv (i+1) ys H4)
  (hd:∀ys H,Pv zs.length ys H->Q (.ref D) H) :
  ∃W:Nat->Nat->List V->Hp->Prop,(∃m,W 0 m [] (upd H1 D (.lst [])))/\
   ∀i m ys H',W i m ys H'->((Qu K a).stop i H'/\Q (.ref D) H')\/((Qu K a).go i H'/\∃N:List V->Hp->Prop,(∀uY z4,N uY z4->∃m',m'<m/\W (i+1) m' uY z4)/\∀(c:CB) (own:St),own.length=k->∀x H2,(Qu K a).O2 i H' x H2->g c x (own++cH σ idx) H2 λσ3 H3=>
    (∃gQ,gQ.length=k/\σ3=gQ++cH σ idx)/\tt c σ3 H3 λb H4=>if b=true then te c σ3 H4 λy H5=>H5 D=some (.lst ys)/\ys.length<sizeLine/\N (ys++[y]) (upd H5 D (.lst (ys++[y]))) else N ys H4):=by
 refine⟨λi m ys H=>m=zs.length-i/\i<=zs.length/\Pv i ys H,⟨zs.length,by simp,lQ _,h0⟩,?_⟩
 rintro i m ys H ⟨rfl,hi,p⟩
 have q:=hl i ys H hi p
 by_cases uL:i<zs.length
 ·refine .inr ⟨⟨zs,zs[i],q,by simp[uL]⟩,Pv (i+1),λuY H' p'=>⟨zs.length-(i+1),by omega,rfl,uL,p'⟩,λc own ho x H' y=>?_⟩
  obtain⟨e,y⟩:=y
  subst e
  exact hs i x ys _ (y zs q) p c own ho
 ·have e:i=zs.length:=by omega
  subst e
  exact .inl ⟨⟨zs,q,bW _⟩,hd ys H p⟩
theorem Vv{own:St}{k:St}{x:V}(h:own.length=1):(own++k).set 0 (some x)=[some x]++k:=by
 match own,h with
 | [_],_=>rfl
theorem JN{lo:Int}{n:Nat}{idx:List Nat}{tt:CB->TT}{te:CB->TE}{σ:St}{Q:VK}{H1:Hp}{D:Addr}(Pv:Nat->List V->Hp->Prop)(h0:Pv 0 [] (upd H1 D (.lst [])))
  (hs:∀i ys H,i<n->Pv i ys H->∀(c:CB),tt c (some (.int (lo+i))::cH σ idx) H λb H4=>if b=true then te c (some (.int (lo+i))::cH σ idx) H4 λy H5=>H5 D=some (.lst ys)/\ys.length<sizeLine/\Pv (i+1) (ys++[y]) (upd H5 D (.lst (ys++[y]))) else Pv (i+1) ys H4)
  (hd:∀ys H,Pv n ys H->Q (.ref D) H) :
  ∃W:Nat->Nat->List V->Hp->Prop,(∃m,W 0 m [] (upd H1 D (.lst [])))/\
   ∀i m ys H',W i m ys H'->((J6 lo n).stop i H'/\Q (.ref D) H')\/((J6 lo n).go i H'/\∃N:List V->Hp->Prop,(∀uY z4,N uY z4->∃m',m'<m/\W (i+1) m' uY z4)/\∀(c:CB) (own:St),own.length=1->∀x H2,(J6 lo n).O2 i H' x H2->ll 0 x (own++cH σ idx) H2 λσ3 H3=>
    (∃gQ,gQ.length=1/\σ3=gQ++cH σ idx)/\tt c σ3 H3 λb H4=>if b=true then te c σ3 H4 λy H5=>H5 D=some (.lst ys)/\ys.length<sizeLine/\N (ys++[y]) (upd H5 D (.lst (ys++[y]))) else N ys H4):=
 Mv (g:=λ_=>ll 0) Pv h0 (λi ys H hi p c own ho=>by
  show(∃gQ,gQ.length=1/\(own++cH σ idx).set 0 _=gQ++cH σ idx)/\tt c ((own++cH σ idx).set 0 _) H _
  rw[Vv ho]
  exact⟨⟨[_],rfl,rfl⟩,hs i ys H hi p c⟩) hd
theorem Mw{K:PySem.W.Frag}{a:Addr}{zs:List V}{idx:List Nat}{tt:CB->TT}{te:CB->TE}{σ:St}{Q:VK}{H1:Hp}{D:Addr}(Pv:Nat->List V->Hp->Prop)(h0:Pv 0 [] (upd H1 D (.lst [])))
  (hl:∀i ys H,i<=zs.length->Pv i ys H->uZ K H a zs)
  (hs:∀i x ys H,zs[i]?=some x->Pv i ys H->∀(c:CB),tt c (some x::cH σ idx) H λb H4=>if b=true then te c (some x::cH σ idx) H4 λy H5=>H5 D=some (.lst ys)/\ys.length<sizeLine/\Pv (i+1) (ys++[y]) (upd H5 D (.lst (ys++[y]))) else Pv (i+1) ys H4)
  (hd:∀ys H,Pv zs.length ys H->Q (.ref D) H) :
  ∃W:Nat->Nat->List V->Hp->Prop,(∃m,W 0 m [] (upd H1 D (.lst [])))/\
   ∀i m ys H',W i m ys H'->((Qu K a).stop i H'/\Q (.ref D) H')\/((Qu K a).go i H'/\∃N:List V->Hp->Prop,(∀uY z4,N uY z4->∃m',m'<m/\W (i+1) m' uY z4)/\∀(c:CB) (own:St),own.length=1->∀x H2,(Qu K a).O2 i H' x H2->ll 0 x (own++cH σ idx) H2 λσ3 H3=>
    (∃gQ,gQ.length=1/\σ3=gQ++cH σ idx)/\tt c σ3 H3 λb H4=>if b=true then te c σ3 H4 λy H5=>H5 D=some (.lst ys)/\ys.length<sizeLine/\N (ys++[y]) (upd H5 D (.lst (ys++[y]))) else N ys H4):=
 Qm (g:=λ_=>ll 0) Pv h0 hl (λi x ys H hi p c own ho=>by
  show(∃gQ,gQ.length=1/\(own++cH σ idx).set 0 _=gQ++cH σ idx)/\tt c ((own++cH σ idx).set 0 _) H _
  rw[Vv ho]
  exact⟨⟨[_],rfl,rfl⟩,hs i x ys H hi p c⟩) hd
def vo(z:Str)(lo hi:Option Int):Str:=⟨((z.cps.toList.drop (HT.eB z.length 0 lo)).take (HT.eB z.length z.length hi-HT.eB z.length 0 lo)).toArray⟩
theorem yT(lo hi:Option Int)(n:Nat):Builtin.Str.strSliceIndices lo hi 1 n=sliceRange ((HT.eB n 0 lo:Nat):Int) ((HT.eB n n hi:Nat):Int) 1:=by
 obtain⟨h1,h2,h3⟩:=uo lo hi n
 rw[<-h1,<-h2]
 cases lo <;> cases hi <;> simp[Builtin.Str.strSliceIndices,sliceBounds]
theorem UW{a b:Str}(h:a.cps.toList=b.cps.toList):a=b:=by
 obtain⟨x⟩:=a;obtain⟨y⟩:=b
 have:x=y:=Array.toList_inj.mp h
 rw[this]
theorem Ao(x:Str)(lo hi:Option Int):Txt.slice x lo hi=vo x lo hi:=by
 have hl:x.cps.toList.length=x.length:=by simp[Str.length]
 have e:(Builtin.Str.strSliceIndices lo hi 1 x.length).filterMap (x.cps[·]?)=(x.cps.toList.drop (HT.eB x.length 0 lo)).take (HT.eB x.length x.length hi-HT.eB x.length 0 lo):=by
  rw[yT,sliceRange_one,pick_run]
 have el:(Builtin.Str.strSliceIndices lo hi 1 x.length).length=HT.eB x.length x.length hi-HT.eB x.length 0 lo:=by
  rw[yT,sliceRange_one,di,Km]
 unfold Txt.slice
 rw[e,el]
 have hj:HT.eB x.length x.length hi<=x.length:=HT.RT _ _ (bW _) hi
 by_cases h:HT.eB x.length x.length hi-HT.eB x.length 0 lo=x.length
 ·have hb:((1:Int)==1&&HT.eB x.length x.length hi-HT.eB x.length 0 lo==x.length)=true:=by rw[h];simp
  rw[bH hb]
  refine UW ?_
  unfold vo
  by_cases hx:x.length=0
  ·have e0:x.cps.toList=[]:=GD (by lia)
   rw[e0];simp
  ·have h0:HT.eB x.length 0 lo=0:=by lia
   rw[h,h0,List.drop_zero,<-hl,xJ]
 ·have hb:¬((1:Int)==1&&HT.eB x.length x.length hi-HT.eB x.length 0 lo==x.length)=true:=by simpa using h
  rw[aR hb]
  rfl
theorem zi{v:Value}{o:Option Int}(h:IsPart v o):∃p:Option (Int×Tok),v=partValue p/\p.map (·.1)=o:=by
 cases h with
 | none=>exact⟨none,rfl,rfl⟩
 | int i t=>exact⟨some (i,t),rfl,rfl⟩
theorem mR{n:Nat}(h:n<=1000):n<=sizeLine:=u6 (Kn h (by decide))
section
variable {X:Cx}
def aAf:V->Option Int->Option Int->Hp->VK->Prop:=λx lo hi H Q=>∃z,x=.str z/\z.length<=sizeLine/\Q (.str (vo z lo hi)) H
theorem Ey:Wn X aAf:=by
 intro pins s σ H x v vl vu lo hi sl Q I rx hs pl pu h
 obtain⟨z,rfl,hz,q⟩:=h
 obtain⟨t,rfl⟩:=rx
 obtain⟨pl',rfl,el⟩:=zi pl
 obtain⟨pu',rfl,eu⟩:=zi pu
 refine⟨"str",_,F.slot_str_getitem.lookup,u0 _ _ _,wpAny_getItem_str_slice (l:=pl') (u:=pu') (st:=none) hs rfl ?_⟩
 unfold sliceMade slicePicked
 rw[el,eu]
 refine post_val_or_str ⟨?_,λt' k=>?_⟩
 ·exact jY (Txt.slice_le z lo hi) hz
 ·exact⟨.str (vo z lo hi),H,I.tok _,⟨t',by rw[<-Ao];rfl⟩,q⟩
theorem U0{ss:List Str}:∀{us:List Value},Vals (ss.map V.str) us->∃l:List (Str×Tok),us=strValues l/\l.map (·.1)=ss:=by
 induction ss with
 | nil=>intro us r;cases r;exact⟨[],rfl,rfl⟩
 | cons z ss ih=>
  intro us r
  rw[mK]at r
  cases r with
  | cons r1 r2=>
   obtain⟨t,rfl⟩:=r1
   obtain⟨l,rfl,e⟩:=ih r2
   exact⟨(z,t)::l,rfl,by rw[mK,e]⟩
def rJoin(K:PySem.W.Frag):V->List V->Hp->VK->Prop:=λx vs H Q=>∃sep a ss,x=.str sep/\vs=[.ref a]/\uZ K H a (ss.map V.str)/\JoinOk sep ss=true/\Q (.str (Txt.join sep ss)) H
theorem VH:W9 X "str.join" (rJoin X.K):=by
 intro pins s σ H x vs v us Q I rx rv h
 obtain⟨sep,a,ss,rfl,rfl,hq,cA,q⟩:=h
 obtain⟨t,rfl⟩:=rx
 obtain⟨u,rfl,ru⟩:=rv.one
 cases ru
 obtain⟨its,r,pl,hz⟩:=I.list hq
 obtain⟨l,rfl,e⟩:=U0 r
 exact SC.join pl.isList e cA λt' k=>⟨.str (Txt.join sep ss),H,I.tok _,⟨t',rfl⟩,q⟩
theorem K8{ss:List Str}:∀{us:List Value},Vals (ss.map V.str) us->StrsAre us ss:=by
 induction ss with
 | nil=>intro us r;cases r;exact .nil
 | cons z ss ih=>
  intro us r
  rw[mK]at r
  cases r with
  | cons r1 r2=>obtain⟨t,rfl⟩:=r1;exact .cons z t (ih r2)
theorem BW:∀{us:List Value} {ss:List Str},StrsAre us ss->Vals (ss.map V.str) us
 | _,_,.nil=>.nil
 | _,_,.cons x t r=>.cons ⟨t,rfl⟩ (BW r)
theorem TX(c:Value):e9 X (.builtin "isinstance") (λvs H Q=>∃x t b n,vs=[x,.ty n]/\tQ X.K H x t/\PySem.W.kitOne X.K t (.type n)=some b/\Q (.bl b) H):=by
 intro pins s σ H vs us Q I rv h
 obtain⟨x,t,b,n,rfl,ty,e,q⟩:=h
 obtain⟨u,v,rfl,ru,rv'⟩:=rv.two
 obtain rfl:v=Value.type n:=rv'
 exact P5 I ru ty e λtk=>⟨.bl b,H,I.tok _,rfl,q⟩
def aA3(xs ys:List V):Bool:=xs.length==ys.length&&(List.range xs.length).all λj=>Qg (xs.getD j .non) (ys.getD j .non)
end
section
variable {X:Cx}{elt target iter:Expr}{ifs:List Expr}{scope:Scope}{pos spos py:Pos}{xs:List Str}{idx:List Nat}{wi:TI}{g:CB->TG}{tt:CB->TT}{te:CB->TE}
end
def Wd(uA:Scope)(N:List Str)(scope:Scope)(idx:List Nat):Bool:=
 scope.kind == .function&&scope.names.all (λy=>y.2 != .cell)&&scope.names.all (λy=>y.2 != .local||scope.names.lookup y.1==some .local) &&
 scope.names.all (λy=>y.2 != .free||(scope.names.lookup y.1==some .free&&(uA.names.lookup y.1==some .cell||uA.names.lookup y.1==some .free))) &&
 idx.all (λi=>match N[i]? with | some y=>scope.names.lookup y==some .free | none=>false)
theorem Ql{X:Cx}{scope:Scope}{xs:List Str}{idx:List Nat}{uA:Scope}{N:List Str}(h:Wd uA N scope idx=true)(e1:X.env.scope=uA:=by rfl)(e2:X.N=N:=by rfl):Gn X scope xs idx:=by
 unfold Wd at h
 simp only[gO]at h
 refine hide λgG hG=>?_
 obtain⟨⟨⟨⟨h1,h2⟩,h3⟩,h4⟩,h5⟩:=h
 refine hG ?_
 refine⟨by simpa using h1,λy hy e=>?_,λy hy e=>?_,λy hy e=>?_,λi hi=>?_⟩
 ·have:=su.mp h2 y hy
  rw[e]at this;exact absurd this (by decide)
 ·have:=su.mp h3 y hy
  rw[e]at this;simpa using this
 ·have:=su.mp h4 y hy
  rw[e]at this
  have t:(scope.names.lookup y.1==some NameKind.free&&(uA.names.lookup y.1==some .cell||uA.names.lookup y.1==some .free))=true:=by simpa using this
  rw[gO,Bool.or_eq_true]at t
  refine⟨by simpa using t.1,?_⟩
  show X.env.scope.names.lookup y.1=_\/X.env.scope.names.lookup y.1=_
  rw[e1]
  exact t.2.imp (by simp) (by simp)
 ·have:=su.mp h5 i hi
  rw[e2]
  cases e:N[i]? with
  | none=>rw[e]at this;cases this
  | some y=>rw[e]at this;exact⟨y,rfl,by simpa using this⟩
theorem aBz{α:Type}(a:α)(xs:List α):wU (a::xs) 0=some a:=kh (j:=0) rfl
theorem aBy{α:Type}(a b:α)(xs:List α):wU (a::b::xs) 1=some b:=kh (j:=1) rfl
theorem aBx{α:Type}(a b c:α)(xs:List α):wU (a::b::c::xs) 2=some c:=kh (j:=2) rfl
theorem aBw{α:Type}(a b c d:α)(xs:List α):wU (a::b::c::d::xs) 3=some d:=kh (j:=3) rfl
theorem aBv{α:Type}(a b c d e:α)(xs:List α):wU (a::b::c::d::e::xs) 4=some e:=kh (j:=4) rfl
theorem aBu{α:Type}(a b c d e f:α)(xs:List α):wU (a::b::c::d::e::f::xs) 5=some f:=kh (j:=5) rfl
theorem Y0:P1 6 1=some 1:=rfl
theorem YZ:P1 6 2=some 2:=rfl
theorem YX:P1 6 3=some 3:=rfl
theorem YW:P1 6 4=some 4:=rfl
theorem YT:P1 6 5=some 5:=rfl
theorem Ol(i:Int):og i 48271/\og i 40693/\og i 3/\og i 4294967296:=⟨.inr ⟨by decide,by decide⟩,.inr ⟨by decide,by decide⟩,.inr ⟨by decide,by decide⟩,.inr ⟨by decide,by decide⟩⟩
theorem aBd(i:Int):og i 48271:=(Ol i).1
theorem aBb(i:Int):og i 40693:=(Ol i).2.1
theorem aBa(i:Int):og i 3:=(Ol i).2.2.1
theorem aA9(i:Int):og i 4294967296:=(Ol i).2.2.2
theorem Om(i:Int):og 5 i/\og 3 i/\og 7 i/\og 10 i:=⟨.inl ⟨by decide,by decide⟩,.inl ⟨by decide,by decide⟩,.inl ⟨by decide,by decide⟩,.inl ⟨by decide,by decide⟩⟩
theorem Zt(i:Int):og 5 i:=(Om i).1
theorem Zr(i:Int):og 3 i:=(Om i).2.1
theorem Zq(i:Int):og 7 i:=(Om i).2.2.1
theorem Zo(i:Int):og 10 i:=(Om i).2.2.2
theorem Zn:aBD 10 18:=⟨by decide,by decide,by decide⟩
def Xu(t u:TS):TS:=λD σ H=>∃N:St->Hp->Prop,t { D with nx:=N } σ H/\∀σ' H',N σ' H'->u D σ' H'
theorem Vi{X:Cx}{st:Stmt}{rest:List Stmt}{t u:TS}(h1:PS X st t)(h2:zU X rest u):zU X (st::rest) (Xu t u):=by
 intro pins s σ H D I ⟨N,hn,hu⟩
 refine wpAny_execs_cons (dH (h1 pins s σ H { D with nx:=N } I hn) λf s1 q=>?_)
 cases f with
 | next=>
  refine hide λgG hG=>?_
  obtain⟨σ',H',I',q⟩:=q
  refine hG ?_
  exact h2 pins s1 σ' H' D I' (hu σ' H' q)
 | ret v=>exact q
 | brk=>exact q
 | cont=>exact q
theorem T8{ns:List Int}{k:Int}(h0:0<=k)(h:k<(ns.length:Int)):∃v:Int,wU (ns.map V.int) k=some (.int v):=by
 have hk:k.toNat<ns.length:=by lia
 have ek:k=((k.toNat:Nat):Int):=by lia
 have q:wU (ns.map V.int) ((k.toNat:Nat):Int)=some (.int ns[k.toNat]):=kh (by rw[mz,nM hk] <;> rfl)
 rw[<-ek]at q
 exact⟨_,q⟩
theorem Zy{α:Type}{xs:List α}{k:Int}(h0:0<=k)(h:k<(xs.length:Int)):∃v,wU xs k=some v/\xs[k.toNat]?=some v:=by
 have hk:k.toNat<xs.length:=by lia
 have ek:k=((k.toNat:Nat):Int):=by lia
 have q:wU xs ((k.toNat:Nat):Int)=some xs[k.toNat]:=kh (nM hk)
 rw[<-ek]at q
 exact⟨_,q,nM hk⟩
section
variable {X:Cx}
theorem nJ.imp{f:Value->Value->Sem Value}{r r':R2}(h:nJ X f r)(i:∀x y H Q,r' x y H Q->r x y H Q):nJ X f r':=λpins s σ H x y v u Q I rx ry q=>h pins s σ H x y v u Q I rx ry (i _ _ _ _ q)
theorem Ud.imp{r r':R2}(h:Ud X r)(i:∀x y H Q,r' x y H Q->r x y H Q):Ud X r':=λvalue slice pins s σ H x y v u Q I rx ry q hs=>h value slice pins s σ H x y v u Q I rx ry (i _ _ _ _ q) hs
theorem e9.imp{f:Value}{r r':List V->Hp->VK->Prop}(h:e9 X f r)(i:∀x H Q,r' x H Q->r x H Q):e9 X f r':=λpins s σ H vs us Q I rv q=>h pins s σ H vs us Q I rv (i _ _ _ q)
theorem W9.imp{id:String}{r r':V->List V->Hp->VK->Prop}(h:W9 X id r)(i:∀x xs H Q,r' x xs H Q->r x xs H Q):W9 X id r':=λpins s σ H x xs v us Q I rx rv q=>h pins s σ H x xs v us Q I rx rv (i _ _ _ _ q)
theorem Wn.imp{r r':V->Option Int->Option Int->Hp->VK->Prop}(h:Wn X r)(i:∀x lo hi H Q,r' x lo hi H Q->r x lo hi H Q):Wn X r':=λpins s σ H x v vl vu lo hi sl Q I rx hs pl pu q=>h pins s σ H x v vl vu lo hi sl Q I rx hs pl pu (i _ _ _ _ _ q)
theorem eV{K:PySem.W.Frag}{H:Hp}{a:Addr}{xs:List V}(h:H a=some (.lst xs)):uZ K H a xs:=uZ.of h
theorem lG{K:PySem.W.Frag}{H:Hp}{a:Addr}{xs:List V}(h:H a=some (.tup xs)):wV K H a xs:=wV.of h
def X1:R2:=λx y H Q=>∃p i,x=.ref p/\y=.int i/\∃xs,H p=some (.lst xs)/\∃v,wU xs i=some v/\Q v H
theorem la:Ud X X1:=VM.imp λx y H Q ⟨p,i,e1,e2,xs,h,v,e3,q⟩=>⟨p,xs,i,v,e1,e2,eV h,e3,q⟩
def aAp:R2:=λx y H Q=>∃p i,x=.ref p/\y=.int i/\∃xs,H p=some (.tup xs)/\∃v,wU xs i=some v/\Q v H
theorem sr:Ud X aAp:=YM.imp λx y H Q ⟨p,i,e1,e2,xs,h,v,e3,q⟩=>⟨p,xs,i,v,e1,e2,lG h,e3,q⟩
def XZ:R2:=λx y H Q=>∃z i,x=.str z/\y=.int i/\z.length<=sizeLine/\∃c,wU z.cps.toList i=some c/\Q (.str ⟨#[c]⟩) H
theorem YS:Ud X XZ:=YQ.imp λx y H Q ⟨z,i,e1,e2,hz,c,e3,q⟩=>⟨z,i,c,e1,e2,hz,e3,q⟩
def aB5:V->Option Int->Option Int->Hp->VK->Prop:=λx lo hi H Q=>∃a,x=.ref a/\∃xs,H a=some (.lst xs)/\∀p,H p=none->Q (.ref p) (upd H p (.lst (tH xs lo hi)))
def aAl:V->Option Int->Option Int->Hp->VK->Prop:=λx lo hi H Q=>∃a,x=.ref a/\∃xs,H a=some (.tup xs)/\¬(HT.eB xs.length 0 lo=0/\HT.eB xs.length xs.length hi=xs.length)/\∀p,H p=none->Q (.ref p) (upd H p (.tup (tH xs lo hi)))
theorem aAd:Wn X aAl:=XJ.imp λx lo hi H Q ⟨a,e,xs,h,n,q⟩=>⟨a,xs,e,lG h,n,q⟩
def WD:List V->Hp->VK->Prop:=λvs H Q=>∃p,vs=[.ref p]/\∃xs,H p=some (.lst xs)/\Q (.int xs.length) H
theorem sd:e9 X (.builtin "len") WD:=uO.imp λx H Q ⟨p,e,xs,h,q⟩=>⟨p,xs,e,.inl (eV h),q⟩
def Wz:List V->Hp->VK->Prop:=λvs H Q=>∃p,vs=[.ref p]/\∃xs,H p=some (.tup xs)/\Q (.int xs.length) H
theorem vr:e9 X (.builtin "len") Wz:=uO.imp λx H Q ⟨p,e,xs,h,q⟩=>⟨p,xs,e,.inr (lG h),q⟩
def R5:List V->Hp->VK->Prop:=λvs H Q=>∃p,vs=[.ref p]/\∃xs,H p=some (.lst xs)/\∀l,H l=none->Q (.ref l) (upd H l (.lst xs))
theorem Mx:e9 X (.type "list") R5:=FK.imp λx H Q ⟨p,e,xs,h,q⟩=>⟨p,xs,e,.inl (eV h),q⟩
def XS:List V->Hp->VK->Prop:=λvs H Q=>∃p,vs=[.ref p]/\∃xs,H p=some (.tup xs)/\∀l,H l=none->Q (.ref l) (upd H l (.lst xs))
def Nz:List V->Hp->VK->Prop:=λvs H Q=>∃p,vs=[.ref p]/\∃xs,H p=some (.lst xs)/\∀l,H l=none->Q (.ref l) (upd H l (.tup xs))
theorem wj:e9 X (.type "tuple") Nz:=Al.imp λx H Q ⟨p,e,xs,h,q⟩=>⟨p,xs,e,.inl ⟨eV h,q⟩⟩
def XT:List V->Hp->VK->Prop:=λvs H Q=>∃a,vs=[.ref a]/\∃aX,H a=some (.dK aX)/\∀p,H p=none->Q (.ref p) (upd H p (.lst (aX.map λkv=>kV kv.1)))
def X7:List V->Hp->VK->Prop:=λvs H Q=>∃a,vs=[.ref a]/\∃aX,H a=some (.dK aX)/\∀p,H p=none->Q (.ref p) (upd H p (.dK aX))
def Vd:List V->Hp->VK->Prop:=λvs H Q=>∃a,vs=[.ref a]/\∃ss:List Str,H a=some (.lst (ss.map V.str))/\ss.length<64/\
 ∀ss':List Str,ss'.Perm ss->sortedS ss'=true->∀p,H p=none->Q (.ref p) (upd H p (.lst (ss'.map V.str)))
def WK:V->List V->Hp->VK->Prop:=λx vs H Q=>∃sep a,x=.str sep/\vs=[.ref a]/\∃ss:List Str,H a=some (.lst (ss.map V.str))/\JoinOk sep ss=true/\Q (.str (Txt.join sep ss)) H
theorem HD:W9 X "str.join" WK:=VH.imp λx vs H Q ⟨sep,a,e1,e2,ss,h,n,q⟩=>⟨sep,a,ss,e1,e2,eV h,n,q⟩
def X5(neg:Bool):R2:=λx y H Q=>∃p,y=.ref p/\∃xs,H p=some (.lst xs)/\md x=true/\xs.all md=true/\Q (.bl (if neg then !WW x xs else WW x xs)) H
theorem Yu:nJ X (compareOp .In) (X5 false):=Pw.imp λx y H Q ⟨p,e,xs,h,f1,f2,q⟩=>⟨p,xs,e,.inl (eV h),f1,f2,q⟩
theorem Pu:nJ X (compareOp .NotIn) (X5 true):=Ff.imp λx y H Q ⟨p,e,xs,h,f1,f2,q⟩=>⟨p,xs,e,.inl (eV h),f1,f2,q⟩
def aB6(neg:Bool):R2:=λx y H Q=>∃p,y=.ref p/\∃xs,H p=some (.tup xs)/\md x=true/\xs.all md=true/\Q (.bl (if neg then !WW x xs else WW x xs)) H
def aB7(neg:Bool):R2:=λx y H Q=>∃a b,x=.ref a/\y=.ref b/\∃xs,H a=some (.lst xs)/\∃ys,H b=some (.lst ys)/\xs.all md=true/\ys.all md=true/\Q (.bl (if neg then !aA3 xs ys else aA3 xs ys)) H
def aAq(K:PySem.W.Frag):List V->Hp->VK->Prop:=λvs H Q=>∃x n,vs=[x,.ty n]/\∃t,tQ K H x t/\∃b,PySem.W.kitOne K t (.type n)=some b/\Q (.bl b) H
theorem se:e9 X (.builtin "isinstance") (aAq X.K):=(TX .none).imp λx H Q ⟨y,n,e,t,ty,b,h,q⟩=>⟨y,t,b,n,e,ty,h,q⟩
def aAm:V->V->V->Hp->(Hp->Prop)->Prop:=λo i v H Q=>∃p k,o=.ref p/\i=.int k/\∃xs,H p=some (.lst xs)/\∃j,P1 xs.length k=some j/\Q (upd H p (.lst (xs.set j v)))
theorem uw:Qt X aAm:=λpins s σ H o i v ov iv u Q I ro ri rv ⟨p,k,e1,e2,xs,h,j,hj,q⟩=>set_list pins s σ H o i v ov iv u Q I ro ri rv ⟨p,xs,k,j,e1,e2,h,hj,q⟩
theorem W5:ZJ X (λo i H Q=>X1 o i H Q):=by
 intro pins s σ H o i ov iv Q I ro ri h
 refine hide λgG hG=>?_
 obtain⟨p,i,rfl,rfl,xs,hp,z,he,q⟩:=h
 refine hG ?_
 cases ro
 refine hide λgG hG=>?_
 obtain⟨t,rfl⟩:=ri
 obtain⟨its,r,pl,hz⟩:=I.list (eV hp)
 obtain⟨j,h1,h2,h3,h4,h5⟩:=xg he
 obtain⟨w,ew,RV⟩:=r.get h2
 refine hG ?_
 have hl:=r.length
 have hn:=tf
 have fin:EP X pins σ Q w s:=⟨z,H,I,RV,q⟩
 by_cases h0:0<=i
 ·have hj:i.toNat=j:=by
   rw[seqIndex_of h0 h5]at h1
   exact gU h1
  exact wpAny_getItem_list pl.isList h0 (by lia) (by rw[hj];simpa using ew) fin
 ·have hj:(i+(its.toArray.size:Int)).toNat=j:=by
   rw[seqIndex_neg (by lia) h4]at h1
   rw[iZ,<-hl]
   exact gU h1
  exact wpAny_getItem_list_neg pl.isList (by lia) (by rw[iZ] <;> lia) (by lia) (by rw[hj];simpa using ew) fin
end
end L2
namespace L2
open PySem PySem.Spec PyProof.Rows
def qv:Expr->Option Str
 | .Constant (.str x) _ _=>some x
 | _=>none
def KS(es:List Expr):List Str:=es.filterMap qv
def Rh(es:List Expr):TA:=λ_ H Q=>Q ((KS es).map V.str) H
theorem Xh{e:Expr}(h:(qv e).isSome=true):∃x j p,e=.Constant (.str x) j p:=by
 cases e with
 | Constant v j p=>
  cases v with
  | str x=>exact⟨x,j,p,rfl⟩
  | _=>exact Bool.noConfusion h
 | _=>exact Bool.noConfusion h
theorem SM{α:Type}{C:List α->Prop}(h:∀a,C [a]):∀us:List α,us.length=1->C us
 | [a],_=>h a
theorem of2{α:Type}{C:List α->Prop}(h:∀a b,C [a,b]):∀us:List α,us.length=2->C us
 | [a,b],_=>h a b
theorem of3{α:Type}{C:List α->Prop}(h:∀a b c,C [a,b,c]):∀us:List α,us.length=3->C us
 | [a,b,c],_=>h a b c
theorem NT{X:Cx}:∀{es:List Expr},(es.all λe=>(qv e).isSome)=true->PA X es (Rh es)
 | [],_=>λpos pins s σ H Q I h=>Lg pos pins s σ H Q I h
 | e::es,h=>by
  rw[vb,gO]at h
  have ih:=NT (X:=X) h.2
  refine hide λgG hG=>?_
  obtain⟨x,j,p,rfl⟩:=Xh h.1
  refine hG ?_
  have c:=w6 (X:=X) (e:=.Constant (.str x) j p) (te:=tC (.str x)) Si ih rfl
  exact λpos pins s σ H Q I q=>c pos pins s σ H Q I q
structure HC(X:Cx)(N:List Str)(sc:Scope):Prop where
 n:X.N=N
 s:X.env.scope=sc
def okV(N:List Str)(sc:Scope)(i:Nat)(x:Str):Bool:=
 N[i]? == some x&&(sc.names.lookup x==some .local||sc.names.lookup x==some .cell||sc.names.lookup x==some .free) && !(x==("__debug__" : Str)) && !(x==("__classdict__" : Str))
def ZX(N:List Str)(sc:Scope)(i:Nat)(x:Str):Bool:=N[i]? == some x&&(sc.names.lookup x==some .local||sc.names.lookup x==some .cell)
def SJ(N:List Str)(sc:Scope)(i:Nat)(x:Str):Bool:=N[i]? == some x&&sc.names.lookup x==some .local
def okG(sc:Scope)(x:Str):Bool:=sc.names.lookup x==some .globalImplicit
section
variable {X:Cx}{N:List Str}{sc:Scope}{x:Str}{pos:Pos}
theorem pvk(hc:HC X N sc)(i:Nat)(h:okV N sc i x=true):PE X (.Name x pos) (Er i):=by
 unfold okV at h
 simp only[gO,Bool.or_eq_true,beq_iff_eq,Eg]at h
 obtain⟨⟨⟨h1,h2⟩,h3⟩,h4⟩:=h
 refine Sh (by rw[hc.n];exact h1) ?_ h3 h4
 unfold Vis
 rw[hc.s]
 rcases h2 with (h2 | h2) | h2
 ·exact .inl h2
 ·exact .inr (.inl h2)
 ·exact .inr (.inr h2)
theorem bK(hc:HC X N sc)(h:okG sc x=true:=by decide +kernel):Gl X x:=by
 show X.env.scope.names.lookup x=some .globalImplicit
 rw[hc.s];simpa [okG]using h
theorem w8(hc:HC X N sc){i:Nat}(h:ZX N sc i x=true):X.N[i]?=some x/\Loc X.env.scope x:=by
 unfold ZX at h
 simp only[gO,Bool.or_eq_true,beq_iff_eq]at h
 refine⟨by rw[hc.n];exact h.1,?_⟩
 unfold Loc;rw[hc.s];exact h.2
theorem qA(hc:HC X N sc){i:Nat}(h:SJ N sc i x=true):X.N[i]?=some x/\X.env.scope.names.lookup x=some .local:=by
 unfold SJ at h
 simp only[gO,beq_iff_eq]at h
 exact⟨by rw[hc.n];exact h.1,by rw[hc.s];exact h.2⟩
theorem pgk(hc:HC X N sc)(nd:N.Nodup)(hf:∀x,X.fn x=true)(i:Nat)(h:ZX N sc i x=true):PG X (.Name x pos) (ll i):=
 NR (by rw[hc.n];exact nd) (w8 hc h).1 (w8 hc h).2 (.inl (hf x))
theorem pgb(hc:HC X N sc)(nd:N.Nodup)(i:Nat)(h:SJ N sc i x=true):PG X (.Name x pos) (ll i):=
 NR (by rw[hc.n];exact nd) (qA hc h).1 (.inl (qA hc h).2) (.inr (qA hc h).2)
theorem NB{e:Expr}{te:TE}{pos':Pos}(hc:HC X N sc)(nd:N.Nodup)(hf:∀x,X.fn x=true)(i:Nat)(h:ZX N sc i x=true)(he:PE X e te)(hs:swapsWith e (some (.Name x pos')) pos.line X.env=pure false:=by rfl) :
  PS X (.Assign [.Name x pos'] e pos) (O8 te (ll i)):=
 Yd (by rw[hc.n];exact nd) (w8 hc h).1 (w8 hc h).2 he hs (.inl (hf x))
end
def lX(scope uA:Scope):Scope:=
 { scope with names:=scope.names.map λ(n,k)=>if (k == .free&&uA.kind == .function&&uA.names.lookup n==some .cell) then (n,.cell) else (n,k) }
theorem Hj{scope uA:Scope}{env:Env}(h:env.scope=uA):relabel scope env=lX scope uA:=by
 subst h;rfl
theorem zF{X:Cx}{N:List Str}{uA scope:Scope}{xs:List Str}{idx:List Nat}(hc:HC X N uA)(c:CB):HC (zG X scope (xs++iW X.N idx) c) (xs++iW N idx) (lX scope uA):=
 ⟨by show xs++iW X.N idx=_;rw[hc.n],Hj hc.s⟩
section
variable {X:Cx}{N:List Str}{uA:Scope}{elt target iter:Expr}{ifs:List Expr}{scope:Scope}{pos spos py:Pos}{xs:List Str}{idx:List Nat}{wi:TI}{g:CB->TG}{tt:CB->TT}{te:CB->TE}
theorem Hr(hc:HC X N uA)(xs:List Str)(idx:List Nat)(aAW:X.calm=true)(S:Wd uA N scope idx=true)(hi:PI X target iter wi)
  (hg:∀c,HC (zG X scope (xs++iW X.N idx) c) (xs++iW N idx) (lX scope uA)->PG (zG X scope (xs++iW X.N idx) c) target (g c))
  (ht:∀c,HC (zG X scope (xs++iW X.N idx) c) (xs++iW N idx) (lX scope uA)->MT (zG X scope (xs++iW X.N idx) c) ifs (tt c))
  (he:∀c,HC (zG X scope (xs++iW X.N idx) c) (xs++iW N idx) (lX scope uA)->PE (zG X scope (xs++iW X.N idx) c) elt (te c))
  (hs:∀x,foldedSetIterable iter X.env x=pure x:=by intro _;rfl):PE X (.ListComp elt [⟨target,iter,ifs,0⟩] scope pos) (Nq wi xs.length idx g tt te):=
 Vs aAW (Ql S hc.s hc.n) hi (λc=>hg c (zF hc c)) (λc=>ht c (zF hc c)) (λc=>he c (zF hc c)) hs
end
end L2
namespace L2
open PySem PySem.Spec PyProof.Rows
@[irreducible] def Ap (X:Cx) (st:List Stmt) (t:TS):Prop:=zU X st t
theorem Ap.to{X:Cx}{st:List Stmt}{t:TS}(h:Ap X st t):zU X st t:=by unfold Ap at h;exact h
theorem Ap.of{X:Cx}{st:List Stmt}{t:TS}(h:zU X st t):Ap X st t:=by unfold Ap;exact h
section
variable {X:Cx}{st:Stmt}{rest:List Stmt}{t u:TS}{pos:Pos}
theorem Vb:Ap X [] Np:=.of Vh
theorem Va(h1:PS X st t):Ap X [st] t:=.of (Vg h1)
theorem R1(h1:PS X st t)(h2:Ap X rest u):Ap X (st::rest) (tSeq t u):=.of (R8 h1 h2.to)
theorem Vc(h1:PS X st t)(h2:Ap X rest u):Ap X (st::rest) (Xu t u):=.of (Vi h1 h2.to)
theorem aAk{c:Expr}{a b:List Stmt}{tc:TT}(hc:PT X c tc)(ha:Ap X a t)(hb:Ap X b u):PS X (.If c a b pos) (UG tc t u):=aAu hc ha.to hb.to
theorem R3{c:Expr}{body:List Stmt}{tc:TT}{tb:TS}(hp:PassesOwn (model X.prog X.w) X.A X.env X.xe)(hc:PT X c tc)(hb:Ap X body tb):PS X (.While c body [] pos) (K3 tc tb):=R9 hp hc hb.to
theorem R4{tg iter:Expr}{body:List Stmt}{wi:TI}{g:TG}{tb:TS}(hp:PassesOwn (model X.prog X.w) X.A X.env X.xe)(hc:X.calm=true)(hi:PI X tg iter wi)(hg:PG X tg g)(hb:Ap X body tb)
  (hs:∀x,foldedSetIterable iter X.env x=pure x:=by intro _;rfl):PS X (.For tg iter body [] pos) (UL wi g tb):=Yg hp hc hi hg hb.to hs
end
theorem nG.okK{P:Program}{w:World}{K:PySem.W.Frag}{mg:Str->Option Value}{base:Heap}{x qual:Str}{st:Stmt}{f:Addr}{fd:FuncData}{N ps:List Str}{k:Nat}{sp:Sp}(F:nG K x qual st f fd)(S:bp N ps (aA st))(len:∀vs H Q E,sp vs H Q E->vs.length=ps.length)
  (nZ:∀(dh:Value) (A:Around) (outer:List Env) (s:Shared) (H:Hp) (vs:List V) (Q:VK) (E:XK),jV k (A.deeper (envOfC qual (aA st) s.heap.objs.size f dh))->sp vs H Q E->
   HC (lE mE P w K mg base N qual (aA st) f dh A outer s H E).Uj N (aA st)->(∀x,(lE mE P w K mg base N qual (aA st) f dh A outer s H E).Uj.fn x=true)->
   ∃t,Ap (lE mE P w K mg base N qual (aA st) f dh A outer s H E).Uj (bj st) t/\t { nx:=λ_ H'=>Q .non H',rt:=Q } (start N vs) H):dI P w K mg base mE (k+1) f fd ps sp:=
 F.ok S len λdh A outer s H vs Q E hr h=>let ⟨t,h1,h2⟩:=nZ dh A outer s H vs Q E hr h ⟨rfl,rfl⟩ λ_=>rfl;⟨t,h1.to,h2⟩
end L2
namespace L2
open PySem PySem.Spec PyProof.Rows
def Gj(J:It)(g:TG)(tb:TS)(D:Ends)(σ:St)(H:Hp):Prop:=∃W:Nat->Nat->St->Hp->Prop,(∃m,W 0 m σ H)/\∀i m σ H,W i m σ H->
 (J.stop i H/\D.nx σ H)\/(J.go i H/\∃N:St->Hp->Prop,(∀σ' H',N σ' H'->∃m',m'<m/\W (i+1) m' σ' H')/\∀x H',J.O2 i H x H'->g x σ H' λσ2 H2=>tb { D with nx:=N,ct:=N,bk:=D.nx } σ2 H2)
theorem UJ{wi:TI}{g:TG}{tb:TS}{D:Ends}{σ:St}{H:Hp}:UL wi g tb D σ H=wi σ H (λJ H1=>Gj J g tb D σ H1):=rfl
def pT(J:It)(k:Nat)(idx:List Nat)(g:CB->TG)(tt:CB->TT)(te:CB->TE)(σ:St)(Q:VK)(H1:Hp):Prop:=∀D,H1 D=none->∃W:Nat->Nat->List V->Hp->Prop,(∃m,W 0 m [] (upd H1 D (.lst [])))/\
 ∀i m ys H',W i m ys H'->(J.stop i H'/\Q (.ref D) H')\/(J.go i H'/\∃N:List V->Hp->Prop,(∀uY z4,N uY z4->∃m',m'<m/\W (i+1) m' uY z4)/\∀(c:CB) (own:St),own.length=k->∀x H2,J.O2 i H' x H2->g c x (own++cH σ idx) H2 λσ3 H3=>
  (∃gQ,gQ.length=k/\σ3=gQ++cH σ idx)/\tt c σ3 H3 λb H4=>if b=true then te c σ3 H4 λy H5=>H5 D=some (.lst ys)/\ys.length<sizeLine/\N (ys++[y]) (upd H5 D (.lst (ys++[y]))) else N ys H4)
theorem Rq{wi:TI}{k:Nat}{idx:List Nat}{g:CB->TG}{tt:CB->TT}{te:CB->TE}{σ:St}{H:Hp}{Q:VK}:Nq wi k idx g tt te σ H Q=wi σ H (λJ H1=>pT J k idx g tt te σ Q H1):=rfl
theorem pF{lo:Int}{n:Nat}{g:TG}{tb:TS}{D:Ends}{σ:St}{H:Hp}(Pv:Nat->St->Hp->Prop)(h0:Pv 0 σ H)
  (hs:∀i σ H,i<n->Pv i σ H->g (.int (lo+i)) σ H λσ2 H2=>tb { D with nx:=Pv (i+1),ct:=Pv (i+1),bk:=D.nx } σ2 H2) (hd:∀σ H,Pv n σ H->D.nx σ H):Gj (J6 lo n) g tb D σ H:=Qf Pv h0 hs hd
theorem JF{K:PySem.W.Frag}{a:Addr}{xs:List V}{g:TG}{tb:TS}{D:Ends}{σ:St}{H:Hp}(Pv:Nat->St->Hp->Prop)(h0:Pv 0 σ H)(hl:∀i σ H,i<=xs.length->Pv i σ H->H a=some (.lst xs))
  (hs:∀i x σ H,xs[i]?=some x->Pv i σ H->g x σ H λσ2 H2=>tb { D with nx:=Pv (i+1),ct:=Pv (i+1),bk:=D.nx } σ2 H2) (hd:∀σ H,Pv xs.length σ H->D.nx σ H):Gj (Qu K a) g tb D σ H:=
 Tv Pv h0 (λi σ H hi p=>eV (hl i σ H hi p)) hs hd
theorem Mr{K:PySem.W.Frag}{a:Addr}{xs:List V}{g:TG}{tb:TS}{D:Ends}{σ:St}{H:Hp}(Pv:Nat->St->Hp->Prop)(h0:Pv 0 σ H)(hl:∀i σ H,i<=xs.length->Pv i σ H->H a=some (.tup xs))
  (hs:∀i x σ H,xs[i]?=some x->Pv i σ H->g x σ H λσ2 H2=>tb { D with nx:=Pv (i+1),ct:=Pv (i+1),bk:=D.nx } σ2 H2) (hd:∀σ H,Pv xs.length σ H->D.nx σ H):Gj (ZM K a) g tb D σ H:=
 V8 Pv h0 (λi σ H hi p=>lG (hl i σ H hi p)) hs hd
theorem mh{lo:Int}{n:Nat}{idx:List Nat}{tt:CB->TT}{te:CB->TE}{σ:St}{Q:VK}{H1:Hp}(Pv:Addr->Nat->List V->Hp->Prop)(h0:∀D,H1 D=none->Pv D 0 [] (upd H1 D (.lst [])))
  (hs:∀D,H1 D=none->∀i ys H,i<n->Pv D i ys H->∀(c:CB),tt c (some (.int (lo+i))::cH σ idx) H λb H4=>if b=true then te c (some (.int (lo+i))::cH σ idx) H4 λy H5=>H5 D=some (.lst ys)/\ys.length<sizeLine/\Pv D (i+1) (ys++[y]) (upd H5 D (.lst (ys++[y]))) else Pv D (i+1) ys H4)
  (hd:∀D,H1 D=none->∀ys H,Pv D n ys H->Q (.ref D) H):pT (J6 lo n) 1 idx (λ_=>ll 0) tt te σ Q H1:=
 λD hD=>JN (Pv D) (h0 D hD) (hs D hD) (hd D hD)
theorem FJ{K:PySem.W.Frag}{a:Addr}{zs:List V}{idx:List Nat}{tt:CB->TT}{te:CB->TE}{σ:St}{Q:VK}{H1:Hp}(Pv:Addr->Nat->List V->Hp->Prop)(h0:∀D,H1 D=none->Pv D 0 [] (upd H1 D (.lst [])))
  (hl:∀D,H1 D=none->∀i ys H,i<=zs.length->Pv D i ys H->H a=some (.lst zs))
  (hs:∀D,H1 D=none->∀i x ys H,zs[i]?=some x->Pv D i ys H->∀(c:CB),tt c (some x::cH σ idx) H λb H4=>if b=true then te c (some x::cH σ idx) H4 λy H5=>H5 D=some (.lst ys)/\ys.length<sizeLine/\Pv D (i+1) (ys++[y]) (upd H5 D (.lst (ys++[y]))) else Pv D (i+1) ys H4)
  (hd:∀D,H1 D=none->∀ys H,Pv D zs.length ys H->Q (.ref D) H):pT (Qu K a) 1 idx (λ_=>ll 0) tt te σ Q H1:=
 λD hD=>Mw (Pv D) (h0 D hD) (λi ys H hi p=>eV (hl D hD i ys H hi p)) (hs D hD) (hd D hD)
end L2
namespace L2
open PySem PySem.Spec PyProof.Rows
def yQ(ss:List Str):TA:=λ_ H Q=>Q (List.map V.str ss) H
theorem yO:∀{es:List Expr} {ss:List Str},(es.map qv==ss.map some)=true->(es.all λe=>(qv e).isSome)=true/\KS es=ss
 | [],[],_=>⟨rfl,rfl⟩
 | [],_::_,h=>by cases h
 | _::_,[],h=>by cases h
 | e::es,x::ss,h=>by
  have h':(qv e==some x&&(es.map qv==ss.map some))=true:=h
  rw[gO]at h'
  have e1:qv e=some x:=by simpa using h'.1
  have ih:=yO h'.2
  refine⟨by rw[vb,e1,ih.1];rfl,?_⟩
  show(e::es).filterMap qv=_
  rw[Ej,e1]
  show x::KS es=_
  rw[ih.2]
theorem Sq{X:Cx}{es:List Expr}(ss:List Str)(h:(es.map qv==ss.map some)=true):PA X es (yQ ss):=by
 have c:=NT (X:=X) (yO h).1
 rw[show Rh es=yQ ss by unfold Rh yQ;rw[(yO h).2]]at c
 exact c
structure ZE(X:Cx)(e:Expr)(t:TE):Prop where
 to:PE X e t
structure ZT(X:Cx)(e:Expr)(t:TT):Prop where
 to:PT X e t
structure ZW(X:Cx)(e:Expr)(t:TT):Prop where
 to:PW X e t
structure ZA(X:Cx)(e:List Expr)(t:TA):Prop where
 to:PA X e t
structure ZS(X:Cx)(e:Stmt)(t:TS):Prop where
 to:PS X e t
structure MN(X:Cx)(e:List Stmt)(t:TS):Prop where
 to:zU X e t
structure ZG(X:Cx)(e:Expr)(t:TG):Prop where
 to:PG X e t
structure Zz(X:Cx)(e:List Expr)(t:TT):Prop where
 to:MT X e t
structure ZO(X:Cx)(e:Option Expr)(t:TO):Prop where
 to:PO X e t
structure ZI(X:Cx)(tg iter:Expr)(t:TI):Prop where
 to:PI X tg iter t
structure ZC(X:Cx)(op:CmpOp)(a b:Expr)(t:TE):Prop where
 to:PC X op a b t
theorem mn{X:Cx}{b:Bool}{j:Nat}{pos:Pos}:ZE X (Expr.Constant (Const.bool b) j pos) (tC (V.bl b)):=⟨aAz⟩
theorem ah{X:Cx}{i:Int}{j:Nat}{pos:Pos}:ZE X (Expr.Constant (Const.int i) j pos) (tC (V.int i)):=⟨Yo⟩
theorem aU{X:Cx}{x:Str}{j:Nat}{pos:Pos}:ZE X (Expr.Constant (Const.str x) j pos) (tC (V.str x)):=⟨Si⟩
theorem Nh{X:Cx}{j:Nat}{pos:Pos}:ZE X (Expr.Constant Const.none j pos) (tC V.non):=⟨Ym⟩
theorem aB{X:Cx}{N:List Str}{sc:Scope}{x:Str}{pos:Pos}(h1:HC X N sc)(i:Nat)(h2:okV N sc i x=true:=by decide +kernel):ZE X (Expr.Name x pos) (Er i):=⟨pvk h1 i h2⟩
theorem qg{X:Cx}{x:Str}{v:V}{u:Value}{pos:Pos}(h1:Gl X x)(h2:Cx.mg X x=none)(h3:bootBuiltins x=some u)(h4:RelV v u)(h5:autoParam (x≠Str.ofString "__name__") Fe._auto_1)(h6:autoParam ((x==Str.ofString "__debug__")=false) Fe._auto_2):ZE X (Expr.Name x pos) (tC v):=⟨Fe h1 h2 h3 h4 h5 h6⟩
theorem cN{X:Cx}{es:List Expr}{t:TA}{pos:Pos}(h1:ZA X es t):ZE X (Expr.List es pos) (Xs t):=⟨Yn h1.to⟩
theorem lN{X:Cx}{es:List Expr}{t:TA}{pos:Pos}{x1:Nat}(h1:ZA X es t):ZE X (Expr.Tuple es x1 pos) (Xm t):=⟨Yj h1.to⟩
theorem OD{X:Cx}{pos:Pos}:ZE X (Expr.Dict [] [] pos) K5:=⟨Sl⟩
theorem aY{X:Cx}{a b:Expr}{ta tb:TE}{pos:Pos}{op:Operator}{r:R2}(h1:nJ X (binaryOp op) r)(h2:ZE X a ta)(h3:ZE X b tb):ZE X (Expr.BinOp a op b pos) (QH r ta tb):=⟨aAx h1 h2.to h3.to⟩
theorem Ng{X:Cx}{a:Expr}{ta:TE}{pos:Pos}(h1:ZE X a ta):ZE X (Expr.UnaryOp UnaryOp.Not a pos) (Rj ta):=⟨Yl h1.to⟩
theorem O0{X:Cx}{a b c:Expr}{ta tb tc:TE}{pos:Pos}{op op':CmpOp}{r r':R2}(h1:nJ X (compareOp op) r)(h2:nJ X (compareOp op') r')(h3:ZE X a ta)(h4:ZE X b tb)(h5:ZE X c tc)(h6:autoParam (lastMarks [op,op'] [b,c]=false) Hs._auto_1):ZE X (Expr.Compare a [op,op'] [b,c] pos) (yS r r' ta tb tc):=⟨Hs h1 h2 h3.to h4.to h5.to h6⟩
theorem ug{X:Cx}{a b:Expr}{ta tb:TE}{pos:Pos}{op:CmpOp}{r:R2}(h1:nJ X (compareOp op) r)(h2:ZE X a ta)(h3:ZE X b tb)(h4:behindInMarks op b=false):ZE X (Expr.Compare a [op] [b] pos) (QH r ta tb):=⟨Vt h1 h2.to h3.to h4⟩
theorem uf{X:Cx}{a:Expr}{pos:Pos}{op:BoolOp}{t:TE}(h1:ZE X a t):ZE X (Expr.BoolOp op [a] pos) t:=⟨Yk h1.to⟩
theorem El{X:Cx}{a b:Expr}{ta tb:TE}{pos:Pos}{rest:List Expr}(h1:ZE X a ta)(h2:ZE X (Expr.BoolOp BoolOp.And (b::rest) pos) tb):ZE X (Expr.BoolOp BoolOp.And (a::b::rest) pos) (Ru ta tb):=⟨Yp h1.to h2.to⟩
theorem Q5{X:Cx}{a b:Expr}{ta tb:TE}{pos:Pos}{rest:List Expr}(h1:ZE X a ta)(h2:ZE X (Expr.BoolOp BoolOp.Or (b::rest) pos) tb):ZE X (Expr.BoolOp BoolOp.Or (a::b::rest) pos) (Xp ta tb):=⟨aAw h1.to h2.to⟩
theorem mP{X:Cx}:ZO X none Ew:=⟨Vm⟩
theorem mO{X:Cx}{e:Expr}{te:TE}(h1:ZE X e te):ZO X (some e) (Ri te):=⟨Vl h1.to⟩
theorem lF{X:Cx}{e:Expr}{te:TE}{lo hi:Option Expr}{tl th:TO}{pos p2:Pos}{r:V->Option Int->Option Int->Hp->VK->Prop}(h1:Wn X r)(h2:ZE X e te)(h3:ZO X lo tl)(h4:ZO X hi th):ZE X (Expr.Subscript e (Expr.Slice lo hi none p2) pos) (tSl r te tl th):=⟨Sj h1 h2.to h3.to h4.to⟩
theorem Q6{X:Cx}{o i:Expr}{pos:Pos}{td ty:TE}(h1:Around.units (Cx.A X)+1<cLine)(h2:ZE X o td)(h3:ZE X i ty)(h4:ZL i):ZE X (Expr.Subscript o i pos) (Rp td ty):=⟨Vr h1 h2.to h3.to h4⟩
theorem bt{X:Cx}{a b:Expr}{ta tb:TE}{pos:Pos}{r:R2}(h1:Ud X r)(h2:ZE X a ta)(h3:ZE X b tb)(h4:Ow b):ZE X (Expr.Subscript a b pos) (QH r ta tb):=⟨aAy h1 h2.to h3.to h4⟩
theorem jb{X : Cx}{N : List Str}{uA : Scope}{elt target iter : Expr}{ifs : List Expr}{scope : Scope}{pos : Pos}{wi : TI}{g : CB → TG}{tt : CB → TT}{te : CB → TE}(h1 : HC X N uA)(xs : List Str)(idx : List Nat)(h2 : Cx.calm X=true)(h3 : Wd uA N scope idx=true)(h4 : ZI X target iter wi)(h5 : (∀ (c : CB),
                HC (zG X scope (xs++iW (Cx.N X) idx) c) (xs++iW N idx) (lX scope uA) →
                  ZG (zG X scope (xs++iW (Cx.N X) idx) c) target (g c))) (h6 : (∀ (c : CB),
                  HC (zG X scope (xs++iW (Cx.N X) idx) c) (xs++iW N idx) (lX scope uA) →
                    Zz (zG X scope (xs++iW (Cx.N X) idx) c) ifs (tt c))) (h7 : (∀ (c : CB),
                    HC (zG X scope (xs++iW (Cx.N X) idx) c) (xs++iW N idx) (lX scope uA) →
                      ZE (zG X scope (xs++iW (Cx.N X) idx) c) elt (te c))) (h8 : autoParam (∀ (x : Value), foldedSetIterable iter (Cx.env X) x=pure x) Hr._auto_1) : ZE X (Expr.ListComp elt [{ target := target, iter := iter, ifs := ifs, is_async := 0 }] scope pos)
                      (Nq wi (List.length xs) idx g tt te) := ⟨Hr h1 xs idx h2 h3 h4.to (λc z => (h5 c z).to) (λc z => (h6 c z).to) (λc z => (h7 c z).to) h8⟩
theorem O1{X:Cx}{es:List Expr}(ss:List Str)(h1:(List.map qv es==List.map some ss)=true):ZA X es (yQ ss):=⟨Sq ss h1⟩
theorem aj{X:Cx}:ZA X [] Rk:=⟨Lg⟩
theorem ae{X:Cx}{e:Expr}{es:List Expr}{te:TE}{t:TA}(h1:ZE X e te)(h2:ZA X es t)(h3:autoParam (starEach (e::es) (Cx.env X)=(false,eval e (Cx.env X))::starEach es (Cx.env X)) w6._auto_1):ZA X (e::es) (yR te t):=⟨w6 h1.to h2.to h3⟩
theorem Ek{X:Cx}{N:List Str}{sc:Scope}{x:Str}{pos:Pos}(h1:HC X N sc)(h2:List.Nodup N)(i:Nat)(h3:SJ N sc i x=true):ZG X (Expr.Name x pos) (ll i):=⟨pgb h1 h2 i h3⟩
theorem kA{X:Cx}:Zz X [] Rg:=⟨Se⟩
theorem Oy{X:Cx}{e:Expr}{t:TT}(h1:ZT X e t):Zz X [e] t:=⟨Sd h1.to⟩
theorem ej{X:Cx}{tg a:Expr}{ta:TA}{p pos:Pos}(h1:Gl X (Str.ofString "range"))(h2:Cx.mg X (Str.ofString "range")=none)(h3:ZA X [a] ta)(h4:autoParam (starEach [a] (Cx.env X)=[(false,eval a (Cx.env X))]) Cg._auto_1):ZI X tg (Expr.Call (Expr.Name (Str.ofString "range") p) [a] [] pos) (Tj ta):=⟨Cg h1 h2 h3.to h4⟩
theorem GJ{X:Cx}{tg l:Expr}{tl:TE}(h1:ZE X l tl):ZI X tg l (Tn (Cx.K X) tl):=⟨Vn h1.to⟩
theorem Nf{X:Cx}{tg l:Expr}{tl:TE}(h1:ZE X l tl):ZI X tg l (Y3 (Cx.K X) tl):=⟨Yh h1.to⟩
theorem KQ{X:Cx}{o i:Expr}{td ty:TE}(h1:Around.units (Cx.A X)+1<cLine)(h2:ZE X i ty)(h3:ZE X o td):ZC X CmpOp.NotIn i o (wY ty td):=⟨Pt h1 h2.to h3.to⟩
theorem Bh{X:Cx}{a b c:Expr}{ta tb tc:TE}{pos:Pos}{op op':CmpOp}{r r':R2}(h1:nJ X (compareOp op) r)(h2:nJ X (compareOp op') r')(h3:ZE X a ta)(h4:ZE X b tb)(h5:ZE X c tc)(h6:autoParam (lastMarks [op,op'] [b,c]=false) Hn._auto_1):ZT X (Expr.Compare a [op,op'] [b,c] pos) (He (yS r r' ta tb tc)):=⟨Hn h1 h2 h3.to h4.to h5.to h6⟩
theorem Up{X:Cx}{a b:Expr}{pos:Pos}{op:CmpOp}{t:TE}(h1:ZC X op a b t)(h2:autoParam (behindInMarks op b=false) R7._auto_1):ZT X (Expr.Compare a [op] [b] pos) (tB t):=⟨R7 h1.to h2⟩
theorem aN{X:Cx}{a b:Expr}{ta tb:TE}{pos:Pos}{op:CmpOp}{r:R2}(h1:nJ X (compareOp op) r)(h2:ZE X a ta)(h3:ZE X b tb)(h4:behindInMarks op b=false):ZT X (Expr.Compare a [op] [b] pos) (He (QH r ta tb)):=⟨Vf h1 h2.to h3.to h4⟩
theorem rA{X:Cx}{a:Expr}{pos:Pos}{tA:TT}(h1:ZT X a tA):ZT X (Expr.UnaryOp UnaryOp.Not a pos) (Xq tA):=⟨Yb h1.to⟩
theorem vJ{X:Cx}{e:Expr}{t:TT}(h1:ZW X e t):ZT X e t:=⟨PW.pt h1.to⟩
theorem ja{X:Cx}{e:Expr}{t:TE}(h1:ZE X e t)(h2:autoParam
    (∀(whole:Sem Value),
     PySem.isTrue e (Cx.env X) whole=do
      let v <-whole
      standAt (Expr.pos e)
      holding [v] (truthy v))
    R6._auto_1):ZT X e (tB t):=⟨R6 h1.to h2⟩
theorem QZ{X:Cx}{a:Expr}{pos:Pos}{tA:TT}(h1:ZT X a tA):ZW X (Expr.BoolOp BoolOp.And [a] pos) tA:=⟨Ve h1.to⟩
theorem oj{X:Cx}{a:Expr}{pos:Pos}{tA:TT}(h1:ZT X a tA):ZW X (Expr.BoolOp BoolOp.Or [a] pos) tA:=⟨X8 h1.to⟩
theorem Uo{X:Cx}{a b:Expr}{pos:Pos}{tA Uh:TT}{rest:List Expr}(h1:ZT X a tA)(h2:ZW X (Expr.BoolOp BoolOp.And (b::rest) pos) Uh):ZW X (Expr.BoolOp BoolOp.And (a::b::rest) pos) (Xw tA Uh):=⟨X9 h1.to h2.to⟩
theorem qd{X:Cx}{a b:Expr}{pos:Pos}{tA Uh:TT}{rest:List Expr}(h1:ZT X a tA)(h2:ZW X (Expr.BoolOp BoolOp.Or (b::rest) pos) Uh):ZW X (Expr.BoolOp BoolOp.Or (a::b::rest) pos) (tOr tA Uh):=⟨aAt h1.to h2.to⟩
theorem aT{X : Cx}{CX : QG}{k : Nat}{f : Addr}{fd : FuncData}{ps : List Str}{sp : Sp}{TF : List V}{ds : List Value}{E : XK}{x : Str}{p pos : Pos}{e : Expr}{es : List Expr}{t : TA}(h1 : dI (Cx.prog X) (Cx.w X) (Cx.K X) (Cx.mg X) (Cx.base X) CX k f fd ps sp)(h2 : jV k (Cx.A X))(h3 : Gl X x)(h4 : Cx.mg X x=some (Value.ref f))(h5 : W.keepIn (Cx.K X) (Value.ref f)=true)(h6 : Binds (Cx.K X) fd ps ds)(h7 : Vals TF ds)(h8 : Passes CX X E)(h9 : ZA X (e::es) t)(h10 : autoParam ((x==Str.ofString "__debug__")=false) w5._auto_1)(h11 : autoParam (starEach (e::es) (Cx.env X)=(false, eval e (Cx.env X))::starEach es (Cx.env X))
                          w5._auto_2) (h12 : autoParam
                            ((List.any (backTo pos (starEach es (Cx.env X))) λ(x : Bool × Sem Value) => Prod.fst x) =
                              false)
                            w5._auto_3) : ZE X (Expr.Call (Expr.Name x p) (e::es) [] pos) (Ca sp TF E t) := ⟨w5 h1 h2 h3 h4 h5 h6 h7 h8 h9.to h10 h11 h12⟩
theorem oq{X : Cx}{x : Str}{p pos : Pos}{e : Expr}{es : List Expr}{t : TA}{T : String}{r : List V → Hp → VK → Prop}(h1 : e9 X (Value.type T) r)(h2 : Gl X x)(h3 : Cx.mg X x=none)(h4 : bootBuiltins x=some (Value.type T))(h5 : ZA X (e::es) t)(h6 : autoParam (x ≠ Str.ofString "__name__") nV._auto_1)(h7 : autoParam ((x==Str.ofString "__debug__")=false) nV._auto_2)(h8 : autoParam (starEach (e::es) (Cx.env X)=(false, eval e (Cx.env X))::starEach es (Cx.env X))
                    nV._auto_3) (h9 : autoParam
                      ((List.any (backTo pos (starEach es (Cx.env X))) λ(x : Bool × Sem Value) => Prod.fst x) =
                        false)
                      nV._auto_4) : ZE X (Expr.Call (Expr.Name x p) (e::es) [] pos) (tCB r t) := ⟨nV h1 h2 h3 h4 h5.to h6 h7 h8 h9⟩
theorem aZ{X : Cx}{x : Str}{p pos : Pos}{e : Expr}{es : List Expr}{t : TA}{id : String}{r : List V → Hp → VK → Prop}(h1 : e9 X (Value.builtin id) r)(h2 : Gl X x)(h3 : Cx.mg X x=none)(h4 : bootBuiltins x=some (Value.builtin id))(h5 : ZA X (e::es) t)(h6 : autoParam (x ≠ Str.ofString "__name__") qy._auto_1)(h7 : autoParam ((x==Str.ofString "__debug__")=false) qy._auto_2)(h8 : autoParam (starEach (e::es) (Cx.env X)=(false, eval e (Cx.env X))::starEach es (Cx.env X))
                    qy._auto_3) (h9 : autoParam
                      ((List.any (backTo pos (starEach es (Cx.env X))) λ(x : Bool × Sem Value) => Prod.fst x) =
                        false)
                      qy._auto_4) : ZE X (Expr.Call (Expr.Name x p) (e::es) [] pos) (tCB r t) := ⟨qy h1 h2 h3 h4 h5.to h6 h7 h8 h9⟩
theorem sW{X : Cx}{o e : Expr}{es : List Expr}{to : TE}{t : TA}{name : Str}{apos bY : Pos}{T id : String}{r : V → List V → Hp → VK → Prop}(h1 : PlainAttrs T)(h2 : Slot T name id)(h3 : typeOf (Value.builtin id)=pure (Value.type "method_descriptor"))(h4 : W9 X id r)(h5 : ZE X o to)(h6 : ZA X (e::es) t)(h7 : autoParam (attributeBase o name (Cx.env X) (eval o (Cx.env X))=eval o (Cx.env X)) Ci._auto_1)(h8 : autoParam
                    ((((List.all (backTo bY (starEach (e::es) (Cx.env X))) λ(x : Bool × Sem Value) =>
                            !Prod.fst x) &&
                          List.all (backToKw bY (keywordEach [] (Cx.env X))) λ(x : Option Str × Sem Value) =>
                            Option.isSome (Prod.fst x)) &&
                        decide
                          ((List.length (e::es)+List.length ([] : List Keyword)+if List.isEmpty ([] : List Keyword)=true then 0 else 1)<30)) =
                      true)
                    Ci._auto_2) (h9 : autoParam ((Pos.endLine apos==Pos.line bY)=true) Ci._auto_3) (h10 : autoParam (starEach (e::es) (Cx.env X)=(false, eval e (Cx.env X))::starEach es (Cx.env X))
                        Ci._auto_4) (h11 : autoParam
                          ((List.any (backTo bY (starEach es (Cx.env X))) λ(x : Bool × Sem Value) => Prod.fst x) =
                            false)
                          Ci._auto_5) : ZE X (Expr.Call (Expr.Attribute o name apos) (e::es) [] bY) (tBM (Cx.K X) T r to t) := ⟨Ci h1 h2 h3 h4 h5.to h6.to h7 h8 h9 h10 h11⟩
theorem aS{X:Cx}{e:Expr}{te:TE}{pos:Pos}(h1:ZE X e te):ZS X (Stmt.Return (some e) pos) (Xo te):=⟨Ye h1.to⟩
theorem cG{X:Cx}{e:Expr}{te:TE}{pos:Pos}(h1:ZE X e te)(h2:autoParam (swapsWith e none (Pos.line pos) (Cx.env X)=pure false) NC._auto_1):ZS X (Stmt.Expr e pos) (Rn te):=⟨NC h1.to h2⟩
theorem aQ{X:Cx}{N:List Str}{sc:Scope}{x:Str}{pos:Pos}{e:Expr}{te:TE}{pos':Pos}(h1:HC X N sc)(h2:List.Nodup N)(h3:(∀(x:Str),Cx.fn X x=true))(i:Nat)(h4:ZX N sc i x=true)(h5:ZE X e te)(h6:autoParam (swapsWith e (some (Expr.Name x pos')) (Pos.line pos) (Cx.env X)=pure false) NB._auto_1):ZS X (Stmt.Assign [Expr.Name x pos'] e pos) (O8 te (ll i)):=⟨NB h1 h2 h3 i h4 h5.to h6⟩
theorem om{X : Cx}{pos : Pos}{tg e : Expr}{te : TE}{g : TG}(h1 : ZE X e te)(h2 : ZG X tg g)(h3 : autoParam (swapsWithSole [tg] e (Pos.line pos) (Cx.env X)=pure false) Fd._auto_1)(h4 : autoParam (swappedStores [tg] e (Cx.env X)=pure none) Fd._auto_2)(h5 : autoParam
              (List.map (λ(x : Bool × (Value → Sem Unit)) => Prod.snd x) (assignEach [tg] (Cx.env X)) =
                [assign tg (Cx.env X)])
              Fd._auto_3) : ZS X (Stmt.Assign [tg] e pos) (O8 te g) := ⟨Fd h1.to h2.to h3 h4 h5⟩
theorem oo{X : Cx}{pos : Pos}{o i : Expr}{to ti : TE}{t : MP}(h1 : ZE X o to)(h2 : ZE X i ti)(h3 : Qt X t)(h4 : autoParam
            (∀ (v : Value),
              assign (Expr.Subscript o i pos) (Cx.env X) v=do
                let ov ← holding [v] (eval o (Cx.env X))
                let iv ← holding [v, ov] (eval i (Cx.env X))
                standAt pos
                holding [v, ov, iv] (setItem ov iv v)
                release [v, ov, iv] [])
            Sg._auto_1) : ZG X (Expr.Subscript o i pos) (Zg to ti t) := ⟨Sg h1.to h2.to h3 h4⟩
theorem GF{X : Cx}{pos : Pos}{o i e : Expr}{to ti te : TE}{K1 : V → V → Hp → VK → Prop}{Xj : TIp}{K0 : MP}{op : Operator}{Rf : Pos}(h1 : ZE X o to)(h2 : ZE X i ti)(h3 : ZJ X K1)(h4 : ZE X e te)(h5 : PIp X op Xj)(h6 : Qt X K0)(h7 : autoParam
                  (∀ (ov iv new : Value),
                    augStore i ov iv new=do
                      holding [new, ov, iv] (setItem ov iv new)
                      release [new, ov, iv] []
                      pure Flow.next)
                  NK._auto_1) : ZS X (Stmt.AugAssign (Expr.Subscript o i Rf) op e pos) (Rt to ti te K1 Xj K0) := ⟨NK h1.to h2.to h3 h4.to h5 h6 h7⟩
theorem aW{X:Cx}{t u:TS}{pos:Pos}{c:Expr}{a b:List Stmt}{tc:TT}(h1:ZT X c tc)(h2:MN X a t)(h3:MN X b u):ZS X (Stmt.If c a b pos) (UG tc t u):=⟨aAk h1.to (.of h2.to) (.of h3.to)⟩
theorem Ox{X:Cx}{pos:Pos}{c:Expr}{body:List Stmt}{tc:TT}{tb:TS}(h1:PassesOwn (model (Cx.prog X) (Cx.w X)) (Cx.A X) (Cx.env X) (Cx.xe X))(h2:ZT X c tc)(h3:MN X body tb):ZS X (Stmt.While c body [] pos) (K3 tc tb):=⟨R3 h1 h2.to (.of h3.to)⟩
theorem Oz{X:Cx}{N:List Str}{sc:Scope}{x:Str}{pos:Pos}(h1:HC X N sc)(h2:List.Nodup N)(h3:(∀(x:Str),Cx.fn X x=true))(i:Nat)(h4:ZX N sc i x=true):ZG X (Expr.Name x pos) (ll i):=⟨pgk h1 h2 h3 i h4⟩
theorem rz{X:Cx}{pos:Pos}{tg iter:Expr}{body:List Stmt}{wi:TI}{g:TG}{tb:TS}(h1:PassesOwn (model (Cx.prog X) (Cx.w X)) (Cx.A X) (Cx.env X) (Cx.xe X))(h2:Cx.calm X=true)(h3:ZI X tg iter wi)(h4:ZG X tg g)(h5:MN X body tb)(h6:autoParam (∀(x:Value),foldedSetIterable iter (Cx.env X) x=pure x) R4._auto_1):ZS X (Stmt.For tg iter body [] pos) (UL wi g tb):=⟨R4 h1 h2 h3.to h4.to (.of h5.to) h6⟩
theorem aM{X:Cx}:MN X [] Np:=⟨Ap.to Vb⟩
theorem az{X:Cx}{st:Stmt}{t:TS}(h1:ZS X st t):MN X [st] t:=⟨Ap.to (Va h1.to)⟩
theorem ai{X:Cx}{st:Stmt}{rest:List Stmt}{t u:TS}(h1:ZS X st t)(h2:MN X rest u):MN X (st::rest) (tSeq t u):=⟨Ap.to (R1 h1.to (.of h2.to))⟩
theorem mM{X:Cx}{st:Stmt}{rest:List Stmt}{t u:TS}(h1:ZS X st t)(h2:MN X rest u):MN X (st::rest) (Xu t u):=⟨Ap.to (Vc h1.to (.of h2.to))⟩
theorem nG.vU{P:Program}{w:World}{K:PySem.W.Frag}{mg:Str->Option Value}{base:Heap}{x qual:Str}{st:Stmt}{f:Addr}{fd:FuncData}{N ps:List Str}{k:Nat}{sp:Sp}(F:nG K x qual st f fd)(S:bp N ps (aA st))(len:∀vs H Q E,sp vs H Q E->vs.length=ps.length)
  (nZ:∀(dh:Value) (A:Around) (outer:List Env) (s:Shared) (H:Hp) (vs:List V) (Q:VK) (E:XK),jV k (A.deeper (envOfC qual (aA st) s.heap.objs.size f dh))->sp vs H Q E->
   HC (lE mE P w K mg base N qual (aA st) f dh A outer s H E).Uj N (aA st)->(∀x,(lE mE P w K mg base N qual (aA st) f dh A outer s H E).Uj.fn x=true)->
   ∃t,MN (lE mE P w K mg base N qual (aA st) f dh A outer s H E).Uj (bj st) t/\t { nx:=λ_ H'=>Q .non H',rt:=Q } (start N vs) H):dI P w K mg base mE (k+1) f fd ps sp:=
 F.okK S len λdh A outer s H vs Q E hr h hc hf=>let ⟨t,h1,h2⟩:=nZ dh A outer s H vs Q E hr h hc hf;⟨t,.of h1.to,h2⟩
def JV(w:World):Bool:=w.params.followText "set-order"
theorem VJ(t:SetTable)(es:Array (Int×Value))(h:Int)(x:Value):(layNew t es h x).2.1.led=t.led:=by
 unfold layNew
 split
 ·dsimp only;unfold SetTable.orStandIn
  split <;> rfl
 ·rfl
theorem PN(t:SetTable)(es:Array (Int×Value))(h:Int)(x:Value)(e:t.plain=false):(layNew t es h x).2.1.plain=false:=by
 unfold layNew
 split
 ·dsimp only;unfold SetTable.orStandIn
  split
  ·exact e
  ·rfl
 ·rfl
theorem Ib{mask finger moves:Nat}{led plain:Bool}{hs:Array Int}{t':SetTable}{o:Array Nat}(h:SetTable.laid mask finger moves led plain hs=some (t',o)):t'.led=led/\t'.plain=plain:=by
 unfold SetTable.laid at h
 cases q:SetTable.layClean mask hs with
 | none=>rw[q]at h;cases h
 | some owner=>rw[q]at h;cases h;exact⟨rfl,rfl⟩
theorem Pm(t:SetTable)(es:Array (Int×Value))(k:Nat):(relayAll t es k).2.1.led=t.led:=by
 unfold relayAll
 split
 ·rename_i t' o q
  dsimp only
  split
  ·exact(Ib q).1
  ·rfl
 ·rfl
theorem Hi(t:SetTable)(es:Array (Int×Value))(k:Nat)(e:t.plain=false):(relayAll t es k).2.1.plain=false:=by
 unfold relayAll
 split
 ·rename_i t' o q
  dsimp only
  split
  ·show t'.plain=false
   rw[(Ib q).2];exact e
  ·rfl
 ·rfl
def Ak(w:World)(p:Str×Tok):Int×Value:=(hashStr w p.1,.str p.1 p.2)
def mr(es:Array (Int×Value))(ep:Nat)(t:SetTable):Obj:={ cls:=.type "set",dict:=none,data:=.set es ep t }
structure p8(w:World)(h:Heap)(a:Addr)(l:List (Str×Tok)):Prop where
 ex:∃es ep t,h.get? a=some (mr es ep t)/\es.toList=l.map (Ak w)/\t.fits es.size=true/\t.led = !JV w/\(l≠[]->t.plain=false)
 nd:(l.map (·.1)).Nodup
 sz:l.length<scanBound
theorem p8.at{w:World}{h h':Heap}{a:Addr}{l:List (Str×Tok)}(x:p8 w h a l)(k:∀o,h.get? a=some o->h'.get? a=some o):p8 w h' a l:=
 ⟨let ⟨es,ep,t,e,r⟩:=x.ex;⟨es,ep,t,k _ e,r⟩,x.nd,x.sz⟩
section
variable {P:Program}{w:World}{A:Around}{E:Value->Shared->Prop}{s:Shared}{a:Addr}{l:List (Str×Tok)}
theorem TB(l:List (Str×Tok)):ElemsOf (PySem.strKind P w) (l.map (Ak w)):=by
 intro e he
 obtain⟨p,_,rfl⟩:=nQ.mp he
 exact⟨⟨p.1,strKind_is P w _ _,rfl⟩,rfl⟩
theorem Tw(x:Str):∀l:List (Str×Tok),(∀j,(l.map (Ak w)).findIdx? (λe=>(PySem.strKind P w).is x e.2)=some j->x∈l.map (·.1))/\((l.map (Ak w)).findIdx? (λe=>(PySem.strKind P w).is x e.2)=none->x∉l.map (·.1)):=by
 intro l
 refine⟨λj h=>?_,λh hm=>?_⟩
 ·obtain⟨hj,hp,_⟩:=List.findIdx?_eq_some_iff_getElem.mp h
  rw[List.getElem_map]at hp
  rw[di]at hj
  have:(l[j]).1=x:=(PySem.strKind P w).inj _ _ _ (strKind_is P w _ _) hp
  exact nQ.mpr ⟨l[j],xH hj,this⟩
 ·obtain⟨p,hp,rfl⟩:=nQ.mp hm
  have:=List.findIdx?_eq_none_iff.mp h (Ak w p) (List.mem_map_of_mem hp)
  rw[show(PySem.strKind P w).is p.1 (Ak w p).2=true from strKind_is P w _ _]at this
  cases this
theorem Hq{es':List (Int×Value)}{l:List (Str×Tok)}(p:es'.Perm (l.map (Ak w))):∃l':List (Str×Tok),es'=l'.map (Ak w)/\l'.Perm l:=by
 let back:Int×Value->Str×Tok:=λe=>match e.2 with | .str x t=>(x,t) | _=>(default,0)
 have hb:∀q:Str×Tok,back (Ak w q)=q:=λq=>rfl
 refine⟨es'.map back,?_,?_⟩
 ·rw[u5]
  conv=>lhs;rw[<-DR es']
  refine Kr λe he=>?_
  obtain⟨q,_,rfl⟩:=nQ.mp (p.mem_iff.mp he)
  rfl
 ·have:=p.map back
  rw[u5,show(back ∘ Ak w)=id from funext hb,DR]at this
  exact this
theorem Wl{x:Str}{tk:Tok}{Q:Bool->Shared->Prop}(S:p8 w s.heap a l)(room:l.length+1<scanBound)
  (q:∀h' l' b,Heap.SameBut a s.heap h'->p8 w h' a l'->(∀z,z∈l'.map (·.1)↔z∈l.map (·.1)\/z=x)->l'.length<=l.length+1->Q b { s with heap:=h' }) :
  wpAny (model P w) A (setAddHashed a (.str x tk) (hashStr w x)) Q E s:=by
 obtain⟨⟨es,ep,t,ho,WY,hf,Tq,sU⟩,nd,sz⟩:=S
 have xf:es.size=l.length:=by rw[<-pX,WY,di]
 have hE:ElemsOf (PySem.strKind P w) es.toList:=by rw[WY];exact TB l
 have hk:(PySem.strKind P w).is x (.str x tk)=true:=strKind_is P w _ _
 have hd:(mr es ep t).data=.set es ep t:=rfl
 unfold setAddHashed setAddHashedIn
 refine lR (aL (Ax ho hd hf ?_))
 dsimp only
 rw[byScan_of (knd:=PySem.strKind P w) rfl (by rw[xf];exact sz) hE]
 simp only[↓reduceIte]
 unfold setAddByScan
 refine aL (aL (wpAny_rule (aL (wpAny_setScan_of (knd:=PySem.strKind P w) hk ho hd hf hE ?_))))
 have hfi:=Tw (P:=P) (w:=w) x l
 rw[<-WY]at hfi
 cases hr:List.findIdx? (λe=>(PySem.strKind P w).is x e.2) es.toList with
 | some j=>
  dsimp only
  have hm:=hfi.1 j hr
  refine bx (bx ?_)
  have e:s={ s with heap:=s.heap }:=by cases s;rfl
  rw[e]
  exact q s.heap l false (Heap.SameBut.refl a s.heap) ⟨⟨es,ep,t,ho,WY,hf,Tq,sU⟩,nd,sz⟩ (λz=>⟨.inl,λh=>h.elim id λe=>e ▸ hm⟩) (nP _)
 | none=>
  have hm:=hfi.2 hr
  dsimp only
  have pp:=layNew_perm t es (hashStr w x) (.str x tk)
  have pf:=layNew_fits t es (hashStr w x) (.str x tk)
  have pl:=VJ t es (hashStr w x) (.str x tk)
  have pq:=PN t es (hashStr w x) (.str x tk)
  generalize hL:layNew t es (hashStr w x) (.str x tk)=L at pp pf pl pq ⊢
  obtain⟨t6,t1,aBK,gave⟩:=L
  dsimp only at pp pf pl pq ⊢
  rw[Array.toList_push,WY]at pp
  obtain⟨l1,e1,p1⟩:=Hq (l:=l++[(x,tk)]) (w:=w) (es':=t6.toList) (by rw[p9];exact pp)
  have aAK:l1.length=l.length+1:=by rw[p1.length_eq,lS];rfl
  have nd1:(l1.map (·.1)).Nodup:=by
   rw[(p1.map (·.1)).nodup_iff,p9,List.nodup_append]
   refine⟨nd,by simp,λu hu v hv=>?_⟩
   rw[mK,DW,kM]at hv
   rintro rfl
   rw[hv]at hu
   exact hm hu
  have aAF:∀z,z∈l1.map (·.1)↔z∈l.map (·.1)\/z=x:=λz=>by
   rw[(p1.map (·.1)).mem_iff,p9,nR];simp
  have aDn:t6.size=l.length+1:=by rw[<-pX,e1,di,aAK]
  have gw:∀(b:Bool) {s₁:Shared} {Q':Unit->Shared->Prop},Q' () s₁->wpAny (model P w) A (match b with | true=>rule "set.scan.the-table-gave-way" | false=>pure ()) Q' E s₁:=
   λb s₁ Q' hq=>by cases b <;> first | exact bx hq | exact wpAny_rule hq
  refine aL (gw _ ?_)
  have fin:∀t2:SetTable,t2.fits t6.size=true->t2.led=t.led->t2.plain=false->
    wpAny (model P w) A (do
     storeSet a t6 t2
     if (!aBK&&t2.tooFull)=true then do
      (match (relayAll t2 t6 (SetTable.grown t6.size)).2.2 with | true=>rule "set.scan.the-table-gave-way" | false=>pure ())
      storeSet a (relayAll t2 t6 (SetTable.grown t6.size)).1 (relayAll t2 t6 (SetTable.grown t6.size)).2.1
      pure (some true)
     else pure (some true)) (λr s'=>∃b,r=some b/\Q b s') E s:=by
   intro t2 f2 l2 p2
   refine aL (wpAny_storeSet_of ho hd ?_ (by rw[aDn];exact Ed room))
   have g1:(s.heap.update a (Obj.putSet t6 t2)).get? a=some (mr t6 (ep+1) t2):=by
    have:=qc (Obj.putSet t6 t2) ho (by rw[putSet_of t6 t2 hd];rfl)
    rw[putSet_of t6 t2 hd]at this;exact this
   have sb:=Heap.SameBut.update s.heap a (Obj.putSet t6 t2)
   split
   ·have rp:=relayAll_perm t2 t6 (SetTable.grown t6.size)
    have rf:=relayAll_fits t2 t6 (SetTable.grown t6.size)
    have rl:=Pm t2 t6 (SetTable.grown t6.size)
    have rq:=Hi t2 t6 (SetTable.grown t6.size) p2
    generalize hR:relayAll t2 t6 (SetTable.grown t6.size)=R at rp rf rl rq ⊢
    obtain⟨Zj,t3,aEi⟩:=R
    dsimp only at rp rf rl rq ⊢
    rw[e1]at rp
    obtain⟨l2',e2,p2'⟩:=Hq rp
    have aAJ:l2'.length=l.length+1:=by rw[p2'.length_eq,aAK]
    have aDm:Zj.size=l.length+1:=by rw[<-pX,e2,di,aAJ]
    refine aL (gw _ ?_)
    refine aL (wpAny_storeSet_of g1 rfl ?_ (by rw[aDm];exact Ed room))
    have g2:((s.heap.update a (Obj.putSet t6 t2)).update a (Obj.putSet Zj t3)).get? a=some (mr Zj (ep+1+1) t3):=by
     have:=qc (Obj.putSet Zj t3) g1 (by rw[putSet_of Zj t3 (show(mr t6 (ep+1) t2).data=_ from rfl)];rfl)
     rw[putSet_of Zj t3 (show(mr t6 (ep+1) t2).data=_ from rfl)]at this;exact this
    refine bx ⟨true,rfl,q _ l2' true (sb.trans (Heap.SameBut.update _ a _)) ⟨⟨Zj,_,t3,g2,e2,rf,by rw[rl,l2,Tq],λ_=>rq⟩,by rw[(p2'.map (·.1)).nodup_iff];exact nd1,by lia⟩ (λz=>by rw[(p2'.map (·.1)).mem_iff];exact aAF z) (by lia)⟩
   ·exact bx ⟨true,rfl,q _ l1 true sb ⟨⟨t6,_,t2,g1,e1,f2,by rw[l2,Tq],λ_=>p2⟩,nd1,by lia⟩ aAF (by lia)⟩
  split
  ·rename_i Y6
   refine aL ?_
   rw[hashByValue_scannable 8 (show(Value.str x tk).scannable=true from rfl)]
   refine bx ?_
   rw[show(if plainKind (Value.str x tk)=true then t1 else { t1 with plain:=false })={ t1 with plain:=false } from rfl]
   refine iX (fin { t1 with plain:=false } (SetTable.fits_plain_off pf) pl rfl) (λr s' h=>?_) λ_ _ h=>h
   obtain⟨b,rfl,hq⟩:=h
   exact bx hq
  ·rename_i Y6
   refine aL (bx ?_)
   simp only[↓reduceIte]
   refine iX (fin t1 pf pl (by simpa using Y6)) (λr s' h=>?_) λ_ _ h=>h
   obtain⟨b,rfl,hq⟩:=h
   exact bx hq
end
section
variable {P:Program}{w:World}{A:Around}{R:Result->Shared->Prop}{I:Addr}{fp wr:List Addr}{G:Array GenState->Array GenState->Prop}{n:Nat}{Pv:Nat->Value->Prop}{St:Nat->Shared->Prop}
theorem Td(W:WalksS P w A.in1 I fp wr G n Pv St)(S:Addr)(hSf:S∉fp)(val:Nat->Str)(hval:∀i v,Pv i v->∃t,v=.str (val i) t)(hb:n+1<scanBound) :
  ∀(k i:Nat) (s:Shared) (l:List (Str×Tok)),n-i=k->i<=n->St i s->p8 w s.heap S l->l.length<=i->(∀z,z∈l.map (·.1)↔∃j,j<i/\val j=z)->
   (∀s' l',Moved (S::wr) G s s'->p8 w s'.heap S l'->(∀z,z∈l'.map (·.1)↔∃j,j<n/\val j=z)->R (.ok (.ret .none)) s')->
   codeAny (model P w) A (.builtin "set.update.loop" ⟨[.ref S,.ref I],[]⟩) R s:=by
 have nw:S∉wr:=λz=>hSf (W.sub _ z)
 have up:∀b∈wr,b∈S::wr:=λb z=>kP _ z
 intro k
 induction k with
 | zero=>
  intro i s l hk hi st hS hl hm r
  obtain rfl:i=n:=by lia
  refine Ar F.entry_set_update_loop ?_
  rw[Gx Kk _]
  refine aL (m:=pyNext (.ref I)) (W.done s _ _ st λs' mv=>?_)
  refine bx (r s' l (mv.mono up) (hS.at λo e=>mv.heap S o nw e) hm)
 | succ k ih=>
  intro i s l hk hi st hS hl hm r
  have lt:i<n:=by lia
  refine Ar F.entry_set_update_loop ?_
  rw[Gx Kk _]
  refine aL (m:=pyNext (.ref I)) (W.item i s _ _ lt st λv s' pv Kb mv=>?_)
  obtain⟨t,rfl⟩:=hval i v pv
  have hS':=hS.at (h':=s'.heap) λo e=>mv.heap S o nw e
  refine aL (m:=holding [Value.str (val i) t] (setAdd S (.str (val i) t))) (lR ?_)
  unfold setAdd
  refine lR (aL ((PySem.strKind P w).pyHash (k:=val i) (strKind_is _ _ _ _) ?_))
  refine Wl (s:={ s' with toks:=s'.toks+1 }) hS' (by lia) λh' l' b sb S2 m2 aAJ=>?_
  refine bx ⟨DS Kk _,ih (i+1) _ l' (by lia) lt (W.frame _ s' _ _ Kb (nP _) λc hc o e=>?_) S2 (by lia) (λz=>?_) λs2 l2 mv2 S3 m3=>?_⟩
  ·rw[sb.2 c (λq:c=S=>hSf (by rw[<-q];exact hc))];exact e
  ·rw[m2 z,hm z]
   constructor
   ·rintro(⟨j,hj,e⟩ | e)
    ·exact⟨j,by lia,e⟩
    ·exact⟨i,by lia,e.symm⟩
   ·rintro⟨j,hj,e⟩
    by_cases q:j=i
    ·subst q;exact .inr e.symm
    ·exact .inl ⟨j,by lia,e⟩
  ·refine r s2 l2 (Moved.trans W.gtrans ((mv.mono up).then_heap (nP _) λc o hc e=>?_) mv2) S3 m3
   rw[sb.2 c (λq:c=S=>hc (by rw[q];exact gP))];exact e
end
theorem Nr:∀{vs:List Value} {ss:List Str},StrsAre vs ss->∀(i:Nat) (v:Value),vs[i]?=some v->∃t,v=.str (ss.getD i "") t
 | _,_,.nil,i,v,h=>by cases i <;> cases h
 | _,_,.cons y t r,0,v,h=>by cases h;exact⟨t,rfl⟩
 | _,_,.cons y t r,i+1,v,h=>by
  obtain⟨u,e⟩:=Nr r i v (by simpa using h)
  exact⟨u,by rw[e];rfl⟩
section
variable {P:Program}{w:World}{A:Around}{E:Value->Shared->Prop}{s:Shared}
theorem U8{x:Value}{Q:Value->Shared->Prop}(h:Q (.ref s.heap.objs.size) { s with heap:=s.heap.push (mr #[] 0 (.fresh 0 0 (!JV w))) }) :
  codeAny (model P w) A (.call (.builtin "set.__new__") ⟨[.type "set",x],[]⟩) (wants Q E) s:=by
 refine DY ?_
 refine aL (m:=checkBuiltinCall "set.__new__" ⟨[.type "set",x],[]⟩) (xu (PySem.F.newCall_set_1 x) (bx ⟨DS PySem.F.plain_set_new _,Ar PySem.F.entry_set_new ?_⟩))
 rw[Gx PySem.F.plain_set_new _]
 unfold Builtin.«set.__new__» Builtin.Frozenset.newClass
 have aDo:=sub_set_self
 obtain⟨hp,g,d,tk,os⟩:=s
 dsimp only
 wp_walk
 refine wpAny_askSetting (bx ?_)
 dsimp only
 simp only[newObj]
 refine aL (wpAny_alloc (bx (bx h)))
theorem RM{l:Addr}{items:Array Value}{ss:List Str}{Q:Value->Shared->Prop}(hh:A.handled=none)(hl:s.heap.IsList l items)(hi:StrsAre items.toList ss)(hb:items.size+1<scanBound)
  (h:∀(h':Heap) (tk:Nat) (ls:List (Str×Tok)),p8 w h' s.heap.objs.size ls->(∀z,z∈ls.map (·.1)↔z∈ss)->(∀b o,b<s.heap.objs.size->s.heap.get? b=some o->h'.get? b=some o)->Q (.ref s.heap.objs.size) { s with heap:=h',toks:=tk }) :
  wpAny (model P w) A (call (.type "set") [.ref l]) Q E s:=by
 have e:∀z:Str,(∃j,j<items.size/\ss.getD j "" = z)↔z∈ss:=λz=>by
  have hlen:items.size=ss.length:=by rw[<-pX];exact hi.length
  rw[hlen,List.mem_iff_getElem]
  constructor
  ·rintro⟨j,hj,e⟩;exact⟨j,hj,by rw[<-e];simp[hj]⟩
  ·rintro⟨j,hj,e⟩;exact⟨j,hj,by rw[<-e];simp[hj]⟩
 obtain⟨c,tl,aEo⟩:=vG.mro
 have aEh:=vG.made
 have aDo:=vG.sub
 refine pV (DY (bx (a:=_) ⟨Gq _ (by decide +kernel),Ar PySem.F.entry_type_call ?_⟩))
 rw[Around.under_plain (weight_type_call_type "set" [.ref l] []) rfl]
 have h1:=vG.notType
 have h2:=vG.canCreate
 have hct:=PySem.F.typeCall_set_1 (.ref l)
 repeat (any_goals (first | assumption | wp_step))
 refine vD (U8 (x:=.ref l) (E:=E) (Q:=λobj s₁=>obj=.ref s.heap.objs.size/\s₁={ s with heap:=s.heap.push (mr #[] 0 (.fresh 0 0 (!JV w))) }) ⟨rfl,rfl⟩) λr s₁ hr=>?_
 cases r with
 | error e=>exact hr
 | ok fl=>
  cases fl with
  | ret obj=>
   obtain⟨rfl,rfl⟩:=hr
   have hS:(s.heap.push (mr #[] 0 (.fresh 0 0 (!JV w)))).get? s.heap.objs.size=some (mr #[] 0 (.fresh 0 0 (!JV w))):=kz _ rfl
   have hT:Shared.TypeIs { s with heap:=s.heap.push (mr #[] 0 (.fresh 0 0 (!JV w))) } (.ref s.heap.objs.size) "set":=⟨_,hS,rfl⟩
   have hli:=vG.init.lookup
   have hbi:=vG.init.bind (.ref s.heap.objs.size)
   repeat (any_goals (first | assumption | wp_step))
   refine vD (Bc (R:=wants (λr s₂=>r=.none/\∃h' tk ls,s₂={ s with heap:=h',toks:=tk }/\p8 w h' s.heap.objs.size ls/\(∀z,z∈ls.map (·.1)↔z∈ss)/\
     (∀b o,b<s.heap.objs.size->s.heap.get? b=some o->h'.get? b=some o)) E) vG.init.plain PySem.F.entry_set_init (check_set_init_1 hT ?_)) λr₂ s₂ hr₂=>?_
   ·obtain⟨ol,hol,Ob,nl,hdl⟩:=hl
    obtain⟨aEk,aAC,aEc,Yr⟩:=ol
    simp only at Ob hdl
    subst Ob;subst hdl
    have aDq:(s.heap.push (mr #[] 0 (.fresh 0 0 (!JV w)))).get? l=some { cls:=.type "list",dict:=aAC,data:=.seq items nl,slots:=Yr }:=dZ _ hol
    have aEm:=PySem.F.sub_list_set
    have aEn:=PySem.F.sub_list_frozenset
    have pE:(Value.type "list" == Value.type "dict")=false:=by decide
    have hl1:(s.heap.push (mr #[] 0 (.fresh 0 0 (!JV w)))).IsList l items:=⟨_,aDq,rfl,nl,rfl⟩
    unfold Builtin.«set.__init__» noKeywords Builtin.Frozenset.updateFrom
    unfold mr at *
    generalize hPI:pyIter=PI
    wp_walk
    subst hPI
    refine wpAny_pyIter_list hl1 (aL (wpAny_runValue ?_))
    have hlS:l<s.heap.objs.size:=cp hol
    have hh3:A.in1.in1.in1.handled=none:=by simp[hh]
    have xf:(s.heap.push (mr #[] 0 (.fresh 0 0 (!JV w)))).objs.size=s.heap.objs.size+1:=va _ _
    have aDt:l≠(s.heap.push (mr #[] 0 (.fresh 0 0 (!JV w)))).objs.size:=by rw[xf];exact dm (Ba hlS)
    have hSf:s.heap.objs.size∉[(s.heap.push (mr #[] 0 (.fresh 0 0 (!JV w)))).objs.size,l]:=by
     rw[xf];simp only[gN,kM,xI,or_false,not_or];exact⟨dm (Kh _),xh hlS⟩
    refine Td ((Walks.list hh3 _ l aDt items).toS) s.heap.objs.size hSf (λj=>ss.getD j "") (λi v hv=>?hv) hb (items.size-0) 0 _ [] (by lia) (lQ _)
     ⟨⟨_,kz _ rfl,rfl,rfl⟩,(hl1.push _)⟩ ?hS0 (lQ _) (λz=>⟨(λz=>nomatch z),λ⟨_,hj,_⟩=>absurd hj (Nat.not_lt_zero _)⟩) ?hR
    case hv=>exact Nr hi i v (by rw[Gz];exact hv)
    case hS0=>exact⟨⟨#[],0,_,dZ _ hS,rfl,rfl,rfl,λz=>absurd rfl z⟩,List.nodup_nil,by decide⟩
    case hR=>
     intro s' l' hm hS' mem
     obtain⟨h',g',d',tk',os'⟩:=s'
     have eg:g'=s.gens:=hm.gens
     have ed:d'=s.drawn:=hm.drawn
     have eo:os'=s.os:=hm.os
     subst eg;subst ed;subst eo
     refine bx (bx ⟨rfl,h',tk',l',rfl,hS',λz=>(mem z).trans (e z),λb o hb e=>?_⟩)
     refine hm.heap b o ?_ (dZ _ (dZ _ e))
     rw[xf]
     simp only[gN,kM,xI,or_false,not_or];exact⟨dm hb,dm (Ba hb)⟩
   ·cases r₂ with
    | error e=>exact hr₂
    | ok fl₂=>
     cases fl₂ with
     | ret r=>
      obtain⟨rfl,h',tk,ls,rfl,hS',hm',V2⟩:=hr₂
      repeat (any_goals (first | assumption | wp_step))
      exact h _ _ _ hS' hm' V2
     | _=>exact hr₂.elim
  | _=>exact hr.elim
end
theorem jd:Slot "set_iterator" "__next__" "set_iterator.__next__":=
 .of (owner:="set_iterator") (n:="__next__") (by rw[typeLookup_type,builtinLookup_eq_fast];kernel_rfl) (by decide +kernel) (by decide +kernel) (by decide +kernel)
  (.inl (by decide +kernel)) (by rw[isSubtype_type];kernel_rfl)
theorem ur:Slot "set_iterator" "__iter__" "set_iterator.__iter__":=
 .of (owner:="set_iterator") (n:="__iter__") (by rw[typeLookup_type,builtinLookup_eq_fast];kernel_rfl) (by decide +kernel) (by decide +kernel) (by decide +kernel)
  (.inl (by decide +kernel)) (by rw[isSubtype_type];kernel_rfl)
theorem sJ:entryFor table "set_iterator.__next__" = some Builtin.«set_iterator.__next__»:=entryFor_of_tree (by kernel_rfl)
theorem z9:entryFor table "set_iterator.__iter__" = some Builtin.«dict_keyiterator.__iter__»:=
 entryFor_alias (id':="dict_keyiterator.__iter__") (by kernel_rfl) rfl (by decide +kernel) (by kernel_rfl)
theorem Aa:entryFor table "set.__iter__" = some Builtin.«frozenset.__iter__»:=
 entryFor_alias (id':="frozenset.__iter__") (by kernel_rfl) rfl (by decide +kernel) (by kernel_rfl)
theorem Hf:Manifest.owners.lookup (String.ofList "rotareti_tes".toList.reverse)=some Manifest.sig_set_iterator:=by kernel_rfl
theorem uv(a:Value):argsOk "set_iterator.__next__" ⟨[a],[]⟩:=by
 unfold argsOk;rw[signature?_of (id:="set_iterator.__next__") (n:="__txen__".toList) (o:="rotareti_tes".toList) (by kernel_rfl) Hf];kernel_rfl
theorem Ez(a:Value):argsOk "set_iterator.__iter__" ⟨[a],[]⟩:=by
 unfold argsOk;rw[signature?_of (id:="set_iterator.__iter__") (n:="__reti__".toList) (o:="rotareti_tes".toList) (by kernel_rfl) Hf];kernel_rfl
def sL(first:Value)(i n ep:Nat)(a:Addr):Obj:={ cls:=.type "set_iterator",data:=.fields #[first,.int i 0,.ref a,.int n 0,.int ep 0] }
section
variable {P:Program}{w:World}{A:Around}{E:Value->Shared->Prop}{s:Shared}{a I:Addr}{es:Array (Int×Value)}{t:SetTable}{ep i n:Nat}{first:Value}
theorem uq(hI:s.heap.get? I=some (sL first i n ep a)):s.TypeIs (.ref I) "set_iterator":=⟨_,hI,rfl⟩
theorem Nu{Q:Value->Shared->Prop}(hI:s.heap.get? I=some (sL first i n ep a))(q:Q (.ref I) s):wpAny (model P w) A (pyIter (.ref I)) Q E s:=by
 refine wpAny_pyIter_slot (uq hI) ur (Au ur (uq hI) z9 ?_ (Ez _))
 exact bx ⟨_,rfl,"set_iterator",_,uq hI,jd.lookup,q⟩
theorem RL{slot:Nat}{tk:Tok}{r:Option (Value×Nat)}{Q:Option Value->Shared->Prop}(hh:A.handled=none)(hI:s.heap.get? I=some (sL (.int slot tk) i n ep a))(hS:s.heap.get? a=some (mr es ep t))(hf:t.fits es.size=true)(hn:es.size=n)
  (hx:∀(B:Around) (E':Value->Shared->Prop) (Q':Option (Value×Nat)->Shared->Prop),Q' r s->wpAny (model P w) B (setNext a slot i ep) Q' E' s)
  (q:match r with
   | some (x,nx)=>∀h',h'.get? I=some (sL (.int (nx:Int) 0) (i+1) n ep a)->Heap.SameBut I s.heap h'->Q (some x) { s with heap:=h' }
   | none=>∀h',Heap.ExtBut I s.heap h'->Q none { s with heap:=h' }):wpAny (model P w) A (pyNext (.ref I)) Q E s:=by
 have hT:=uq hI
 unfold pyNext
 refine aL (xB (Kw (name:=Str.ofString "__next__") hT jd (Au jd hT sJ ?_ (uv _))))
 unfold Builtin.«set_iterator.__next__»
 refine aL (m:=slotArgs _ _ _) (bx ?_)
 refine aL (wpAny_fieldsOf hI rfl ?_)
 refine aL (m:=setEntries a) (Kj hS rfl hf ?_)
 rw[aR (by rw[hn];simp)]
 refine aL (m:=setNext a slot i ep) (hx _ _ _ ?_)
 cases r with
 | some p=>
  obtain⟨x,nx⟩:=p
  dsimp only at q ⊢
  refine aL (m:=setField (.ref I) 0 (rawInt nx)) (Az hI (by simp) λh1 e1 sb1=>?_)
  refine aL (m:=setField (.ref I) 1 (rawInt (i+1))) (Az e1 (by simp) λh2 e2 sb2=>?_)
  exact bx ⟨x,rfl,bx (q h2 (by rw[e2];rfl) (sb1.trans sb2))⟩
 | none=>
  dsimp only at q ⊢
  refine aL (m:=setField (.ref I) 2 .none) (Az hI (by simp) λh1 e1 sb1=>?_)
  refine aL (m:=newExc (.type "StopIteration") []) ?_
  simp only[newExc,newTuple]
  refine aL (pW ?_ (by size_fits))
  refine aL (m:=firstArgMember _ _) (xu (a:=Value.none) (by first | rfl | (simp only[firstArgMember];rfl)) ?_)
  refine pW (Ki hh ?_) (by size_fits)
  refine aL (wpAny_isInstance (T:="StopIteration") (b:=true) ⟨_,kz _ rfl,rfl⟩ isSubtype_stop ?_)
  exact bx (q _ ((sb1.extBut.push _).push _))
theorem RK{p:Addr}{vs:Array Value}{c:Nat}{r:Option Value}{Q:Option Value->Shared->Prop}(hh:A.handled=none)(hI:s.heap.get? I=some (sL (.ref p) i n ep a))(hS:s.heap.get? a=some (mr es ep t))(hf:t.fits es.size=true)(hn:es.size=n)
  (hp:s.heap.get? p=some { cls:=.type "tuple",data:=.seq vs c })
  (hv:match r with | some x=>∃(k:Nat) (z:Int),vs[i]?=some (.int k 0)/\es[k]?=some (z,x) | none=>vs[i]?=none)
  (q:match r with
   | some x=>∀h',h'.get? I=some (sL (.ref p) (i+1) n ep a)->Heap.SameBut I s.heap h'->Q (some x) { s with heap:=h' }
   | none=>∀h',Heap.ExtBut I s.heap h'->Q none { s with heap:=h' }):wpAny (model P w) A (pyNext (.ref I)) Q E s:=by
 have hT:=uq hI
 unfold pyNext
 refine aL (xB (Kw (name:=Str.ofString "__next__") hT jd (Au jd hT sJ ?_ (uv _))))
 unfold Builtin.«set_iterator.__next__»
 refine aL (m:=slotArgs _ _ _) (bx ?_)
 refine aL (wpAny_fieldsOf hI rfl ?_)
 refine aL (m:=setEntries a) (Kj hS rfl hf ?_)
 rw[aR (by rw[hn];simp)]
 refine aL (m:=seqItems? (.ref p)) (wpAny_seqItems hp rfl ?_)
 cases r with
 | some x=>
  obtain⟨k,z,e1,e2⟩:=hv
  dsimp only at q ⊢
  simp only[Int.toNat_natCast,e1]
  refine aL (m:=setNextDrawn a k ep) ?_
  unfold setNextDrawn
  refine aL (Ax hS rfl hf ?_)
  dsimp only
  rw[aR (by simp)]
  simp only[e2]
  refine bx ?_
  refine aL (m:=setField (.ref I) 1 (rawInt (i+1))) (Az hI (by simp) λh2 e2 sb2=>?_)
  exact bx ⟨x,rfl,bx (q h2 (by rw[e2];rfl) sb2)⟩
 | none=>
  dsimp only at q hv ⊢
  simp only[Int.toNat_natCast,hv]
  refine aL (m:=setField (.ref I) 0 (rawInt 0)) (Az hI (by simp) λh0 e0 sb0=>?_)
  refine aL (m:=setField (.ref I) 2 .none) (Az e0 (by simp) λh1 e1 sb1=>?_)
  refine aL (m:=newExc (.type "StopIteration") []) ?_
  simp only[newExc,newTuple]
  refine aL (pW ?_ (by size_fits))
  refine aL (m:=firstArgMember _ _) (xu (a:=Value.none) (by first | rfl | (simp only[firstArgMember];rfl)) ?_)
  refine pW (Ki hh ?_) (by size_fits)
  refine aL (wpAny_isInstance (T:="StopIteration") (b:=true) ⟨_,kz _ rfl,rfl⟩ isSubtype_stop ?_)
  exact bx (q _ (((sb0.trans sb1).extBut.push _).push _))
end
theorem tD{α:Type}:∀(l:List α) (i:Nat) (x:α),l[i]?=some x->(x::l.eraseIdx i).Perm l
 | [],i,x,h=>by cases i <;> cases h
 | y::l,0,x,h=>by cases h;exact List.Perm.refl _
 | y::l,i+1,x,h=>by
  rw[List.getElem?_cons_succ]at h
  rw[List.eraseIdx_cons_succ]
  exact(List.Perm.swap y x _).trans ((tD l i x h).cons y)
theorem NQ{α:Type}(next:Nat->Nat):∀(f k:Nat) (l:List α) (out:Array α),l.length=f->(pickOrder.go next f k l out).toList.Perm (out.toList++l)
 | 0,k,l,out,h=>by
  rw[List.length_eq_zero_iff.mp h,vE]
  unfold pickOrder.go
  exact List.Perm.refl _
 | f+1,k,l,out,h=>by
  unfold pickOrder.go
  have lt:next k%l.length<l.length:=Nat.mod_lt _ (by lia)
  have e:l[next k%l.length]?=some l[next k%l.length]:=nM lt
  rw[e]
  dsimp only
  refine(NQ next f (k+1) _ _ (by rw[List.length_eraseIdx_of_lt lt];lia)).trans ?_
  rw[Array.toList_push,List.append_assoc]
  exact(tD l _ _ e).append_left _
theorem Ce{α:Type}(next:Nat->Nat)(xs:Array α):(pickOrder next xs).toList.Perm xs.toList:=by
 unfold pickOrder
 have:=NQ next xs.size 0 xs.toList #[] pX
 simpa using this
section
variable {P:Program}{w:World}{A:Around}{E:Value->Shared->Prop}
theorem Di{α:Type}:∀(n:Nat) (xs:List α) (s:Shared) (Q:List α->Shared->Prop),xs.length=n->(∀ys d,ys.Perm xs->Q ys { s with drawn:=d })->wpAny (model P w) A (drawOrder n xs) Q E s
 | 0,xs,s,Q,h,q=>by
  have:xs=[]:=List.length_eq_zero_iff.mp h
  subst this
  unfold drawOrder
  exact bx (by cases s;exact q [] _ (List.Perm.refl _))
 | n+1,[],s,Q,h,q=>by cases h
 | n+1,x::xs,s,Q,h,q=>by
  unfold drawOrder
  have lt:w.draws .order (s.drawn.get .order)%(x::xs).length<(x::xs).length:=Nat.mod_lt _ (by simp)
  refine aL (m:=choose .order (x::xs).length) (λΓ p hΓ=>?_)
  refine⟨by simp,?_⟩
  have e:(x::xs)[w.draws .order (s.drawn.get .order)%(x::xs).length]?=some (x::xs)[w.draws .order (s.drawn.get .order)%(x::xs).length]:=nM lt
  show wpAny (model P w) A (match (x::xs)[w.draws .order (s.drawn.get .order)%(x::xs).length]? with
   | some y=>do let r <-drawOrder n ((x::xs).eraseIdx (w.draws .order (s.drawn.get .order)%(x::xs).length));pure (y::r)
   | none=>unsupported "internal:drawOrder") Q E { s with drawn:=s.drawn.bump .order }
  rw[e]
  dsimp only
  refine aL (Di n _ _ _ (by rw[List.length_eraseIdx_of_lt lt];simp at h ⊢;lia) λys d hp=>bx ?_)
  exact q _ d ((hp.cons _).trans (tD _ _ _ e))
variable {s:Shared}{a:Addr}{es:Array (Int×Value)}{t:SetTable}{ep slot i:Nat}
theorem pK{Q:Bool->Shared->Prop}(q:Q (JV w) s):wpAny (model P w) A setsByText Q E s:=by
 unfold setsByText
 exact aL (wpAny_askSetting (bx q))
theorem Hz{Q:Option (Value×Nat)->Shared->Prop}(hb:JV w=true)(hS:s.heap.get? a=some (mr es ep t))(hf:t.fits es.size=true)(q:Q (((pickOrder (w.params.setOrder a ep) es)[i]?).map λe=>(e.2,slot)) s) :
  wpAny (model P w) A (setNext a slot i ep) Q E s:=by
 unfold setNext
 refine aL (Ax hS rfl hf (aL (pK ?_)))
 rw[hb]
 dsimp only
 rw[bH rfl,aR (by simp)]
 refine aL ?_
 unfold setWalk
 refine aL (Ax hS rfl hf (aL (pK ?_)))
 rw[hb,bH rfl]
 exact aL (wpAny_askSetting (bx (bx q)))
theorem S7{Q:Option (Value×Nat)->Shared->Prop}(hb:JV w=false)(hl:t.led=true)(hz:es.size<=1)(hS:s.heap.get? a=some (mr es ep t))(hf:t.fits es.size=true)
  (q:Q (match es[SetTable.below t.place slot]?,t.place[SetTable.below t.place slot]? with | some (_,x),some j=>some (x,j+1) | _,_=>none) s):wpAny (model P w) A (setNext a slot i ep) Q E s:=by
 unfold setNext
 refine aL (Ax hS rfl hf (aL (pK ?_)))
 rw[hb]
 dsimp only
 rw[aR (by simp)]
 have d:(!t.plain&&decide (es.size > 1))=false:=by
  rw[Bool.and_eq_false_iff];right;simpa using hz
 show wpAny _ _ (if (!t.plain&&decide (es.size > 1))=true then _ else _) _ _ _
 rw[d,aR (by simp)]
 show wpAny _ _ ((if (!t.led && !es.isEmpty)=true then _ else _) >>= _) _ _ _
 rw[hl,Bool.not_true,Bool.false_and,aR (by simp)]
 exact aL (bx (bx q))
end
section
variable {P:Program}{w:World}{B:Around}{a I:Addr}{es:Array (Int×Value)}{t:SetTable}{ep n:Nat}{ord:List Value}
theorem BV(slotAt:Nat->Nat)(hh:B.handled=none)(pE:a≠I)(hf:t.fits es.size=true)(hn:es.size=n)(ho:ord.length=n)
  (hx:∀i,i<=n->∀(s:Shared) (C:Around) (E':Value->Shared->Prop) (Q':Option (Value×Nat)->Shared->Prop),s.heap.get? a=some (mr es ep t)->Q' ((ord[i]?).map λv=>(v,slotAt (i+1))) s->wpAny (model P w) C (setNext a (slotAt i) i ep) Q' E' s) :
  WalksS P w B I [I,a] [I] (λx y=>y=x) n (λi v=>ord[i]?=some v) (λi s=>s.heap.get? I=some (sL (.int (slotAt i) 0) i n ep a)/\s.heap.get? a=some (mr es ep t)) where
 sub:=λb hb=>by rw[kM.mp hb];exact gP
 grefl:=λ_=>rfl
 gtrans:=λ_ _ _ h1 h2=>h2.trans h1
 frame:=λi s h' tk st _ k=>⟨k I (by simp) _ st.1,k a (by simp) _ st.2⟩
 item:=λi s Q E hi st q=>by
  have e:ord[i]?=some ord[i]:=nM (by rw[ho];exact hi)
  refine RL (r:=some (ord[i],slotAt (i+1))) hh st.1 st.2 hf hn (λC E' Q' hq=>hx i (u6 hi) s C E' Q' st.2 (by rw[e];exact hq)) λh' h1 h2=>?_
  exact q _ _ e ⟨h1,h2.extBut a _ pE st.2⟩ ⟨λb o hb z=>h2.extBut b o (λy=>hb (by rw[y];exact kM.mpr rfl)) z,rfl,rfl,rfl,bW _⟩
 done:=λs Q E st q=>by
  have e:ord[n]?=none:=Be (by rw[ho];exact bW _)
  refine RL (r:=none) hh st.1 st.2 hf hn (λC E' Q' hq=>hx n (bW _) s C E' Q' st.2 (by rw[e];exact hq)) λh' h1=>?_
  exact q _ ⟨λb o hb z=>h1 b o (λy=>hb (by rw[y];exact kM.mpr rfl)) z,rfl,rfl,rfl,bW _⟩
 self:=λi s Q E st q=>Nu st.1 q
theorem O4{p:Addr}{pl:List Nat}{c:Nat}(hh:B.handled=none)(pE:a≠I)(hnp:p≠I)(hf:t.fits es.size=true)(hn:es.size=n)(ho:ord.length=n)(hl:pl.length=n)
  (hx:∀i:Nat,i<n->∃(k:Nat) (z:Int) (x:Value),pl[i]?=some k/\es[k]?=some (z,x)/\ord[i]?=some x) :
  WalksS P w B I [I,a,p] [I] (λx y=>y=x) n (λi v=>ord[i]?=some v)
   (λi s=>s.heap.get? I=some (sL (.ref p) i n ep a)/\s.heap.get? a=some (mr es ep t)/\s.heap.get? p=some { cls:=.type "tuple",data:=.seq (pl.map λ(j:Nat)=>Value.int j 0).toArray c }) where
 sub:=λb hb=>by rw[kM.mp hb];exact gP
 grefl:=λ_=>rfl
 gtrans:=λ_ _ _ h1 h2=>h2.trans h1
 frame:=λi s h' tk st _ k=>⟨k I (by simp) _ st.1,k a (by simp) _ st.2.1,k p (by simp) _ st.2.2⟩
 item:=λi s Q E hi st q=>by
  obtain⟨k,z,x,e1,e2,e3⟩:=hx i hi
  refine RK (r:=some x) hh st.1 st.2.1 hf hn st.2.2 ⟨k,z,by simp[e1],e2⟩ λh' h1 h2=>?_
  exact q _ _ e3 ⟨h1,h2.extBut a _ pE st.2.1,h2.extBut p _ hnp st.2.2⟩ ⟨λb o hb z=>h2.extBut b o (λy=>hb (by rw[y];exact kM.mpr rfl)) z,rfl,rfl,rfl,bW _⟩
 done:=λs Q E st q=>by
  refine RK (r:=none) hh st.1 st.2.1 hf hn st.2.2 (by simp[hl]) λh' h1=>?_
  exact q _ ⟨λb o hb z=>h1 b o (λy=>hb (by rw[y];exact kM.mpr rfl)) z,rfl,rfl,rfl,bW _⟩
 self:=λi s Q E st q=>Nu st.1 q
end
section
variable {P:Program}{w:World}{A:Around}{E:Value->Shared->Prop}{s:Shared}{a:Addr}{l:List (Str×Tok)}
theorem p8.typeIs(S:p8 w s.heap a l):s.TypeIs (.ref a) "set":=let ⟨_,_,_,e,_⟩:=S.ex;⟨_,e,rfl⟩
def Ub(P:Program)(w:World)(z:Nat)(a:Addr)(l:List (Str×Tok))(I:Addr)(s':Shared):Prop:=
 ∃(ord:List Value) (fp:List Addr) (St:Nat->Shared->Prop),(∀B:Around,B.handled=none->WalksS P w B I fp [I] (λx y=>y=x) l.length (λi v=>ord[i]?=some v) St)/\St 0 s'/\
  (∀b∈fp,b<s'.heap.objs.size/\(b=a\/z<=b))/\I∈fp/\ord.Perm (l.map λp=>Value.str p.1 p.2)
theorem Wh(x:Nat):SetTable.below #[x] 0=0:=by
 unfold SetTable.below SetTable.below.go
 simp[SetTable.below.go]
theorem below_1(x:Nat):SetTable.below #[x] (x+1)=1:=by
 unfold SetTable.below SetTable.below.go
 simp[SetTable.below.go]
theorem RN{Q:Value->Shared->Prop}(S:p8 w s.heap a l)
  (q:∀I s',s.heap.objs.size<=I->(∀b o,s.heap.get? b=some o->s'.heap.get? b=some o)->s'.gens=s.gens->s'.os=s.os->Ub P w s.heap.objs.size a l I s'->Q (.ref I) s'):wpAny (model P w) A (pyIter (.ref a)) Q E s:=by
 obtain⟨⟨es,ep,t,ho,WY,hf,Tq,sU⟩,nd,sz⟩:=id S
 have xf:es.size=l.length:=by rw[<-pX,WY,di]
 have hval:es.toList.map (·.2)=l.map λp=>Value.str p.1 p.2:=by rw[WY,u5];rfl
 have lt:a<s.heap.objs.size:=cp ho
 refine wpAny_pyIter_slot S.typeIs PySem.F.slot_set_iter (Au PySem.F.slot_set_iter S.typeIs Aa ?_ (PySem.F.args_set_iter_1 _))
 unfold Builtin.«frozenset.__iter__»
 refine aL (m:=Builtin.Frozenset.slot0 "__iter__" ⟨[.ref a],[]⟩) (xu (a:=a) rfl ?_)
 unfold Builtin.Frozenset.sizeOf
 refine aL (aL (Kj ho rfl hf (bx ?_)))
 unfold setDrawn
 refine aL (aL (Ax ho rfl hf (aL (pK (bx ?_)))))
 have last:∀(first:Value) (s1:Shared),s1.heap.get? a=some (mr es ep t)->(∀b o,s.heap.get? b=some o->s1.heap.get? b=some o)->s.heap.objs.size<=s1.heap.objs.size->s1.gens=s.gens->s1.os=s.os->
   (∀s',s'.heap.get? s1.heap.objs.size=some (sL first 0 es.size ep a)->(∀b o,s1.heap.get? b=some o->s'.heap.get? b=some o)->Ub P w s.heap.objs.size a l s1.heap.objs.size s')->
   wpAny (model P w) A.in1 (do let e <-setEpoch a;let v <-newFields "set_iterator" [first,rawInt 0,Value.ref a,rawInt es.size,rawInt e];ret v) (λfin s'=>∃v,fin=Fin.done (Flow.ret v)/\∃T' r,s'.TypeIs v T'/\typeLookup (Value.type T') (Str.ofString "__next__")=pure (some r)/\Q v s') E s1:=by
  intro first s1 h1 k1 z1 g1 o1 hw
  refine aL (wpAny_setEpoch_of h1 rfl hf ?_)
  unfold newFields
  refine aL (pW ?_ (by size_fits))
  have hI:(s1.heap.push { cls:=.type "set_iterator",data:=.fields [first,rawInt 0,Value.ref a,rawInt es.size,rawInt ep].toArray }).get? s1.heap.objs.size=some (sL first 0 es.size ep a):=kz _ rfl
  refine bx ⟨_,rfl,"set_iterator",_,⟨_,hI,rfl⟩,jd.lookup,q _ _ z1 (λb o e=>dZ _ (k1 b o e)) g1 o1 (hw _ hI λb o e=>dZ _ e)⟩
 show wpAny _ _ (if (!JV w&&(!t.plain&&decide (es.size > 1)))=true then _ else _) _ _ _
 by_cases hd:(!JV w&&(!t.plain&&decide (es.size > 1)))=true
 ·rw[bH hd]
  refine aL (Di es.size (List.range es.size) _ _ (by simp) λys d hp=>?_)
  have hyl:ys.length=es.size:=by rw[hp.length_eq,Km]
  refine aL (wpAny_newTuple ?_ (by rw[di,hyl,xf];exact Ed sz))
  refine last (.ref s.heap.objs.size) _ (dZ _ ho) (λb o e=>dZ _ e) (by show _<=(Heap.push _ _).objs.size;rw[va];exact nP _) rfl rfl λs' hI k=>?_
  have e1:(Heap.push s.heap { cls:=.type "tuple",data:=.seq (ys.map λ(i:Nat)=>rawInt i).toArray }).objs.size=s.heap.objs.size+1:=va _ _
  have hp':=k s.heap.objs.size _ (kz _ rfl)
  have W4:=k a _ (dZ _ ho)
  have lts:∀j∈ys,j<es.size:=λj hj=>List.mem_range.mp (hp.mem_iff.mp hj)
  refine⟨ys.map λj=>(es.toList.map (·.2)).getD j .none,_,_,λC hC=>O4 (n:=l.length) (pl:=ys) (c:=0) (p:=s.heap.objs.size) (es:=es) (t:=t) (ep:=ep) (a:=a) hC (by rw[e1];exact dm (Ba lt)) (by rw[e1];exact dm (Kh _)) hf xf (by rw[di,hyl,xf]) (by rw[hyl,xf]) λi hi=>?_,⟨by rw[<-xf];exact hI,W4,hp'⟩,?_,by simp,?_⟩
  ·have Z5:i<ys.length:=by rw[hyl,xf];exact hi
   have hk:=lts ys[i] (xH Z5)
   refine⟨ys[i],es[ys[i]].1,es[ys[i]].2,nM Z5,KH hk,?_⟩
   rw[mz,nM Z5,Option.map_some,List.getD_eq_getElem?_getD,mz,Gz,KH hk]
   rfl
  ·intro b hb
   simp only[gN,xI,or_false]at hb
   rcases hb with rfl | rfl | rfl
   ·exact⟨cp hI,.inr (by rw[e1];exact nP _)⟩
   ·exact⟨cp W4,.inl rfl⟩
   ·exact⟨cp hp',.inr (bW _)⟩
  ·rw[<-hval]
   refine(hp.map _).trans ?_
   rw[show(List.range es.size).map (λj=>(es.toList.map (·.2)).getD j .none)=es.toList.map (·.2) from ?_]
   refine Kl λi=>?_
   by_cases hi:i<es.size
   ·simp[hi]
   ·simp[hi]
 ·rw[aR hd]
  refine aL (bx ?_)
  refine last (rawInt 0) s ho (λ_ _ e=>e) (bW _) rfl rfl λs' hI k=>?_
  have W4:=k a _ ho
  have fpl:∀b∈[s.heap.objs.size,a],b<s'.heap.objs.size/\(b=a\/s.heap.objs.size<=b):=λb hb=>by
   simp only[gN,xI,or_false]at hb
   rcases hb with rfl | rfl
   ·exact⟨cp hI,.inr (bW _)⟩
   ·exact⟨cp W4,.inl rfl⟩
  cases hb:JV w with
  | true=>
   refine⟨(pickOrder (w.params.setOrder a ep) es).toList.map (·.2),_,_,λC hC=>BV (n:=l.length) (es:=es) (t:=t) (ep:=ep) (a:=a) (λ_=>0) hC (dm lt) hf xf (by rw[di,(Ce _ es).length_eq,pX,xf]) λi _ s1 C' E' Q' h1 hq=>?_,⟨by rw[<-xf];exact hI,W4⟩,fpl,by simp,?_⟩
   ·refine Hz hb h1 hf ?_
    rw[mz,Gz,Option.map_map]at hq
    exact hq
   ·rw[<-hval];exact(Ce _ es).map _
  | false=>
   have few:es.size<=1:=by
    rw[hb]at hd
    rcases Nat.lt_or_ge 1 es.size with h | h
    ·rw[sU (λz=>by rw[xf,z]at h;exact absurd h (by decide))]at hd
     simp[h]at hd
    ·exact h
   have led:t.led=true:=by rw[Tq,hb];rfl
   have hpz:t.place.size=es.size:=by
    unfold SetTable.fits at hf
    rw[gO]at hf
    exact eq_of_beq hf.1
   refine⟨es.toList.map (·.2),_,_,λC hC=>BV (n:=l.length) (es:=es) (t:=t) (ep:=ep) (a:=a) (λi=>if i=0 then 0 else t.place.getD 0 0+1) hC (dm lt) hf xf (by rw[di,pX,xf]) λi hi s1 C' E' Q' h1 hq=>?_,⟨by rw[<-xf];exact hI,W4⟩,fpl,by simp,by rw[hval]⟩
   refine S7 hb led few h1 hf ?_
   rcases Nat.eq_zero_or_pos es.size with z | z
   ·have e1:es = #[]:=QW z
    have e2:t.place = #[]:=QW (by rw[hpz,z])
    have e0:i=0:=by lia
    subst e0
    rw[e1]at hq
    rw[e1,e2]
    exact hq
   ·have z1:es.size=1:=by lia
    obtain⟨x,hx⟩:∃x,es = #[x]:=⟨es[0],Array.ext (by simp[z1]) λj h1 h2=>by
     have:j=0:=by simp at h2;exact h2
     subst this;rfl⟩
    obtain⟨j,hj⟩:∃j,t.place = #[j]:=⟨t.place[0]'(by lia),Array.ext (by simp[hpz,z1]) λj h1 h2=>by
     have:j=0:=by simp at h2;exact h2
     subst this;rfl⟩
    rw[hx,hj]at hq
    rw[hx,hj]
    rcases Nat.eq_zero_or_pos i with e0 | e0
    ·subst e0
     rw[bH rfl,Wh]
     exact hq
    ·have e1:i=1:=by lia
     subst e1
     rw[aR (by decide),show(#[j]:Array Nat).getD 0 0=j from rfl,below_1]
     exact hq
theorem RP{Q:Bool->Shared->Prop}(hT:s.TypeIs (.ref a) "set")(q:Q false s):wpAny (model P w) A (Builtin.List.listLengthHint (.ref a)) Q E s:=by
 unfold Builtin.List.listLengthHint
 refine aL (wpAny_specialOf hT PySem.F.slot_set_len.lookup ?_)
 generalize hid:("set.__len__" : String)=id0
 wp_delta
 rw[show splitId id0=some ("set","__len__") from by subst hid;decide +kernel]
 subst hid
 refine aL (wpAny_isInstance (T:="set") (b:=true) hT (by rw[isSubtype_type];kernel_rfl) ?_)
 refine wpAny_ite_split (λz=>absurd z (by decide)) (λ_=>wpAny_ite_split (λ_=>?_) (λz=>absurd (by decide +kernel) z))
 exact aL (wpAny_typeOf hT (bx q))
theorem JR{Q:List Value->Shared->Prop}(hh:A.handled=none)(S:p8 w s.heap a l)
  (q:∀(s':Shared) (vs:List Value),(∀b o,s.heap.get? b=some o->s'.heap.get? b=some o)->s.heap.objs.size<=s'.heap.objs.size->s'.gens=s.gens->s'.os=s.os->vs.Perm (l.map λp=>Value.str p.1 p.2)->Q vs s'):wpAny (model P w) A (collect (.ref a)) Q E s:=by
 have lt:a<s.heap.objs.size:=let ⟨_,_,_,e,_⟩:=S.ex;cp e
 unfold collect
 refine aL (wpAny_runValue (Ar entry_proto_collect' ?_))
 rw[Gx PySem.F.plain_proto_collect _]
 refine aL (m:=newList []) (pW ?_)
 refine bx ⟨DS PySem.F.plain_list_iadd _,Ar entry_list_iadd' ?_⟩
 rw[Gx PySem.F.plain_list_iadd _]
 let L0:Obj:={ cls:=.type "list",data:=.seq ([]:List Value).toArray }
 have k0:∀b o,s.heap.get? b=some o->(s.heap.push L0).get? b=some o:=λb o e=>dZ _ e
 have hL:(s.heap.push L0).get? s.heap.objs.size=some L0:=kz _ rfl
 have S0:p8 w (s.heap.push L0) a l:=S.at λo e=>k0 a o e
 show wpAny _ A.in1 (Builtin.List.listExtendWith (.ref s.heap.objs.size) (.ref a) (.ref s.heap.objs.size)) _ _ { s with heap:=s.heap.push L0 }
 unfold Builtin.List.listExtendWith
 refine aL (wpAny_typeOf (T:="set") (p8.typeIs (s:={ s with heap:=s.heap.push L0 }) S0) ?_)
 have h1:Builtin.List.listSameRef (.ref s.heap.objs.size) (.ref a)=false:=by simp[Builtin.List.listSameRef,xh lt]
 have h2:(Value.type "set" == Value.type "list")=false:=by decide
 have h3:(Value.type "set" == Value.type "tuple")=false:=by decide
 simp only[h1,h2,h3,Bool.or_false,Gu,pU]
 refine aL (RN (s:={ s with heap:=s.heap.push L0 }) S0 λI s1 zI k1 g1 o1 W=>?_)
 have S1:p8 w s1.heap a l:=S0.at λo e=>k1 a o e
 have QM:=k1 _ _ hL
 have pE:s.heap.objs.size≠I:=by
  have:(s.heap.push L0).objs.size<=I:=zI
  rw[va]at this
  exact dm this
 refine aL (lR (RP (p8.typeIs S1) ?_))
 refine hide λgG hG=>?_
 obtain⟨ord,fp,St,wk,st,fpl,mI,po⟩:=W
 refine hG ?_
 have hlen:l.length<=sizeLine:=Ed S.sz
 have z1:(s.heap.push L0).objs.size=s.heap.objs.size+1:=va _ _
 have nf:s.heap.objs.size∉fp:=λz=>by
  rcases(fpl _ z).2 with e | e
  ·exact absurd e (xh lt)
  ·have e':(s.heap.push L0).objs.size<=s.heap.objs.size:=e
   rw[z1]at e'
   exact absurd e' (Nat.not_succ_le_self _)
 refine wpAny_ite_split (λ_=>?_) (λz=>absurd (by decide +kernel) z)
 refine aL (wpAny_rule (aL ?_))
 show wpAny _ _ (updateSeq s.heap.objs.size (·.push .none) >>= λ_=>updateSeq s.heap.objs.size (·.pop)) _ _ _
 refine aL (wpAny_updateSeq QM rfl ?_)
 have hL2:=qc (Obj.mapSeq (·.push Value.none)) QM rfl
 refine wpAny_updateSeq (hz:=by seq_fits) hL2 rfl ?_
 have hL3:=qc (Obj.mapSeq (·.pop)) hL2 rfl
 have Yq:∀b o,b≠s.heap.objs.size->s1.heap.get? b=some o->((s1.heap.update s.heap.objs.size (Obj.mapSeq (·.push Value.none))).update s.heap.objs.size (Obj.mapSeq (·.pop))).get? b=some o:=
  λb o hb e=>(sx _ _ (mL hb)).trans ((sx _ _ (mL hb)).trans e)
 have W1:=wk A.in1 hh
 refine bx ⟨DS PySem.F.plain_extend_loop _,codeAny_extend_loopS W1 hlen _ nf _ l.length 0 _ #[] _ rfl (lQ _) (W1.frame 0 s1 _ s1.toks st (bW _) λb hb o e=>Yq b o (λz=>nf (z ▸ hb)) e) hL3 (ItemsOf.nil _) λs2 acc c2 mv V6 Tt=>?_⟩
 refine aL (m:=load s.heap.objs.size) (wpAny_load V6 (bx ?_))
 refine q s2 acc.toList (λb o e=>mv.heap b o (λhm=>?_) (Yq b o (dm (cp e)) (k1 b o (k0 b o e)))) (u6 (cp V6)) (mv.gens.trans g1) (mv.os.trans o1) ?_
 ·have uL:b<s.heap.objs.size:=cp e
  rcases gN.mp hm with e1 | e1
  ·exact absurd e1 (dm uL)
  ·rw[kM.mp e1]at uL
   have:(s.heap.push L0).objs.size<=I:=zI
   rw[z1]at this
   exact absurd (ky uL (Nat.le_of_succ_le this)) (t7 _)
 ·have e:acc.toList=ord:=by
   refine Kl λj=>?_
   by_cases hj:j<l.length
   ·have h0:j<acc.size:=by rw[Tt.1];exact hj
    have h1:acc[j]?=some acc[j]:=KH h0
    rw[Gz,h1,Tt.2 j _ h1]
   ·rw[Be (by rw[pX,Tt.1];lia),Be (by rw[po.length_eq,di];lia)]
  rw[e];exact po
theorem O9{vs:List Value}{l:List (Str×Tok)}(po:vs.Perm (l.map λp=>Value.str p.1 p.2)):∃ts,StrsAre vs ts/\ts.Perm (l.map (·.1)):=by
 have:∃l':List (Str×Tok),vs=l'.map (λp:Str×Tok=>Value.str p.1 p.2)/\l'.Perm l:=by
  let back:Value->Str×Tok:=λe=>match e with | .str x t=>(x,t) | _=>(default,0)
  refine⟨vs.map back,?_,?_⟩
  ·rw[u5]
   conv=>lhs;rw[<-DR vs]
   refine Kr λe he=>?_
   obtain⟨z,_,rfl⟩:=nQ.mp (po.mem_iff.mp he)
   rfl
  ·have:=po.map back
   rw[u5,show(back ∘ λp:Str×Tok=>Value.str p.1 p.2)=id from rfl,DR]at this
   exact this
 obtain⟨l',rfl,pl⟩:=this
 refine⟨l'.map (·.1),?_,pl.map _⟩
 clear po pl
 induction l' with
 | nil=>exact .nil
 | cons p l' ih=>exact .cons p.1 p.2 ih
theorem Pk{x:Value}{us:List Str}{Q:Value->Shared->Prop}(h64:us.length<64)
  (hc:∀(Q':List Value->Shared->Prop),(∀(s':Shared) (vs:List Value) (ts:List Str),(∀b o,s.heap.get? b=some o->s'.heap.get? b=some o)->s.heap.objs.size<=s'.heap.objs.size->s'.gens=s.gens->s'.os=s.os->StrsAre vs ts->ts.Perm us->Q' vs s')->wpAny (model P w) A.in1 (collect x) Q' E s)
  (q:∀(s':Shared) (D c:Nat) (vs:List Value) (ss:List Str),(∀b o,s.heap.get? b=some o->s'.heap.get? b=some o)->s.heap.objs.size<=D->s'.gens=s.gens->s'.os=s.os->s'.heap.get? D=some { cls:=.type "list",data:=.seq vs.toArray c }->StrsAre vs ss->
   ss.Perm us->sortedS ss=true->Q (.ref D) s'):wpAny (model P w) A (call (.builtin "sorted") [x]) Q E s:=by
 refine Calls.call_function_entry kind_sorted plain_sorted entry_sorted (args_sorted1 _) ?_
 unfold Builtin.«sorted»
 refine aL (m:=checkCount "sorted" 1 1 _) (bx ?_)
 refine aL (hc _ λs1 vs ts k1 old g1 o1 Z1 pts=>?_)
 have hl:vs.length=us.length:=by rw[Z1.length,pts.length_eq]
 refine aL (wpAny_newList ?_ (by rw[hl];exact mR (by lia)))
 have hoL:(s1.heap.push (seqObj "list" vs.toArray 0)).get? s1.heap.objs.size=some (seqObj "list" vs.toArray 0):=kz _ rfl
 refine aL (lR (Au slot_list_sort ⟨_,hoL,rfl⟩ entry_list_sort (list_sort_treeK strKind_oneLt hoL Z1.keysOf (λv₁ v₂ rest e=>keyKind_strs (by rw[<-e];exact Z1)) (by lia) λKb a1 a2=>⟨_,rfl,?_⟩) (args_list_sort _)))
 refine hide λgG hG=>?_
 obtain⟨ss',e1,e2,e3⟩:=sorted_out_str Z1 a1 a2
 obtain⟨c,hc⟩:=sortedHeap_at (out:=(arrOf Kb).map (·.2)) hoL
 refine hG ?_
 refine bx ⟨_,rfl,q _ s1.heap.objs.size c ((arrOf Kb).map (·.2)).toList ss' (λb o e=>?_) old g1 o1 (by rw[hc]) e1 (e2.trans pts) e3⟩
 have lt:=cp (k1 b o e)
 show(sortedHeap _ _ _ _).get? b=some o
 rw[sortedHeap_old (dm lt) (by rw[size_push'];exact Ba lt)]
 exact dZ _ (k1 b o e)
end
theorem Inv.same{X:Cx}{pins:List (Addr×Obj)}{σ:List (Option V)}{H:Hp}{s s':Shared}(I:Inv X pins σ H s)(hh:s'.heap=s.heap)(hg:s'.gens=s.gens)(ho:s'.os=s.os):Inv X pins σ H s':=
 ⟨I.ok,by rw[ho];exact I.os,by rw[hg];exact I.bare,by rw[hh];exact I.base,by rw[hh];exact I.loc,by rw[hh];exact I.cell,I.free,I.lu,by rw[hh];exact I.pin,by rw[hh];exact I.cA,I.len⟩
def ZD(w:World)(p:Addr)(ss:List Str):HO:=.ext λh=>∃l,p8 w h p l/\∀z,z∈l.map (·.1)↔z∈ss
section
variable {X:Cx}
def aAg(K:PySem.W.Frag)(w:World):List V->Hp->VK->Prop:=λvs H Q=>∃a ss,vs=[.ref a]/\uZ K H a (ss.map V.str)/\ss.length<4000/\∀p,H p=none->Q (.ref p) (upd H p (ZD w p ss))
theorem Qn(hh:X.A.handled=none):e9 X (.type "set") (aAg X.K X.w):=by
 intro pins s σ H vs us Q I rv h
 refine hide λgG hG=>?_
 obtain⟨a,ss,rfl,hq,hn,q⟩:=h
 obtain⟨u,rfl,ru⟩:=vals1 rv
 refine hG ?_
 cases ru
 refine hide λgG hG=>?_
 obtain⟨its,r,pl,hz⟩:=I.list hq
 refine hG ?_
 have hl:=r.length
 rw[di]at hl
 refine RM (ss:=ss) hh pl.isList (K8 r) (by show its.toArray.size+1<4096;rw[iZ];lia) λh' tk ls hS hm hk=>?_
 have V2:∀b o,s.heap.get? b=some o->h'.get? b=some o:=λb o e=>hk b o (cp e) e
 refine⟨.ref s.heap.objs.size,_,I.laid (t':=tk) (o:=ZD X.w s.heap.objs.size ss) V2 (bW _) ?_,rfl,q _ I.fresh⟩
 exact⟨⟨ls,hS,hm⟩,(let ⟨_,_,_,e,_⟩:=hS.ex;⟨_,e⟩),λh1 h2 ⟨l1,x1,m1⟩ k=>⟨l1,x1.at k,m1⟩⟩
def Lc(w:World):List V->Hp->VK->Prop:=λvs H Q=>∃a ss,vs=[.ref a]/\H a=some (ZD w a ss)/\ss.length<64/\
 ∀ss':List Str,(∀z,z∈ss'↔z∈ss)->ss'.Nodup->sortedS ss'=true->∀p,H p=none->Q (.ref p) (upd H p (.lst (ss'.map V.str)))
theorem vf{α:Type} [DecidableEq α]:∀{l m:List α},l.Nodup->(∀x∈l,x∈m)->l.length<=m.length
 | [],m,_,_=>lQ _
 | x::l,m,h,k=>by
  have hx:=k x gP
  have:=vf (m:=m.erase x) (xk.mp h).2 λy hy=>(List.mem_erase_of_ne (λ(e:y=x)=>(xk.mp h).1 (by rw[<-e];exact hy))).mpr (k y (kP _ hy))
  rw[List.length_erase_of_mem hx]at this
  have p:0<m.length:=List.length_pos_of_mem hx
  rw[vF];lia
theorem zJ(hh:X.A.handled=none):e9 X (.builtin "sorted") (Lc X.w):=by
 intro pins s σ H vs us Q I rv h
 refine hide λgG hG=>?_
 obtain⟨a,ss,rfl,hq,hn,q⟩:=h
 obtain⟨u,rfl,ru⟩:=vals1 rv
 refine hG ?_
 cases ru
 refine hide λgG hG=>?_
 obtain⟨⟨l,hS,hm⟩,_,_⟩:=I.cA a _ hq
 refine hG ?_
 have hl:(l.map (·.1)).length<=ss.length:=vf hS.nd λx hx=>(hm x).mp hx
 refine Pk (us:=l.map (·.1)) (by lia) (λQ' hQ'=>JR (A:=X.A.in1) hh hS λs' vs k z g o po=>let ⟨ts,h1,h2⟩:=O9 po;hQ' s' vs ts k z g o h1 h2) λs' D c vs ss' k z g o hD hvs pss ZQ=>?_
 have Tp:H D=none:=I.cA.fresh z
 have I1:Inv X pins σ (upd H D (.lst (ss'.map V.str))) { s with heap:=s'.heap,toks:=s.toks }:=I.laid k z ⟨by rw[di,pss.length_eq];exact mR (by lia),vs,c,BW hvs,hD⟩
 refine⟨.ref D,_,I1.same rfl g o,rfl,q ss' (λz=>(pss.mem_iff).trans (hm z)) (pss.nodup_iff.mpr hS.nd) ZQ _ Tp⟩
end
theorem FH(z:Str){v:Int}(h:0<=v):(vo z none (some v)).cps.toList=z.cps.toList.take v.toNat:=by
 have hl:z.cps.toList.length=z.length:=by simp[Str.length]
 unfold vo
 have e:HT.eB z.length z.length (some v)=min v.toNat z.length:=by
  show(if v<0 then _ else min v.toNat z.length)=_
  rw[aR (by lia)]
 rw[e]
 show(List.take (min v.toNat z.length-0) (List.drop 0 z.cps.toList))=_
 rw[List.drop_zero,Nat.sub_zero,<-hl]
 by_cases hv:v.toNat<=z.cps.toList.length
 ·rw[Nat.min_eq_left hv]
 ·rw[Nat.min_eq_right (by lia),xJ,Kx (by lia)]
theorem Qk(z:Str){v:Int}(h:0<=v):(vo z (some v) none).cps.toList=z.cps.toList.drop v.toNat:=by
 have hl:z.cps.toList.length=z.length:=by simp[Str.length]
 unfold vo
 have e:HT.eB z.length 0 (some v)=min v.toNat z.length:=by
  show(if v<0 then _ else min v.toNat z.length)=_
  rw[aR (by lia)]
 rw[e]
 show(List.take (z.length-min v.toNat z.length) (List.drop (min v.toNat z.length) z.cps.toList))=_
 rw[<-hl]
 by_cases hv:v.toNat<=z.cps.toList.length
 ·rw[Nat.min_eq_left hv,Kx (by rw[Ay] <;> lia)]
 ·rw[Nat.min_eq_right (by lia),DX,List.take_zero,List.drop_eq_nil_of_le (by lia)]
theorem rQ(z:Str):z.cps.toList.length=z.length:=by simp[Str.length]
theorem nD(x y:Str):(x++y).cps.toList=x.cps.toList++y.cps.toList:=by
 show(x.cps++y.cps).toList=_
 simp
theorem Qe{g:Str}(hg:g.cps = #[]):∀ss:List Str,(Txt.join g ss).cps.toList=(ss.map λz=>z.cps.toList).flatten:=by
 have go:∀(l:List Str) (acc:Array Nat),(l.foldl (λacc p=>acc++g.cps++p.cps) acc).toList=acc.toList++(l.map λz=>z.cps.toList).flatten:=by
  intro l
  induction l with
  | nil=>intro acc;simp
  | cons z l ih=>intro acc;rw[Aw,ih,hg];simp
 intro ss
 show((ss.drop 1).foldl (λacc p=>acc++g.cps++p.cps) (ss.headD Str.empty).cps).toList=_
 cases ss with
 | nil=>rfl
 | cons z l=>rw[go];simp
theorem joinOk_of{sep:Str}{ss:List Str}{L n:Nat}(h:∀z∈ss,z.length<=L)(hn:ss.length<=n)(hb:n*(L+sep.length)<=16000000):JoinOk sep ss=true:=by
 have go:∀(l:List Str) (a:Nat),(∀z∈l,z.length<=L)->l.foldl (λa x=>a+x.length+sep.length) a<=a+l.length*(L+sep.length):=by
  intro l
  induction l with
  | nil=>intro a _;simp
  | cons z l ih=>
   intro a hz
   have h1:=ih (a+z.length+sep.length) (λy hy=>hz y (kP _ hy))
   have h2:=hz z gP
   rw[Aw,vF,Nat.add_mul]
   lia
 unfold JoinOk
 have e:ss.toArray.foldl (λa x=>a+x.length+sep.length) 0=ss.foldl (λa x=>a+x.length+sep.length) 0:=by simp
 rw[e]
 have h1:=go ss 0 h
 have h2:ss.length*(L+sep.length)<=n*(L+sep.length):=Nat.mul_le_mul_right _ hn
 have:¬(ss.foldl (λa x=>a+x.length+sep.length) 0 > sizeLine):=by rw[sizeLine_eq];lia
 unfold Builtin.Str.tooLong
 rw[decide_eq_false this];rfl
def Nm(s:Str):Prop:=1<=s.length/\s.length<=8/\∀c∈s.cps.toList,97<=c/\c<=122
theorem Lw:∀n:Nat,n<26->(Str.ofString "abcdefghijklmnopqrstuvwxyz").cps.toList[n]?=some (97+n):=by decide +kernel
theorem wq{i:Int}(h0:0<=i)(h:i<26):wU (Str.ofString "abcdefghijklmnopqrstuvwxyz").cps.toList i=some (97+i.toNat):=by
 have ei:i=((i.toNat:Nat):Int):=by lia
 have q:wU (Str.ofString "abcdefghijklmnopqrstuvwxyz").cps.toList ((i.toNat:Nat):Int)=some (97+i.toNat):=kh (Lw i.toNat (by lia))
 rwa [<-ei]at q
def lits:List Str:=["is","not","and","or","then","same","yes","no","say","fix","isa","nota","a"].map Str.ofString
theorem zc:lits.Nodup:=by decide +kernel
theorem zf:lits.length=13:=rfl
theorem N5:∀s∈lits,Nm s:=by
 have:∀s∈lits,(decide (1<=s.length)&&decide (s.length<=8)&&s.cps.toList.all λc=>decide (97<=c)&&decide (c<=122))=true:=by decide +kernel
 intro s hs
 have h:=this s hs
 rw[gO,gO]at h
 refine⟨of_decide_eq_true h.1.1,of_decide_eq_true h.1.2,λc hc=>?_⟩
 have:=su.mp h.2 c hc
 rw[gO]at this
 exact⟨of_decide_eq_true this.1,of_decide_eq_true this.2⟩
theorem vg{α:Type}{l:List α}(h:∀(i j:Nat) (x:α),i<j->l[i]?=some x->l[j]?=some x->False):l.Nodup:=by
 unfold List.Nodup
 rw[List.pairwise_iff_getElem]
 intro i j hi hj hij e
 exact h i j l[i] hij (nM hi) (by rw[nM hj,e])
theorem Uy(K:PySem.W.Frag)(z:Str)(H:Hp):tyV K "str" (.str z) H=True:=eq_true rfl
theorem J4(ss:List Str):(List.map V.str ss).all md=true:=by
 rw[su];intro x hx;obtain⟨z,_,rfl⟩:=nQ.mp hx;rfl
theorem Jb(s:Str)(ss:List Str):WW (.str s) (List.map V.str ss)=decide (s∈ss):=by
 induction ss with
 | nil=>rfl
 | cons z ss ih=>
  show(Qg (.str z) (.str s)||WW (.str s) (List.map V.str ss))=_
  rw[ih]
  show((z==s)||decide (s∈ss))=_
  by_cases e:s=z
  ·subst e;simp
  ·have:(z==s)=false:=by simpa using λq:z=s=>e q.symm
   rw[this];simp[e]
theorem Hv{α:Type} [DecidableEq α]:∀{l r:List α},l.Nodup->(∀x∈l,x∈r)->l.length<=r.length
 | [],_,_,_=>lQ _
 | x::l,r,hn,hs=>by
  have hx:=hs x gP
  have Tp:=xk.mp hn
  have:=Hv (l:=l) (r:=r.erase x) Tp.2 λy hy=>(List.mem_erase_of_ne (λe:y=x=>Tp.1 (by rw[<-e];exact hy))).mpr (hs y (kP _ hy))
  rw[List.length_erase_of_mem hx]at this
  have h0:0<r.length:=List.length_pos_of_mem hx
  rw[vF];lia
theorem Te{ss:List Str}(h:ss.length<13):∃s r,lits.filter (λx=>decide (x∉ss))=s::r/\s∈lits/\s∉ss:=by
 cases e:lits.filter (λx=>decide (x∉ss)) with
 | nil=>
  have:∀x∈lits,x∈ss:=λx hx=>by
   have q:=List.filter_eq_nil_iff.mp e x hx
   simpa using q
  have:=Hv zc this
  rw[zf]at this;lia
 | cons s r=>
  have hm:s∈lits.filter (λx=>decide (x∉ss)):=by rw[e];exact gP
  have:=List.mem_filter.mp hm
  exact⟨s,r,rfl,this.1,by simpa using this.2⟩
theorem S5{s:Str}{cs:List Nat}(e:s.cps.toList=cs)(h1:1<=cs.length)(h2:cs.length<=8)(h:∀c∈cs,97<=c/\c<=122):Nm s:=by
 have:=rQ s
 rw[e]at this
 exact⟨by lia,by lia,by rw[e];exact h⟩
section
variable {X:Cx}
def Wy(w:World):List V->Hp->VK->Prop:=λvs H Q=>∃a,vs=[.ref a]/\∃ss:List Str,H a=some (.lst (ss.map V.str))/\ss.length<4000/\∀p,H p=none->Q (.ref p) (upd H p (ZD w p ss))
theorem Qo(hh:X.A.handled=none):e9 X (.type "set") (Wy X.w):=(Qn hh).imp λx H Q ⟨p,e,ss,h,n,q⟩=>⟨p,ss,e,eV h,n,q⟩
def Hm(w:World):List V->Hp->VK->Prop:=λvs H Q=>∃a,vs=[.ref a]/\∃ss:List Str,H a=some (ZD w a ss)/\ss.length<64/\
 ∀ss':List Str,(∀z,z∈ss'↔z∈ss)->ss'.Nodup->sortedS ss'=true->∀p,H p=none->Q (.ref p) (upd H p (.lst (ss'.map V.str)))
theorem Am(hh:X.A.handled=none):e9 X (.builtin "sorted") (Hm X.w):=(zJ hh).imp λx H Q ⟨p,e,ss,h,n,q⟩=>⟨p,ss,e,h,n,q⟩
def WM:List V->Hp->VK->Prop:=λvs H Q=>∃a,vs=[.ref a]/\∃bs:List Bool,H a=some (.lst (bs.map V.bl))/\Q (.bl (bs.all id)) H
theorem T5:∀{bs:List Bool} {us:List Value},Vals (bs.map V.bl) us->∀(i:Nat) (v:Value),us[i]?=some v->v=.bool (bs.getD i true):=by
 intro bs
 induction bs with
 | nil=>intro us r i v h;cases r;cases i <;> cases h
 | cons b bs ih=>
  intro us r i v h
  rw[mK]at r
  cases r with
  | cons r1 r2=>
   cases r1
   cases i with
   | zero=>cases h;rfl
   | succ i=>exact ih r2 i v (by simpa using h)
theorem all_range:∀(bs:List Bool),((List.range bs.length).all λi=>bs.getD i true)=bs.all id
 | []=>rfl
 | b::bs=>by
  rw[vF,List.range_succ_eq_map,vb,DT,vb,<-all_range bs]
  rfl
theorem Dm(hh:X.A.handled=none):e9 X (.builtin "all") WM:=by
 intro pins s σ H vs us Q I rv h
 obtain⟨a,rfl,bs,hq,q⟩:=h
 obtain⟨u,rfl,ru⟩:=vals1 rv
 cases ru
 obtain⟨its,r,pl,hz⟩:=I.list (eV hq)
 have hl:=r.length
 rw[di]at hl
 have lt:a<s.heap.objs.size:=let ⟨_,e,_⟩:=pl.isList;cp e
 refine call_all_walkS (wpAny_pyIter_list pl.isList ⟨s.heap.objs.size,_,_,_,its.toArray.size,_,_,λi=>bs.getD i true,rfl,(Walks.list (A:=X.A.in1) hh _ a (dm lt) its.toArray).toS,⟨⟨_,kz _ rfl,rfl,rfl⟩,(pl.isList).push _⟩,?_,λs' mv=>?_⟩)
 ·intro i v s1 Q1 E1 hv hq1
  have:v=.bool (bs.getD i true):=T5 r i v (by simpa using hv)
  subst this
  exact bx hq1
 ·rw[iZ,<-hl,all_range]
  have k:∀b o,s.heap.get? b=some o->s'.heap.get? b=some o:=λb o e=>mv.heap b o (λz=>absurd (cp e) (by rw[kM.mp z];exact t7 _)) (dZ _ e)
  have I1:Inv X pins σ H { s with heap:=s'.heap,toks:=s.toks }:=I.un (Un.kept k) (I.cA.kept k)
  exact⟨.bl (bs.all id),H,I1.same rfl mv.gens mv.os,rfl,q⟩
end
section
variable {P:Program}{w:World}{κ:Type} [DecidableEq κ] {knd:PySem.KeyKind P w κ} {A:Around} {E:Value->Shared->Prop} {s:Shared} {a b:Addr} {aX aCW:List (κ×Value)}
end
section
variable {X:Cx}
def aB8(neg:Bool):R2:=λx y H Q=>∃a b,x=.ref a/\y=.ref b/\∃aX,H a=some (.dK aX)/\H b=some (.dK aX)/\(∀kv∈aX,∃c,kv.2=.bl c)/\Q (.bl (!neg)) H
end
section
variable {X:Cx}{pins:List (Addr×Obj)}{s:Shared}{σ:St}{H:Hp}{A:Around}
theorem lO{xs:List V}{us:List Value}{j:Nat}{x:V}(r:Vals xs us)(h:j<us.toArray.size)(e:xs[j]?=some x):RelV x us.toArray[j]:=by
 have h':j<us.length:=by simpa using h
 obtain⟨u,eu,ru⟩:=r.get e
 have:=nM h'
 rw[eu]at this
 have e1:us.toArray[j]=u:=by simpa using (gU this).symm
 rw[e1];exact ru
end
section
variable {P:Program}{w:World}{A:Around}{E:Value->Shared->Prop}{s:Shared}
end
section
variable {X:Cx}
end
def Its(x:Str):It:=⟨λi _=>i<x.cps.size,λi H v H'=>H'=H/\∃c,x.cps[i]?=some c/\v=.str ⟨#[c]⟩,λi _=>i=x.cps.size⟩
theorem Rc{P:Program}{w:World}{K:PySem.W.Frag}{tg:Expr}(it:Addr)(x:Str)(t:Tok){n:String}(hn:n = "str_ascii_iterator"\/n = "str_iterator"):Turn P w K tg (Its x) [it] it (λi h=>h.IsStrIter it n x t i) where
 mem:=by simp
 obj:=λi h st b hb=>by
  have e:b=it:=by simpa using hb
  subst e
  obtain⟨o,e,c,d⟩:=st
  exact⟨o,e,λv z=>by rw[d]at z;cases z⟩
 keep:=λi h h' st k=>let ⟨o,ho,r⟩:=st;⟨o,k it (by simp) o ho,r⟩
 item:=by
  intro X hP hw hK hc i pins s σ H E I hf st hg
  subst hP hw hK
  obtain⟨f0,f1,f2,f3,f4,f5⟩:=hf it (by simp)
  have W:Walks X.prog X.w X.A it [it] [it] x.cps.size (SignAt x) (λi h=>h.IsStrIter it n x t i):=by
   rcases hn with rfl | rfl
   ·exact Walks.strAscii (I.ok.hd hc) it x t
   ·exact Walks.strWide (I.ok.hd hc) it x t
  refine W.item i s _ _ hg st λv h' tk hv Kb kk=>?_
  obtain⟨c,u,hx,rfl⟩:=hv
  have I1:Inv X pins σ H { s with heap:=h',toks:=tk }:=I.turned (λb o hb e=>kk b o (by simpa using hb) e) f0 f1 f3 f4 f5
  obtain⟨o,e,cc,d⟩:=id Kb
  exact⟨_,rfl,Oc (s:={ s with heap:=h',toks:=tk }) e cc d (by rcases hn with rfl | rfl <;> decide) ⟨.str ⟨#[c]⟩,H,I1,⟨u,rfl⟩,⟨rfl,c,hx,rfl⟩,Kb,λb hb=>(hf b hb).1⟩⟩
 done:=by
  intro X hP hw hK hc i pins s σ H E I hf st hg
  subst hP hw hK
  have hg':i=x.cps.size:=hg
  subst hg'
  obtain⟨f0,f1,f2,f3,f4,f5⟩:=hf it (by simp)
  have W:Walks X.prog X.w X.A it [it] [it] x.cps.size (SignAt x) (λi h=>h.IsStrIter it n x t i):=by
   rcases hn with rfl | rfl
   ·exact Walks.strAscii (I.ok.hd hc) it x t
   ·exact Walks.strWide (I.ok.hd hc) it x t
  exact W.done s _ _ st λh' tk eb=>⟨rfl,I.turned (λb o hb e=>eb b o (by simpa using hb) e) f0 f1 f3 f4 f5⟩
 self:=λA i s Q E st h=>by
  rcases hn with rfl | rfl
  ·exact wpAny_pyIter_striter_ascii st h
  ·exact wpAny_pyIter_striter_wide st h
section
variable {X:Cx}{tg:Expr}
def Y4(tl:TE):TI:=λσ H R=>tl σ H λx H1=>∃z,x=.str z/\R (Its z) H1
theorem Yi{l:Expr}{tl:TE}(hl:PE X l tl):PI X tg l (Y4 tl):=by
 intro pins s σ H R I h
 refine dH (hl pins s σ H _ I h) λv s1 ⟨x,H1,I1,r1,q1⟩=>?_
 obtain⟨z,e,q⟩:=q1
 subst e
 obtain⟨t,rfl⟩:=r1
 have fin:∀n,(n = "str_ascii_iterator"\/n = "str_iterator")->PIE X pins σ tg R (.ref s1.heap.objs.size) { s1 with heap:=s1.heap.push { cls:=.type n,data:=.fields #[.str z t,.int 0 0] } }:=λn hn=>by
  refine⟨s1.heap.objs.size,[s1.heap.objs.size],_,_,H1,rfl,I1.kept (t':=s1.toks) λb o e=>dZ _ e,Rc _ z t hn,⟨_,kz _ rfl,rfl,rfl⟩,λb hb=>?_,q⟩
  have e:b=s1.heap.objs.size:=by simpa using hb
  subst e
  exact I1.V7 (bW _) (I1.cA.fresh (bW _))
 cases ha:z.cps.all (· < 128)
 ·exact wpAny_pyIter_wide ha (fin _ (.inr rfl))
 ·exact wpAny_pyIter_ascii ha (fin _ (.inl rfl))
theorem Uq{l:Expr}{tl:TE}(h1:ZE X l tl):ZI X tg l (Y4 tl):=⟨Yi h1.to⟩
end
theorem JQ{x:Str}{idx:List Nat}{tt:CB->TT}{te:CB->TE}{σ:St}{Q:VK}{H1:Hp}(Pv:Addr->Nat->List V->Hp->Prop)(h0:∀D,H1 D=none->Pv D 0 [] (upd H1 D (.lst [])))
  (hs:∀D,H1 D=none->∀i c0 ys H,x.cps[i]?=some c0->Pv D i ys H->∀(c:CB),tt c (some (.str ⟨#[c0]⟩)::cH σ idx) H λb H4=>if b=true then te c (some (.str ⟨#[c0]⟩)::cH σ idx) H4 λy H5=>H5 D=some (.lst ys)/\ys.length<sizeLine/\Pv D (i+1) (ys++[y]) (upd H5 D (.lst (ys++[y]))) else Pv D (i+1) ys H4)
  (hd:∀D,H1 D=none->∀ys H,Pv D x.cps.size ys H->Q (.ref D) H):pT (Its x) 1 idx (λ_=>ll 0) tt te σ Q H1:=by
 intro D hD
 refine⟨λi m ys H=>m=x.cps.size-i/\i<=x.cps.size/\Pv D i ys H,⟨x.cps.size,by simp,lQ _,h0 D hD⟩,?_⟩
 rintro i m ys H ⟨rfl,hi,p⟩
 by_cases uL:i<x.cps.size
 ·refine .inr ⟨uL,Pv D (i+1),λuY H' p'=>⟨x.cps.size-(i+1),by omega,rfl,uL,p'⟩,λc own ho y H' yl=>?_⟩
  obtain⟨e,c0,ec,ey⟩:=yl
  subst e ey
  show(∃gQ,gQ.length=1/\(own++cH σ idx).set 0 _=gQ++cH σ idx)/\tt c ((own++cH σ idx).set 0 _) H' _
  rw[Vv ho]
  exact⟨⟨[_],rfl,rfl⟩,hs D hD i c0 ys H' ec p c⟩
 ·have e:i=x.cps.size:=by omega
  subst e
  exact .inl ⟨rfl,hd D hD ys H p⟩
def Wm(K:PySem.W.Frag)(a:Addr)(D:List (Str×Int)):Prop:=
 ∃o es ep,K.lookup a=some o/\o.ExactDict/\o.data=.dict es ep/\(a==sysModules)=false/\KTD.Rows (λi v=>∃t,v=Value.int i t) es.toList D
section
variable {X:Cx}
def Es(D:List (Str×Int))(te:TE):TE:=λσ H Q=>te σ H λy H1=>∃z,y=.str z/\Q (match KTD.datumAt z D with | some i=>.int i | none=>.non) H1
theorem Qi{D:List (Str×Int)}{z:Str}{d:KTD.Dat}:KTD.datumAt z (D.map λp=>(p.1,KTD.Dat.flat (.int p.2)))=some d->∃i,KTD.datumAt z D=some i/\d=.flat (.int i):=by
 induction D with
 | nil=>intro h;cases h
 | cons p D ih=>
  intro h
  have h':(if decide (z=p.1)=true then some (KTD.Dat.flat (.int p.2)) else KTD.datumAt z (D.map λp=>(p.1,KTD.Dat.flat (.int p.2))))=some d:=h
  show ∃i,(if decide (z=p.1)=true then some p.2 else KTD.datumAt z D)=some i/\_
  split at h'
  ·rename_i hz
   rw[bH hz]
   exact⟨_,rfl,(gU h').symm⟩
  ·rename_i hz
   rw[aR hz]
   exact ih h'
theorem Mu{D:List (Str×Int)}{z:Str}:KTD.datumAt z (D.map λp=>(p.1,KTD.Dat.flat (.int p.2)))=none->KTD.datumAt z D=none:=by
 induction D with
 | nil=>intro _;rfl
 | cons p D ih=>
  intro h
  have h':(if decide (z=p.1)=true then some (KTD.Dat.flat (.int p.2)) else KTD.datumAt z (D.map λp=>(p.1,KTD.Dat.flat (.int p.2))))=none:=h
  show(if decide (z=p.1)=true then some p.2 else KTD.datumAt z D)=none
  split at h'
  ·cases h'
  ·rename_i hz
   rw[aR hz]
   exact ih h'
theorem Pr{g:Str}{a:Addr}{D:List (Str×Int)}{e:Expr}{ty:TE}{pos apos bY:Pos}(hg:Gl X g)(hm:X.mg g=some (.ref a))(tab:Wm X.K a D)(he:PE X e ty)(m:M1 X (.Name g pos) "get" apos e bY)(hd:(g==("__debug__" : Str))=false:=by decide) :
  PE X (.Call (.Attribute (.Name g pos) "get" apos) [e] [] bY) (Es D ty):=by
 intro pins s σ H Q I h
 obtain⟨o,es,ep,hk,hx,hdt,lo,rows⟩:=tab
 refine wpAny_Call_method m.base m.few m.line PySem.F.plainAttrs_dict PySem.F.slot_dict_get PySem.F.type_dict_get (mC I hg hm ?_ hd)
 refine⟨⟨o,I.o9 a o hk,hx.1⟩,λb q=>by cases q;exact⟨o,I.o9 a o hk,hx.2.1⟩,?_⟩
 rw[m.trees]
 refine Calls.callWith_builtin rfl (Calls.evalArgs_plain (Calls.spliced_cons (dH (he pins s σ H _ I h) λiv s2 ⟨y,H2,I2,ry,z,ez,q⟩=>Calls.spliced_nil ?_)))
 subst ez
 obtain⟨t,rfl⟩:=ry
 have T:KTD.Here s2.heap s2.heap a (D.map λp=>(p.1,KTD.Dat.flat (.int p.2))):=
  ⟨⟨lo,o,es,ep,I2.o9 a o hk,hx,hdt,rows.mono (R':=KTD.Dat.At s2.heap) (f:=λi=>KTD.Dat.flat (.int i)) λi v ⟨t,ht⟩=>by rw[ht];exact .int i t⟩,λ_ _ e=>e⟩
 refine call_meetsIn PySem.F.slot_dict_get T.typeIs PySem.F.entry_dict_get (PySem.F.args_dict_get_2 _ _) (KTD.meets_get1 (h₀:=s2.heap)) ⟨T,λd v ha hv=>?_,λhn=>?_⟩
 ·obtain⟨i,ei,rfl⟩:=Qi ha
  rw[ei]at q
  exact⟨.int i,H2,I2.tok _,by have hv2:=hv s2.heap;cases hv2;exact⟨_,rfl⟩,q⟩
 ·rw[Mu hn]at q
  exact⟨.non,H2,I2.tok _,rfl,q⟩
theorem cq{x:Str}{v:V}{u:Value}{pos:Pos}(hg:Gl X x)(hm:X.mg x=some u)(r:RelV v u)(hd:(x==("__debug__" : Str))=false:=by decide):ZE X (.Name x pos) (tC v):=⟨Vo hg hm r hd⟩
theorem KN{g:Str}{a:Addr}{D:List (Str×Int)}{e:Expr}{ty:TE}{pos apos bY:Pos}(hg:Gl X g)(hm:X.mg g=some (.ref a))(tab:Wm X.K a D)(he:ZE X e ty)
  (h1:attributeBase (.Name g pos) "get" X.env (eval (.Name g pos) X.env)=eval (.Name g pos) X.env:=by rfl)
  (h2:((backTo bY (starEach [e] X.env)).all (λx=>!x.1)&&(backToKw bY (keywordEach [] X.env)).all (λx=>x.1.isSome)
  && decide (([e]:List Expr).length+([]:List Keyword).length+(if ([]:List Keyword).isEmpty then 0 else 1)<30))=true:=by rfl)
  (h3:(apos.endLine==bY.line)=true:=by rfl) (h4:backTo bY (starEach [e] X.env)=[(false,eval e X.env)]:=by rfl) (hd:(g==("__debug__" : Str))=false:=by decide) :
  ZE X (.Call (.Attribute (.Name g pos) "get" apos) [e] [] bY) (Es D ty):=⟨Pr hg hm tab he.to ⟨h1,h2,h3,h4⟩ hd⟩
end
def Hc:List DictEntry->List (Str×Int)->Bool
 | [],[]=>true
 | e::es,(x,i)::D=>(match e.key,e.val with | .str y _,.int j _=>y==x&&j==i | _,_=>false)&&Hc es D
 | _,_=>false
theorem yP:∀{es:List DictEntry} {D:List (Str×Int)},Hc es D=true->KTD.Rows (λi v=>∃t,v=Value.int i t) es D
 | [],[],_=>.nil
 | [],_::_,h=>by cases h
 | e::es,[],h=>by cases h
 | e::es,(x,i)::D,h=>by
  have h':((match e.key,e.val with | .str y _,.int j _=>y==x&&j==i | _,_=>false)&&Hc es D)=true:=h
  rw[gO]at h'
  obtain⟨h1,h2⟩:=h'
  split at h1
  ·rename_i y t j u ek ev
   rw[gO,beq_iff_eq,beq_iff_eq]at h1
   exact .cons (t:=t) (by rw[ek,h1.1]) ⟨u,by rw[ev,h1.2]⟩ (yP h2)
  ·cases h1
theorem tab_of{K:PySem.W.Frag}{a:Addr}{es:Array DictEntry}{ep:Nat}{D:List (Str×Int)}(l:K.lookup a=some ⟨.type "dict",none,.dict es ep,#[]⟩)(r:Hc es.toList D=true)(n:(a==sysModules)=false):Wm K a D:=
 ⟨_,es,ep,l,⟨rfl,rfl,rfl⟩,rfl,n,yP r⟩
theorem JP{K:PySem.W.Frag}{a:Addr}{zs:List V}{idx:List Nat}{tt:CB->TT}{te:CB->TE}{σ:St}{Q:VK}{H1:Hp}(Pv:Addr->Nat->List V->Hp->Prop)(h0:∀D,H1 D=none->Pv D 0 [] (upd H1 D (.lst [])))
  (hl:∀D,H1 D=none->∀i ys H,i<=zs.length->Pv D i ys H->H a=some (.tup zs))
  (hs:∀D,H1 D=none->∀i x ys H,zs[i]?=some x->Pv D i ys H->∀(c:CB),tt c (some x::cH σ idx) H λb H4=>if b=true then te c (some x::cH σ idx) H4 λy H5=>H5 D=some (.lst ys)/\ys.length<sizeLine/\Pv D (i+1) (ys++[y]) (upd H5 D (.lst (ys++[y]))) else Pv D (i+1) ys H4)
  (hd:∀D,H1 D=none->∀ys H,Pv D zs.length ys H->Q (.ref D) H):pT (ZM K a) 1 idx (λ_=>ll 0) tt te σ Q H1:=by
 intro D hD
 refine⟨λi m ys H=>m=zs.length-i/\i<=zs.length/\Pv D i ys H,⟨zs.length,by simp,lQ _,h0 D hD⟩,?_⟩
 rintro i m ys H ⟨rfl,hi,p⟩
 by_cases uL:i<zs.length
 ·refine .inr ⟨⟨zs,zs[i],lG (hl D hD i ys H hi p),nM uL⟩,Pv D (i+1),λuY H' p'=>⟨zs.length-(i+1),by omega,rfl,uL,p'⟩,λc own ho y H' yl=>?_⟩
  obtain⟨e,hy⟩:=yl
  subst e
  have ey:=hy zs (lG (hl D hD i ys H' hi p))
  show(∃gQ,gQ.length=1/\(own++cH σ idx).set 0 _=gQ++cH σ idx)/\tt c ((own++cH σ idx).set 0 _) H' _
  rw[Vv ho]
  exact⟨⟨[_],rfl,rfl⟩,hs D hD i y ys H' ey p c⟩
 ·have e:i=zs.length:=by omega
  subst e
  exact .inl ⟨⟨zs,lG (hl D hD _ ys H hi p),bW _⟩,hd D hD ys H p⟩
section
variable {X:Cx}
def aAo:R2:=λx y H Q=>∃i,x=.str i/\∃j,y=.str j/\Q (.bl (!decide (j.cps.toList<i.cps.toList))) H
theorem Cj:nJ X (compareOp .LtE) aAo:=by
 intro pins s σ H x y v u Q I rx ry h
 obtain⟨i,rfl,j,rfl,q⟩:=h
 obtain⟨t,rfl⟩:=rx
 obtain⟨t',rfl⟩:=ry
 exact PySem.P.le_str (bR I q rfl)
def aAr(neg:Bool):R2:=λx y H Q=>∃c d,x=.bl c/\y=.bl d/\Q (.bl (if neg then c != d else c==d)) H
theorem Vw:nJ X (compareOp .IsNot) (aAr true):=by
 intro pins s σ H x y v u Q I rx ry h
 obtain⟨c,d,rfl,rfl,q⟩:=h
 cases rx;cases ry
 exact isnot_bool ⟨.bl _,H,I,rfl,q⟩
def aAs:R2:=λx y H Q=>∃a b,x=.ref a/\y=.ref b/\∃xs,H a=some (.tup xs)/\∃ys,H b=some (.tup ys)/\xs.length+ys.length<=sizeLine/\
 ∀p H',dk H H'->(∀c,c≠p->H' c=H c)->H' p=some (.tup (xs++ys))->Q (.ref p) H'
def aD9(lo st:Int)(n:Nat):It:=⟨λi _=>i<n,λi H x H'=>H'=H/\x=.int (lo+i*st),λi _=>n<=i⟩
def aAQ(ta:TA):TI:=λσ H R=>ta σ H λvs H1=>∃i j:Int,vs=[.int i,.int j,.int 2]/\(0<=i/\i<=1000/\-1<=j/\j<=1000)/\R (aD9 i 2 ((j-i+1) / 2).toNat) H1
end
end L2
end
section
namespace L2
open PySem PySem.Spec PyProof.Rows Builtin Builtin.Str
section
variable {X:Cx}
theorem Pb{prog:Program}{w:World}{A:Around}{E:Value->Shared->Prop}{s:Shared}{x y:Str}{t u:Tok}{Q:Value->Shared->Prop}(hy:(y.length==0)=false)(hx:x.length<=sizeLine)(hn:(partsBetween x (occurrences x y 0 x.length (x.length+1)) y.length).length<=sizeLine)
  (q:∀l tk,l.map (·.1)=Txt.split x y->Q (.ref s.heap.objs.size) { s with heap:=s.heap.push { cls:=.type "list",data:=.seq (strValues l).toArray },toks:=tk }) :
  wpAny (model prog w) A (call (.builtin "str.split") [.str x t,.str y u]) Q E s:=by
 by_cases c1:(decide (x.length<y.length)||decide (strKind x<strKind y))=true
 ·refine call_meets F.slot_str_split (u0 _ _ _) F.entry_str_split (F.args_str_split_2 _ _) (meets_str_split_cannot_occur x y t u c1) ?_
  exact q [(x,t)] s.toks (by unfold Txt.split;rw[bH c1];rfl)
 ·have n1:=eq_false_of_ne_true c1
  by_cases c2:(occurrences x y 0 x.length (x.length+1)).isEmpty=true
  ·refine call_meets F.slot_str_split (u0 _ _ _) F.entry_str_split (F.args_str_split_2 _ _) (meets_str_split_not_found x y t u n1 hy c2) ?_
   exact q [(x,t)] s.toks (by unfold Txt.split;rw[aR c1,bH c2];rfl)
  ·have n2:=eq_false_of_ne_true c2
   refine call_meets F.slot_str_split (u0 _ _ _) F.entry_str_split (F.args_str_split_2 _ _) (meets_str_split_sep x y t u n1 hy n2 hx hn) ?_
   have:=q (numbered s.toks (partsBetween x (occurrences x y 0 x.length (x.length+1)) y.length)) (s.toks+(partsBetween x (occurrences x y 0 x.length (x.length+1)) y.length).length) (by rw[numbered_texts];unfold Txt.split;rw[aR c1,aR c2])
   rw[<-strsFrom_eq]at this
   exact this
def R0:V->List V->Hp->VK->Prop:=λx vs H Q=>∃z sep,x=.str z/\vs=[.str sep]/\(sep.length==0)=false/\z.length<=60000/\∀p,H p=none->Q (.ref p) (upd H p (.lst (List.map V.str (Txt.split z sep))))
theorem vR:∀l:List (Str×Tok),Vals (List.map V.str (l.map (·.1))) (strValues l)
 | []=>.nil
 | (z,t)::l=>.cons ⟨t,rfl⟩ (vR l)
theorem split_len(z sep:Str):(Txt.split z sep).length<=z.length+2:=by
 unfold Txt.split
 split
 ·show 1<=_;lia
 ·split
  ·show 1<=_;lia
  ·rw[Kv]
   have h1:=StrLaws.occ_length_le_len z sep 0 z.length (z.length+1)
   have h2:∀(cuts:List Nat) (a:Nat),(StrLaws.partsFrom z sep.length a cuts).length=cuts.length+1:=by
    intro cuts
    induction cuts with
    | nil=>intro a;rfl
    | cons c r ih=>intro a;show(StrLaws.partsFrom z sep.length (c+sep.length) r).length+1=_;rw[ih];rfl
   rw[h2];lia
theorem S9:W9 X "str.split" R0:=by
 intro pins s σ H x vs v us Q I rx rv h
 obtain⟨z,sep,rfl,rfl,hs,hz,q⟩:=h
 obtain⟨t,rfl⟩:=rx
 obtain⟨u,rfl,ru⟩:=rv.one
 obtain⟨t2,rfl⟩:=ru
 have big:60002<=sizeLine:=by decide
 have hp:(partsBetween z (occurrences z sep 0 z.length (z.length+1)) sep.length).length<=sizeLine:=by
  rw[Kv]
  have h1:=StrLaws.occ_length_le_len z sep 0 z.length (z.length+1)
  have h2:∀(cuts:List Nat) (a:Nat),(StrLaws.partsFrom z sep.length a cuts).length=cuts.length+1:=by
   intro cuts
   induction cuts with
   | nil=>intro a;rfl
   | cons c r ih=>intro a;show(StrLaws.partsFrom z sep.length (c+sep.length) r).length+1=_;rw[ih];rfl
  rw[h2];lia
 refine Pb hs (by lia) hp λl tk hl=>?_
 refine⟨.ref s.heap.objs.size,_,I.laid (t':=tk) (o:=.lst (List.map V.str (Txt.split z sep))) (λb ob q=>dZ _ q) (bW _) ?_,rfl,q _ (I.cA.fresh (bW _))⟩
 refine⟨by rw[di];have:=split_len z sep;lia,strValues l,0,by rw[<-hl];exact vR l,kz _ rfl⟩
end
end L2
end
section
namespace L2
open PySem PySem.W PyProof.Rows
abbrev Qs(p:Array Nat)(i:Nat):Nat:=p.getD i 0
section
variable {b:Nat->Nat->Bool}{n:Nat}
end
section
variable {prog:Program}{w:World}{A:Around}{E:Value->Shared->Prop}{s:Shared}{κ:SortKind}{r:Keyed->Int}{U:Keyed->Prop}
end
section
variable {r:Keyed->Int}{tot o ra rb p:List Keyed}
end
section
variable {r:Keyed->Int}{a b o:Array Keyed}{x y k:Nat}
end
section
variable {prog:Program}{w:World}{A:Around}{E:Value->Shared->Prop}{s:Shared}{κ:SortKind}{r:Keyed->Int}{U:Keyed->Prop}
end
section
variable {r:Keyed->Int}{tot o ra rb p:List Keyed}
end
section
variable {r:Keyed->Int}{a b o:Array Keyed}{x y e:Nat}
end
section
variable {prog:Program}{w:World}{A:Around}{E:Value->Shared->Prop}{s:Shared}{κ:SortKind}{r:Keyed->Int}{U:Keyed->Prop}
end
section
variable {prog:Program}{w:World}{A:Around}{E:Value->Shared->Prop}{s:Shared}{κ:SortKind}{r:Keyed->Int}{a₀:Array Keyed}
end
section
variable {r:Keyed->Int}{xs ys:Array Keyed}
end
section
variable {prog:Program}{w:World}{A:Around}{E:Value->Shared->Prop}{s:Shared}{κ:SortKind}{r:Keyed->Int}{a₀:Array Keyed}
end
section
variable {prog:Program}{w:World}{A:Around}{E:Value->Shared->Prop}{s:Shared}{κ:SortKind}
end
end L2
end
section
namespace L2
open PySem PySem.Spec PySem.W PyProof.Rows Builtin
section
variable {P:Program}{w:World}{A:Around}{E:Value->Shared->Prop}{s:Shared}
end
section
variable {P:Program}{w:World}{H H1:Hp}{h h1 h2:Heap}{e a:Addr}{o:HO}{fs:List Addr}
end
section
variable {X:Cx}{pins:List (Addr×Obj)}{σ:St}{H:Hp}{s:Shared}
end
section
variable {P:Program}{w:World}{H':Hp}{h:Heap}{p a:Addr}
end
section
variable {X:Cx}{pins:List (Addr×Obj)}{σ:St}{H:Hp}{s:Shared}
end
section
variable {P:Program}{w:World}{A:Around}{E:Value->Shared->Prop}{s:Shared}{d it:Addr}{es:Array DictEntry}{ep i:Nat}
end
section
variable {X:Cx}{k:Nat}{f:Addr}{fd:FuncData}{pm g:Str}{e:Expr}{te:TE}{p kp YF pos:Pos}
end
section
variable {X:Cx}
def aBE(i j:Int):Prop:=0<j/\j<2 ^ 300
theorem Sv:nJ X (binaryOp .FloorDiv) (rI aBE λi j=>.int (i / j)):=opI λi j _ _ _ _ _ hc q=>by
 have h1:(0:Int)<j:=hc.1
 have h2:j<2 ^ 300:=hc.2
 refine floordiv_int (by omega) (by rw[Int.fdiv_eq_ediv_of_nonneg i (by omega)];exact q) (.inl (PyProof.noPylong_of_log2 ?_))
 have h3:j.natAbs<2 ^ 300:=by omega
 have h4:j.natAbs≠0:=by omega
 have:=(Nat.log2_lt h4).mpr h3
 omega
variable {k:Nat}{f:Addr}{fd:FuncData}{pm g:Str}{e:Expr}{te:TE}{p kp YF pos:Pos}
end
end L2
namespace L2
open PySem PySem.Spec PySem.W PyProof.Rows Builtin
end L2
end
section
namespace L2
open PySem PySem.Spec PyProof.Rows
section
variable {X:Cx}{tg:Expr}
end
theorem T9{α:Type} [DecidableEq α] {cl dl:List α}:((List.range (min cl.length dl.length)).all (λj=>decide (cl[j]?=dl[j]?))&&cl.length==dl.length)=decide (cl=dl):=by
 rw[t8,gO,su,Bb,beq_iff_eq]
 constructor
 ·rintro⟨h,l⟩
  apply Kl
  intro i
  by_cases hi:i<cl.length
  ·exact of_decide_eq_true (h i (List.mem_range.mpr (by lia)))
  ·rw[Be (by lia),Be (by lia)]
 ·rintro rfl
  exact⟨λj _=>decide_eq_true rfl,rfl⟩
section
variable {X:Cx}{pins:List (Addr×Obj)}{s:Shared}{σ:St}{H:Hp}{A:Around}
end
section
variable {X:Cx}{pins:List (Addr×Obj)}{σ:St}{H:Hp}{s:Shared}
end
section
variable {X:Cx}{elt target iter:Expr}{ifs:List Expr}{scope:Scope}{pos:Pos}{cs xs:List Str}{idx:List Nat}{wi:TI}{g:CB->TG}{tt:CB->TT}{te:CB->TE}
end
section
variable {X:Cx}{N:List Str}{uA:Scope}{elt target iter:Expr}{ifs:List Expr}{scope:Scope}{pos:Pos}{wi:TI}{g:CB->TG}{tt:CB->TT}{te:CB->TE}
end
def sQ(c:Nat):List (List Nat)->List Nat
 | []=>[]
 | [x]=>x
 | x::y::r=>x++c::sQ c (y::r)
theorem qH(c:Nat):∀ss:List Str,(Str.join ⟨#[c]⟩ ss).cps.toList=sQ c (ss.map λz=>z.cps.toList)
 | []=>rfl
 | [x]=>rfl
 | x::y::r=>by
  show(x++(⟨#[c]⟩:Str)++Str.join ⟨#[c]⟩ (y::r)).cps.toList=_
  rw[nD,nD,qH c (y::r)]
  show(x.cps.toList++[c])++sQ c (y.cps.toList::r.map λz=>z.cps.toList)=x.cps.toList++c::sQ c (y.cps.toList::r.map λz=>z.cps.toList)
  simp
theorem JC{c:Nat}:∀{a b u v:List Nat},c∉a->c∉b->a++c::u=b++c::v->a=b/\u=v
 | [],[],u,v,_,_,h=>by
  injection h with _ h2
  exact⟨rfl,h2⟩
 | [],y::b,u,v,_,hb,h=>by
  injection h with h1 _
  exact absurd (by rw[h1];exact gP) hb
 | x::a,[],u,v,ha,_,h=>by
  injection h with h1 _
  exact absurd (by rw[h1];exact gP) ha
 | x::a,y::b,u,v,ha,hb,h=>by
  injection h with h1 h2
  obtain⟨e1,e2⟩:=JC (λz=>ha (kP _ z)) (λz=>hb (kP _ z)) h2
  exact⟨by rw[h1,e1],e2⟩
theorem CP{c:Nat}:∀{as bs:List (List Nat)},as≠[]->bs≠[]->(∀a∈as,c∉a)->(∀b∈bs,c∉b)->sQ c as=sQ c bs->as=bs
 | [],_,h,_,_,_,_=>absurd rfl h
 | _::_,[],_,h,_,_,_=>absurd rfl h
 | [a],[b],_,_,_,_,h=>by rw[show a=b from h]
 | [a],b::b2::r,_,_,ha,_,h=>by
  have h':a=b++c::sQ c (b2::r):=h
  exact absurd (by rw[h'];simp) (ha a gP)
 | a::a2::r,[b],_,_,_,hb,h=>by
  have h':a++c::sQ c (a2::r)=b:=h
  exact absurd (by rw[<-h'];simp) (hb b gP)
 | a::a2::r,b::b2::q,_,_,ha,hb,h=>by
  have h':a++c::sQ c (a2::r)=b++c::sQ c (b2::q):=h
  obtain⟨e1,e2⟩:=JC (ha a gP) (hb b gP) h'
  rw[e1,CP (by simp) (by simp) (λz hz=>ha z (kP _ hz)) (λz hz=>hb z (kP _ hz)) e2]
theorem yU(z sep:Str):Txt.split z sep≠[]:=by
 unfold Txt.split
 split
 ·simp
 ·split
  ·simp
  ·rw[Kv]
   generalize Builtin.Str.occurrences z sep 0 z.length (z.length+1)=cuts
   cases cuts with
   | nil=>intro h;cases h
   | cons a r=>intro h;cases h
theorem yV{c:Nat}{ws:List Str}(h0:ws≠[])(h:∀w∈ws,c∉w.cps.toList):Txt.split (Txt.join ⟨#[c]⟩ ws) ⟨#[c]⟩=ws:=by
 have e:Str.join ⟨#[c]⟩ (Txt.split (Txt.join ⟨#[c]⟩ ws) ⟨#[c]⟩)=Str.join ⟨#[c]⟩ ws:=by
  rw[StrLaws.join_split];exact Kq _ _
 have e2:=ni (λz:Str=>z.cps.toList) e
 rw[qH,qH]at e2
 have inj:=CP (c:=c) (by simpa using yU _ _) (by simpa using h0) (λa ha=>?_) (λb hb=>?_) e2
 ·refine(List.map_inj_right (λa b hab=>?_)).mp inj
  cases a;cases b
  congr 1
  exact Array.ext' hab
 ·obtain⟨p,hp,rfl⟩:=nQ.mp ha
  exact StrLaws.split_free _ _ p hp
 ·obtain⟨p,hp,rfl⟩:=nQ.mp hb
  exact h p hp
section
variable {prog:Program}{w:World}{A:Around}{E:Value->Shared->Prop}{s:Shared}
end
def Itz(K : PySem.W.Frag)(a b : Addr)(n : Nat) : It :=
  ⟨λi H => i<n ∧ ∃ xs ys, wV K H a xs ∧ wV K H b ys ∧ xs.length=n ∧ ys.length=n,
   λi H v H' => ∃ p, H p=none ∧ v=.ref p ∧ ∀ xs ys, wV K H a xs → wV K H b ys → ∃ x y, xs[i]?=some x ∧ ys[i]?=some y ∧ H'=upd H p (.tup [x, y]),
   λi H => i=n ∧ ∃ xs, wV K H a xs ∧ xs.length=n⟩
section
variable {X:Cx}
def aDk(K:PySem.W.Frag)(ta:TA):TI:=λσ H R=>ta σ H λvs H1=>∃a b,vs=[.ref a,.ref b]/\∃xs ys,wV K H1 a xs/\wV K H1 b ys/\xs.length=ys.length/\R (Itz K a b xs.length) H1
end
section
variable {P:Program}{w:World}{A:Around}{E:Value->Shared->Prop}{s:Shared}{a:Addr}{l:List (Int×Tok)}
end
section
variable {P:Program}{w:World}{A:Around}{R:Result->Shared->Prop}{I:Addr}{fp wr:List Addr}{G:Array GenState->Array GenState->Prop}{n:Nat}{Pv:Nat->Value->Prop}{St:Nat->Shared->Prop}
end
section
variable {P:Program}{w:World}{A:Around}{E:Value->Shared->Prop}{s:Shared}
end
section
variable {P:Program}{w:World}{A:Around}{E:Value->Shared->Prop}{s:Shared}{a:Addr}{l:List (Int×Tok)}
end
section
variable {P:Program}{w:World}{A:Around}{E:Value->Shared->Prop}{s:Shared}{a:Addr}{es:Array (Int×Value)}{t:SetTable}{ep slot i:Nat}
end
section
variable {P:Program}{w:World}{A:Around}{E:Value->Shared->Prop}{s:Shared}{a:Addr}{l:List (Int×Tok)}
end
section
variable {X:Cx}
end
end L2
end
section
namespace HT
open PySem PyProof.Rows L2
section
variable {prog:Program}{w:World}{A:Around}{E:Value->Shared->Prop}{s:Shared}
end
end HT
namespace L2
open PySem PySem.Spec PyProof.Rows
section
variable {X:Cx}
end
section
variable {X:Cx}{pins:List (Addr×Obj)}{s:Shared}{σ:St}{H:Hp}
end
end L2
end
section
namespace L2
open PySem
theorem mU(K:PySem.W.Frag)(T:String):PySem.W.kitOne K (.type T) (.type T)=some true:=by
 unfold PySem.W.kitOne
 rw[bH (by simp)]
theorem YG{K:PySem.W.Frag}{A B:String}(h:(Value.type A==Value.type B)=false)(e:PySem.W.kitCls K (.type A) (.type B)=some false):PySem.W.kitOne K (.type A) (.type B)=some false:=by
 unfold PySem.W.kitOne
 rw[aR (by rw[h];exact gW)]
 exact e
end L2
end
section
namespace L2
open PySem PySem.Spec PyProof.Rows
section
variable {P:Program}{w:World}{A:Around}{E:Value->Shared->Prop}{s:Shared}
end
section
variable {X:Cx}
end
section
variable {P:Program}{w:World}{κ:Type} [DecidableEq κ] {knd:PySem.KeyKind P w κ} {A:Around} {E:Value->Shared->Prop} {s:Shared} {a b:Addr} {aX aCW:List (κ×Value)}
end
section
variable {X:Cx}
end
section
variable {X:Cx}{pins:List (Addr×Obj)}{σ:St}{H:Hp}{s:Shared}{d:Addr}{o:Obj}{aX:List (Key×V)}
end
section
variable {X:Cx}{tg:Expr}
end
section
variable {X:Cx}
end
section
variable {X:Cx}{N:List Str}{sc:Scope}{pos:Pos}
end
section
variable {X:Cx}
end
end L2
end
section
namespace L2
structure Nx(P R:St->Hp->Prop):Prop where
 to:∀σ H,P σ H->R σ H
theorem kl{t u:TS}{D:Ends}{σ:St}{H:Hp}(h:∀R:St->Hp->Prop,Nx (u D) R->t { D with nx:=R } σ H):tSeq t u D σ H:=h (u D) ⟨λ_ _ z=>z⟩
end L2
end
section
namespace L2
open PySem PySem.Spec PyProof.Rows
open PySem.W (Frag Looks)
abbrev veM:List Value:=[.type "ValueError",.type "Exception",.type "BaseException",.type "object"]
def Us(K:Frag)(n:Addr):Bool:=match K.lookup n with
 | some o=>(match o.data with | .dict es _=>es.toList.all λe=>(match e.key with | .str _ _=>true | _=>false) | _=>false)
 | none=>false
theorem Wr{K:Frag}{h:Heap}{n:Addr}(X:K.In h)(q:Us K n=true):∃m,h.Ns n m:=by
 unfold Us at q
 cases e:K.lookup n with
 | none=>rw[e]at q;cases q
 | some o=>
  rw[e]at q
  dsimp only at q
  cases d:o.data with
  | dict es ep=>
   rw[d]at q
   dsimp only at q
   refine⟨nsFind es,o,es,ep,X _ _ e,d,λx hx=>?_,λ_=>rfl⟩
   have:=su.mp q x (Array.mem_toList_iff.mpr hx)
   cases k:x.key with
   | str y t=>exact⟨y,t,rfl⟩
   | _=>rw[k]at this;cases this
  | _=>rw[d]at q;cases q
def Ur(K:Frag):List Value->Bool
 | .ref a::tl=>(match K.lookup a with
  | some o=>(match o.data with | .cls cd=>Us K cd.ns&&(PySem.W.nsIn K cd.ns "__init__" == some none) | _=>false)
  | none=>false)&&Ur K tl
 | l=>l==veM
theorem Wq{K:Frag}{h:Heap}(X:K.In h):∀{l:List Value},Ur K l=true->OwnTail h veM l
 | .ref a::tl,q=>by
  simp only[Ur,gO]at q
  obtain⟨q,r⟩:=q
  cases e:K.lookup a with
  | none=>rw[e]at q;cases q
  | some o=>
   rw[e]at q
   obtain⟨oc,od,da,sl⟩:=o
   cases da with
   | cls cd=>
    simp only[gO,beq_iff_eq]at q
    obtain⟨m,hm⟩:=Wr X q.1
    exact .own (X _ _ e) hm (PySem.W.ns_none_of X hm q.2) (Wq X r)
   | _=>cases q
 | [],q=>by cases eq_of_beq q
 | .type n::tl,q=>by rw[show Value.type n::tl=veM from eq_of_beq q];exact .base
 | .none::tl,q=>by cases eq_of_beq q
 | .bool _::tl,q=>by cases eq_of_beq q
 | .int _ _::tl,q=>by cases eq_of_beq q
 | .str _ _::tl,q=>by cases eq_of_beq q
 | .builtin _::tl,q=>by cases eq_of_beq q
 | .float _ _::tl,q=>by cases eq_of_beq q
 | .bytes _ _::tl,q=>by cases eq_of_beq q
 | .ellipsis::tl,q=>by cases eq_of_beq q
 | .notImplemented::tl,q=>by cases eq_of_beq q
def kj(K:Frag)(C:Addr):Bool:=match K.lookup C with
 | some o=>o.cls == .type "type" && (match o.data with
  | .cls cd=>!cd.hasDel&&cd.hasDict&&Us K cd.ns&&(match cd.mro with | v::tl=>v == .ref C&&Ur K tl | []=>false) | _=>false)&&(match o.slots.toList with | [_,_,_,_,some v,_]=>v == .builtin "ValueError.__new__" | _=>false)
 | none=>false
theorem nU{K:Frag}{h:Heap}{C:Addr}(X:K.In h)(q:kj K C=true):∃nm qn N bs bm sn sub ab col dd k0 k1 k2 k3 k5 mN,h.get? C=some (excClassObj nm qn C N bs bm true sn sub ab col dd k0 k1 k2 k3 k5 "ValueError.__new__")/\h.Ns N mN/\OwnTail h veM bm:=by
 unfold kj at q
 cases e:K.lookup C with
 | none=>rw[e]at q;cases q
 | some o=>
  rw[e]at q
  obtain⟨oc,od,da,sl⟩:=o
  simp only[gO,beq_iff_eq]at q
  obtain⟨⟨rfl,q1⟩,q2⟩:=q
  cases da with
  | cls cd=>
   obtain⟨nm,bs,mro,ns,qn,hd,sn,sub,ab,col,del⟩:=cd
   simp only[gO,Eg]at q1
   obtain⟨⟨⟨rfl,rfl⟩,n1⟩,q1⟩:=q1
   cases mro with
   | nil=>cases q1
   | cons v tl=>
    simp only[gO,beq_iff_eq]at q1
    obtain⟨rfl,q1⟩:=q1
    obtain⟨l⟩:=sl
    match l,q2 with
    | [k0,k1,k2,k3,some v,k5],q2=>
     obtain⟨m,hm⟩:=Wr X n1
     have ev:v=.builtin "ValueError.__new__":=eq_of_beq q2
     subst ev
     exact⟨nm,qn,ns,bs,tl,sn,sub,ab,col,od,k0,k1,k2,k3,k5,m,X _ _ e,hm,Wq X q1⟩
  | _=>cases q1
section
variable {prog:Program}{w:World}{A:Around}{E:Value->Shared->Prop}{s:Shared}{K:Frag}{C fI:Addr}
theorem z7{rest:List Value}{Q:PySem.Fin->Shared->Prop}(X:K.In s.heap)(q:kj K C=true)(hi:PySem.W.findIn K (.ref C) "__init__" = some (some (.ref fI)))(hf:PySem.W.typeIn K (.ref fI)=some (.type "function"))
  (hq:∀h',Heap.MadeExcOf s.heap h' (s.heap.objs.size+1) (.ref C) rest->wpAny (model prog w) A (call (.ref fI) (.ref (s.heap.objs.size+1)::rest)) (λr s'=>r=.none/\Q (.done (.ret (.ref (s.heap.objs.size+1)))) s') E { s with heap:=h' }) (v8:rest.length<=sizeLine) :
  wpAny (model prog w) A (Builtin.«type.__call__» ⟨.ref C::rest,[]⟩) Q E s:=by
 obtain⟨nm,qn,N,bs,bm,sn,sub,ab,col,dd,k0,k1,k2,k3,k5,mN,hC,hN,T⟩:=nU X q
 obtain⟨h,g,d,t,os⟩:=s
 dsimp only at X hC hN T hq
 repeat (first | with_reducible refine ua hC ?_ | with_reducible refine wpAny_madeBy_exc hC ?_ | wp_step)
 have FF:=KJ
 refine codeAny_call_builtin_code (Gq _ FF.quiet) (wpAny_check_new_subU FF (by decide +kernel) T hC (codeAny_exc_new_subU FF (by decide +kernel) FF T hC ?_ v8))
 show wpAny _ _ _ _ _ _
 have kp:∀b o,h.get? b=some o->((h.push { cls:=.type "tuple",data:=.seq rest.toArray }).push { cls:=.ref C,data:=.fields #[.ref h.objs.size,.none,.none,.none,.bool false,.none] }).get? b=some o:=λb o e=>dZ _ (dZ _ e)
 have e1:((h.push { cls:=.type "tuple",data:=.seq rest.toArray }).push { cls:=.ref C,data:=.fields #[.ref h.objs.size,.none,.none,.none,.bool false,.none] }).get? (h.objs.size+1)=some { cls:=.ref C,data:=.fields #[.ref h.objs.size,.none,.none,.none,.bool false,.none] }:=by heap_get
 have mk:Heap.MadeExcOf h ((h.push { cls:=.type "tuple",data:=.seq rest.toArray }).push { cls:=.ref C,data:=.fields #[.ref h.objs.size,.none,.none,.none,.bool false,.none] }) (h.objs.size+1) (.ref C) rest:=⟨kp,Gy (nP _),h.objs.size,e1,Gy (bW _),dZ _ (Heap.get?_push_at rfl rfl)⟩
 generalize ((h.push { cls:=.type "tuple",data:=.seq rest.toArray }).push { cls:=.ref C,data:=.fields #[.ref h.objs.size,.none,.none,.none,.bool false,.none] })=h2 at kp e1 mk ⊢
 have hC2:=kp _ _ hC
 have X2:K.In h2:=X.keeps kp
 have hcC:(Value.ref C::bm).contains (.ref C)=true:=by simp
 unfold isInstance
 repeat (first | with_reducible refine ua e1 ?_ | (with_reducible refine xq hC2 ?_;rw[hcC]) | wp_step)
 show wpAny _ _ (typeLookup (.ref C) _) _ _ _
 refine(xt (M:=model prog w) (h:=h2) X2 hi) _ _ _ _ (λ_ _ e=>e) (lR (aL ((PySem.W.bind_fn (M:=model prog w) (h:=h2) X2 (.ref (h.objs.size+1)) hf) _ _ _ _ (λ_ _ e=>e) ?_)))
 refine aL (iX (hq h2 mk) (λr s' hr=>?_) λ_ _ z=>z)
 obtain⟨rfl,z⟩:=hr
 wp_walk
 exact z
theorem TV{rest:List Value}{Q:Value->Shared->Prop}(X:K.In s.heap)(q:kj K C=true)(hi:PySem.W.findIn K (.ref C) "__init__" = some (some (.ref fI)))(hf:PySem.W.typeIn K (.ref fI)=some (.type "function"))
  (hq:∀h',Heap.MadeExcOf s.heap h' (s.heap.objs.size+1) (.ref C) rest->wpAny (model prog w) (A.under (.builtin "type.__call__" ⟨.ref C::rest,[]⟩)) (call (.ref fI) (.ref (s.heap.objs.size+1)::rest)) (λr s'=>r=.none/\Q (.ref (s.heap.objs.size+1)) s') E { s with heap:=h' }) (v8:rest.length<=sizeLine) :
  wpAny (model prog w) A (call (.ref C) rest) Q E s:=by
 obtain⟨nm,qn,N,bs,bm,sn,sub,ab,col,dd,k0,k1,k2,k3,k5,mN,hC,hN,T⟩:=nU X q
 obtain⟨h,g,d,t,os⟩:=s
 dsimp only at X hC hN T hq
 have f1:=tc_lookup
 have f2:=tc_bind (.ref C)
 have hT:(⟨h,g,d,t,os⟩:Shared).TypeIs (.ref C) "type":=⟨_,hC,rfl⟩
 refine pV (DY (show wpAny _ _ (callAny (.ref C) _) _ _ _ from ?_))
 repeat (any_goals (first | assumption | with_reducible refine ua hC ?_ | wp_step))
 refine⟨rfl,codeAny_call_builtin_at (Gq _ (by decide +kernel)) entry_typeCall (wpAny_check_type_call_sub hC (z7 (s:=⟨h,g,d,t,os⟩) X q hi hf (λh' hm=>?_) v8))⟩
 exact hq h' hm
theorem wC{rest:List Value}{Q:PySem.Fin->Shared->Prop}(X:K.In s.heap)(q:kj K C=true)(hi:PySem.W.findIn K (.ref C) "__init__" = some (some (.builtin "ValueError.__init__")))
  (hq:∀h' t,(∀b o,s.heap.get? b=some o->h'.get? b=some o)->h'.get? (s.heap.objs.size+1)=some { cls:=.ref C,data:=.fields #[.ref t,.none,.none,.none,.bool false,.none] }->Q (.done (.ret (.ref (s.heap.objs.size+1)))) { s with heap:=h' }) (v8:rest.length<=sizeLine) :
  wpAny (model prog w) A (Builtin.«type.__call__» ⟨.ref C::rest,[]⟩) Q E s:=by
 obtain⟨nm,qn,N,bs,bm,sn,sub,ab,col,dd,k0,k1,k2,k3,k5,mN,hC,hN,T⟩:=nU X q
 obtain⟨h,g,d,t,os⟩:=s
 dsimp only at X hC hN T hq
 repeat (first | with_reducible refine ua hC ?_ | with_reducible refine wpAny_madeBy_exc hC ?_ | wp_step)
 have FF:=KJ
 refine codeAny_call_builtin_code (Gq _ FF.quiet) (wpAny_check_new_subU FF (by decide +kernel) T hC (codeAny_exc_new_subU FF (by decide +kernel) FF T hC ?_ v8))
 show wpAny _ _ _ _ _ _
 have kp:∀b o,h.get? b=some o->((h.push { cls:=.type "tuple",data:=.seq rest.toArray }).push { cls:=.ref C,data:=.fields #[.ref h.objs.size,.none,.none,.none,.bool false,.none] }).get? b=some o:=λb o e=>dZ _ (dZ _ e)
 have e1:((h.push { cls:=.type "tuple",data:=.seq rest.toArray }).push { cls:=.ref C,data:=.fields #[.ref h.objs.size,.none,.none,.none,.bool false,.none] }).get? (h.objs.size+1)=some { cls:=.ref C,data:=.fields #[.ref h.objs.size,.none,.none,.none,.bool false,.none] }:=by heap_get
 generalize ((h.push { cls:=.type "tuple",data:=.seq rest.toArray }).push { cls:=.ref C,data:=.fields #[.ref h.objs.size,.none,.none,.none,.bool false,.none] })=h2 at kp e1 ⊢
 have hC2:=kp _ _ hC
 have X2:K.In h2:=X.keeps kp
 have T2:=T.keeps kp
 have hcC:(Value.ref C::bm).contains (.ref C)=true:=by simp
 unfold isInstance
 repeat (first | with_reducible refine ua e1 ?_ | (with_reducible refine xq hC2 ?_;rw[hcC]) | wp_step)
 show wpAny _ _ (typeLookup (.ref C) _) _ _ _
 refine(xt (M:=model prog w) (h:=h2) X2 hi) _ _ _ _ (λ_ _ e=>e) (lR (aL (xu (FF.init.bind _) ?_)))
 refine aL (pV (Bc FF.init.plain FF.initEntry (wpAny_check_init_subU FF T2 hC2 e1 rfl ?_)))
 have e3:(h2.push { cls:=.type "tuple",data:=.seq rest.toArray }).get? (h.objs.size+1)=some { cls:=.ref C,data:=.fields #[.ref h.objs.size,.none,.none,.none,.bool false,.none] }:=dZ _ e1
 wp_walk
 refine hq _ h2.objs.size (λb o hb=>?_) ?_
 ·rw[sx _ _ (xh (Ba (cp hb)))]
  exact dZ _ (kp _ _ hb)
 ·exact(qc (Obj.mapFields λx=>x.setIfInBounds 0 (Value.ref h2.objs.size)) e3 rfl).trans rfl
theorem call_plain{rest:List Value}{Q:Value->Shared->Prop}(X:K.In s.heap)(q:kj K C=true)(hi:PySem.W.findIn K (.ref C) "__init__" = some (some (.builtin "ValueError.__init__")))
  (hq:∀h' t,(∀b o,s.heap.get? b=some o->h'.get? b=some o)->h'.get? (s.heap.objs.size+1)=some { cls:=.ref C,data:=.fields #[.ref t,.none,.none,.none,.bool false,.none] }->Q (.ref (s.heap.objs.size+1)) { s with heap:=h' }) (v8:rest.length<=sizeLine) :
  wpAny (model prog w) A (call (.ref C) rest) Q E s:=by
 obtain⟨nm,qn,N,bs,bm,sn,sub,ab,col,dd,k0,k1,k2,k3,k5,mN,hC,hN,T⟩:=nU X q
 obtain⟨h,g,d,t,os⟩:=s
 dsimp only at X hC hN T hq
 have f1:=tc_lookup
 have f2:=tc_bind (.ref C)
 have hT:(⟨h,g,d,t,os⟩:Shared).TypeIs (.ref C) "type":=⟨_,hC,rfl⟩
 refine pV (DY (show wpAny _ _ (callAny (.ref C) _) _ _ _ from ?_))
 repeat (any_goals (first | assumption | with_reducible refine ua hC ?_ | wp_step))
 refine⟨rfl,codeAny_call_builtin_at (Gq _ (by decide +kernel)) entry_typeCall (wpAny_check_type_call_sub hC (wC (s:=⟨h,g,d,t,os⟩) X q hi (λh' t k z=>?_) v8))⟩
 exact hq h' t k z
end
section
variable {prog:Program}{w:World}{A:Around}{E:Value->Shared->Prop}{s:Shared}{K:Frag}{C e:Addr}{oe:Obj}{vs:Array Value}
theorem Qp{t0:Addr}{rest:List Value}{Q:Value->Shared->Prop}(X:K.In s.heap)(q:kj K C=true)(he:s.heap.get? e=some { cls:=.ref C,data:=.fields #[.ref t0,.none,.none,.none,.bool false,.none] })
  (hq:Q .none { s with heap:=(s.heap.push { cls:=.type "tuple",data:=.seq rest.toArray }).update e (Obj.mapFields (·.setIfInBounds 0 (Value.ref s.heap.objs.size))) }) (v8:rest.length<=sizeLine) :
  wpAny (model prog w) A (call (.builtin "ValueError.__init__") (.ref e::rest)) Q E s:=by
 obtain⟨nm,qn,N,bs,bm,sn,sub,ab,col,dd,k0,k1,k2,k3,k5,mN,hC,hN,T⟩:=nU X q
 have FF:=KJ
 obtain⟨h,g,d,t,os⟩:=s
 dsimp only at X hC hN T hq he
 have W0:(h.push { cls:=.type "tuple",data:=.seq rest.toArray }).get? e=some { cls:=.ref C,data:=.fields #[.ref t0,.none,.none,.none,.bool false,.none] }:=dZ _ he
 refine pV (Bc FF.init.plain FF.initEntry (wpAny_check_init_subU FF T hC he rfl ?_))
 wp_walk
 exact hq
theorem Hk(self:Value){h:Heap}{l:List Value}(T:OwnTail h veM l):refuseLoop self "__setattr__" l=pure ():=by
 induction T with
 | base=>exact PySem.F.store_ValueError.passes self
 | own _ _ _ _ ih=>rw[refuseLoop_ref];exact ih
theorem O3{name:Str}{tk:Tok}{v:Value}{R:Result->Shared->Prop}(X:K.In s.heap)(q:kj K C=true)(he:s.heap.get? e=some oe)(hc:oe.cls=.ref C)(ht:PySem.W.takerIn K C name=some none)
  (h:∀b,wpAny (model prog w) A.in1 (Builtin.ObjectAttr.storeInOwnDict (.ref e) (.ref C) (.str name tk) name v b) (λfin s'=>match fin with | .done f=>R (.ok f) s' | .again c'=>c'.quiet=true/\codeAny (model prog w) A c' R s') (λx s'=>R (.error x) s') s) :
  codeAny (model prog w) A (.call (.builtin "object.__setattr__") ⟨[.ref e,.str name tk,v],[]⟩) R s:=by
 obtain⟨nm,qn,N,bs,bm,sn,sub,ab,col,dd,k0,k1,k2,k3,k5,mN,hC,hN,T⟩:=nU X q
 have SF:=PySem.F.store_object
 have ty:Looks (model prog w) s.heap (typeOf (.ref e)) (.ref C):=hc ▸ (Looks.ld he).andThen .now
 have sub:Looks (model prog w) s.heap (isInstance (.ref e) (.type "object")) true:=ty.andThen (λA Q E s k z=>by
  obtain⟨h,g,d,t,os⟩:=s
  refine xq (k _ _ hC) ?_
  rw[Gv,T.hasType (X:="object") (b:=true) (by decide +kernel),xC]
  exact z)
 refine Bc SF.slot.plain SF.entry (@Kp (model prog w) _ _ s "object.__setattr__" "object" "__setattr__" (.ref e) [.str name tk,v] [] _ SF.kind SF.split sub (SF.args (.ref e) (.str name tk) v) ?_)
 obtain⟨attr,ha,hr⟩:=GC.mp ht
 have hm:Looks (model prog w) s.heap (mroOf (.ref C)) (.ref C::bm):=λA Q E s k z=>by
  obtain⟨h,g,d,t,os⟩:=s
  exact wpAny_mroOf_exc (k _ _ hC) z
 have L3:Looks (model prog w) s.heap (Builtin.ObjectAttr.storeTaker? attr) none:=by
  cases attr with
  | none=>exact .now
  | some a=>
   obtain⟨b,hb,z⟩:=Bf.mp hr
   cases b with
   | true=>cases z
   | false=>exact(PySem.W.looks_takesIn X hb).andThen .now
 rw[PySem.W.osa_eq,refuse_eq]
 refine aL (aL (ty.here (aL (hm.here ?_))))
 rw[refuseLoop_ref,Hk _ T]
 exact bx (aL (ty.here (aL ((xt X ha).here (aL (L3.here (h _)))))))
theorem aBI{name:Str}{v:Value}{Q:Unit->Shared->Prop}(X:K.In s.heap)(q:kj K C=true)(he:s.heap.get? e=some oe)(hc:oe.cls=.ref C)(hd:oe.dict=none)(hvs:oe.data=.fields vs)
  (hs:PySem.W.findIn K (.ref C) "__setattr__" = some (some (.builtin "object.__setattr__"))) (ht:PySem.W.takerIn K C name=some none)
  (h:∀h' tk,h'.get? e=some { oe with dict:=some s.heap.objs.size }->h'.Ns1 s.heap.objs.size (λy=>if y=name then some v else none)->(∀b o,b≠e->s.heap.get? b=some o->h'.get? b=some o)->Q () { s with heap:=h',toks:=tk }) :
  wpAny (model prog w) A (setAttr (.ref e) name v) Q E s:=by
 obtain⟨oc,od,oda,Kc⟩:=oe
 dsimp only at hc hd hvs
 subst hc hd hvs
 have J:PySem.W.InstAt s.heap e ⟨.ref C,none,.fields vs,Kc⟩ C none:=⟨he,rfl,rfl,True.intro⟩
 refine PySem.W.set_plain X J hs (O3 (s:={ s with toks:=s.toks+1 }) X q he rfl ht λb=>?_)
 obtain⟨nm,qn,N,bs,bm,sn,sub,ab,col,dd,k0,k1,k2,k3,k5,mN,hC,hN,T⟩:=nU X q
 have Fy:Looks (model prog w) s.heap (classData C) _:=(Looks.ld (part:=none) hC).andThen .now
 refine aL (bx (aL (aL (wpAny_loadPart he (aL (Looks.here (s:={ s with toks:=s.toks+1 }) Fy ?_))))))
 rw[aR (by simp)]
 dsimp only
 rw[aR (by simp[typeHasDict])]
 have W0:(s.heap.push { cls:=.type "dict",data:=.dict #[] }).get? e=some ⟨.ref C,none,.fields vs,Kc⟩:=dZ _ he
 have pE:e≠s.heap.objs.size:=dm (cp he)
 refine aL (wpAny_alloc' (aL (wpAny_update' W0 ?_)))
 refine bx ?_
 have hx2:=qc (λo:Obj=>{ cls:=o.cls,dict:=some s.heap.objs.size,data:=o.data,slots:=o.slots }) W0 rfl
 have kp2:∀b o,b≠e->(s.heap.push { cls:=.type "dict",data:=.dict #[] }).get? b=some o->((s.heap.push { cls:=.type "dict",data:=.dict #[] }).update e λo=>{ cls:=o.cls,dict:=some s.heap.objs.size,data:=o.data,slots:=o.slots }).get? b=some o:=λb o hb z=>(Heap.get?_update_ne _ _ _ _ hb).trans z
 have hgd:=kp2 _ _ pE.symm (Heap.get?_push_at (h:=s.heap) (o:={ cls:=.type "dict",data:=.dict #[] }) rfl rfl)
 have kp3:∀b o,b≠e->s.heap.get? b=some o->((s.heap.push { cls:=.type "dict",data:=.dict #[] }).update e λo=>{ cls:=o.cls,dict:=some s.heap.objs.size,data:=o.data,slots:=o.slots }).get? b=some o:=λb o hb z=>kp2 b o hb (dZ _ z)
 generalize ((s.heap.push { cls:=.type "dict",data:=.dict #[] }).update e λo=>{ cls:=o.cls,dict:=some s.heap.objs.size,data:=o.data,slots:=o.slots })=h2 at hx2 hgd kp3 ⊢
 have hnd:h2.Ns s.heap.objs.size (λ_=>none):=⟨_,#[],_,hgd,rfl,λx hx=>absurd hx (by simp),λ_=>rfl⟩
 refine aL (bx (aL ?_))
 refine wpAny_nsSet1 (s:={ s with heap:=h2,toks:=s.toks+1 }) (Heap.Ns1.of_empty hnd) λh' Tp sb=>?_
 obtain⟨oD,esD,epD,hoD,hdD,hcD⟩:=Tp.count (Within.cons name v Within.nil)
 refine aL (wpAny_lookBehind hoD (by rw[hdD];exact pastItsLine_dict (jY hcD (by rw[vF,Ea,sizeLine_eq];omega))) ?_)
 exact bx (h h' _ ((sb.2 _ pE).trans hx2) Tp λb o hb z=>(sb.2 b (dm (cp z))).trans (kp3 b o hb z))
theorem aBJ{od:Option Obj}{name:Str}{v:Value}{expr:Bool}{Q:Value->Shared->Prop}(X:K.In s.heap)(q:kj K C=true)(I:PySem.W.InstAt s.heap e oe C od)
  (hga:PySem.W.findIn K (.ref C) "__getattribute__" = some (some (.builtin "BaseException.__getattribute__"))) (hgb:PySem.W.findIn K (.ref C) "__getattr__" = some none)
  (hf:PySem.W.findObj K C od name=some (.value v)) (hh:PySem.W.handedIn v=true) (h:Q v { s with toks:=s.toks+1 }):wpAny (model prog w) A (getAttr (.ref e) name expr) Q E s:=by
 obtain⟨nm,qn,N,bs,bm,sn,sub,ab,col,dd,k0,k1,k2,k3,k5,mN,hC,hN,T⟩:=nU X q
 obtain⟨hp,g,d,t,os⟩:=s
 dsimp only at X I hC
 have ty:=I.type (M:=model prog w)
 have L1:=xt (M:=model prog w) X hga
 have L2:=xt (M:=model prog w) X hgb
 have L3:=PySem.W.looks_find (M:=model prog w) X I hf
 have FA:=PySem.F.attr_ValueError
 unfold getAttr getAttrBy
 refine aL (wpAny_mkText (lR (aL (ty.at (aL (L1.at ?_))))))
 dsimp only
 rw[show(onTheHeap (Value.ref C)&&Value.builtin "BaseException.__getattribute__" == Value.builtin "object.__getattribute__")=false from by rw[show(Value.builtin "BaseException.__getattribute__" == Value.builtin "object.__getattribute__")=false from by decide +kernel];rfl,aR (by decide)]
 refine aL (L2.at (aL (xB (lR ?_))))
 unfold callGetattribute
 rw[show(expr&&onTheHeap (Value.builtin "BaseException.__getattribute__"))=false from Bool.and_false _,aR (by decide)]
 unfold boundAndCalled
 rw[FA.ga.bind]
 refine aL (bx (pV (Bc FA.ga.plain PySem.F.entry_bexc_ga ?_)))
 have sub:Looks (model prog w) hp (isInstance (.ref e) (.type "BaseException")) true:=ty.andThen (λA Q E s k z=>by
  obtain⟨h,g,d,t,os⟩:=s
  refine xq (k _ _ hC) ?_
  rw[Gv,T.hasType (X:="BaseException") (b:=true) (by decide +kernel),xC]
  exact z)
 refine @Kp (model prog w) _ _ ⟨hp,g,d,t+1,os⟩ "BaseException.__getattribute__" "BaseException" "__getattribute__" (.ref e) [.str name t] [] _ (by decide +kernel) (by decide +kernel) sub (PySem.F.args_bexc_ga (.ref e) (.str name t)) ?_
 refine aL (bx (aL (bx (aL (ty.at (aL (L3.at ?_)))))))
 refine bx ?_
 show wpAny _ _ (handedOut v) _ _ _
 rw[PySem.W.handedOut_of hh]
 exact bx h
end
abbrev Xb(C:Addr)(dx:Option Addr)(t:Addr):Obj:={ cls:=.ref C,dict:=dx,data:=.fields #[.ref t,.none,.none,.none,.bool false,.none] }
section
variable {M:Model}{A:Around}{E:Value->Shared->Prop}{s:Shared}{K:Frag}{C:Addr}{env:Env}
theorem Q7{x:Sem Value}{Q:Flow->Shared->Prop}(q:kj K C=true)(hh:A.handled=none)(h:wpAny M A x (λv s₁=>∃e dx t,v=.ref e/\K.In s₁.heap/\s₁.heap.get? e=some (Xb C dx t)/\E (.ref e) s₁) E s) :
  wpAny M A (raiseStmt env (some x) none) Q E s:=by
 unfold raiseStmt
 refine aL (iX h (λv s₁ h₁=>?_) λ_ _ z=>z)
 obtain⟨e,dx,t,rfl,X,he,hE⟩:=h₁
 obtain⟨nm,qn,N,bs,bm,sn,sub,ab,col,dd,k0,k1,k2,k3,k5,mN,hC,hN,T⟩:=nU X q
 have hb:(Value.ref C::bm).contains (.type "BaseException")=true:=by rw[Gv,T.hasType (X:="BaseException") (b:=true) (by decide +kernel),xC]
 obtain⟨hp,g,d,tk,os⟩:=s₁
 dsimp only at hC he
 repeat (first | with_reducible refine ua he ?_ | (with_reducible refine xq hC ?_;rw[hb]) | wp_step)
 exact Ki hh hE
end
def QT(N:Addr->Prop)(h:Heap)(e C:Addr)(dx:Option Addr):Prop:=N e/\∃vs sl,h.get? e=some ⟨.ref C,dx,.fields vs,sl⟩/\(vs[1]?=some .none\/∃T oT ts,N T/\T≠e/\vs[1]?=some (.ref T)/\h.get? T=some oT/\oT.data=.fields ts/\ts[3]?=some .none)
structure Lv(fs ch:List Addr)(h h':Heap):Prop where
 keep:∀b o,b∉fs->b∉ch->h.get? b=some o->h'.get? b=some o
 slot:∀b o,b∈fs->h.get? b=some o->∃sl,h'.get? b=some { o with slots:=sl }
section
variable {M:Model}{A:Around}{E:Value->Shared->Prop}{s:Shared}{env:Env}{outer:List Env}{base:Heap}{N:Addr->Prop}{e C L:Addr}{dx:Option Addr}
theorem Ra{oe:Obj}{vs:Array Value}{head:Value}{V4:Bool}{Q:Unit->Shared->Prop}(QL:A.frames=some (env::outer))(hl:s.heap.FunFrames base (env::outer))(hf:env.frame=some L)
  (he:s.heap.get? e=some oe) (hd:oe.data=.fields vs) (hz:1<vs.size)
  (h:∀h' T oT ts,s.heap.objs.size<=T->T≠e->h'.get? e=some { oe with data:=.fields (vs.setIfInBounds 1 (.ref T)) }->h'.get? T=some oT->oT.data=.fields ts->ts[3]?=some (rawInt L)->
   (∀b o,b≠e->b∉tZ (env::outer)->s.heap.get? b=some o->h'.get? b=some o)->(∀b o,b∈tZ (env::outer)->s.heap.get? b=some o->∃sl,h'.get? b=some { o with slots:=sl })->h'.FunFrames base (env::outer)->Q () { s with heap:=h' }) :
  wpAny M A (do let a <-frameOf env;let pl <-entryPlaceOf L V4;let b <-EntryCells.newEntry head a .none (rawInt L) .none pl;setField (.ref e) 1 b) Q E s:=by
 have nf:∀b,b∈tZ (env::outer)->b≠e:=λb hb z=>by
  obtain⟨_,o,ho,nd⟩:=hl.mem hb
  rw[z,he]at ho;cases ho;exact nd vs hd
 refine aL (wpAny_frameOf_fun QL hl hf λh₁ so=>aL (wpAny_entryPlaceOf λpl sU=>?_))
 unfold EntryCells.newEntry newFields
 refine aL (pW ?_ (sU.sizeOk5 _ _ _ _ _))
 have W0:h₁.get? e=some oe:=(so.2.1 e λz=>nf e z rfl).trans he
 have k2:∀b o,h₁.get? b=some o->(h₁.push { cls:=.type "traceback",dict:=none,data:=.fields ([head,.ref L,.none,rawInt L,.none]++(if pl.isEmpty then List.replicate 6 Value.none else pl)).toArray }).get? b=some o:=λb o z=>dZ _ z
 have t2:=kz h₁ (o:={ cls:=.type "traceback",dict:=none,data:=.fields ([head,.ref L,.none,rawInt L,.none]++(if pl.isEmpty then List.replicate 6 Value.none else pl)).toArray }) rfl
 have t3:([head,.ref L,.none,rawInt L,.none]++(if pl.isEmpty then List.replicate 6 Value.none else pl)).toArray[3]?=some (rawInt L):=by simp
 generalize ([head,.ref L,.none,rawInt L,.none]++(if pl.isEmpty then List.replicate 6 Value.none else pl)).toArray=ts at k2 t2 t3 ⊢
 generalize h₁.push { cls:=.type "traceback",dict:=none,data:=.fields ts }=h₂ at k2 t2 ⊢
 have Ul:=k2 _ _ W0
 have Um:h₁.objs.size≠e:=xh (cp W0)
 refine wpAny_setField Ul hd hz ?_
 have Yq:∀b o,b≠e->h₂.get? b=some o->(h₂.update e (Obj.mapFields (·.setIfInBounds 1 (Value.ref h₁.objs.size)))).get? b=some o:=λb o hb z=>(sx _ _ hb.symm).trans z
 have d3:=Gr hd (·.setIfInBounds 1 (Value.ref h₁.objs.size))
 have he3:=qc (Obj.mapFields (·.setIfInBounds 1 (Value.ref h₁.objs.size))) Ul (Ko d3)
 have sl3:∀b o,b∈tZ (env::outer)->s.heap.get? b=some o->∃sl,(h₂.update e (Obj.mapFields (·.setIfInBounds 1 (Value.ref h₁.objs.size)))).get? b=some { o with slots:=sl }:=λb o hb z=>by
  obtain⟨sl,e1⟩:=so.2.2 b o z
  exact⟨sl,Yq _ _ (nf b hb) (k2 _ _ e1)⟩
 refine h _ h₁.objs.size _ ts (Nat.le_of_eq so.1.symm) Um ?_ (Yq _ _ Um t2) rfl t3 (λb o hb hf z=>Yq b o hb (k2 _ _ ((so.2.1 b hf).trans z))) sl3 ?_
 ·rw[he3]
  obtain⟨oc,od,oda,Kc⟩:=oe
  dsimp only at hd
  subst hd
  rfl
 ·refine hl.of_keeps λb o hb nd=>?_
  obtain⟨sl,e1⟩:=so.2.2 b o hb
  refine⟨_,Yq b _ (λz=>?_) (k2 _ _ e1),rfl⟩
  rw[z,he]at hb;cases hb;exact nd vs hd
theorem Ws{T:Addr}{oe oT:Obj}{vs ts:Array Value}{Q:Unit->Shared->Prop}(he:s.heap.get? e=some oe)(hd:oe.data=.fields vs)(h1:vs[1]?=some (.ref T))(hT:s.heap.get? T=some oT)(hdT:oT.data=.fields ts)(hz:3<ts.size)
  (h:Q () { s with heap:=s.heap.update T (Obj.mapFields (·.setIfInBounds 3 Value.none)) }):wpAny M A (setFlight (.ref e) none) Q E s:=by
 unfold setFlight
 refine aL (vC he hd h1 ?_)
 rw[bH (show(Value.ref T != Value.none)=true from by simp)]
 exact wpAny_setField hT hdT hz h
theorem Q9{Q:Unit->Shared->Prop}(QL:A.frames=some (env::outer))(hl:s.heap.FunFrames base (env::outer))(hf:env.frame=some L)(hN:∀b,s.heap.objs.size<=b->N b)(x:QT N s.heap e C dx)
  (h:∀h' ch,(∀b∈ch,N b/\∃o vs,s.heap.get? b=some o/\o.data=.fields vs)->QT N h' e C dx->Lv (tZ (env::outer)) ch s.heap h'->Q () { s with heap:=h' }):wpAny M A (noteFrame (.ref e) env) (λ_ s'=>wpAny M A (setFlight (.ref e) none) Q E s') E s:=by
 obtain⟨ne,vs,sl,he,tb⟩:=x
 have fin:∀(ch:List Addr) (Aj:∀b∈ch,N b/\∃o vs,s.heap.get? b=some o/\o.data=.fields vs) (s1:Shared) (h':Heap) (T:Addr) (oT:Obj) (ts:Array Value),s1.heap.objs.size=s.heap.objs.size->s1.heap.objs.size<=T->T≠e->h'.get? e=some ⟨.ref C,dx,.fields (vs.setIfInBounds 1 (.ref T)),sl⟩->1<vs.size->h'.get? T=some oT->oT.data=.fields ts->ts[3]?=some (rawInt L)->
   (∀b o,b∉tZ (env::outer)->b∉ch->s.heap.get? b=some o->h'.get? b=some o)->(∀b o,b∈tZ (env::outer)->s.heap.get? b=some o->∃sl,h'.get? b=some { o with slots:=sl })->s1={ s with heap:=s1.heap }->
   wpAny M A (setFlight (.ref e) none) Q E { s1 with heap:=h' }:=λch Aj s1 h' T oT ts hs hT Um e1 hz t1 t2 t3 k1 k2 es=>by
  have v1:(vs.setIfInBounds 1 (Value.ref T))[1]?=some (.ref T):=by simp[hz]
  have z3:=(Bg.mp t3).1
  refine Ws (s:={ s1 with heap:=h' }) e1 rfl v1 t1 t2 z3 ?_
  have nT:N T:=hN T (by omega)
  have ot:∀b o,b≠T->h'.get? b=some o->(h'.update T (Obj.mapFields (·.setIfInBounds 3 Value.none))).get? b=some o:=λb o hb z=>(sx _ _ hb.symm).trans z
  have t4:=qc (Obj.mapFields (·.setIfInBounds 3 Value.none)) t1 (Ko (Gr t2 _))
  have g:=h (h'.update T (Obj.mapFields (·.setIfInBounds 3 Value.none))) ch Aj ⟨ne,_,sl,ot _ _ Um.symm e1,.inr ⟨T,_,_,nT,Um,v1,t4,Gr t2 _,by simp[z3]⟩⟩ ⟨λb o hb nb z=>ot b o (λy=>?_) (k1 b o hb nb z),λb o hb z=>?_⟩
  ·rw[es];exact g
  ·have:=cp z
   rw[y]at this
   exact absurd this (xA.mpr (by rw[<-hs];exact hT))
  ·obtain⟨sl',e2⟩:=k2 b o hb z
   refine⟨sl',ot b _ (λy=>?_) e2⟩
   obtain⟨_,o',Gp,nd⟩:=hl.mem hb
   have:=cp Gp
   rw[y]at this
   exact absurd this (xA.mpr (by rw[<-hs];exact hT))
 unfold noteFrame
 simp only[hf]
 rcases tb with h1 | ⟨T,oT,ts,nT,Um,h1,hT,dT,h3⟩
 ·have hz:=(Bg.mp h1).1
  refine aL (vC he rfl h1 ?_)
  rw[aR (by decide)]
  exact Ra QL hl hf he rfl hz λh' T oT ts a1 a2 a3 a4 a5 a6 a7 a8 _=>fin [e] (λb hb=>by rw[kM.mp hb];exact⟨ne,_,_,he,rfl⟩) s h' T oT ts rfl a1 a2 a3 hz a4 a5 a6 (λb o hb nb z=>a7 b o (λy=>nb (by rw[y];simp)) hb z) a8 rfl
 ·have hz:=(Bg.mp h1).1
  refine aL (vC he rfl h1 ?_)
  rw[bH (show(Value.ref T != Value.none)=true by simp)]
  refine aL (vC hT dT h3 ?_)
  rw[aR (show ¬((Value.none==rawInt L)=true) by simp[rawInt])]
  refine aL (wpAny_setField hT dT (Bg.mp h3).1 ?_)
  have ot:∀b o,b≠T->s.heap.get? b=some o->(s.heap.update T (Obj.mapFields (·.setIfInBounds 3 Value.none))).get? b=some o:=λb o hb z=>(sx _ _ hb.symm).trans z
  have nfT:∀b o,s.heap.get? b=some o->(∀vs,o.data≠.fields vs)->b≠T:=λb o z nd y=>by rw[y,hT]at z;cases z;exact nd ts dT
  have hl2:(s.heap.update T (Obj.mapFields (·.setIfInBounds 3 Value.none))).FunFrames base (env::outer):=hl.of_keeps λb o z nd=>⟨o,ot b o (nfT b o z nd) z,rfl⟩
  have sz:(s.heap.update T (Obj.mapFields (·.setIfInBounds 3 Value.none))).objs.size=s.heap.objs.size:=by simp
  have Ul:=ot _ _ Um.symm he
  generalize s.heap.update T (Obj.mapFields (·.setIfInBounds 3 Value.none))=hq at ot hl2 sz Ul ⊢
  refine Ra (s:={ s with heap:=hq }) QL hl2 hf Ul rfl hz λh' T' oT' ts' a1 a2 a3 a4 a5 a6 a7 a8 _=>fin [e,T] (λb hb=>?_) { s with heap:=hq } h' T' oT' ts' sz a1 a2 a3 hz a4 a5 a6 (λb o hb nb z=>a7 b o (λy=>nb (by rw[y];simp)) hb (ot b o (λy=>nb (by rw[y];simp)) z)) (λb o hb z=>a8 b o hb (ot b o ?_ z)) rfl
  ·have:b=e\/b=T:=by simpa using hb
   rcases this with rfl | rfl
   ·exact⟨ne,_,_,he,rfl⟩
   ·exact⟨nT,_,_,hT,dT⟩
  ·obtain⟨_,o',Gp,nd⟩:=hl.mem hb
   exact nfT b o' Gp nd
theorem Q8{Q:Unit->Shared->Prop}(QL:A.frames=some (env::outer))(hl:s.heap.FunFrames base (env::outer))(hf:env.frame=some L)(hN:∀b,s.heap.objs.size<=b->N b)(x:QT N s.heap e C dx)
  (h:∀h' ch,(∀b∈ch,N b/\∃o vs,s.heap.get? b=some o/\o.data=.fields vs)->QT N h' e C dx->Lv (tZ (env::outer)) ch s.heap h'->Q () { s with heap:=h' }):wpAny M A (leaving env (.ref e)) Q E s:=aL (Q9 QL hl hf hN x h)
end
structure XC(K:Frag)(C:Addr):Prop where
 is:kj K C=true
 hd:PySem.W.hasDictIn K C=true
 sa:PySem.W.findIn K (.ref C) "__setattr__" = some (some (.builtin "object.__setattr__"))
 ga:PySem.W.findIn K (.ref C) "__getattribute__" = some (some (.builtin "BaseException.__getattribute__"))
 gn:PySem.W.findIn K (.ref C) "__getattr__" = some none
 ca:PySem.W.findIn K (.ref C) "__class__" = some (some (.builtin "object.__class__"))
 cn:PySem.W.specialIn K (.builtin "object.__class__") "__get__" = some (some (.builtin "getset_descriptor.__get__"))
 ct:PySem.W.takesIn K (.builtin "object.__class__")=some true
 cm:PySem.W.mroIn K C (.type "object")=some true
section
variable {prog:Program}{w:World}{A:Around}{E:Value->Shared->Prop}{s:Shared}{K:Frag}{C e:Addr}{oe:Obj}{od:Option Obj}
theorem Xd{Q:Option Value->Shared->Prop}(c:XC K C)(X:K.In s.heap)(I:PySem.W.InstAt s.heap e oe C od)(h:Q (some (.ref C)) { s with toks:=s.toks+1 }):wpAny (model prog w) A (getAttr? (.ref e) "__class__") Q E s:=by
 have hf:PySem.W.findObj K C od "__class__" = some (.bind (.builtin "getset_descriptor.__get__") (.builtin "object.__class__")):=by
  obtain⟨cd,hc,_⟩:=PySem.W.any_some c.hd
  unfold PySem.W.findObj
  rw[hc,xK,c.ca,xK]
  dsimp only
  rw[c.cn,xK]
  dsimp only
  rw[c.ct,xK]
 obtain⟨nm,qn,N,bs,bm,sn,sub,ab,col,dd,k0,k1,k2,k3,k5,mN,hC,hN,T⟩:=nU X c.is
 obtain⟨hp,g,d,t,os⟩:=s
 dsimp only at X I hC
 have ty:=I.type (M:=model prog w)
 have L1:=xt (M:=model prog w) X c.ga
 have L2:=xt (M:=model prog w) X c.gn
 have L3:=PySem.W.looks_find (M:=model prog w) X I hf
 have FA:=PySem.F.attr_ValueError
 unfold getAttr? getAttrBy? getAttrBy
 refine aL (wpAny_mkText (aL (xB (lR (aL (ty.at (aL (L1.at ?_))))))))
 dsimp only
 rw[show(onTheHeap (Value.ref C)&&Value.builtin "BaseException.__getattribute__" == Value.builtin "object.__getattribute__")=false from by rw[show(Value.builtin "BaseException.__getattribute__" == Value.builtin "object.__getattribute__")=false from by decide +kernel];rfl,aR (by decide)]
 refine aL (L2.at (aL (xB (lR ?_))))
 unfold callGetattribute
 rw[show(false&&onTheHeap (Value.builtin "BaseException.__getattribute__"))=false from rfl,aR (by decide)]
 unfold boundAndCalled
 rw[FA.ga.bind]
 refine aL (bx (pV (Bc FA.ga.plain PySem.F.entry_bexc_ga ?_)))
 have sub:Looks (model prog w) hp (isInstance (.ref e) (.type "BaseException")) true:=ty.andThen (λA Q E s k z=>by
  obtain⟨h,g,d,t,os⟩:=s
  refine xq (k _ _ hC) ?_
  rw[Gv,T.hasType (X:="BaseException") (b:=true) (by decide +kernel),xC]
  exact z)
 refine @Kp (model prog w) _ _ ⟨hp,g,d,t+1,os⟩ "BaseException.__getattribute__" "BaseException" "__getattribute__" (.ref e) [.str "__class__" t] [] _ (by decide +kernel) (by decide +kernel) sub (PySem.F.args_bexc_ga (.ref e) (.str "__class__" t)) ?_
 refine aL (bx (aL (bx (aL (ty.at (aL (L3.at ?_)))))))
 refine aL (lR (pV (PySem.W.class_get (s:=⟨hp,g,d,t+1,os⟩) (ox:=oe) (od:=od) X I c.cm ?_)))
 refine bx ?_
 show wpAny _ _ (handedOut (.ref C)) _ _ _
 rw[PySem.W.handedOut_of rfl]
 exact bx (bx h)
theorem Ic(c:XC K C):PySem.W.KitX K (.ref e) (.ref C) (λh=>∃oe od,PySem.W.InstAt h e oe C od) where
 ty:=λ_ _ _ ⟨_,_,I⟩=>I.type
 it:=λM h X _=>by
  obtain⟨nm,qn,N,bs,bm,sn,sub,ab,col,dd,k0,k1,k2,k3,k5,mN,hC,hN,T⟩:=nU X c.is
  intro A' Q' E' s' k q
  unfold isType loadHead
  exact aL (wpAny_loadPart (k _ _ hC) (bx q))
 ne:=λh tp dd its n sl X htp=>by
  obtain⟨nm,qn,N,bs,bm,sn,sub,ab,col,dd,k0,k1,k2,k3,k5,mN,hC,hN,T⟩:=nU X c.is
  refine Bool.eq_false_iff.mpr λq=>?_
  have e:C=tp:=Value.ref.inj (beq_iff_eq.mp q)
  subst e
  rw[hC]at htp
  exact absurd (ni (λo:Obj=>o.cls) (gU htp)) (show ¬Value.type "type" = Value.type "tuple" by decide)
 ca:=λX ⟨_,_,I⟩ k=>Xd c X I k
end
def DQ(P:Program)(w:World):QG:=λouter H s E x s'=>∃e C dx H',x=.ref e/\s'.os=s.os/\AllBare s'.gens/\Un (tZ outer) [] H H' s.heap s'.heap/\sf P w H' s'.heap/\QT (λb=>s.heap.objs.size<=b/\H' b=none) s'.heap e C dx/\E (.ref C) dx H'
def XN(X:Cx)(pins:List (Addr×Obj))(H:Hp)(b:Addr):Prop:=X.s₀.heap.objs.size<=b/\H b=none/\b≠X.env.locals/\(∀x c,X.env.cells.lookup x=some c->c≠b)/\∀p∈X.pn++pins,p.1≠b
theorem XN.new{X:Cx}{pins:List (Addr×Obj)}{σ:St}{H H':Hp}{s:Shared}(I:Inv X pins σ H s){b:Addr}(hb:s.heap.objs.size<=b)(hn:H' b=none):XN X pins H' b:=by
 have nb:∀{c:Addr} {o:Obj},s.heap.get? c=some o->c≠b:=λz y=>absurd (cp z) (by rw[y];exact xA.mpr hb)
 refine⟨jY I.sz hb,hn,λy=>?_,λx c e=>?_,λp hp=>nb (I.pin p hp).1⟩
 ·obtain⟨m,⟨o,_,_,ho,_⟩,_⟩:=I.loc
  exact nb ho y.symm
 ·obtain⟨v,o,ho,_⟩:=I.cell x c e
  exact nb ho
def nF(X:Cx)(EH:St->XK):Prop:=∀(pins:List (Addr×Obj)) (σ:St) (H:Hp) (s:Shared) (e C:Addr) (dx:Option Addr),Inv X pins σ H s->QT (XN X pins H) s.heap e C dx->EH σ (.ref C) dx H->X.xe (.ref e) s
theorem QT.mono{N N':Addr->Prop}{h:Heap}{e C:Addr}{dx:Option Addr}(k:∀b,N b->N' b)(x:QT N h e C dx):QT N' h e C dx:=by
 obtain⟨n,vs,sl,he,tb⟩:=x
 refine⟨k _ n,vs,sl,he,tb.imp id ?_⟩
 rintro⟨T,oT,ts,nT,r⟩
 exact⟨T,oT,ts,k _ nT,r⟩
theorem nF.pass{X:Cx}{EH:St->XK}(L:nF X EH){pins:List (Addr×Obj)}{σ:St}{H:Hp}{s s':Shared}{x:Value}(I:Inv X pins σ H s)(h:DQ X.prog X.w X.stack H s (EH σ) x s'):X.xe x s':=by
 obtain⟨e,C,dx,H',rfl,os,bare,un,cA,xa,q⟩:=h
 have I':Inv X pins σ H' s':=I.call' os un cA bare (λb z=>absurd z (by simp))
 exact L pins σ H' s' e C dx I' (xa.mono λb hb=>.new I hb.1 hb.2) q
section
variable {P:Program}{w:World}{K:Frag}{mg:Str->Option Value}{base:Heap}
theorem Ti{N:List Str}{qual:Str}{scope:Scope}{f:Addr}{cd:Value}{A:Around}{outer:List Env}{s:Shared}{H:Hp}{E:XK}:nF (lE (DQ P w) P w K mg base N qual scope f cd A outer s H E) (λ_=>E):=by
 intro pins σ H1 s1 e C dx I xa hE
 have xf:s.heap.objs.size<=s1.heap.objs.size:=I.sz
 refine Q8 (L:=s.heap.objs.size) (N:=λb=>s.heap.objs.size<=b/\H1 b=none) (base:=base) I.ok.frames I.stack rfl (λb hb=>⟨jY xf hb,I.cA.fresh hb⟩) (xa.mono λb hb=>⟨hb.1,hb.2.1⟩) λh' ch Aj ZP lv=>?_
 have nn:∀b o,s.heap.get? b=some o->b∉ch:=λb o z y=>absurd (cp z) (xA.mpr (Aj b y).1.1)
 have nf:∀b o,s.heap.get? b=some o->b∉tZ outer->b∉tZ (envOfC qual scope s.heap.objs.size f cd::outer):=λb o z hb y=>by
  rcases gN.mp (show b∈s.heap.objs.size::tZ outer from y) with y | y
  ·have:=cp z
   rw[y]at this
   exact t7 _ this
  ·exact hb y
 have sub:∀b,b∈tZ outer->b∈tZ (envOfC qual scope s.heap.objs.size f cd::outer):=λb hb=>kP (a:=b) s.heap.objs.size hb
 have un:Un (tZ outer) [] H H1 s.heap s1.heap:=I.base
 refine⟨e,C,dx,H1,rfl,I.os,I.bare,⟨λb o z n hb hx=>lv.keep b o (nf b o z hb) (nn b o z) (un.keep b o z n hb hx),λb o z n hb hx=>?_,un.free,λb o z hx=>?_,un.tups,un.frzs,un.tbls⟩,λa u z=>?_,ZP,hE⟩
 ·obtain⟨sl,z1⟩:=un.slot b o z n hb hx
  obtain⟨ZR,z2⟩:=lv.slot b _ (sub b hb) z1
  exact⟨ZR,z2⟩
 ·obtain⟨o',z1⟩:=un.there b o z hx
  by_cases hb:b∈tZ (envOfC qual scope s.heap.objs.size f cd::outer)
  ·obtain⟨ZR,z2⟩:=lv.slot b _ hb z1
   exact⟨_,z2⟩
  ·exact⟨o',lv.keep b o' hb (nn b o z) z1⟩
 ·refine(I.cA a u z).stay (λb v hb y=>?_) (λ_ q=>q) λ_ _ q=>q
  have hn:¬H1 b=none:=λy=>by
   rcases hb with rfl | hb
   ·rw[z]at y;cases y
   ·rw[hb]at y;cases y
  exact lv.keep b v (λy=>hn (I.wZ b y)) (λy=>hn (Aj b y).1.2) y
theorem nG.Yx{x qual:Str}{st:Stmt}{f:Addr}{fd:FuncData}{N ps:List Str}{k:Nat}{sp:Sp}(F:nG K x qual st f fd)(S:bp N ps (aA st))(len:∀vs H Q E,sp vs H Q E->vs.length=ps.length)
  (nZ:∀(dh:Value) (A:Around) (outer:List Env) (s:Shared) (H:Hp) (vs:List V) (Q:VK) (E:XK),jV k (A.deeper (envOfC qual (aA st) s.heap.objs.size f dh))->sp vs H Q E->
   HC (lE (DQ P w) P w K mg base N qual (aA st) f dh A outer s H E) N (aA st)->(∀x,(lE (DQ P w) P w K mg base N qual (aA st) f dh A outer s H E).fn x=true)->
   nF (lE (DQ P w) P w K mg base N qual (aA st) f dh A outer s H E) (λ_=>E)->PassesOwn (model P w) (lE (DQ P w) P w K mg base N qual (aA st) f dh A outer s H E).A (lE (DQ P w) P w K mg base N qual (aA st) f dh A outer s H E).env (lE (DQ P w) P w K mg base N qual (aA st) f dh A outer s H E).xe->
   ∃t,MN (lE (DQ P w) P w K mg base N qual (aA st) f dh A outer s H E) (bj st) t/\t { nx:=λ_ H'=>Q .non H',rt:=Q } (start N vs) H):dI P w K mg base (DQ P w) (k+1) f fd ps sp:=by
 obtain⟨oc,od,kV,doc,pm,an,dh,ct,Kc,rfl,lk,Fy⟩:=F.ex
 refine W6 lk Fy S len λA outer s H vs Q E hr Mp=>?_
 obtain⟨t,h,q⟩:=nZ dh A outer s H vs Q E hr Mp ⟨rfl,rfl⟩ (λ_=>rfl) Ti PassesOwn.leaving
 exact⟨t,h.to,q⟩
end
section
variable {X:Cx}{k:Nat}{f C:Addr}{fd:FuncData}{ps:List Str}{sp:Sp}{EH:St->XK}{x:Str}{p pos:Pos}{e:Expr}{es:List Expr}{t:TA}
def K6(sp:Sp)(EH:St->XK)(t:TA):TE:=λσ H Q=>t σ H λvs H1=>sp vs H1 Q (EH σ)
theorem U9{pins:List (Addr×Obj)}{σ:St}{H:Hp}{s:Shared}{Q:VK}{us:List Value}{vs:List V}(F:dI X.prog X.w X.K X.mg X.base (DQ X.prog X.w) k f fd ps sp)(hr:jV k X.A)(hb:Binds X.K fd ps [])(hx:nF X EH)
  (I:Inv X pins σ H s) (r:Vals vs us) (h:sp vs H Q (EH σ)):wpAny (model X.prog X.w) X.A (call (.ref f) us) (EP X pins σ Q) X.xe s:=by
 have hl:us.length=ps.length:=by rw[<-r.length];exact F.len _ _ _ _ h
 have b:=hb s us I.o9 (by rw[vE];exact hl)
 rw[vE]at b
 refine pV (vD (F.run X.A X.stack s H ⟨us,[]⟩ us vs Q (EH σ) hr I.Wa b r h) λr s' hq=>?_)
 cases r with
 | error e=>exact hx.pass I hq
 | ok fl=>
  cases fl with
  | ret u=>exact I.after hq
  | _=>exact False.elim hq
theorem Sn(F:dI X.prog X.w X.K X.mg X.base (DQ X.prog X.w) k f fd ps sp)(hr:jV k X.A)(hg:Gl X x)(hm:X.mg x=some (.ref f))(hk:PySem.W.keepIn X.K (.ref f)=true)(hb:Binds X.K fd ps [])(hx:nF X EH)
  (ha:PA X (e::es) t) (uM:(x==("__debug__" : Str))=false:=by decide) (he:starEach (e::es) X.env=(false,eval e X.env)::starEach es X.env:=by rfl) (sU:(backTo pos (starEach es X.env)).any (·.1)=false:=by rfl) :
  PE X (.Call (.Name x p) (e::es) [] pos) (K6 sp EH t):=by
 intro pins s σ H Q I h
 refine xm (mC I hg hm ?_ uM)
 exact Gw (h₀:=X.base) I.ok.mod.WT hk (dH (ha pos pins s σ H _ I h) λus s1 ⟨vs,H1,I1,r,q⟩=>⟨I1.o9,U9 F hr hb hx I1 r q⟩) he sU
theorem kB(F:dI X.prog X.w X.K X.mg X.base (DQ X.prog X.w) k f fd ps sp)(hr:jV k X.A)(hg:Gl X x)(hm:X.mg x=some (.ref f))(hk:PySem.W.keepIn X.K (.ref f)=true)(hb:Binds X.K fd ps [])(hx:nF X EH)
  (ha:ZA X (e::es) t) (uM:(x==("__debug__" : Str))=false:=by decide) (he:starEach (e::es) X.env=(false,eval e X.env)::starEach es X.env:=by rfl) (sU:(backTo pos (starEach es X.env)).any (·.1)=false:=by rfl) :
  ZE X (.Call (.Name x p) (e::es) [] pos) (K6 sp EH t):=⟨Sn F hr hg hm hk hb hx ha.to uM he sU⟩
end
section
variable {X:Cx}{k:Nat}{fI C:Addr}{fd:FuncData}{ps:List Str}{sp:Sp}{EH:St->XK}{x:Str}{np bY pos:Pos}{a:Expr}{t:TA}
def Eu(C:Addr)(t:TA)(EH:St->XK):TS:=λ_ σ H=>t σ H λvs H1=>vs.length<=sizeLine/\EH σ (.ref C) none H1
theorem Pp(c:XC X.K C)(hi:PySem.W.findIn X.K (.ref C) "__init__" = some (some (.builtin "ValueError.__init__")))(hk:PySem.W.keepIn X.K (.ref C)=true)(hg:Gl X x)(hm:X.mg x=some (.ref C))(hc:X.calm=true)(L:nF X EH)(ha:PA X [a] t)
  (uM:(x==("__debug__" : Str))=false:=by decide) (he:starEach [a] X.env=(false,eval a X.env)::starEach [] X.env:=by rfl) (sU:(backTo bY (starEach [] X.env)).any (·.1)=false:=by rfl) :
  PS X (.Raise (some (.Call (.Name x np) [a] [] bY)) none pos) (Eu C t EH):=by
 intro pins s σ H D I h
 rw[arm_exec_Raise]
 refine aL (u3 (Q7 c.is (I.ok.hd hc) ?_))
 refine aL (xm (mC I hg hm ?_ uM))
 refine Gw (h₀:=X.base) I.ok.mod.WT hk (dH (ha bY pins s σ H _ I h) λus s1 ⟨vs,H1,I1,r,z,q⟩=>⟨I1.o9,?_⟩) he sU
 refine call_plain I1.o9 c.is hi (λh' t kp e1=>aL (u3 (bx ?_))) (by rw[List.nil_append,<-r.length];exact z)
 have I2:Inv X pins σ H1 { s1 with heap:=h' }:=I1.kept (t':=s1.toks) kp
 refine⟨_,none,t,rfl,I2.o9,e1,L pins σ H1 _ _ C none I2 ⟨.new I1 (nP _) (I1.cA.fresh (nP _)),_,_,e1,.inl rfl⟩ q⟩
def m7(e C:Addr)(dx:Option Addr)(t:Addr):Heap->Prop:=λh=>h.get? e=some (Xb C dx t)
theorem En{P:Program}{w:World}{H:Hp}{h:Heap}{e C t:Addr}{dx:Option Addr}(z:h.get? e=some (Xb C dx t)):dJ P w H h e (.ext (m7 e C dx t)):=⟨z,⟨_,z⟩,λh1 h2 a b=>b _ a⟩
def mQ(C:Addr)(fld:Str):Sp:=λvs H Q _=>∃e v t,vs=[.ref e,v]/\H e=some (.ext (m7 e C none t))/\∀dx t',H dx=none->dx≠e->Q .non (upd (upd H e (.ext (m7 e C (some dx) t'))) dx (.xd [(fld,v)]))
def Qh(H:Hp)(e:Addr):Hp:=λb=>if b=e then none else H b
theorem vi{H:Hp}{e:Addr}:Qh H e e=none:=bH rfl
theorem nA{H:Hp}{e b:Addr}(h:b≠e):Qh H e b=H b:=aR h
theorem rZ{H:Hp}{e b:Addr}(h:H b=none):Qh H e b=none:=by
 by_cases hb:b=e
 ·rw[hb];exact vi
 ·rw[nA hb];exact h
theorem Inv.forget{pins:List (Addr×Obj)}{σ:St}{H:Hp}{s:Shared}{e:Addr}{φ:Heap->Prop}(I:Inv X pins σ H s)(he:H e=some (.ext φ)):Inv X pins σ (Qh H e) s:=by
 have ne:∀{b:Addr} {u:HO},H b=some u->(HO.ext φ≠u)->b≠e:=λz n=>(HB he z n).symm
 have ok:sf X.prog X.w (Qh H e) s.heap:=λb u z=>by
  by_cases hb:b=e
  ·rw[hb,vi]at z;cases z
  ·rw[nA hb]at z
   refine(I.cA b u z).stay (λ_ _ _ q=>q) (λc q=>?_) λc xs q=>?_
   ·rw[nA (ne q (by intro z;cases z))];exact q
   ·rw[nA (ne q (by intro z;cases z))];exact q
 refine⟨I.ok,I.os,I.bare,⟨I.base.keep,I.base.slot,λb ob z n hx=>rZ (I.base.free b ob z n hx),I.base.there,λb xs z=>?_,λb ob u z=>?_,λb ps z=>?_⟩,I.loc,I.cell,rZ I.free,λx c z=>rZ (I.lu x c z),λp hp=>?_,ok,I.len⟩
 ·have e1:=I.base.tups b xs z
  rw[nA (ne e1 (by intro z;cases z))];exact e1
 ·have e1:=I.base.frzs b ob u z
  rw[nA (ne e1 (by intro z;cases z))];exact e1
 ·obtain⟨m,e1⟩:=I.base.tbls b ps z
  exact⟨m,by rw[nA (ne e1 (by intro z;cases z))];exact e1⟩
 ·obtain⟨p1,p2,p3⟩:=I.pin p hp
  exact⟨p1,rZ p2,p3⟩
def Et(C:Addr)(fld:Str)(t:TE)(EH:St->XK):TS:=λ_ σ H=>t σ H λv H1=>∀dx,H1 dx=none->EH σ (.ref C) (some dx) (upd H1 dx (.xd [(fld,v)]))
theorem Pn{fld:Str}{te:TE}(c:XC X.K C)(hi:PySem.W.findIn X.K (.ref C) "__init__" = some (some (.ref fI)))(hf:PySem.W.typeIn X.K (.ref fI)=some (.type "function"))(hk:PySem.W.keepIn X.K (.ref C)=true)
  (F:dI X.prog X.w X.K X.mg X.base mE k fI fd ps (mQ C fld)) (hb:Binds X.K fd ps []) (hr:jV (k+1) X.A) (hg:Gl X x) (hm:X.mg x=some (.ref C)) (hc:X.calm=true) (L:nF X EH) (ha:PE X a te)
  (uM:(x==("__debug__" : Str))=false:=by decide) (he:starEach [a] X.env=(false,eval a X.env)::starEach [] X.env:=by rfl) (sU:(backTo bY (starEach [] X.env)).any (·.1)=false:=by rfl) :
  PS X (.Raise (some (.Call (.Name x np) [a] [] bY)) none pos) (Et C fld te EH):=by
 intro pins s σ H D I h
 rw[arm_exec_Raise]
 refine aL (u3 (Q7 c.is (I.ok.hd hc) ?_))
 refine aL (xm (mC I hg hm ?_ uM))
 refine Gw (h₀:=X.base) I.ok.mod.WT hk (dH (w6 ha Lg he bY pins s σ H (λvs H1=>match vs with | [v]=>(∀dx,H1 dx=none->EH σ (.ref C) (some dx) (upd H1 dx (.xd [(fld,v)]))) | _=>False) I h) λus s1 ⟨vs,H1,I1,r,q⟩=>⟨I1.o9,?_⟩) he sU
 match vs,q,r with
 | [v],q,r=>
  have ul:us.length<=sizeLine:=by rw[<-r.length];show 1<=sizeLine;decide
  refine TV I1.o9 c.is hi hf (λh' mk=>?_) ul
  obtain⟨t,e1,_,_⟩:=mk.there
  have fe:H1 (s1.heap.objs.size+1)=none:=I1.cA.fresh (nP _)
  have I2:=I1.laid (a:=s1.heap.objs.size+1) (o:=.ext (m7 (s1.heap.objs.size+1) C none t)) (t':=s1.toks) mk.keeps (nP _) (En e1)
  have fe2:∀H':Hp,H' (s1.heap.objs.size+1)=none->XN X pins H' (s1.heap.objs.size+1):=λH' z=>.new I1 (nP _) z
  generalize s1.heap.objs.size+1=e at e1 fe I2 fe2
  have hq:mQ C fld [.ref e,v] (upd H1 e (.ext (m7 e C none t))) (λu H2=>u=.non/\∃dx t',H1 dx=none/\dx≠e/\H2=upd (upd (upd H1 e (.ext (m7 e C none t))) e (.ext (m7 e C (some dx) t'))) dx (.xd [(fld,v)])) E0:=⟨e,v,t,rfl,aK,λdx t' hd pE=>⟨rfl,dx,t',by rwa [aO pE]at hd,pE,rfl⟩⟩
  have r2:Vals [V.ref e,v] (Value.ref e::us):=.cons rfl r
  have hl:(Value.ref e::us).length=ps.length:=by rw[<-r2.length];exact F.len _ _ _ _ hq
  have b:=hb _ (Value.ref e::us) I2.o9 (by rw[vE];exact hl)
  rw[vE]at b
  refine pV (vD (F.run _ X.stack _ _ ⟨Value.ref e::us,[]⟩ (Value.ref e::us) _ _ E0 (hr.make C us []) (I2.Wa.make C us []) b r2 hq) λr s' hq'=>?_)
  cases r with
  | error e=>exact False.elim hq'
  | ok fl=>
   cases fl with
   | ret u=>
    obtain⟨v',H3,I3,rv,rfl,dx,t',hdx,pE,rfl⟩:=I2.after hq'
    have e3:upd (upd (upd H1 e (.ext (m7 e C none t))) e (.ext (m7 e C (some dx) t'))) dx (.xd [(fld,v)]) e=some (.ext (m7 e C (some dx) t')):=by rw[aO pE.symm,aK]
    have o3:m7 e C (some dx) t' s'.heap:=(I3.cA e _ e3).1
    have I4:=Inv.forget I3 e3
    have eh:Qh (upd (upd (upd H1 e (.ext (m7 e C none t))) e (.ext (m7 e C (some dx) t'))) dx (.xd [(fld,v)])) e=upd H1 dx (.xd [(fld,v)]):=by
     funext b
     by_cases hb:b=e
     ·rw[hb,vi,aO pE.symm,fe]
     ·rw[nA hb]
      by_cases hd:b=dx
      ·rw[hd,aK,aK]
      ·rw[aO hd,aO hd,aO hb,aO hb]
    rw[eh]at I4
    refine⟨rv,aL (u3 (bx ⟨e,some dx,t',rfl,I4.o9,o3,L pins σ _ _ e C (some dx) I4 ⟨fe2 _ (by rw[aO pE.symm];exact fe),_,_,o3,.inl rfl⟩ (q dx hdx)⟩))⟩
   | _=>exact False.elim hq'
end
section
variable {X:Cx}{B:Addr}{x:Str}{np bY apos pos pos':Pos}{a b o value:Expr}{t:TA}{ta tv:TE}{fld:Str}
def Rr(K:Frag)(t:TA):TE:=λσ H Q=>t σ H λvs H1=>∃e C t0 v,vs=[.ref e,v]/\H1 e=some (.ext (m7 e C none t0))/\XC K C/\∀t',Q .non (upd H1 e (.ext (m7 e C none t')))
theorem Wi{pins:List (Addr×Obj)}{σ:St}{H1:Hp}{s1:Shared}{us:List Value}{vs:List V}{Q:VK}{A:Around}{E:Value->Shared->Prop}(I1:Inv X pins σ H1 s1)(r:Vals vs us)
  (h:∃e C t0 v,vs=[.ref e,v]/\H1 e=some (.ext (m7 e C none t0))/\XC X.K C/\∀t',Q .non (upd H1 e (.ext (m7 e C none t')))):wpAny (model X.prog X.w) A (call (.builtin "ValueError.__init__") us) (EP X pins σ Q) E s1:=by
 obtain⟨e,C,t0,v,rfl,he,c,q⟩:=h
 obtain⟨u1,u2,rfl,r1,r2⟩:=r.two
 obtain rfl:u1=Value.ref e:=r1
 have o1:s1.heap.get? e=some (Xb C none t0):=(I1.cA e _ he).1
 have e1:(s1.heap.push { cls:=.type "tuple",data:=.seq [u2].toArray }).get? e=some (Xb C none t0):=dZ _ o1
 have e2:((s1.heap.push { cls:=.type "tuple",data:=.seq [u2].toArray }).update e (Obj.mapFields (·.setIfInBounds 0 (Value.ref s1.heap.objs.size)))).get? e=some (Xb C none s1.heap.objs.size):=(qc _ e1 rfl).trans rfl
 have k2:∀b ob,b≠e->s1.heap.get? b=some ob->((s1.heap.push { cls:=.type "tuple",data:=.seq [u2].toArray }).update e (Obj.mapFields (·.setIfInBounds 0 (Value.ref s1.heap.objs.size)))).get? b=some ob:=λb ob hb z=>(sx _ _ hb.symm).trans (dZ _ z)
 refine Qp I1.o9 c.is o1 ?_ (show 1<=sizeLine by decide)
 generalize ((s1.heap.push { cls:=.type "tuple",data:=.seq [u2].toArray }).update e (Obj.mapFields (·.setIfInBounds 0 (Value.ref s1.heap.objs.size))))=h2 at e2 k2 ⊢
 exact⟨.non,_,I1.write (x:=e) (e:=e) (o:=.ext (m7 e C none s1.heap.objs.size)) (t':=s1.toks) (by rw[he];trivial) (.inl rfl) (λb ob hb z=>k2 b ob hb z) ⟨_,e2⟩ (En e2),rfl,q _⟩
theorem Vu{pl:Sem Bool}(hr:PySem.W.readsIn X.K B (.type "type")=true)(hf:PySem.W.findCls X.K (.ref B) (.type "type") "__init__" = some (.val (.builtin "ValueError.__init__")))
  (hs:PySem.W.specialIn X.K (.ref B) "__getattribute__" = some (some (.builtin "type.__getattribute__"))) (hg:Gl X x) (hm:X.mg x=some (.ref B)) (ha:PA X [a,b] t)
  (uM:(x==("__debug__" : Str))=false:=by decide) (Uk:starEach [a,b] X.env=(false,eval a X.env)::starEach [b] X.env:=by rfl) (sU:(backTo bY (starEach [b] X.env)).any (·.1)=false:=by rfl)
  (ht:eval (.Call (.Attribute (.Name x np) "__init__" apos) [a,b] [] bY) X.env=(do
   let ov <-eval (.Name x np) X.env
   standAt apos.atName
   let (f,first) <-holding [ov] (getMethod ov "__init__" pl)
   callWith bY f first (backTo bY (starEach [a,b] X.env)) (backToKw bY (keywordEach [] X.env))):=by rfl) :
  PE X (.Call (.Attribute (.Name x np) "__init__" apos) [a,b] [] bY) (Rr X.K t):=by
 intro pins s σ H Q I h
 refine PySem.W.methodCall_KW (pl:=pl) (mC I hg hm ?_ uM) ht
 refine PySem.W.method_cls I.o9 hs (PySem.W.cls_value I.o9 hr hf rfl ?_)
 have I0:Inv X pins σ H { s with toks:=s.toks+1 }:=I.tok _
 show wpAny _ _ (callWith bY (.builtin "ValueError.__init__") [] (backTo bY (starEach [a,b] X.env)) []) _ _ _
 exact QX (dH (ha bY pins _ σ H _ I0 h) λus s1 ⟨vs,H1,I1,r,q⟩=>Wi I1 r q) Uk sU
def RQ(K:Frag)(ta tv:TE)(fld:Str):TS:=λD σ H=>tv σ H λy H1=>ta σ H1 λx H2=>∃e C t,x=.ref e/\H2 e=some (.ext (m7 e C none t))/\XC K C/\PySem.W.takerIn K C fld=some none/\
 ∀dx,H2 dx=none->dx≠e->D.nx σ (upd (upd H2 e (.ext (m7 e C (some dx) t))) dx (.xd [(fld,y)]))
theorem Vj(ha:PE X o ta)(hv:PE X value tv)(hs:swapsWith value (some (.Attribute o fld pos')) pos.line X.env=pure false):PS X (.Assign [.Attribute o fld pos'] value pos) (RQ X.K ta tv fld):=by
 intro pins s σ H D I h
 refine plainObj_wpAny_Assign_Attribute (dH (hv pins s σ H _ I h) λu s1 ⟨y,H1,I1,ry,q⟩=>dH (ha pins s1 σ H1 _ I1 q) λov s2 ⟨x,H2,I2,rx,e,C,t,ex,he,c,tk,q2⟩=>?_) hs
 subst ex
 obtain rfl:ov=Value.ref e:=rx
 have o2:s2.heap.get? e=some (Xb C none t):=(I2.cA e _ he).1
 refine aBI I2.o9 c.is o2 rfl rfl rfl c.sa tk λh' tk' e3 n3 k3=>?_
 have hd:H2 s2.heap.objs.size=none:=I2.cA.fresh (bW _)
 have hde:s2.heap.objs.size≠e:=xh (cp o2)
 have hdn:s2.heap.get? s2.heap.objs.size=none:=Gy (bW _)
 generalize s2.heap.objs.size=dx at e3 n3 hd hde hdn
 have U:∀{b:Addr},b≠e->b≠dx->upd (upd H2 e (.ext (m7 e C (some dx) t))) dx (.xd [(fld,y)]) b=H2 b:=λh1 h2=>by rw[aO h2,aO h1]
 have ne:∀{b:Addr} {z:HO},H2 b=some z->(HO.ext (m7 e C none t)≠z)->b≠e:=λz n=>(HB he z n).symm
 have nd:∀{b:Addr} {z:HO},H2 b=some z->b≠dx:=λz y=>by rw[y,hd]at z;cases z
 have nb:∀{b:Addr} {z:Obj},s2.heap.get? b=some z->b≠dx:=λz y=>by rw[y,hdn]at z;cases z
 have nn:∀{b:Addr},H2 b=none->b≠e:=λz y=>by rw[y,he]at z;cases z
 refine⟨σ,_,I2.un (H':=upd (upd H2 e (.ext (m7 e C (some dx) t))) dx (.xd [(fld,y)])) (t':=tk') ⟨λb ob z n _ _=>k3 b ob (nn n) z,λb ob z n _ _=>⟨ob.slots,k3 b ob (nn n) z⟩,λb ob z n _=>by rw[U (nn n) (nb z)];exact n,λb ob z _=>?_,λb xs z=>?_,λb ob z' z=>?_,λb ps z=>⟨#[],?_⟩⟩ λb z hz=>?_,q2 dx hd hde⟩
 ·by_cases hb:b=e
  ·rw[hb];exact⟨_,e3⟩
  ·exact⟨ob,k3 b ob hb z⟩
 ·rw[U (ne z (by intro z;cases z)) (nd z)];exact z
 ·rw[U (ne z (by intro z;cases z)) (nd z)];exact z
 ·rw[U (ne z (by intro z;cases z)) (nd z),z];simp
 ·by_cases hb:b=dx
  ·rw[hb,aK]at hz
   cases hz
   rw[hb]
   refine⟨_,n3,λf=>?_⟩
   by_cases hf:f=fld
   ·rw[hf,bH rfl]
    simp only[List.lookup,xl]
    exact ry
   ·rw[aR hf]
    have:(f==fld)=false:=Ks.mpr hf
    simp only[List.lookup,this]
    trivial
  ·rw[aO hb]at hz
   by_cases hb2:b=e
   ·rw[hb2,aK]at hz
    cases hz
    rw[hb2]
    exact En e3
   ·rw[aO hb2]at hz
    refine(I2.cA b z hz).stay (λc v hc y=>k3 c v ?_ y) (λc y=>?_) λc xs y=>?_
    ·rcases hc with rfl | hc
     ·exact hb2
     ·exact ne hc (by intro z;cases z)
    ·rw[U (ne y (by intro z;cases z)) (nd y)];exact y
    ·rw[U (ne y (by intro z;cases z)) (nd y)];exact y
end
def Gb(e C:Addr)(dx:Option Addr):Heap->Prop:=λh=>∃vs sl,h.get? e=some ⟨.ref C,dx,.fields vs,sl⟩
section
variable {X:Cx}{pins:List (Addr×Obj)}{σ:St}{H:Hp}{s:Shared}{e C:Addr}{dx:Option Addr}
theorem Inv.left{ch:List Addr}{h':Heap}(I:Inv X pins σ H s)(Aj:∀b∈ch,XN X pins H b)(lv:Lv (tZ X.stack) ch s.heap h'):Inv X pins σ H { s with heap:=h' }:=by
 refine I.call (H':=H) (g':=s.gens) (t':=s.toks) (d':=s.drawn) (ch:=ch) ⟨λb o z n hb hc=>lv.keep b o hb hc z,λb o z n hb hc=>lv.slot b o hb z,λ_ _ _ n _=>n,λb o z hc=>?_,λ_ _ z=>z,λ_ _ _ z=>z,λb ps z=>⟨#[],by rw[z];simp⟩⟩ (λa u z=>?_) I.bare λb hb=>?_
 ·by_cases hb:b∈tZ X.stack
  ·obtain⟨sl,q⟩:=lv.slot b o hb z
   exact⟨_,q⟩
  ·exact⟨o,lv.keep b o hb hc z⟩
 ·refine(I.cA a u z).stay (λb v hb y=>?_) (λ_ q=>q) λ_ _ q=>q
  have hn:¬H b=none:=λy=>by
   rcases hb with rfl | hb
   ·rw[z]at y;cases y
   ·rw[hb]at y;cases y
  exact lv.keep b v (λy=>hn (I.wZ b y)) (λy=>hn (Aj b y).2.1) y
 ·obtain⟨a,b,c,d,e⟩:=Aj b hb
  exact⟨.inr a,c,d,e⟩
theorem Inv.adopt{φ:Heap->Prop}(I:Inv X pins σ H s)(n:XN X pins H e)(hφ:dJ X.prog X.w (upd H e (.ext φ)) s.heap e (.ext φ)):Inv X pins σ (upd H e (.ext φ)) s:=by
 obtain⟨n1,n2,n3,n4,n5⟩:=n
 have ne:∀{b:Addr} {u:HO},H b=some u->b≠e:=λz y=>by rw[y,n2]at z;cases z
 have n0:∀{b:Addr} {o:Obj},X.s₀.heap.get? b=some o->b≠e:=λz y=>absurd (cp z) (by rw[y];exact xA.mpr n1)
 refine⟨I.ok,I.os,I.bare,⟨I.base.keep,I.base.slot,λb ob z n hx=>by rw[aO (n0 z)];exact I.base.free b ob z n hx,I.base.there,λb xs z=>?_,λb ob u z=>?_,λb ps z=>?_⟩,I.loc,I.cell,by rw[aO n3.symm];exact I.free,λx c z=>by rw[aO (n4 x c z)];exact I.lu x c z,λp hp=>?_,λb u z=>?_,I.len⟩
 ·have e1:=I.base.tups b xs z
  rw[aO (ne e1)];exact e1
 ·have e1:=I.base.frzs b ob u z
  rw[aO (ne e1)];exact e1
 ·obtain⟨m,e1⟩:=I.base.tbls b ps z
  exact⟨m,by rw[aO (ne e1)];exact e1⟩
 ·obtain⟨p1,p2,p3⟩:=I.pin p hp
  exact⟨p1,by rw[aO (n5 p hp)];exact p2,p3⟩
 ·by_cases hb:b=e
  ·subst hb;rw[aK]at z;cases z;exact hφ
  ·rw[aO hb]at z
   exact(I.cA b u z).stay (λ_ _ _ q=>q) (λc q=>by rw[aO (ne q)];exact q) λc xs q=>by rw[aO (ne q)];exact q
theorem Xa{P:Program}{w:World}{H:Hp}{h:Heap}(z:Gb e C dx h):dJ P w H h e (.ext (Gb e C dx)):=⟨z,let ⟨_,_,q⟩:=z;⟨_,q⟩,λh1 h2 ⟨vs,sl,a⟩ b=>⟨vs,sl,b _ a⟩⟩
theorem Inv.unbound{i:Nat}{x:Str}{m:Str->Option Value}{u:Option Value}{h':Heap}(I:Inv X pins σ H s)(hN:X.N.Nodup)(hi:X.N[i]?=some x)(hk:X.env.scope.names.lookup x=some .local)
  (hm:s.heap.Ns X.env.locals m) (hn:h'.Ns X.env.locals (λy=>if y=x then u else m y)) (hs:Heap.SameBut X.env.locals s.heap h'):Inv X pins (σ.set i none) H { s with heap:=h' }:=by
 have Z4:i<σ.length:=by rw[I.len];exact(nO.mp hi).1
 obtain⟨m0,hn0,hl⟩:=id I.loc
 have nL:∀{b:Addr} {o:Obj},X.s₀.heap.get? b=some o->b≠X.env.locals:=λz=>dm (ky (cp z) I.ok.above)
 have em:∀y,m0 y=m y:=λy=>by
  obtain⟨o,es,ep,ho,hd,_,r⟩:=hn0
  obtain⟨o',es',ep',Gp,hd',_,r'⟩:=hm
  rw[ho]at Gp;cases Gp
  rw[hd]at hd';cases hd'
  rw[<-r y,<-r' y]
 refine⟨I.ok,I.os,I.bare,⟨λb o z n hb hx=>(hs.2 b (nL z)).trans (I.base.keep b o z n hb hx),λb o z n hb hx=>?_,I.base.free,λb o z hx=>?_,I.base.tups,I.base.frzs,I.base.tbls⟩,⟨_,hn,λj y v e1 e2 e3=>?_⟩,λy c z=>?_,I.free,I.lu,λp hp=>?_,λb ob z=>?_,by rw[List.length_set];exact I.len⟩
 ·obtain⟨sl,q⟩:=I.base.slot b o z n hb hx
  exact⟨sl,(hs.2 b (nL z)).trans q⟩
 ·obtain⟨o',q⟩:=I.base.there b o z hx
  exact⟨o',(hs.2 b (nL z)).trans q⟩
 ·by_cases hj:j=i
  ·subst hj
   rw[Nb Z4]at e2
   cases e2
  ·rw[Kt (mL hj)]at e2
   obtain⟨u',r',q⟩:=hl j y v e1 e2 e3
   refine⟨u',r',?_⟩
   rcases q with ⟨k,z⟩ | ⟨k,c,z,y'⟩
   ·refine .inl ⟨k,?_⟩
    have:y≠x:=λz=>hj (y4 hN e1 (z ▸ hi))
    dsimp only
    rw[aR this,<-em];exact z
   ·exact .inr ⟨k,c,z,y'.sameBut hs (I.Wf y c z)⟩
 ·obtain⟨w',q⟩:=I.cell y c z
  exact⟨w',q.sameBut hs (I.Wf y c z)⟩
 ·obtain⟨p1,p2,p3,p4⟩:=I.pin p hp
  exact⟨(hs.2 _ p3).trans p1,p2,p3,p4⟩
 ·refine(I.cA b ob z).stay (λc v hc q=>(hs.2 c λy=>?_).trans q) (λ_ q=>q) λ_ _ q=>q
  rcases hc with rfl | hc
  ·rw[y,I.free]at z;cases z
  ·rw[y,I.free]at hc;cases hc
theorem Xc{prog:Program}{w:World}{A:Around}{E:Value->Shared->Prop}{K:Frag}{B:Addr}{Q:Bool->Shared->Prop}(X:K.In s.heap)(q:kj K B=true)(hs:PySem.W.subIn K (.ref C) (.ref B)=some true)(he:Gb e C dx s.heap)(h:Q true s) :
  wpAny (model prog w) A (excMatches (.ref e) (.ref B)) Q E s:=by
 obtain⟨nm,qn,N,bs,bm,sn,sub,ab,col,dd,k0,k1,k2,k3,k5,mN,hC,hN,T⟩:=nU X q
 have hb:(Value.ref B::bm).contains (.type "BaseException")=true:=by rw[Gv,T.hasType (X:="BaseException") (b:=true) (by decide +kernel),xC]
 obtain⟨vs,sl,o1⟩:=he
 have L:=PySem.W.looks_subIn (M:=model prog w) X hs
 obtain⟨hp,g,d,tk,os⟩:=s
 dsimp only at hC o1 L
 have f:=tc_notTuple
 unfold excMatches
 repeat (first | with_reducible refine ua o1 ?_ | with_reducible refine ua hC ?_ | (with_reducible refine xq hC ?_;rw[hb]) | with_reducible refine L.at ?_ | wp_step)
 exact h
end
@[reducible] def Cx.tri (X:Cx) (xe:Value->Shared->Prop) (pn:List (Addr×Obj)):Cx:={ X with xe:=xe,pn:=pn }
@[reducible] def Cx.K7 (X:Cx) (e:Addr):Cx:={ X with A:=X.A.mark (some (.ref e)),calm:=false,xe:=λ_ _=>False }
section
variable {X:Cx}{pins Ho:List (Addr×Obj)}{σ:St}{H:Hp}{s:Shared}{e:Addr}{xe:Value->Shared->Prop}
theorem Inv.tri(I:Inv X pins σ H s):Inv (X.tri xe (X.pn++pins)) [] σ H s:=
 ⟨⟨I.ok.mod,I.ok.kind,I.ok.glob,I.ok.blt,I.ok.above,I.ok.inj,I.ok.has,I.ok.Wg,I.ok.hd,I.ok.frames,I.ok.Wu,I.ok.exf,I.ok.bs,I.ok.Oq,I.ok.Fg,I.ok.JG,I.ok.qI,I.ok.QR⟩,I.os,I.bare,I.base,I.loc,I.cell,I.free,I.lu,λp hp=>I.pin p (by rw[vE]at hp;exact hp),I.cA,I.len⟩
theorem Inv.Hb(I:Inv (X.tri xe (X.pn++pins)) Ho σ H s):Inv X pins σ H s:=
 ⟨⟨I.ok.mod,I.ok.kind,I.ok.glob,I.ok.blt,I.ok.above,I.ok.inj,I.ok.has,I.ok.Wg,I.ok.hd,I.ok.frames,I.ok.Wu,I.ok.exf,I.ok.bs,I.ok.Oq,I.ok.Fg,I.ok.JG,I.ok.qI,I.ok.QR⟩,I.os,I.bare,I.base,I.loc,I.cell,I.free,I.lu,λp hp=>I.pin p (vH _ hp),I.cA,I.len⟩
theorem Inv.K7(I:Inv X pins σ H s):Inv (X.K7 e) pins σ H s:=
 ⟨⟨I.ok.mod,I.ok.kind,I.ok.glob,I.ok.blt,I.ok.above,I.ok.inj,I.ok.has,I.ok.Wg,λz=>Bool.noConfusion z,I.ok.frames,I.ok.Wu,I.ok.exf,I.ok.bs,I.ok.Oq,I.ok.Fg,I.ok.JG,I.ok.qI,I.ok.QR⟩,I.os,I.bare,I.base,I.loc,I.cell,I.free,I.lu,I.pin,I.cA,I.len⟩
theorem Inv.Nn(ok:X.Ok)(I:Inv (X.K7 e) pins σ H s):Inv X pins σ H s:=⟨ok,I.os,I.bare,I.base,I.loc,I.cell,I.free,I.lu,I.pin,I.cA,I.len⟩
end
def Ends.unb(D:Ends)(i:Nat):Ends:={ nx:=λσ H=>D.nx (σ.set i none) H,rt:=D.rt,bk:=λσ H=>D.bk (σ.set i none) H,ct:=λσ H=>D.ct (σ.set i none) H }
def Xn(K:Frag)(i:Nat)(B:Addr)(tb:(St->XK)->TS)(ts:TS):TS:=λD σ H=>∃EH:St->XK,tb EH D σ H/\∀σ' C dx H',EH σ' (.ref C) dx H'->PySem.W.subIn K (.ref C) (.ref B)=some true/\∀e,H' e=none->ts (D.unb i) (σ'.set i (some (.ref e))) (upd H' e (.ext (Gb e C dx)))
section
variable {X:Cx}{B:Addr}{x n:Str}{np Mq pos:Pos}{body suite:List Stmt}{b₀:Stmt}{tb:(St->XK)->TS}{ts:TS}{i:Nat}
theorem rH{pins:List (Addr×Obj)}{σ:St}{H:Hp}{s:Shared}{M:Model}{A:Around}{E:Value->Shared->Prop}{Q:Unit->Shared->Prop}(I:Inv X pins σ H s)(hN:X.N.Nodup)(hi:X.N[i]?=some n)(hk:X.env.scope.names.lookup n=some .local)
  (h:∀s',Inv X pins (σ.set i none) H s'->Q () s'):wpAny M A (do bindName X.env n .none;unbindBehindTheSuite X.env n Mq) Q E s:=by
 have Zb:(X.env.scope.kind == .class||(X.env.scope.kind == .module&&X.env.locals != X.env.globals))=false:=by rw[I.ok.kind];rfl
 unfold bindName
 refine aL (aL (lR (wpAny_point (aL (um (v:=.non) I hN hi (.inl hk) rfl (λs1 I1=>wpAny_point ?_) (.inr hk))))))
 unfold unbindBehindTheSuite
 refine wpAny_onRaise ?_
 obtain⟨m,hm,hl⟩:=id I1.loc
 have Z4:i<σ.length:=by rw[I.len];exact(nO.mp hi).1
 obtain⟨u,ru,lk⟩:=hl i n .non hi (by rw[Nb Z4]) (.inl hk)
 have hv:∃v,m n=some v:=by
  rcases lk with ⟨_,z⟩ | ⟨k,_⟩
  ·exact⟨_,z⟩
  ·exfalso
   rcases k with k | k
   ·rw[show X.env.kindOf n=X.env.scope.names.lookup n from rfl,hk]at k;cases k
   ·rw[show X.env.kindOf n=X.env.scope.names.lookup n from rfl,hk]at k;cases k
 obtain⟨v,hv⟩:=hv
 refine wpAny_unbindName_local hk hm hv Zb λh' u Tp hs'=>h _ ?_
 have I2:=I1.unbound hN hi hk hm Tp hs'
 rwa [List.set_set]at I2
theorem Ut{M:Model}{A:Around}{E:Value->Shared->Prop}{s:Shared}{N:Addr->Prop}{e C:Addr}{dx:Option Addr}{fs:List Addr}{Q:Unit->Shared->Prop}(hfs:∀b∈fs,∀o vs,s.heap.get? b=some o->o.data≠.fields vs)(x:QT N s.heap e C dx)
  (h:∀h' ch,(∀b∈ch,N b)->QT N h' e C dx->Lv fs ch s.heap h'->Q () { s with heap:=h' }):wpAny M A (setFlight (.ref e) none) Q E s:=by
 obtain⟨ne,vs,sl,he,tb⟩:=x
 rcases tb with h1 | ⟨T,oT,ts,nT,Um,h1,hT,dT,h3⟩
 ·unfold setFlight
  refine aL (vC he rfl h1 ?_)
  rw[aR (by decide)]
  exact bx (h s.heap [] (λb hb=>absurd hb (by simp)) ⟨ne,vs,sl,he,.inl h1⟩ ⟨λb o _ _ z=>z,λb o _ z=>⟨o.slots,z⟩⟩)
 ·have z3:=(Bg.mp h3).1
  refine Ws he rfl h1 hT dT z3 ?_
  have ot:∀b o,b≠T->s.heap.get? b=some o->(s.heap.update T (Obj.mapFields (·.setIfInBounds 3 Value.none))).get? b=some o:=λb o hb z=>(sx _ _ hb.symm).trans z
  have t4:=qc (Obj.mapFields (·.setIfInBounds 3 Value.none)) hT (Ko (Gr dT _))
  refine h _ [T] (λb hb=>by rw[kM.mp hb];exact nT) ⟨ne,vs,sl,ot _ _ Um.symm he,.inr ⟨T,_,_,nT,Um,h1,t4,Gr dT _,by simp[z3]⟩⟩ ⟨λb o _ hb z=>ot b o (λy=>hb (by rw[y];simp)) z,λb o hb z=>⟨o.slots,ot b o (λy=>?_) z⟩⟩
  subst y
  rw[hT]at z
  cases z
  exact hfs b hb oT ts hT dT
theorem Zv{pins:List (Addr×Obj)}{σ:St}{H:Hp}{s:Shared}{e C:Addr}{dx:Option Addr}{D:Ends}(I:Inv X pins σ H s)(Uk:X.stack=X.env::X.outer)(QL:X.env.frame=some X.env.locals)(hN:X.N.Nodup)(hi:X.N[i]?=some n)(hk:X.env.scope.names.lookup n=some .local)(q:kj X.K B=true)(hg:Gl X x)(hm:X.mg x=some (.ref B))
  (hs:∀e,zU (X.K7 e) (b₀::suite) ts) (xa:QT (XN X pins H) s.heap e C dx) (sb:PySem.W.subIn X.K (.ref C) (.ref B)=some true) (h:ts (D.unb i) (σ.set i (some (.ref e))) (upd H e (.ext (Gb e C dx)))) (uM:(x==("__debug__" : Str))=false:=by decide) :
  wpAny (model X.prog X.w) X.A (noteFrame (.ref e) X.env) (λ_ s₂=>wpAny (model X.prog X.w) X.A (setFlight (.ref e) none) (λ_ s₃=>wpAny (model X.prog X.w) X.A (handleBy (.ref e) X.env [.ExceptHandler (some (.Name x np)) (some n) (b₀::suite) Mq]) (SP X pins D) X.xe s₃) X.xe s₂) X.xe s:=by
 have Za:=I.ok.frames
 have st0:=I.stack
 rw[Uk]at Za st0
 refine Q9 (L:=X.env.locals) (base:=X.base) Za st0 QL (λb hb=>.new I hb (I.cA.fresh hb)) xa λh' ch Aj ZP lv=>?_
 rw[<-Uk]at lv
 have I1:=I.left (λb hb=>(Aj b hb).1) lv
 obtain⟨ne,vs,sl,o1,tb1⟩:=ZP
 refine wpAny_handleBy_cons (codeAny_handlers_test (mC (X:=X.K7 e) I1.K7 hg hm (Xc I1.o9 q sb ⟨vs,sl,o1⟩ ?_) uM)) (by intro z;cases z)
 show codeAny _ _ _ _ _
 refine codeAny_handlers_suite_as (Ut (fs:=tZ X.stack) (N:=XN X pins H) (λb hb o ws z=>?_) ⟨ne,vs,sl,o1,tb1⟩ λh2 ch2 aDw xa2 lv2=>?_)
 ·obtain⟨_,o',z',nd⟩:=I1.stack.mem hb
  rw[z]at z';cases z'
  exact nd ws
 have I2:=I1.left aDw lv2
 obtain⟨ne2,vs2,ZR,o2,_⟩:=xa2
 have I3:=(I2.adopt (φ:=Gb e C dx) ne2 (Xa ⟨vs2,ZR,o2⟩)).K7 (e:=e)
 refine um (X:=X.K7 e) (v:=.ref e) I3 hN hi (.inl hk) rfl (λs4 I4=>?_) (.inr hk)
 refine iX (hs e pins s4 _ _ (D.unb i) I4 h) (λf s5 q5=>?_) λ_ _ z=>False.elim z
 show wpAny _ _ (do bindName X.env n .none;unbindBehindTheSuite X.env n Mq) _ _ _
 cases f with
 | next=>
  obtain⟨σ5,H5,I5,q5⟩:=q5
  exact rH (I5.Nn I.ok) hN hi hk λs6 I6=>⟨_,H5,I6,q5⟩
 | brk=>
  obtain⟨σ5,H5,I5,q5⟩:=q5
  exact rH (I5.Nn I.ok) hN hi hk λs6 I6=>⟨_,H5,I6,q5⟩
 | cont=>
  obtain⟨σ5,H5,I5,q5⟩:=q5
  exact rH (I5.Nn I.ok) hN hi hk λs6 I6=>⟨_,H5,I6,q5⟩
 | ret u=>
  obtain⟨v,σ5,H5,I5,ru,q5⟩:=q5
  exact rH (I5.Nn I.ok) hN hi hk λs6 I6=>⟨v,_,H5,I6,ru,q5⟩
theorem Yc(Uk:X.stack=X.env::X.outer)(QL:X.env.frame=some X.env.locals)(hN:X.N.Nodup)(hi:X.N[i]?=some n)(hk:X.env.scope.names.lookup n=some .local)(q:kj X.K B=true)(hg:Gl X x)(hm:X.mg x=some (.ref B))
  (hb:∀(EH:St->XK) (xe:Value->Shared->Prop) (pn:List (Addr×Obj)),nF (X.tri xe pn) EH->PassesOwn (model X.prog X.w) X.A X.env xe->zU (X.tri xe pn) body (tb EH)) (hs:∀e,zU (X.K7 e) (b₀::suite) ts) (uM:(x==("__debug__" : Str))=false:=by decide) :
  PS X (.Try body [.ExceptHandler (some (.Name x np)) (some n) (b₀::suite) Mq] [] [] pos) (Xn X.K i B tb ts):=by
 intro pins s σ H D I h
 obtain⟨EH,h1,h2⟩:=h
 refine wpAny_Try_except ?_
 have L:nF (X.tri (λv s₁=>wpAny (model X.prog X.w) X.A (noteFrame v X.env) (λ_ s₂=>wpAny (model X.prog X.w) X.A (setFlight v none) (λ_ s₃=>wpAny (model X.prog X.w) X.A (handleBy v X.env [.ExceptHandler (some (.Name x np)) (some n) (b₀::suite) Mq]) (SP X pins D) X.xe s₃) X.xe s₂) X.xe s₁) (X.pn++pins)) EH:=by
  intro Ho σ' H' s' e C dx I' ZP q'
  obtain⟨sb,Z1⟩:=h2 σ' C dx H' q'
  refine Zv I'.Hb Uk QL hN hi hk q hg hm hs (ZP.mono λb hb=>⟨hb.1,hb.2.1,hb.2.2.1,hb.2.2.2.1,λp hp=>hb.2.2.2.2 p (vH _ hp)⟩) sb (Z1 e ZP.1.2.1) uM
 refine iX (hb EH _ _ L PassesOwn.looking [] s σ H D I.tri h1) (λf s1 q1=>?_) λ_ _ z=>z
 cases f with
 | next=>
  obtain⟨σ1,H1,I1,q1⟩:=q1
  exact bx ⟨σ1,H1,I1.Hb,q1⟩
 | brk=>
  obtain⟨σ1,H1,I1,q1⟩:=q1
  exact⟨σ1,H1,I1.Hb,q1⟩
 | cont=>
  obtain⟨σ1,H1,I1,q1⟩:=q1
  exact⟨σ1,H1,I1.Hb,q1⟩
 | ret u=>
  obtain⟨v,σ1,H1,I1,ru,q1⟩:=q1
  exact⟨v,σ1,H1,I1.Hb,ru,q1⟩
end
def J5(H:Hp)(dx:Option Addr):Prop:=∀d,dx=some d->∃fs,H d=some (.xd fs)
section
variable {X:Cx}{pins:List (Addr×Obj)}{σ:St}{H:Hp}{s:Shared}{e C:Addr}{dx:Option Addr}
theorem Wt(I:Inv X pins σ H s)(he:H e=some (.ext (Gb e C dx)))(hd:J5 H dx):∃oe od,PySem.W.InstAt s.heap e oe C od:=by
 obtain⟨vs,sl,o1⟩:=(I.cA e _ he).1
 cases dx with
 | none=>exact⟨_,none,o1,rfl,rfl,True.intro⟩
 | some d=>
  obtain⟨fs,hd⟩:=hd d rfl
  obtain⟨mA,n,_⟩:=I.cA d _ hd
  obtain⟨od,ho,_⟩:=vh n
  exact⟨_,some od,o1,rfl,rfl,ho⟩
def Ld(K:Frag):List V->Hp->VK->Prop:=λvs H Q=>∃e T,vs=[.ref e,.ty T]/\∃C dx,H e=some (.ext (Gb e C dx))/\J5 H dx/\XC K C/\∃b,PySem.W.kitOne K (.ref C) (.type T)=some b/\Q (.bl b) H
theorem Mz:e9 X (.builtin "isinstance") (Ld X.K):=by
 intro pins s σ H vs us Q I r h
 obtain⟨e,T,rfl,C,dx,he,hd,c,b,hb,q⟩:=h
 obtain⟨u1,u2,rfl,r1,r2⟩:=r.two
 obtain rfl:u1=Value.ref e:=r1
 obtain rfl:u2=Value.type T:=r2
 exact nS (Ic c) I.o9 (Wt I he hd) hb (λz=>by cases z) λtk=>⟨.bl b,H,I.tok _,rfl,q⟩
def Le(K:Frag):List V->Hp->VK->Prop:=λvs H Q=>∃e D,vs=[.ref e,.ref D]/\∃C dx,H e=some (.ext (Gb e C dx))/\J5 H dx/\XC K C/\∃b,PySem.W.kitOne K (.ref C) (.ref D)=some b/\Q (.bl b) H
theorem MF:e9 X (.builtin "isinstance") (Le X.K):=by
 intro pins s σ H vs us Q I r h
 obtain⟨e,D,rfl,C,dx,he,hd,c,b,hb,q⟩:=h
 obtain⟨u1,u2,rfl,r1,r2⟩:=r.two
 obtain rfl:u1=Value.ref e:=r1
 obtain rfl:u2=Value.ref D:=r2
 exact nS (Ic c) I.o9 (Wt I he hd) hb (λz=>by cases z) λtk=>⟨.bl b,H,I.tok _,rfl,q⟩
def X3(K:Frag):List V->Hp->VK->Prop:=λvs H Q=>∃e p,vs=[.ref e,.ref p]/\∃Ds:List Addr,H p=some (.tup (Ds.map V.ref))/\∃C dx,H e=some (.ext (Gb e C dx))/\J5 H dx/\XC K C/\∃b,PySem.W.kitAny K (.ref C) (Ds.map Value.ref)=some b/\Q (.bl b) H
def Rm(K:Frag)(ta:TE)(f:Str):TE:=λσ H Q=>ta σ H λx H1=>∃e,x=.ref e/\∃C dx,H1 e=some (.ext (Gb e C (some dx)))/\XC K C/\PySem.W.findIn K (.ref C) f=some none/\∃fs,H1 dx=some (.xd fs)/\∃v,fs.lookup f=some v/\Q v H1
theorem Vp{o:Expr}{f:Str}{pos:Pos}{ta:TE}(he:PE X o ta)(hb:attributeBase o f X.env (eval o X.env)=eval o X.env):PE X (.Attribute o f pos) (Rm X.K ta f):=by
 intro pins s σ H Q I h
 refine Wj hb (dH (he pins s σ H _ I h) λu s1 ⟨x,H1,I1,rx,e,ex,C,dx,ee,c,nf,fs,hd,v,lk,q⟩=>?_)
 subst ex
 obtain rfl:u=Value.ref e:=rx
 obtain⟨vs,sl,o1⟩:=(I1.cA e _ ee).1
 obtain⟨mA,n,rel⟩:=I1.cA dx _ hd
 obtain⟨od,ho,hl⟩:=vh n
 obtain⟨u,hu,ru⟩:=wW.some_of (v:=v) (o:=mA f) (by rw[<-lk];exact rel f)
 exact aBJ I1.o9 c.is ⟨o1,rfl,rfl,ho⟩ c.ga c.gn (PySem.W.findObj_own c.hd nf rfl (by rw[hl,hu])) (Qd ru) ⟨v,H1,I1.tok _,ru,q⟩
end
theorem WN{X:Cx}{P:Program}{w:World}:Passes (DQ P w) X E0:=λ_ _ _ _ _ _ _ h=>by
 obtain⟨_,_,_,_,_,_,_,_,_,_,q⟩:=h
 exact q.elim
section
variable {X:Cx}{N:List Str}{sc:Scope}
theorem hcT{xe:Value->Shared->Prop}{pn:List (Addr×Obj)}(h:HC X N sc):HC (X.tri xe pn) N sc:=⟨h.n,h.s⟩
theorem hfT{xe:Value->Shared->Prop}{pn:List (Addr×Obj)}(h:∀x,X.fn x=true):∀x,(X.tri xe pn).fn x=true:=h
theorem hfS{e:Addr}(h:∀x,X.fn x=true):∀x,(X.K7 e).fn x=true:=h
theorem hcS{e:Addr}(h:HC X N sc):HC (X.K7 e) N sc:=⟨h.n,h.s⟩
variable {k:Nat}{fI C B:Addr}{fd:FuncData}{ps:List Str}{sp:Sp}{EH:St->XK}{x n fld:Str}{np bY apos Mq pos pos':Pos}{a b o value:Expr}{t:TA}{te ta tv:TE}{body suite:List Stmt}{b₀:Stmt}{tb:(St->XK)->TS}{ts:TS}
theorem cF(c:XC X.K C)(hi:PySem.W.findIn X.K (.ref C) "__init__" = some (some (.builtin "ValueError.__init__")))(hk:PySem.W.keepIn X.K (.ref C)=true)(hg:Gl X x)(hm:X.mg x=some (.ref C))(hc:X.calm=true)(L:nF X EH)(ha:ZA X [a] t)
  (uM:(x==("__debug__" : Str))=false:=by decide) (he:starEach [a] X.env=(false,eval a X.env)::starEach [] X.env:=by rfl) (sU:(backTo bY (starEach [] X.env)).any (·.1)=false:=by rfl) :
  ZS X (.Raise (some (.Call (.Name x np) [a] [] bY)) none pos) (Eu C t EH):=⟨Pp c hi hk hg hm hc L ha.to uM he sU⟩
theorem fc(c:XC X.K C)(hi:PySem.W.findIn X.K (.ref C) "__init__" = some (some (.ref fI)))(hf:PySem.W.typeIn X.K (.ref fI)=some (.type "function"))(hk:PySem.W.keepIn X.K (.ref C)=true)
  (F:dI X.prog X.w X.K X.mg X.base mE k fI fd ps (mQ C fld)) (hb:Binds X.K fd ps []) (hr:jV (k+1) X.A) (hg:Gl X x) (hm:X.mg x=some (.ref C)) (hc:X.calm=true) (L:nF X EH) (ha:ZE X a te)
  (uM:(x==("__debug__" : Str))=false:=by decide) (he:starEach [a] X.env=(false,eval a X.env)::starEach [] X.env:=by rfl) (sU:(backTo bY (starEach [] X.env)).any (·.1)=false:=by rfl) :
  ZS X (.Raise (some (.Call (.Name x np) [a] [] bY)) none pos) (Et C fld te EH):=⟨Pn c hi hf hk F hb hr hg hm hc L ha.to uM he sU⟩
theorem lU{pl:Sem Bool}(hr:PySem.W.readsIn X.K B (.type "type")=true)(hf:PySem.W.findCls X.K (.ref B) (.type "type") "__init__" = some (.val (.builtin "ValueError.__init__")))
  (hs:PySem.W.specialIn X.K (.ref B) "__getattribute__" = some (some (.builtin "type.__getattribute__"))) (hg:Gl X x) (hm:X.mg x=some (.ref B)) (ha:ZA X [a,b] t)
  (uM:(x==("__debug__" : Str))=false:=by decide) (Uk:starEach [a,b] X.env=(false,eval a X.env)::starEach [b] X.env:=by rfl) (sU:(backTo bY (starEach [b] X.env)).any (·.1)=false:=by rfl)
  (ht:eval (.Call (.Attribute (.Name x np) "__init__" apos) [a,b] [] bY) X.env=(do
   let ov <-eval (.Name x np) X.env
   standAt apos.atName
   let (f,first) <-holding [ov] (getMethod ov "__init__" pl)
   callWith bY f first (backTo bY (starEach [a,b] X.env)) (backToKw bY (keywordEach [] X.env))):=by rfl) :
  ZE X (.Call (.Attribute (.Name x np) "__init__" apos) [a,b] [] bY) (Rr X.K t):=⟨Vu (pl:=pl) hr hf hs hg hm ha.to uM Uk sU ht⟩
theorem lT(ha:ZE X o ta)(hv:ZE X value tv)(hs:swapsWith value (some (.Attribute o fld pos')) pos.line X.env=pure false):ZS X (.Assign [.Attribute o fld pos'] value pos) (RQ X.K ta tv fld):=⟨Vj ha.to hv.to hs⟩
theorem qf{K:Frag}{f:Str}(hK:X.K=K)(he:ZE X o ta)(hb:attributeBase o f X.env (eval o X.env)=eval o X.env):ZE X (.Attribute o f pos) (Rm K ta f):=hK ▸ ⟨Vp he.to hb⟩
theorem JT{K:Frag}(hK:X.K=K):e9 X (.builtin "isinstance") (Ld K):=hK ▸ Mz
theorem bM{K:Frag}(hK:X.K=K):e9 X (.builtin "isinstance") (Le K):=hK ▸ MF
theorem Q0(hc:HC X N sc)(nd:N.Nodup)(i:Nat)(h:SJ N sc i n=true)(Uk:X.stack=X.env::X.outer)(QL:X.env.frame=some X.env.locals)(q:kj X.K B=true)(hg:Gl X x)(hm:X.mg x=some (.ref B))
  (hb:∀(EH:St->XK) (xe:Value->Shared->Prop) (pn:List (Addr×Obj)),nF (X.tri xe pn) EH->PassesOwn (model X.prog X.w) X.A X.env xe->MN (X.tri xe pn) body (tb EH)) (hs:∀e,MN (X.K7 e) (b₀::suite) ts) (uM:(x==("__debug__" : Str))=false:=by decide) :
  ZS X (.Try body [.ExceptHandler (some (.Name x np)) (some n) (b₀::suite) Mq] [] [] pos) (Xn X.K i B tb ts):=
 ⟨Yc Uk QL (by rw[hc.n];exact nd) (qA hc h).1 (qA hc h).2 q hg hm (λEH xe pn l p=>(hb EH xe pn l p).to) (λe=>(hs e).to) uM⟩
end
section
variable {X:Cx}
def WL(neg:Bool):R2:=λx y H Q=>∃p q,x=.ref p/\y=.ref q/\∃xs ys:List Str,H p=some (.tup (List.map V.str xs))/\H q=some (.tup (List.map V.str ys))/\Q (.bl (if neg then !decide (xs=ys) else decide (xs=ys))) H
theorem Fz{A:Around}{s:Shared}{x y:List Str}{us ws:List Value}(r1:Vals (List.map V.str x) us)(r2:Vals (List.map V.str y) ws)(j:Nat)(h1:j<us.toArray.size)(h2:j<ws.toArray.size) :
  SeqAt.EqAt A s us.toArray[j] ws.toArray[j] (decide (x[j]?=y[j]?)):=by
 have l1:=r1.length
 have l2:=r2.length
 rw[di]at l1 l2
 have j1:j<x.length:=by rw[l1];simpa using h1
 have j2:j<y.length:=by rw[l2];simpa using h2
 have e1:x[j]?=some x[j]:=nM j1
 have e2:y[j]?=some y[j]:=nM j2
 have h:=Mt (A:=A) (s:=s) (lO (x:=.str x[j]) r1 h1 (by rw[mz,e1];rfl)) (lO (x:=.str y[j]) r2 h2 (by rw[mz,e2];rfl)) rfl rfl
 have e3:Qg (.str x[j]) (.str y[j])=decide (x[j]?=y[j]?):=by
  rw[e1,e2,t8,Bb,Option.some.injEq]
  show(x[j]==y[j])=true↔_
  rw[beq_iff_eq]
 rw[e3]at h
 exact h
theorem Vx(hu:X.A.units+1<cLine):nJ X (compareOp .NotEq) (WL true):=by
 intro pins s σ H x y v u Q I rx ry h
 obtain⟨a,b,rfl,rfl,cl,dl,h1,h2,q⟩:=h
 cases rx;cases ry
 obtain⟨us,r1,t1,_⟩:=I.tuple (lG h1)
 obtain⟨ws,r2,t2,_⟩:=I.tuple (lG h2)
 have l1:=r1.length
 have l2:=r2.length
 rw[di]at l1 l2
 refine SeqAt.RcNeAt.tuples (e:=λj=>decide (cl[j]?=dl[j]?)) t1 t2 (by omega) (λj h1 h2=>Fz r1 r2 j h1 h2) _ _ _ _ ⟨.bl _,H,I,rfl,?_⟩
 rw[iZ,iZ,<-l1,<-l2,T9]
 exact q
end
end L2
end
section
namespace L2
open PySem PySem.Spec PySem.W PyProof.Rows Builtin
section
variable {prog:Program}{w:World}{A:Around}{E:Value->Shared->Prop}{s:Shared}
end
section
variable {X:Cx}{pins:List (Addr×Obj)}{s:Shared}{σ:St}{H:Hp}{A:Around}
end
section
variable {prog:Program}{w:World}{A:Around}{E:Value->Shared->Prop}{s:Shared}
end
section
variable {prog:Program}{w:World}{A:Around}{E:Value->Shared->Prop}{s:Shared}{h h':Heap}
end
section
variable {X:Cx}{pos pos':Pos}{o i value:Expr}{td ty tv:TE}
end
section
variable {X:Cx}{pos:Pos}{k v:Expr}{tk tv:TE}
end
section
open PySem.SeqAt
open PySem.AutoSeq1 (wpAny_loadPart')
open PySem.MeetsSeq PySem.MeetsSeq2 PySem.MeetsSeq3
end
section
variable {prog:Program}{w:World}{A:Around}{E:Value->Shared->Prop}{s:Shared}
end
section
variable {P:Program}{w:World}{A:Around}{E:Value->Shared->Prop}{s:Shared}
end
section
variable {prog:Program}{w:World}{A:Around}{E:Value->Shared->Prop}{s:Shared}{κ:SortKind}
end
section
variable {X:Cx}{pins:List (Addr×Obj)}{σ:St}{H:Hp}{s:Shared}
end
section
variable {X:Cx}{k:Nat}{f:Addr}{fd:FuncData}{pm g:Str}{e:Expr}{te:TE}{p kp YF pos:Pos}
end
section
variable {X:Cx}{pins:List (Addr×Obj)}{s:Shared}{σ:St}{H:Hp}{A:Around}
end
section
variable {X:Cx}
end
section
variable {X:Cx}{pins:List (Addr×Obj)}{σ:St}{H:Hp}{s:Shared}{d:Addr}{o:Obj}
end
section
variable {X:Cx}{tg:Expr}
def X6:R2:=λx y H Q=>∃a b,x=.ref a/\y=.ref b/\∃xs,H a=some (.lst xs)/\H b=some (.lst [])/\Q (.bl (decide (xs=[]))) H
end
end L2
end
section
namespace L2
open PySem PySem.Spec PyProof.Rows Builtin Builtin.Str
section
variable {X:Cx}
def X4(neg:Bool):R2:=λx y H Q=>∃(c:Nat) (z:Str),x=.str ⟨#[c]⟩/\y=.str z/\Q (.bl (if neg then !decide (c∈z.cps.toList) else decide (c∈z.cps.toList))) H
def aAi:R2:=λx y H Q=>∃(z:Str) (n:Int),x=.str z/\y=.int n/\2<=n/\n<=10000/\1<=z.length/\z.length<=100/\∀u:Str,u.cps.toList=(List.replicate n.toNat z.cps.toList).flatten->Q (.str u) H
end
end L2
end
section
namespace L2
open PySem PySem.Spec PyProof.Rows
open PySem.W (Frag Looks)
structure wu(k:Nat)(A:Around):Prop where
 dp:A.depth+3*k+5<recursionLimit
 un:A.units+16*k+200<cLine
theorem jV.K7{j k:Nat}{A:Around}{v:Option Value}(r:jV k A)(h:j<=k):wu j (A.mark v):=⟨by have:=r.dp;show A.depth+3*j+5<_;lia,by have:=r.un;show A.units+16*j+200<_;lia⟩
theorem wu.deeper{k:Nat}{A:Around}(r:wu (k+1) A)(env:Env):wu k (A.deeper env):=
 ⟨by have:=r.dp;show A.depth+1+3*k+5<_;lia,by have:=r.un;show A.units+3+16*k+200<_;lia⟩
structure FnQ(P:Program)(w:World)(K:Frag)(mg:Str->Option Value)(base:Heap)(k:Nat)(f:Addr)(fd:FuncData)(ps:List Str)(sp:Sp):Prop where
 len:∀vs H Q E,sp vs H Q E->vs.length=ps.length
 run:∀(A:Around) (outer:List Env) (s:Shared) (H:Hp) (args:Args) (us:List Value) (vs:List V) (Q:VK) (E:XK),wu k A->Aq P w K mg base A outer s H->BindsTo s fd args (ps.zip us)->Vals vs us->sp vs H Q E->
  codeAny (model P w) A (.call (.ref f) args) (CR mE outer P w H s Q E) s
@[reducible] def Cx.still (X:Cx):Cx:={ X with calm:=false }
section
variable {P:Program}{w:World}{K:Frag}{mg:Str->Option Value}{base:Heap}
theorem Mb{N ps:List Str}{qual:Str}{scope:Scope}{f:Addr}{cd:Value}{A:Around}{outer:List Env}{s s1:Shared}{H:Hp}{E:XK}{us:List Value}{vs:List V}
  (S:bp N ps scope) (e0:Aq P w K mg base A outer s H) (hl:vs.length=ps.length) (r:Vals vs us)
  (x:InCallC s s.heap.objs.size (bindL (envOfC qual scope s.heap.objs.size f cd).kindOf (ps.zip us) λ_=>none) (cellsFrom (s.heap.objs.size+1) scope.names []) (bindC (envOfC qual scope s.heap.objs.size f cd).kindOf (ps.zip us) λ_=>none) s1) :
  Inv (lE mE P w K mg base N qual scope f cd A outer s H E).still [] (start N vs) H s1:=by
 have e1:Aq P w K mg base ({ A with handled:=none }) outer s H:=⟨e0.frames,e0.mod,e0.bs,e0.Oq,e0.qI,e0.QR,e0.cA,e0.bare⟩
 have I:Inv (lE mE P w K mg base N qual scope f cd ({ A with handled:=none }) outer s H E) [] (start N vs) H s1:=CV S rfl e1 hl r x
 exact⟨⟨I.ok.mod,I.ok.kind,I.ok.glob,I.ok.blt,I.ok.above,I.ok.inj,I.ok.has,I.ok.Wg,λz=>Bool.noConfusion z,I.ok.frames,I.ok.Wu,I.ok.exf,I.ok.bs,I.ok.Oq,I.ok.Fg,I.ok.JG,I.ok.qI,I.ok.QR⟩,I.os,I.bare,I.base,I.loc,I.cell,I.free,I.lu,I.pin,I.cA,I.len⟩
theorem Zh{k:Nat}{f:Addr}{name qual:Str}{params:Arguments}{body:List Stmt}{scope:Scope}{dV kV doc pm dh ct oc:Value}{an od:Option Addr}
  {Kc:Array (Option Value)} {N ps:List Str} {sp:Sp} (lk:K.lookup f=some ⟨oc,od,.func (PySem.W.fnOf name qual params body scope dV kV doc pm an dh ct),Kc⟩) (Fy:PySem.W.codeIn K dh qual=true) (S:bp N ps scope)
  (len:∀vs H Q E,sp vs H Q E->vs.length=ps.length)
  (nZ:∀(A:Around) (outer:List Env) (s:Shared) (H:Hp) (vs:List V) (Q:VK) (E:XK),wu k (A.deeper (envOfC qual scope s.heap.objs.size f dh))->sp vs H Q E->
   ∃t,zU (lE mE P w K mg base N qual scope f dh A outer s H E).still body t/\t { nx:=λ_ H'=>Q .non H',rt:=Q } (start N vs) H) :
  FnQ P w K mg base (k+1) f (PySem.W.fnOf name qual params body scope dV kV doc pm an dh ct) ps sp:=by
 refine⟨len,λA outer s H args us vs Q E hr e0 hb r Mp=>?_⟩
 have hl:=len _ _ _ _ Mp
 have KX:K.In s.heap:=e0.mod.WT.keeps λb o e=>(e0.bs b o e).1
 have lim:s.heap.NoLimit:=e0.mod.nolimit.keeps λb o e=>(e0.bs b o e).1
 have Tr:∀y∈ps.zip us,scope.names.lookup y.1=some .local\/(scope.names.lookup y.1=some .cell/\((cellsFrom (s.heap.objs.size+1) scope.names []).lookup y.1).isSome=true):=λ⟨n,v⟩ hy=>by
  rcases S.par n (Eb hy).1 with q | q
  ·exact .inl q
  ·exact .inr ⟨q,Kz _ _ _ (.inl q)⟩
 refine codeAny_call_function (by have:=hr.dp;lia) (KX _ _ lk) rfl S.co S.gen rfl (PySem.W.codeRec_of KX Fy) (hb _ _ _ _ ?_)
 refine wpAny_newFunctionEnv_cells S.kind Tr λenv he s1 x=>?_
 subst he
 refine⟨lim.keeps x.toInCall.keep,codeAny_func ?_⟩
 obtain⟨t,ht,hq⟩:=nZ A outer s H vs Q E (hr.deeper _) Mp
 have I:Inv (lE mE P w K mg base N qual scope f dh A outer s H E).still [] (start N vs) H s1:=Mb S e0 hl r x
 refine iX (ht [] s1 (start N vs) H _ I hq) (λfl s' hs=>?_) λe s' hs=>hs
 have fin:∀{σ':St} {H':Hp} {v:V} {u:Value},Inv (lE mE P w K mg base N qual scope f dh A outer s H E).still [] σ' H' s'->RelV v u->Q v H'->CE outer P w H s Q u s':=
  λ{σ' H' v u} J rv q=>⟨v,H',J.os,J.bare,J.base,J.cA,rv,q⟩
 cases fl with
 | ret u=>
  obtain⟨v,σ',H',J,rv,q⟩:=hs
  exact fin J rv q
 | next=>
  obtain⟨σ',H',J,q⟩:=hs
  exact fin (v:=V.non) (u:=Value.none) J rfl q
 | brk=>
  obtain⟨_,_,_,q⟩:=hs
  exact False.elim q
 | cont=>
  obtain⟨_,_,_,q⟩:=hs
  exact False.elim q
theorem nG.okQ{x qual:Str}{st:Stmt}{f:Addr}{fd:FuncData}{N ps:List Str}{k:Nat}{sp:Sp}(F:nG K x qual st f fd)(S:bp N ps (aA st))(len:∀vs H Q E,sp vs H Q E->vs.length=ps.length)
  (nZ:∀(dh:Value) (A:Around) (outer:List Env) (s:Shared) (H:Hp) (vs:List V) (Q:VK) (E:XK),wu k (A.deeper (envOfC qual (aA st) s.heap.objs.size f dh))->sp vs H Q E->
   HC (lE mE P w K mg base N qual (aA st) f dh A outer s H E).still N (aA st)->(∀x,(lE mE P w K mg base N qual (aA st) f dh A outer s H E).still.fn x=true)->
   ∃t,MN (lE mE P w K mg base N qual (aA st) f dh A outer s H E).still (bj st) t/\t { nx:=λ_ H'=>Q .non H',rt:=Q } (start N vs) H):FnQ P w K mg base (k+1) f fd ps sp:=by
 obtain⟨oc,od,kV,doc,pm,an,dh,ct,Kc,rfl,lk,Fy⟩:=F.ex
 refine Zh lk Fy S len λA outer s H vs Q E hr Mp=>?_
 obtain⟨t,h,q⟩:=nZ dh A outer s H vs Q E hr Mp ⟨rfl,rfl⟩ (λ_=>rfl)
 exact⟨t,h.to,q⟩
end
section
variable {X:Cx}{k:Nat}{f:Addr}{fd:FuncData}{ps:List Str}{sp:Sp}{x:Str}{p pos:Pos}{e:Expr}{es:List Expr}{t:TA}
theorem Bi(F:FnQ X.prog X.w X.K X.mg X.base k f fd ps sp)(hr:wu k X.A)(hg:Gl X x)(hm:X.mg x=some (.ref f))(hk:PySem.W.keepIn X.K (.ref f)=true)(hb:Binds X.K fd ps [])(hx:Passes mE X E0)
  (ha:ZA X (e::es) t) (uM:(x==("__debug__" : Str))=false:=by decide) (he:starEach (e::es) X.env=(false,eval e X.env)::starEach es X.env:=by rfl) (sU:(backTo pos (starEach es X.env)).any (·.1)=false:=by rfl) :
  ZE X (.Call (.Name x p) (e::es) [] pos) (Ca sp [] E0 t):=by
 refine⟨?_⟩
 intro pins s σ H Q I h
 refine xm (mC I hg hm ?_ uM)
 refine Gw (h₀:=X.base) I.ok.mod.WT hk (dH (ha.to pos pins s σ H _ I h) λus s1 ⟨vs,H1,I1,r,q⟩=>⟨I1.o9,?_⟩) he sU
 have r2:Vals (vs++[]) (us++[]):=r.append .nil
 have hl:(us++[]).length=ps.length:=by rw[<-r2.length];exact F.len _ _ _ _ q
 refine pV (vD (F.run X.A X.stack s1 H1 ⟨us,[]⟩ (us++[]) (vs++[]) Q E0 hr I1.Wa (hb s1 us I1.o9 hl) r2 q) λr s' hq=>?_)
 cases r with
 | error e=>exact hx pins σ H1 s1 e s' I1 hq
 | ok fl=>
  cases fl with
  | ret u=>exact I1.after hq
  | next=>exact False.elim hq
  | brk=>exact False.elim hq
  | cont=>exact False.elim hq
end
end L2
end
section
namespace L2
open PySem PySem.Spec PyProof.Rows
section
variable {X:Cx}{pins:List (Addr×Obj)}{s:Shared}{σ:St}{H:Hp}{A:Around}
def Uc(v:V):Prop:=md v=true\/∃a,v=.ref a
theorem Tx{v:V}{u w:Value}(r1:RelV v u)(r2:RelV v w)(h:Uc v):SeqAt.EqAt A s u w true:=by
 rcases h with h | ⟨a,rfl⟩
 ·have e:=Mt (A:=A) (s:=s) r1 r2 h h
  have e2:Qg v v=true:=by cases v <;> simp[Qg,md]at *
  rwa [e2]at e
 ·cases r1;cases r2
  exact SeqAt.EqAt.same _
theorem Ov(n:Nat):(List.range n).all (λ_=>true)=true:=by simp
theorem Oe{l m:Addr}{vs:List V}(I:Inv X pins σ H s)(h1:H l=some (.lst vs))(h2:H m=some (.lst vs))(al:∀v∈vs,Uc v)(hu:A.units+1<cLine):SeqAt.EqAt A s (.ref l) (.ref m) true:=by
 by_cases e:l=m
 ·subst e;exact SeqAt.EqAt.same _
 ·obtain⟨us,r1,t1,_⟩:=I.list (eV h1)
  obtain⟨ws,r2,t2,_⟩:=I.list (eV h2)
  have l1:=r1.length
  have l2:=r2.length
  have h:=SeqAt.RcAt.lists (A:=A) (e:=λ_=>true) t1.isList t2.isList (by rw[iZ,iZ,<-l1,<-l2]) (by omega) (λj h1 h2=>by
   have j1:j<vs.length:=by rw[l1];simpa using h1
   have e1:vs[j]?=some vs[j]:=nM j1
   exact Tx (lO r1 h1 e1) (lO r2 h2 e1) (al _ (xH j1)))
  rw[Ov]at h
  exact .of_refs e h
def aAn:R2:=λx y H Q=>∃a b l l' m m' c,x=.ref a/\y=.ref b/\H a=some (.tup [.ref l,.ref m,.bl c])/\H b=some (.tup [.ref l',.ref m',.bl c])/\∃us vs,H l=some (.lst us)/\H l'=some (.lst us)/\H m=some (.lst vs)/\H m'=some (.lst vs)/\
 (∀v∈us,Uc v)/\(∀v∈vs,Uc v)/\Q (.bl false) H
theorem Ys(hu:X.A.units+64<cLine):nJ X (compareOp .NotEq) aAn:=by
 intro pins s σ H x y v u Q I rx ry h
 obtain⟨a,b,l,l',m,m',c,rfl,rfl,h1,h2,us,vs,hl,hl',hm,hm',o1,o2,q⟩:=h
 cases rx;cases ry
 obtain⟨as,r1,t1,_⟩:=I.tuple (lG h1)
 obtain⟨bs,r2,t2,_⟩:=I.tuple (lG h2)
 have l1:=r1.length
 have l2:=r2.length
 simp only[vF,Ea]at l1 l2
 have ne:=SeqAt.RcNeAt.tuples (A:=X.A) (e:=λ_=>true) t1 t2 (by omega) (λj h1 h2=>by
  match j,h1,h2 with
  | 0,h1,h2=>
   have e1:as.toArray[0]=.ref l:=lO (x:=.ref l) r1 h1 rfl
   have e2:bs.toArray[0]=.ref l':=lO (x:=.ref l') r2 h2 rfl
   rw[e1,e2]
   exact Oe I hl hl' o1 (by rw[Around.in1_units];omega)
  | 1,h1,h2=>
   have e1:as.toArray[1]=.ref m:=lO (x:=.ref m) r1 h1 rfl
   have e2:bs.toArray[1]=.ref m':=lO (x:=.ref m') r2 h2 rfl
   rw[e1,e2]
   exact Oe I hm hm' o2 (by rw[Around.in1_units];omega)
  | 2,h1,h2=>exact Tx (lO (x:=.bl c) r1 h1 rfl) (lO (x:=.bl c) r2 h2 rfl) (.inl rfl)
  | j+3,h1,h2=>simp at h1;omega)
 rw[Ov,iZ,iZ,<-l1,<-l2]at ne
 exact ne _ _ _ _ ⟨.bl false,H,I,rfl,q⟩
def Ro(tk tv:TE):TE:=λσ H Q=>∀p,H p=none->tk σ (upd H p (.dK [])) λx H1=>tv σ H1 λy H2=>H2 p=some (.dK [])/\∃aX:List (Key×V),[(x,y)]=aX.map (λkv=>(kV kv.1,kv.2))/\aX.length<=15/\Q (.ref p) (upd H2 p (.dK (iY [] aX)))
theorem OJ{pos:Pos}{k v:Expr}{tk tv:TE}(hk:ZE X k tk)(hv:ZE X v tv):ZE X (.Dict [some k] [v] pos) (Ro tk tv):=⟨Vq (Sb hk.to hv.to Vk) rfl rfl (by simp) (by simp)⟩
end
end L2
end
namespace My
open PySem L2
abbrev Lp:List Str:=["thing"]
abbrev Ln:List Str:=["thing"]
abbrev Hy:List Str:=["thing","deepest"]
abbrev wM:List Str:=["word"]
abbrev Hx:List Str:=["rule"]
abbrev wN:List Str:=["rule","names","part"]
abbrev Fh:List Str:=["text","words","found"]
abbrev Lk:List Str:=["words","place","deepest","word","many","parts","behind","turn","found"]
abbrev Lj:List Str:=["words","place"]
abbrev S6:List Str:=["rule","facts","name"]
abbrev Hw:List Str:=["rule","facts","word"]
abbrev wL:List Str:=["word","one","other"]
abbrev Fm:List Str:=["_law_script"]
abbrev Fl:List Str:=["_law_hand_here"]
abbrev Fj:List Str:=["_law_hand_here","_law_cell"]
abbrev Fn:List Str:=["_law_hand_here","_law_many","_law_got","_law_value","_law_size"]
abbrev Af:List Str:=["_law_hand_here","_law_many","_law_letters","_law_some","_law_way","_law_at","_law_names_here","_law_k","_law_name","_law_word","_law_spot","_law_start","_law_sign"]
abbrev Ae:List Str:=["_law_door","_law_thing"]
abbrev Fo:List Str:=["_law_door","_law_thing"]
abbrev Ag:List Str:=["_law_e","_law_some"]
abbrev Ah:List Str:=["_law_e","_law_kinds_here"]
abbrev Fi:List Str:=["_law_door","_law_thing","_law_e","_law_kinds_here"]
abbrev YB:List Str:=["_law_script","_law_hand_here","_law_names_here","_law_k","_law_name","_law_thing","_law_due","_law_fields"]
abbrev dq:List Str:=["self","name"]
abbrev dn:List Str:=["self","name"]
abbrev cJ:List Str:=["self","part"]
abbrev cL:List Str:=["self","part"]
abbrev cM:List Str:=["self","place"]
abbrev dP:List Str:=["self","label"]
abbrev cI:List Str:=["self","most"]
abbrev cK:List Str:=["self","label"]
def bB:List (Str×Int):=[(Str.ofString "yes",0),(Str.ofString "no",0),(Str.ofString "not",1),(Str.ofString "and",2),(Str.ofString "or",2),(Str.ofString "then",2),(Str.ofString "same",2)]
structure W' where
 vy:Addr
 vn:FuncData
 vx:Addr
 vm:FuncData
 tP:Addr
 tG:FuncData
 m5:Addr
 mX:FuncData
 tO:Addr
 tF:FuncData
 m6:Addr
 mY:FuncData
 qV:Addr
 qK:FuncData
 vw:Addr
 vk:FuncData
 vv:Addr
 vj:FuncData
 Ga:Addr
 FG:FuncData
 tN:Addr
 tE:FuncData
 mZ:Addr
 mW:FuncData
 qZ:Addr
 qO:FuncData
 qY:Addr
 qN:FuncData
 qX:Addr
 qM:FuncData
 rg:Addr
 qP:FuncData
 pP:Addr
 pH:FuncData
 pO:Addr
 pG:FuncData
 rh:Addr
 qQ:FuncData
 pQ:Addr
 pI:FuncData
 pR:Addr
 pJ:FuncData
 qW:Addr
 qL:FuncData
 Ua:Addr
 TL:FuncData
 zh:Tok
 Ie:Tok
 Fw:Tok
 qG:Addr
 aG:Addr
 aE:Addr
 bJ:Addr
 lB:FuncData
 aH:Addr
 aF:Addr
 bI:Addr
 lA:FuncData
 aq:Addr
 bD:Addr
 ko:FuncData
 av:Addr
 bF:Addr
 ku:FuncData
 ay:Addr
 bG:Addr
 kx:FuncData
 aC:Addr
 ag:Addr
 ak:Addr
 aI:Addr
 bL:Addr
 lL:FuncData
 aD:Addr
 ao:Addr
 bC:Addr
 km:FuncData
 au:Addr
 bE:Addr
 kr:FuncData
 aJ:Addr
structure Txt(K:PySem.W.Frag)(mg:Str->Option Value)(t:W'):Prop where
 DP:nG K "is_name" "is_name" mJ t.vy t.vn
 Qr:Binds K t.vn ["thing"] []
 PL:mg "is_name" = some (.ref t.vy)
 DN:nG K "is_rule" "is_rule" mH t.vx t.vm
 Qq:Binds K t.vm ["thing"] []
 PK:mg "is_rule" = some (.ref t.vx)
 pS:nG K "has_form" "has_form" lJ t.tP t.tG
 zM:Binds K t.tG ["thing","deepest"] []
 y9:mg "has_form" = some (.ref t.tP)
 nh:nG K "rules_behind" "rules_behind" e6 t.m5 t.mX
 qS:Binds K t.mX ["word"] []
 qD:mg "rules_behind" = some (.ref t.m5)
 tT:nG K "names_of" "names_of" lI t.tO t.tF
 zL:Binds K t.tF ["rule"] []
 y8:mg "names_of" = some (.ref t.tO)
 lD:nG K "names_within" "names_within" e8 t.m6 t.mY
 qT:Binds K t.mY ["rule"] []
 qE:mg "names_within" = some (.ref t.m6)
 rn:nG K "read_rule" "read_rule" kE t.qV t.qK
 wm:Binds K t.qK ["text"] []
 vV:mg "read_rule" = some (.ref t.qV)
 sg:nG K "rule_at" "rule_at" mG t.vw t.vk
 Dv:Binds K t.vk ["words","place","deepest"] []
 Cu:mg "rule_at" = some (.ref t.vw)
 vA:nG K "word_at" "word_at" mF t.vv t.vj
 Du:Binds K t.vj ["words","place"] []
 Cr:mg "word_at" = some (.ref t.vv)
 Gk:nG K "holds" "holds" rM t.Ga t.FG
 Ou:Binds K t.FG ["rule","facts"] []
 N2:mg "holds" = some (.ref t.Ga)
 lM:nG K "truth_of" "truth_of" lH t.tN t.tE
 pN:Binds K t.tE ["rule","facts"] []
 oP:mg "truth_of" = some (.ref t.tN)
 rm:nG K "truth_of_two" "truth_of_two" e4 t.mZ t.mW
 zK:Binds K t.mW ["word","one","other"] []
 y7:mg "truth_of_two" = some (.ref t.mZ)
 wA:nG K "_law_hand" "_law_hand" kJ t.qZ t.qO
 JZ:Binds K t.qO ["_law_script"] []
 HW:mg "_law_hand" = some (.ref t.qZ)
 ml:nG K "_law_next" "_law_next" kI t.qY t.qN
 nB:Binds K t.qN ["_law_hand_here"] []
 nq:mg "_law_next" = some (.ref t.qY)
 wy:nG K "_law_take" "_law_take" kG t.qX t.qM
 JX:Binds K t.qM ["_law_hand_here"] []
 HS:mg "_law_take" = some (.ref t.qX)
 bO:nG K "_law_draw" "_law_draw" kK t.rg t.qP
 bV:Binds K t.qP ["_law_hand_here","_law_many"] []
 bU:mg "_law_draw" = some (.ref t.rg)
 uT:nG K "_law_names" "_law_names" jg t.pP t.pH
 FV:Binds K t.pH ["_law_hand_here","_law_many"] []
 Fq:mg "_law_names" = some (.ref t.pP)
 uS:nG K "_law_raise" "_law_raise" jf t.pO t.pG
 FT:Binds K t.pG ["_law_door","_law_thing"] []
 Fp:mg "_law_raise" = some (.ref t.pO)
 wB:nG K "_law_deed" "_law_deed" kL t.rh t.qQ
 J0:Binds K t.qQ ["_law_door","_law_thing"] []
 HX:mg "_law_deed" = some (.ref t.rh)
 uU:nG K "_law_kinds" "_law_kinds" jh t.pQ t.pI
 FW:Binds K t.pI ["_law_e"] []
 Fs:mg "_law_kinds" = some (.ref t.pQ)
 uV:nG K "_law_field" "_law_field" ji t.pR t.pJ
 FX:Binds K t.pJ ["_law_e","_law_kinds_here"] []
 Ft:mg "_law_field" = some (.ref t.pR)
 wx:nG K "_law_told" "_law_told" kF t.qW t.qL
 JW:Binds K t.qL ["_law_door","_law_thing"] []
 HR:mg "_law_told" = some (.ref t.qW)
 aBC:nG K "law" "law" uy t.Ua t.TL
 aEj:Binds K t.TL ["_law_script"] []
 aEe:mg "law" = some (.ref t.Ua)
 mB:mg "ValueError" = none
 Nj:mg "abs" = none
 GK:mg "all" = none
 aV:mg "isinstance" = none
 qh:mg "len" = none
 Em:mg "list" = none
 jc:mg "range" = none
 Ni:mg "set" = none
 uh:mg "sorted" = none
 Bj:mg "str" = none
 rB:mg "tuple" = none
 lj:mg "MOST_LETTERS" = some (.int 8 t.zh)
 lZ:mg "MOST_DEEP" = some (.int 6 t.Ie)
 mD:mg "MOST_NAMES" = some (.int 5 t.Fw)
 lh:mg "RULES_BEHIND" = some (.ref t.qG)
 bB:Wm K t.qG bB
 cP:mg "TruceError" = some (.ref t.aG)
 Eo:XC K t.aG
 nH:PySem.W.keepIn K (.ref t.aG)=true
 nI:PySem.W.findIn K (.ref t.aG) "__init__" = some (some (.builtin "ValueError.__init__"))
 bQ:PySem.W.readsIn K t.aG (.type "type")=true
 bS:PySem.W.findCls K (.ref t.aG) (.type "type") "__init__" = some (.val (.builtin "ValueError.__init__"))
 bP:PySem.W.specialIn K (.ref t.aG) "__getattribute__" = some (some (.builtin "type.__getattribute__"))
 za:mg "NoFact" = some (.ref t.aE)
 qi:XC K t.aE
 nW:PySem.W.keepIn K (.ref t.aE)=true
 uX:nG K "__init__" "NoFact.__init__" cC t.bJ t.lB
 nC:Binds K t.lB dq []
 nX:PySem.W.findIn K (.ref t.aE) "__init__" = some (some (.ref t.bJ))
 nY:PySem.W.typeIn K (.ref t.bJ)=some (.type "function")
 rK:PySem.W.takerIn K t.aE "name" = some none
 rO:PySem.W.findIn K (.ref t.aE) "name" = some none
 lY:mg "NoText" = some (.ref t.aH)
 lV:XC K t.aH
 gR:PySem.W.keepIn K (.ref t.aH)=true
 gS:PySem.W.findIn K (.ref t.aH) "__init__" = some (some (.builtin "ValueError.__init__"))
 HY:mg "NoJoin" = some (.ref t.aF)
 ui:XC K t.aF
 rV:PySem.W.keepIn K (.ref t.aF)=true
 uW:nG K "__init__" "NoJoin.__init__" cB t.bI t.lA
 uQ:Binds K t.lA dn []
 rX:PySem.W.findIn K (.ref t.aF) "__init__" = some (some (.ref t.bI))
 rY:PySem.W.typeIn K (.ref t.bI)=some (.type "function")
 rJ:PySem.W.takerIn K t.aF "name" = some none
 rN:PySem.W.findIn K (.ref t.aF) "name" = some none
 Cy:mg "NoPeace" = some (.ref t.aq)
 rD:XC K t.aq
 o4:PySem.W.keepIn K (.ref t.aq)=true
 tV:nG K "__init__" "NoPeace.__init__" cv t.bD t.ko
 tJ:Binds K t.ko cJ []
 ph:PySem.W.findIn K (.ref t.aq) "__init__" = some (some (.ref t.bD))
 pA:PySem.W.typeIn K (.ref t.bD)=some (.type "function")
 oy:PySem.W.takerIn K t.aq "part" = some none
 oJ:PySem.W.findIn K (.ref t.aq) "part" = some none
 CG:mg "NoClash" = some (.ref t.av)
 rF:XC K t.av
 o6:PySem.W.keepIn K (.ref t.av)=true
 tX:nG K "__init__" "NoClash.__init__" cx t.bF t.ku
 tL:Binds K t.ku cL []
 pk:PySem.W.findIn K (.ref t.av) "__init__" = some (some (.ref t.bF))
 pC:PySem.W.typeIn K (.ref t.bF)=some (.type "function")
 oA:PySem.W.takerIn K t.av "part" = some none
 oM:PySem.W.findIn K (.ref t.av) "part" = some none
 CK:mg "BadHeap" = some (.ref t.ay)
 rG:XC K t.ay
 o8:PySem.W.keepIn K (.ref t.ay)=true
 tY:nG K "__init__" "BadHeap.__init__" cy t.bG t.kx
 tM:Binds K t.kx cM []
 px:PySem.W.findIn K (.ref t.ay) "__init__" = some (some (.ref t.bG))
 pD:PySem.W.typeIn K (.ref t.bG)=some (.type "function")
 oB:PySem.W.takerIn K t.ay "place" = some none
 oN:PySem.W.findIn K (.ref t.ay) "place" = some none
 Cw:mg "NoTruce" = some (.ref t.aC)
 Bk:XC K t.aC
 oZ:PySem.W.keepIn K (.ref t.aC)=true
 pe:PySem.W.findIn K (.ref t.aC) "__init__" = some (some (.builtin "ValueError.__init__"))
 sM:mg "OtherLabels" = some (.ref t.ag)
 sy:XC K t.ag
 kZ:PySem.W.keepIn K (.ref t.ag)=true
 lg:PySem.W.findIn K (.ref t.ag) "__init__" = some (some (.builtin "ValueError.__init__"))
 zb:mg "BadLabel" = some (.ref t.ak)
 xM:XC K t.ak
 nu:PySem.W.keepIn K (.ref t.ak)=true
 ny:PySem.W.findIn K (.ref t.ak) "__init__" = some (some (.builtin "ValueError.__init__"))
 N3:mg "Taken" = some (.ref t.aI)
 wX:XC K t.aI
 uF:PySem.W.keepIn K (.ref t.aI)=true
 vB:nG K "__init__" "Taken.__init__" dj t.bL t.lL
 vt:Binds K t.lL dP []
 uH:PySem.W.findIn K (.ref t.aI) "__init__" = some (some (.ref t.bL))
 uJ:PySem.W.typeIn K (.ref t.bL)=some (.type "function")
 uk:PySem.W.takerIn K t.aI "label" = some none
 uB:PySem.W.findIn K (.ref t.aI) "label" = some none
 CJ:mg "BadRule" = some (.ref t.aD)
 Bl:XC K t.aD
 o7:PySem.W.keepIn K (.ref t.aD)=true
 pw:PySem.W.findIn K (.ref t.aD) "__init__" = some (some (.builtin "ValueError.__init__"))
 Cv:mg "TooMany" = some (.ref t.ao)
 rC:XC K t.ao
 oY:PySem.W.keepIn K (.ref t.ao)=true
 tU:nG K "__init__" "TooMany.__init__" cu t.bC t.km
 tI:Binds K t.km cI []
 pd:PySem.W.findIn K (.ref t.ao) "__init__" = some (some (.ref t.bC))
 pz:PySem.W.typeIn K (.ref t.bC)=some (.type "function")
 ow:PySem.W.takerIn K t.ao "most" = some none
 oI:PySem.W.findIn K (.ref t.ao) "most" = some none
 Cz:mg "NoLabel" = some (.ref t.au)
 rE:XC K t.au
 o5:PySem.W.keepIn K (.ref t.au)=true
 tW:nG K "__init__" "NoLabel.__init__" cw t.bE t.kr
 tK:Binds K t.kr cK []
 pj:PySem.W.findIn K (.ref t.au) "__init__" = some (some (.ref t.bE))
 pB:PySem.W.typeIn K (.ref t.bE)=some (.type "function")
 oz:PySem.W.takerIn K t.au "label" = some none
 oK:PySem.W.findIn K (.ref t.au) "label" = some none
 N4:mg "NoRow" = some (.ref t.aJ)
 Nk:XC K t.aJ
 uG:PySem.W.keepIn K (.ref t.aJ)=true
 uI:PySem.W.findIn K (.ref t.aJ) "__init__" = some (some (.builtin "ValueError.__init__"))
 dM:PySem.W.subIn K (.ref t.aH) (.ref t.aG)=some true
 jx:PySem.W.kitOne K (.ref t.aH) (.ref t.aE)=some false
 jw:PySem.W.kitOne K (.ref t.aH) (.ref t.aF)=some false
 hV:PySem.W.kitOne K (.ref t.aH) (.ref t.aq)=some false
 ia:PySem.W.kitOne K (.ref t.aH) (.ref t.av)=some false
 ic:PySem.W.kitOne K (.ref t.aH) (.ref t.ay)=some false
 j5:PySem.W.kitOne K (.ref t.aH) (.ref t.aI)=some false
 hJ:PySem.W.kitOne K (.ref t.aH) (.ref t.ao)=some false
 hX:PySem.W.kitOne K (.ref t.aH) (.ref t.au)=some false
 jv:PySem.W.kitOne K (.ref t.aH) (.ref t.aH)=some true
 hU:PySem.W.kitOne K (.ref t.aH) (.ref t.aC)=some false
 dE:PySem.W.kitOne K (.ref t.aH) (.ref t.ag)=some false
 fF:PySem.W.kitOne K (.ref t.aH) (.ref t.ak)=some false
 ib:PySem.W.kitOne K (.ref t.aH) (.ref t.aD)=some false
 j6:PySem.W.kitOne K (.ref t.aH) (.ref t.aJ)=some false
 rR:PySem.W.kitOne K (.ref t.aH) (.type "ValueError")=some true
 dO:PySem.W.subIn K (.ref t.aE) (.ref t.aG)=some true
 jO:PySem.W.kitOne K (.ref t.aE) (.ref t.aE)=some true
 jN:PySem.W.kitOne K (.ref t.aE) (.ref t.aF)=some false
 iG:PySem.W.kitOne K (.ref t.aE) (.ref t.aq)=some false
 iI:PySem.W.kitOne K (.ref t.aE) (.ref t.av)=some false
 iK:PySem.W.kitOne K (.ref t.aE) (.ref t.ay)=some false
 ke:PySem.W.kitOne K (.ref t.aE) (.ref t.aI)=some false
 iE:PySem.W.kitOne K (.ref t.aE) (.ref t.ao)=some false
 iH:PySem.W.kitOne K (.ref t.aE) (.ref t.au)=some false
 jM:PySem.W.kitOne K (.ref t.aE) (.ref t.aH)=some false
 iF:PySem.W.kitOne K (.ref t.aE) (.ref t.aC)=some false
 dG:PySem.W.kitOne K (.ref t.aE) (.ref t.ag)=some false
 fX:PySem.W.kitOne K (.ref t.aE) (.ref t.ak)=some false
 iJ:PySem.W.kitOne K (.ref t.aE) (.ref t.aD)=some false
 kf:PySem.W.kitOne K (.ref t.aE) (.ref t.aJ)=some false
 rT:PySem.W.kitOne K (.ref t.aE) (.type "ValueError")=some true
 dN:PySem.W.subIn K (.ref t.aF) (.ref t.aG)=some true
 jL:PySem.W.kitOne K (.ref t.aF) (.ref t.aE)=some false
 jK:PySem.W.kitOne K (.ref t.aF) (.ref t.aF)=some true
 iz:PySem.W.kitOne K (.ref t.aF) (.ref t.aq)=some false
 iB:PySem.W.kitOne K (.ref t.aF) (.ref t.av)=some false
 iD:PySem.W.kitOne K (.ref t.aF) (.ref t.ay)=some false
 kb:PySem.W.kitOne K (.ref t.aF) (.ref t.aI)=some false
 iw:PySem.W.kitOne K (.ref t.aF) (.ref t.ao)=some false
 iA:PySem.W.kitOne K (.ref t.aF) (.ref t.au)=some false
 jJ:PySem.W.kitOne K (.ref t.aF) (.ref t.aH)=some false
 iy:PySem.W.kitOne K (.ref t.aF) (.ref t.aC)=some false
 dF:PySem.W.kitOne K (.ref t.aF) (.ref t.ag)=some false
 fW:PySem.W.kitOne K (.ref t.aF) (.ref t.ak)=some false
 iC:PySem.W.kitOne K (.ref t.aF) (.ref t.aD)=some false
 kc:PySem.W.kitOne K (.ref t.aF) (.ref t.aJ)=some false
 rS:PySem.W.kitOne K (.ref t.aF) (.type "ValueError")=some true
 dv:PySem.W.subIn K (.ref t.aq) (.ref t.aG)=some true
 il:PySem.W.kitOne K (.ref t.aq) (.ref t.aE)=some false
 ik:PySem.W.kitOne K (.ref t.aq) (.ref t.aF)=some false
 fJ:PySem.W.kitOne K (.ref t.aq) (.ref t.aq)=some true
 fL:PySem.W.kitOne K (.ref t.aq) (.ref t.av)=some false
 fN:PySem.W.kitOne K (.ref t.aq) (.ref t.ay)=some false
 jF:PySem.W.kitOne K (.ref t.aq) (.ref t.aI)=some false
 fG:PySem.W.kitOne K (.ref t.aq) (.ref t.ao)=some false
 fK:PySem.W.kitOne K (.ref t.aq) (.ref t.au)=some false
 ig:PySem.W.kitOne K (.ref t.aq) (.ref t.aH)=some false
 fH:PySem.W.kitOne K (.ref t.aq) (.ref t.aC)=some false
 cZ:PySem.W.kitOne K (.ref t.aq) (.ref t.ag)=some false
 eI:PySem.W.kitOne K (.ref t.aq) (.ref t.ak)=some false
 fM:PySem.W.kitOne K (.ref t.aq) (.ref t.aD)=some false
 jG:PySem.W.kitOne K (.ref t.aq) (.ref t.aJ)=some false
 oS:PySem.W.kitOne K (.ref t.aq) (.type "ValueError")=some true
 dy:PySem.W.subIn K (.ref t.av) (.ref t.aG)=some true
 iN:PySem.W.kitOne K (.ref t.av) (.ref t.aE)=some false
 iM:PySem.W.kitOne K (.ref t.av) (.ref t.aF)=some false
 gd:PySem.W.kitOne K (.ref t.av) (.ref t.aq)=some false
 gi:PySem.W.kitOne K (.ref t.av) (.ref t.av)=some true
 gk:PySem.W.kitOne K (.ref t.av) (.ref t.ay)=some false
 jP:PySem.W.kitOne K (.ref t.av) (.ref t.aI)=some false
 fY:PySem.W.kitOne K (.ref t.av) (.ref t.ao)=some false
 gh:PySem.W.kitOne K (.ref t.av) (.ref t.au)=some false
 iL:PySem.W.kitOne K (.ref t.av) (.ref t.aH)=some false
 fZ:PySem.W.kitOne K (.ref t.av) (.ref t.aC)=some false
 de:PySem.W.kitOne K (.ref t.av) (.ref t.ag)=some false
 eK:PySem.W.kitOne K (.ref t.av) (.ref t.ak)=some false
 gj:PySem.W.kitOne K (.ref t.av) (.ref t.aD)=some false
 jQ:PySem.W.kitOne K (.ref t.av) (.ref t.aJ)=some false
 oV:PySem.W.kitOne K (.ref t.av) (.type "ValueError")=some true
 dA:PySem.W.subIn K (.ref t.ay) (.ref t.aG)=some true
 iV:PySem.W.kitOne K (.ref t.ay) (.ref t.aE)=some false
 iU:PySem.W.kitOne K (.ref t.ay) (.ref t.aF)=some false
 gI:PySem.W.kitOne K (.ref t.ay) (.ref t.aq)=some false
 gK:PySem.W.kitOne K (.ref t.ay) (.ref t.av)=some false
 gM:PySem.W.kitOne K (.ref t.ay) (.ref t.ay)=some true
 jT:PySem.W.kitOne K (.ref t.ay) (.ref t.aI)=some false
 gF:PySem.W.kitOne K (.ref t.ay) (.ref t.ao)=some false
 gJ:PySem.W.kitOne K (.ref t.ay) (.ref t.au)=some false
 iT:PySem.W.kitOne K (.ref t.ay) (.ref t.aH)=some false
 gH:PySem.W.kitOne K (.ref t.ay) (.ref t.aC)=some false
 dg:PySem.W.kitOne K (.ref t.ay) (.ref t.ag)=some false
 eU:PySem.W.kitOne K (.ref t.ay) (.ref t.ak)=some false
 gL:PySem.W.kitOne K (.ref t.ay) (.ref t.aD)=some false
 jU:PySem.W.kitOne K (.ref t.ay) (.ref t.aJ)=some false
 oX:PySem.W.kitOne K (.ref t.ay) (.type "ValueError")=some true
 eD:PySem.W.subIn K (.ref t.aI) (.ref t.aG)=some true
 j4:PySem.W.kitOne K (.ref t.aI) (.ref t.aE)=some false
 j3:PySem.W.kitOne K (.ref t.aI) (.ref t.aF)=some false
 jn:PySem.W.kitOne K (.ref t.aI) (.ref t.aq)=some false
 jq:PySem.W.kitOne K (.ref t.aI) (.ref t.av)=some false
 js:PySem.W.kitOne K (.ref t.aI) (.ref t.ay)=some false
 kS:PySem.W.kitOne K (.ref t.aI) (.ref t.aI)=some true
 jl:PySem.W.kitOne K (.ref t.aI) (.ref t.ao)=some false
 jo:PySem.W.kitOne K (.ref t.aI) (.ref t.au)=some false
 j0:PySem.W.kitOne K (.ref t.aI) (.ref t.aH)=some false
 jm:PySem.W.kitOne K (.ref t.aI) (.ref t.aC)=some false
 dQ:PySem.W.kitOne K (.ref t.aI) (.ref t.ag)=some false
 g6:PySem.W.kitOne K (.ref t.aI) (.ref t.ak)=some false
 jr:PySem.W.kitOne K (.ref t.aI) (.ref t.aD)=some false
 kW:PySem.W.kitOne K (.ref t.aI) (.ref t.aJ)=some false
 uC:PySem.W.kitOne K (.ref t.aI) (.type "ValueError")=some true
 dr:PySem.W.subIn K (.ref t.ao) (.ref t.aG)=some true
 g0:PySem.W.kitOne K (.ref t.ao) (.ref t.aE)=some false
 gZ:PySem.W.kitOne K (.ref t.ao) (.ref t.aF)=some false
 fk:PySem.W.kitOne K (.ref t.ao) (.ref t.aq)=some false
 fq:PySem.W.kitOne K (.ref t.ao) (.ref t.av)=some false
 fu:PySem.W.kitOne K (.ref t.ao) (.ref t.ay)=some false
 jj:PySem.W.kitOne K (.ref t.ao) (.ref t.aI)=some false
 fi:PySem.W.kitOne K (.ref t.ao) (.ref t.ao)=some true
 fo:PySem.W.kitOne K (.ref t.ao) (.ref t.au)=some false
 gY:PySem.W.kitOne K (.ref t.ao) (.ref t.aH)=some false
 fj:PySem.W.kitOne K (.ref t.ao) (.ref t.aC)=some false
 cQ:PySem.W.kitOne K (.ref t.ao) (.ref t.ag)=some false
 eG:PySem.W.kitOne K (.ref t.ao) (.ref t.ak)=some false
 ft:PySem.W.kitOne K (.ref t.ao) (.ref t.aD)=some false
 jk:PySem.W.kitOne K (.ref t.ao) (.ref t.aJ)=some false
 oQ:PySem.W.kitOne K (.ref t.ao) (.type "ValueError")=some true
 dw:PySem.W.subIn K (.ref t.au) (.ref t.aG)=some true
 iu:PySem.W.kitOne K (.ref t.au) (.ref t.aE)=some false
 iq:PySem.W.kitOne K (.ref t.au) (.ref t.aF)=some false
 fQ:PySem.W.kitOne K (.ref t.au) (.ref t.aq)=some false
 fT:PySem.W.kitOne K (.ref t.au) (.ref t.av)=some false
 fV:PySem.W.kitOne K (.ref t.au) (.ref t.ay)=some false
 jH:PySem.W.kitOne K (.ref t.au) (.ref t.aI)=some false
 fO:PySem.W.kitOne K (.ref t.au) (.ref t.ao)=some false
 fS:PySem.W.kitOne K (.ref t.au) (.ref t.au)=some true
 ip:PySem.W.kitOne K (.ref t.au) (.ref t.aH)=some false
 fP:PySem.W.kitOne K (.ref t.au) (.ref t.aC)=some false
 dc:PySem.W.kitOne K (.ref t.au) (.ref t.ag)=some false
 eJ:PySem.W.kitOne K (.ref t.au) (.ref t.ak)=some false
 fU:PySem.W.kitOne K (.ref t.au) (.ref t.aD)=some false
 jI:PySem.W.kitOne K (.ref t.au) (.ref t.aJ)=some false
 oU:PySem.W.kitOne K (.ref t.au) (.type "ValueError")=some true
 du:PySem.W.subIn K (.ref t.aC) (.ref t.aG)=some true
 g9:PySem.W.kitOne K (.ref t.aC) (.ref t.aE)=some false
 g8:PySem.W.kitOne K (.ref t.aC) (.ref t.aF)=some false
 fA:PySem.W.kitOne K (.ref t.aC) (.ref t.aq)=some false
 fC:PySem.W.kitOne K (.ref t.aC) (.ref t.av)=some false
 fE:PySem.W.kitOne K (.ref t.aC) (.ref t.ay)=some false
 jt:PySem.W.kitOne K (.ref t.aC) (.ref t.aI)=some false
 fw:PySem.W.kitOne K (.ref t.aC) (.ref t.ao)=some false
 fB:PySem.W.kitOne K (.ref t.aC) (.ref t.au)=some false
 g7:PySem.W.kitOne K (.ref t.aC) (.ref t.aH)=some false
 fz:PySem.W.kitOne K (.ref t.aC) (.ref t.aC)=some true
 cY:PySem.W.kitOne K (.ref t.aC) (.ref t.ag)=some false
 eH:PySem.W.kitOne K (.ref t.aC) (.ref t.ak)=some false
 fD:PySem.W.kitOne K (.ref t.aC) (.ref t.aD)=some false
 ju:PySem.W.kitOne K (.ref t.aC) (.ref t.aJ)=some false
 oR:PySem.W.kitOne K (.ref t.aC) (.type "ValueError")=some true
 ck:PySem.W.subIn K (.ref t.ag) (.ref t.aG)=some true
 dD:PySem.W.kitOne K (.ref t.ag) (.ref t.aE)=some false
 dC:PySem.W.kitOne K (.ref t.ag) (.ref t.aF)=some false
 cT:PySem.W.kitOne K (.ref t.ag) (.ref t.aq)=some false
 cV:PySem.W.kitOne K (.ref t.ag) (.ref t.av)=some false
 cX:PySem.W.kitOne K (.ref t.ag) (.ref t.ay)=some false
 dR:PySem.W.kitOne K (.ref t.ag) (.ref t.aI)=some false
 cR:PySem.W.kitOne K (.ref t.ag) (.ref t.ao)=some false
 cU:PySem.W.kitOne K (.ref t.ag) (.ref t.au)=some false
 dB:PySem.W.kitOne K (.ref t.ag) (.ref t.aH)=some false
 cS:PySem.W.kitOne K (.ref t.ag) (.ref t.aC)=some false
 cg:PySem.W.kitOne K (.ref t.ag) (.ref t.ag)=some true
 cD:PySem.W.kitOne K (.ref t.ag) (.ref t.ak)=some false
 cW:PySem.W.kitOne K (.ref t.ag) (.ref t.aD)=some false
 dS:PySem.W.kitOne K (.ref t.ag) (.ref t.aJ)=some false
 kR:PySem.W.kitOne K (.ref t.ag) (.type "ValueError")=some true
 cO:PySem.W.subIn K (.ref t.ak) (.ref t.aG)=some true
 gE:PySem.W.kitOne K (.ref t.ak) (.ref t.aE)=some false
 gD:PySem.W.kitOne K (.ref t.ak) (.ref t.aF)=some false
 eO:PySem.W.kitOne K (.ref t.ak) (.ref t.aq)=some false
 eR:PySem.W.kitOne K (.ref t.ak) (.ref t.av)=some false
 eT:PySem.W.kitOne K (.ref t.ak) (.ref t.ay)=some false
 iR:PySem.W.kitOne K (.ref t.ak) (.ref t.aI)=some false
 eM:PySem.W.kitOne K (.ref t.ak) (.ref t.ao)=some false
 eQ:PySem.W.kitOne K (.ref t.ak) (.ref t.au)=some false
 gC:PySem.W.kitOne K (.ref t.ak) (.ref t.aH)=some false
 eN:PySem.W.kitOne K (.ref t.ak) (.ref t.aC)=some false
 cE:PySem.W.kitOne K (.ref t.ak) (.ref t.ag)=some false
 dW:PySem.W.kitOne K (.ref t.ak) (.ref t.ak)=some true
 eS:PySem.W.kitOne K (.ref t.ak) (.ref t.aD)=some false
 iS:PySem.W.kitOne K (.ref t.ak) (.ref t.aJ)=some false
 nr:PySem.W.kitOne K (.ref t.ak) (.type "ValueError")=some true
 dz:PySem.W.subIn K (.ref t.aD) (.ref t.aG)=some true
 iQ:PySem.W.kitOne K (.ref t.aD) (.ref t.aE)=some false
 iP:PySem.W.kitOne K (.ref t.aD) (.ref t.aF)=some false
 gu:PySem.W.kitOne K (.ref t.aD) (.ref t.aq)=some false
 gy:PySem.W.kitOne K (.ref t.aD) (.ref t.av)=some false
 gB:PySem.W.kitOne K (.ref t.aD) (.ref t.ay)=some false
 jR:PySem.W.kitOne K (.ref t.aD) (.ref t.aI)=some false
 gp:PySem.W.kitOne K (.ref t.aD) (.ref t.ao)=some false
 gx:PySem.W.kitOne K (.ref t.aD) (.ref t.au)=some false
 iO:PySem.W.kitOne K (.ref t.aD) (.ref t.aH)=some false
 gq:PySem.W.kitOne K (.ref t.aD) (.ref t.aC)=some false
 df:PySem.W.kitOne K (.ref t.aD) (.ref t.ag)=some false
 eL:PySem.W.kitOne K (.ref t.aD) (.ref t.ak)=some false
 gA:PySem.W.kitOne K (.ref t.aD) (.ref t.aD)=some true
 jS:PySem.W.kitOne K (.ref t.aD) (.ref t.aJ)=some false
 oW:PySem.W.kitOne K (.ref t.aD) (.type "ValueError")=some true
 eF:PySem.W.subIn K (.ref t.aJ) (.ref t.aG)=some true
 j9:PySem.W.kitOne K (.ref t.aJ) (.ref t.aE)=some false
 j8:PySem.W.kitOne K (.ref t.aJ) (.ref t.aF)=some false
 jA:PySem.W.kitOne K (.ref t.aJ) (.ref t.aq)=some false
 jC:PySem.W.kitOne K (.ref t.aJ) (.ref t.av)=some false
 jE:PySem.W.kitOne K (.ref t.aJ) (.ref t.ay)=some false
 kX:PySem.W.kitOne K (.ref t.aJ) (.ref t.aI)=some false
 jy:PySem.W.kitOne K (.ref t.aJ) (.ref t.ao)=some false
 jB:PySem.W.kitOne K (.ref t.aJ) (.ref t.au)=some false
 j7:PySem.W.kitOne K (.ref t.aJ) (.ref t.aH)=some false
 jz:PySem.W.kitOne K (.ref t.aJ) (.ref t.aC)=some false
 dU:PySem.W.kitOne K (.ref t.aJ) (.ref t.ag)=some false
 ie:PySem.W.kitOne K (.ref t.aJ) (.ref t.ak)=some false
 jD:PySem.W.kitOne K (.ref t.aJ) (.ref t.aD)=some false
 kY:PySem.W.kitOne K (.ref t.aJ) (.ref t.aJ)=some true
 uD:PySem.W.kitOne K (.ref t.aJ) (.type "ValueError")=some true
local macro_rules | `(tactic| walk_at "r") => `(tactic| repeat (walk_at "rl"))
local macro_rules | `(tactic| walk_at "s") => `(tactic| exact ⟨rfl,rfl,rfl,by decide +kernel,rfl,by decide +kernel,by decide +kernel⟩)
theorem sY:bp dq dq (aA cC):=by walk_at "s"
theorem sX:bp dn dn (aA cB):=by walk_at "s"
theorem sj:bp cJ cJ (aA cv):=by walk_at "s"
theorem sm:bp cL cL (aA cx):=by walk_at "s"
theorem sq:bp cM cM (aA cy):=by walk_at "s"
theorem ux:bp dP dP (aA dj):=by walk_at "s"
theorem si:bp cI cI (aA cu):=by walk_at "s"
theorem sk:bp cK cK (aA cw):=by walk_at "s"
theorem Lb:bp Lp ["thing"] (aA mJ):=by walk_at "s"
theorem La:bp Ln ["thing"] (aA mH):=by walk_at "s"
theorem vS:bp Hy ["thing","deepest"] (aA lJ):=by walk_at "s"
theorem wF:bp wM ["word"] (aA e6):=by walk_at "s"
theorem Hg:bp Hx ["rule"] (aA lI):=by walk_at "s"
theorem jZ:bp wN ["rule"] (aA e8):=by walk_at "s"
theorem oC:bp Fh ["text"] (aA kE):=by walk_at "s"
theorem fh:bp Lk ["words","place","deepest"] (aA mG):=by walk_at "s"
theorem K9:bp Lj ["words","place"] (aA mF):=by walk_at "s"
theorem Hh:bp S6 ["rule","facts"] (aA rM):=by walk_at "s"
theorem qw:bp Hw ["rule","facts"] (aA lH):=by walk_at "s"
theorem wD:bp wL ["word","one","other"] (aA e4):=by walk_at "s"
theorem Fb:bp Fm ["_law_script"] (aA kJ):=by walk_at "s"
theorem EY:bp Fl ["_law_hand_here"] (aA kI):=by walk_at "s"
theorem oF:bp Fj ["_law_hand_here"] (aA kG):=by walk_at "s"
theorem je:bp Fn ["_law_hand_here","_law_many"] (aA kK):=by walk_at "s"
theorem bz:bp Af ["_law_hand_here","_law_many"] (aA jg):=by walk_at "s"
theorem Ab:bp Ae ["_law_door","_law_thing"] (aA jf):=by walk_at "s"
theorem Fc:bp Fo ["_law_door","_law_thing"] (aA kL):=by walk_at "s"
theorem lP:bp Ag ["_law_e"] (aA jh):=by walk_at "s"
theorem Ac:bp Ah ["_law_e","_law_kinds_here"] (aA ji):=by walk_at "s"
theorem oE:bp Fi ["_law_door","_law_thing"] (aA kF):=by walk_at "s"
theorem mq:bp YB ["_law_script"] (aA uy):=by walk_at "s"
def oa:List Str:=[Str.ofString "is",Str.ofString "not",Str.ofString "and",Str.ofString "or",Str.ofString "then",Str.ofString "same",Str.ofString "yes",Str.ofString "no",Str.ofString "say",Str.ofString "fix",Str.ofString "isa",Str.ofString "nota",Str.ofString "a"]
theorem FZ:bootBuiltins "ValueError" = some (.type "ValueError"):=by decide +kernel
theorem aBt:bootBuiltins "abs" = some (.builtin "abs"):=by decide +kernel
theorem W8:bootBuiltins "all" = some (.builtin "all"):=by decide +kernel
theorem bq:bootBuiltins "isinstance" = some (.builtin "isinstance"):=by decide +kernel
theorem wo:bootBuiltins "len" = some (.builtin "len"):=by decide +kernel
theorem Zx:bootBuiltins "list" = some (.type "list"):=by decide +kernel
theorem aBs:bootBuiltins "set" = some (.type "set"):=by decide +kernel
theorem T7:bootBuiltins "sorted" = some (.builtin "sorted"):=by decide +kernel
theorem T6:bootBuiltins "str" = some (.type "str"):=by decide +kernel
theorem FQ:bootBuiltins "tuple" = some (.type "tuple"):=by decide +kernel
def hv(l:Addr)(a b c d e:Int):HO:=.lst [.ref l,.int a,.int b,.int c,.int d,.int e]
def HdO(l:Addr)(o:HO):Prop:=∃a b c d e,o=hv l a b c d e/\0<=a
def RC:Sp:=λvs H Q _=>∃h,vs=[.ref h]/\∃l a b c d e,H h=some (hv l a b c d e)/\Q (.int (d*48271%2147483647+e*40693%2147483399)) (upd H h (hv l a b c (d*48271%2147483647) (e*40693%2147483399)))
def XB:Sp:=λvs H Q _=>∃h,vs=[.ref h]/\∃l ns o,H h=some o/\HdO l o/\H l=some (.lst (List.map V.int ns))/\∀o',HdO l o'->Q .non (upd H h o')
def yW:Sp:=λvs H Q _=>∃h m,vs=[.ref h,.int m]/\1<=m/\m<2 ^ 300/\∃l ns o,H h=some o/\HdO l o/\H l=some (.lst (List.map V.int ns))/\∀r o',0<=r->r<m->HdO l o'->Q (.int r) (upd H h o')
local macro_rules | `(tactic| walk_at "rd") => `(tactic| walk_at "rc")
local macro_rules | `(tactic| walk_at "rl") => `(tactic| first | (refine kl fun R hR => ?_) | walk_at "ry" | (refine Nx.to (by assumption) _ _ ?_))
local macro_rules | `(tactic| walk_at $s:str) => do
  unless s.getString == "rc" || s.getString == "ry" do Lean.Macro.throwUnsupported
  let ids := (((if s.getString == "rc" then "tSeq " else "") ++ "L2.start Np UG He tB QH tUn Er tC O8 ll Zg Xo aAa Rn Ca yR Rk tCB yQ K5 Xs Xm Ui rI rU rEq rNe XM Rt ipI X1 aAp XZ aB5 aAl WD Wz R5 XS Nz XT X7 Vd Wy Hm WM aB8 WK X5 aB6 aB7 aAq aAm tSl Ri Ew aAf tBM aBL Ny Nw aAj Xw tOr Xq Ru Xp Rj tIf List.map_cons List.map_nil List.cons_append List.nil_append List.append_nil List.length_cons List.length_nil List.replicate List.getElem?_cons_zero List.getElem?_cons_succ List.set_cons_zero List.set_cons_succ Nat.reduceAdd Nat.reduceSub Nat.reduceLeDiff Option.some.injEq V.int.injEq V.ref.injEq V.str.injEq V.bl.injEq V.ty.injEq List.cons.injEq HO.lst.injEq HO.tup.injEq HO.dK.injEq exists_eq_left exists_eq_left' exists_and_left and_true true_and and_assoc exists_const reduceCtorEq aK Ux decide_eq_true_eq List.length_map ite_true ite_false Bool.false_eq_true Bool.true_and Bool.and_true aBz aBy aBx aBw aBv aBu Y0 YZ YX YW YT aBd aBb aBa aA9 Zt Zr Zq Zo Zn cH Option.join_some Option.join_none Rq UJ Tj aAR aAQ aAs Tn Y3 Uy Rg Int.zero_add Int.reduceMul Int.reduceAdd Int.reduceSub Int.reduceLT Int.reduceLE Int.reducePow Int.reduceToNat Int.reduceNeg gt_iff_lt ge_iff_le RC hv X6 HO.ext.injEq aBM Xr K6 Eu Et Rr RQ Xn Ends.unb Ld Le X3 Rm WL HO.xd.injEq R0 aDk yS aAo Y4 X4 aAi Es Ro aAn aAr wY").splitOn " ").toArray.map fun x => Lean.mkIdent x.toName
  `(tactic| simp only [$[$ids:ident],*])
section
variable {P:Program}{w:World}{K:PySem.W.Frag}{mg:Str->Option Value}{base:Heap}{t:W'}
theorem N0(T:Txt K mg t):dI P w K mg base mE 1 t.qY t.qN ["_law_hand_here"] RC:=by
 refine T.ml.vU EY (λvs H Q E h=>?_) (λdh A outer s H vs Q E hr h hc hf=>?_)
 ·obtain⟨h,rfl,_⟩:=h;rfl
 obtain⟨h,rfl,l,a,b,c,d,e,hh,q⟩:=h
 refine⟨_,(by apply ai;exact(om (aY mS (aY oH (bt la (aB hc 0) ah (λ_ _=>rfl)) ah) ah) (oo (aB hc 0) ah uw));apply ai;exact(om (aY mS (aY oH (bt la (aB hc 0) ah (λ_ _=>rfl)) ah) ah) (oo (aB hc 0) ah uw));exact az (aS (aY gT (bt la (aB hc 0) ah (λ_ _=>rfl)) (bt la (aB hc 0) ah (λ_ _=>rfl))))),?_⟩
 unfold hv at *
 walk_at "rd"
 simp only[hh]
 walk_at "rd"
 exact q
theorem VB(T:Txt K mg t):dI P w K mg base mE 2 t.qX t.qM ["_law_hand_here"] XB:=by
 have mj:=N0 (P:=P) (w:=w) (base:=base) T
 refine T.wy.vU oF (λvs H Q E h=>?_) (λdh A outer s H vs Q E hr h hc hf=>?_)
 ·obtain⟨h,rfl,_⟩:=h;rfl
 obtain⟨h,rfl,l,ns,o,hh,⟨a,b,c,d,e,rfl,ha⟩,hl,q⟩:=h
 refine⟨_,(by apply ai;exact(aQ hc oF.nd hf 1 (by decide +kernel) ah);apply mM;exact(aW (aN Ht (bt la (aB hc 0) ah (λ_ _=>rfl)) (aZ sd (bK hc) T.qh wo (ae (bt la (aB hc 0) ah (λ_ _=>rfl)) aj)) (bf _)) (by exact az (aQ hc oF.nd hf 1 (by decide +kernel) (aZ TY (bK hc) T.Nj aBt (ae (bt la (bt la (aB hc 0) ah (λ_ _=>rfl)) (bt la (aB hc 0) ah (λ_ _=>rfl)) (λ_ _=>rfl)) aj)))) aM);apply ai;exact(GF (aB hc 0) ah W5 ah Y2 uw);apply mM;exact(aW (aN aAA (aB hc 1) (aY Sr ah ah) (bf _)) (by exact az (om (aB hc 1) (oo (aB hc 0) ah uw))) (by exact az (om ah (oo (aB hc 0) ah uw))));apply ai;exact(om (aY gT (aY mS (aY gT (bt la (aB hc 0) ah (λ_ _=>rfl)) (aY mS (aB hc 1) ah)) ah) ah) (oo (aB hc 0) ah uw));apply ai;exact(om (aY gT (aY mS (aY gT (aY oH (bt la (aB hc 0) ah (λ_ _=>rfl)) ah) (aY mS (aB hc 1) ah)) ah) ah) (oo (aB hc 0) ah uw));apply ai;exact(cG (aT mj hr.mono (bK hc) T.nq T.ml.kp T.nB .nil cj (ae (aB hc 0) aj)));exact az (cG (aT mj hr.mono (bK hc) T.nq T.ml.kp T.nB .nil cj (ae (aB hc 0) aj)))),?_⟩
 unfold hv at *
 walk_at "rd"
 refine⟨λσ' H'=>∃z,σ'=[some (.ref h),some (.int z)]/\H'=H,?_,?_⟩
 ·repeat (first | walk_at "rd" | simp only[hh,hl])
  split
  ·rename_i uL
   obtain⟨v,hv'⟩:=T8 ha uL
   rw[hv']
   walk_at "rd"
   exact⟨_,rfl⟩
  ·exact⟨_,rfl⟩
 ·rintro σ' H' ⟨z,e1,e2⟩
  subst e1 e2
  repeat (first | walk_at "rd" | simp only[hh,hl])
  refine⟨λσ' z4=>∃b' c',σ'=[some (.ref h),some (.int z)]/\z4=upd H' h (.lst [.ref l,.int (a+1),.int b',.int c',.int d,.int e]),?_,?_⟩
  ·repeat (first | walk_at "rd" | simp only[hh,hl])
   split
   ·exact⟨_,_,rfl⟩
   ·exact⟨_,_,rfl⟩
  ·rintro σ' z4 ⟨b',c',e1,e2⟩
   subst e1 e2
   repeat (first | walk_at "rd" | simp only[hh,hl])
   exact q _ ⟨_,_,_,_,_,rfl,by omega⟩
theorem N1(T:Txt K mg t):dI P w K mg base mE 3 t.rg t.qP ["_law_hand_here","_law_many"] yW:=by
 have mj:=N0 (P:=P) (w:=w) (base:=base) T
 have J9:=VB (P:=P) (w:=w) (base:=base) T
 refine T.bO.vU je (λvs H Q E h=>?_) (λdh A outer s H vs Q E hr h hc hf=>?_)
 ·obtain⟨h,m,rfl,_⟩:=h;rfl
 obtain⟨h,m,rfl,hm,hm2,l,ns,o,hh,⟨a,b,c,d,e,rfl,ha⟩,hl,q⟩:=h
 refine⟨_,(by apply mM;exact(aW (vJ (Uo (aN bZ (bt la (aB hc 0) ah (λ_ _=>rfl)) ah (bf _)) (QZ (aN bZ (bt la (aB hc 0) ah (λ_ _=>rfl)) ah (bf _))))) (by exact az (cG (aT J9 hr.mono (bK hc) T.HS T.wy.kp T.JX .nil cj (ae (aB hc 0) aj)))) aM);apply ai;exact(aW (aN WR (bt la (aB hc 0) ah (λ_ _=>rfl)) ah (bf _)) (by apply ai;exact(aQ hc je.nd hf 2 (by decide +kernel) (aY mS (bt la (aB hc 0) ah (λ_ _=>rfl)) (aB hc 1)));apply ai;exact(om (aY Sv (bt la (aB hc 0) ah (λ_ _=>rfl)) (aB hc 1)) (oo (aB hc 0) ah uw));exact az (aS (aB hc 2))) aM);apply ai;exact(GF (aB hc 0) ah W5 ah Y1 uw);apply ai;exact(aQ hc je.nd hf 3 (by decide +kernel) (aT mj hr.mono (bK hc) T.nq T.ml.kp T.nB .nil cj (ae (aB hc 0) aj)));apply ai;exact(aQ hc je.nd hf 4 (by decide +kernel) ah);apply ai;exact(Ox xE (aN Ht (aB hc 4) (aB hc 1) (bf _)) (by apply ai;exact(aQ hc je.nd hf 3 (by decide +kernel) (aY gT (aY oH (aB hc 3) ah) (aT mj hr.mono (bK hc) T.nq T.ml.kp T.nB .nil cj (ae (aB hc 0) aj))));exact az (aQ hc je.nd hf 4 (by decide +kernel) (aY oH (aB hc 4) ah))));exact az (aS (aY mS (aB hc 3) (aB hc 1)))),?_⟩
 unfold hv at *
 walk_at "rd"
 refine⟨λσ' H'=>∃a b c d e,σ'=[some (.ref h),some (.int m),none,none,none]/\H'=upd H h (hv l a b c d e)/\0<=a,?_,?_⟩
 ·have same:H=upd H h (hv l a b c d e):=by
   funext x;unfold upd;split
   ·rename_i e;rw[e,hh];rfl
   ·rfl
  repeat (first | walk_at "rd" | simp only[hh,hl])
  by_cases hb:b=0
  ·by_cases hc:c=0
   ·simp only[hb,hc,oi]
    repeat (first | walk_at "rd" | simp only[hh,hl])
    refine⟨h,rfl,l,ns,_,hh,⟨a,b,c,d,e,by rw[hb,hc];rfl,ha⟩,hl,?_⟩
    rintro o' ⟨a',b',c',d',e',rfl,W4⟩
    exact⟨a',b',c',d',e',rfl,W4⟩
   ·simp only[hb,hc,oi,pU,Gu]
    exact⟨a,b,c,d,e,same,ha⟩
  ·simp only[hb,pU,Gu]
   exact⟨a,b,c,d,e,same,ha⟩
 ·rintro σ' H' ⟨a,b,c,d,e,e1,e2,ha⟩
  subst e1 e2
  repeat (first | walk_at "rd" | simp only[hh,hl])
  split
  ·rename_i hb
   refine⟨by omega,⟨by omega,hm2⟩,q _ _ (xF _ (by omega)) (Ei _ (by omega)) ⟨_,_,_,_,_,rfl,ha⟩⟩
  ·rename_i hb
   obtain⟨W,hW⟩:∃W:Nat->St->Hp->Prop,∀μ σ' H',W μ σ' H'↔∃v z a b c d e:Int,μ=(m-z).toNat/\σ'=[some (.ref h),some (.int m),none,some (.int v),some (.int z)]/\H'=upd H h (hv l a b c d e)/\0<=a/\1<=z:=⟨_,λ_ _ _=>my⟩
   refine⟨W,⟨_,(hW _ _ _).mpr ⟨_,_,_,_,_,_,_,rfl,rfl,rfl,ha,by omega⟩⟩,?_⟩
   intro μ σ' H' hw'
   obtain⟨v,z,a,b,c,d,e,rfl,e1,e2,ha,hz⟩:=(hW _ _ _).mp hw'
   subst e1 e2
   walk_at "rd"
   split
   ·rename_i uL
    obtain⟨N,hN⟩:∃N:St->Hp->Prop,∀σ' H',N σ' H'↔∃v z' a b c d e:Int,σ'=[some (.ref h),some (.int m),none,some (.int v),some (.int z')]/\H'=upd H h (hv l a b c d e)/\0<=a/\z'=z*4294967296:=⟨_,λ_ _=>my⟩
    refine⟨N,λσ' H' hn=>?_,?_⟩
    ·obtain⟨v,z',a,b,c,d,e,e1,e2,ha,e3⟩:=(hN _ _).mp hn
     exact⟨(m-z').toNat,by omega,(hW _ _ _).mpr ⟨v,z',a,b,c,d,e,rfl,e1,e2,ha,by omega⟩⟩
    ·repeat (first | walk_at "rd" | simp only[hh,hl])
     exact(hN _ _).mpr ⟨_,_,_,_,_,_,_,rfl,rfl,ha,rfl⟩
   ·refine⟨by omega,q _ _ (xF _ (by omega)) (Ei _ (by omega)) ⟨_,_,_,_,_,rfl,ha⟩⟩
local macro_rules | `(tactic| walk_at "rd") => `(tactic| walk_at "rc")
local macro_rules | `(tactic| walk_at "rl") => `(tactic| first | (refine kl fun R hR => ?_) | walk_at "ry" | (refine Nx.to (by assumption) _ _ ?_))
def Hd(H:Hp)(h l:Addr):Prop:=∃ns o,H h=some o/\HdO l o/\H l=some (.lst (List.map V.int ns))
def lC(H:Hp)(h:Addr):Prop:=∃l,Hd H h l
structure Dr(h:Addr)(H H':Hp):Prop where
 keep:∀b o,b≠h->H b=some o->H' b=some o
 hand:∀l,Hd H h l->Hd H' h l
theorem Dr.refl{h:Addr}{H:Hp}:Dr h H H:=⟨λ_ _ _ e=>e,λ_ x=>x⟩
theorem Dr.trans{h:Addr}{H H1 H2:Hp}(a:Dr h H H1)(b:Dr h H1 H2):Dr h H H2:=⟨λc o hc e=>b.keep c o hc (a.keep c o hc e),λl x=>b.hand l (a.hand l x)⟩
theorem Dr.tq{h:Addr}{H H1:Hp}(a:Dr h H H1)(x:lC H h):lC H1 h:=let ⟨l,y⟩:=x;⟨l,a.hand l y⟩
theorem Hd.apart{H:Hp}{h l:Addr}(x:Hd H h l):l≠h:=by
 obtain⟨ns,o,e1,⟨a,b,c,d,e,rfl,_⟩,e3⟩:=x
 intro z
 rw[z,e1]at e3
 have q:=gU e3
 unfold hv at q
 injection q with q
 match ns,q with
 | [],q=>cases q
 | n::_,q=>injection q with q1 _;cases q1
theorem Dr.new{h p:Addr}{H H1:Hp}{o:HO}(a:Dr h H H1)(hp:H1 p=none):Dr h H (upd H1 p o):=by
 refine⟨λc o' hc e=>?_,λl x=>?_⟩
 ·rw[aO (bu (a.keep c o' hc e) hp)];exact a.keep c o' hc e
 ·obtain⟨ns,oh,e1,e2,e3⟩:=a.hand l x
  exact⟨ns,oh,by rw[aO (bu e1 hp)];exact e1,e2,by rw[aO (bu e3 hp)];exact e3⟩
theorem Dr.put{h p:Addr}{H H1:Hp}{o':HO}(a:Dr h H H1)(hn:H p=none):Dr h H (upd H1 p o'):=by
 refine⟨λc o' hc e=>?_,λl x=>?_⟩
 ·rw[aO (bu e hn)];exact a.keep c o' hc e
 ·obtain⟨ns,oh,e1,e2,e3⟩:=a.hand l x
  obtain⟨_,_,f1,_,f3⟩:=x
  exact⟨ns,oh,by rw[aO (bu f1 hn)];exact e1,e2,by rw[aO (bu f3 hn)];exact e3⟩
theorem lC.ne{h p:Addr}{H:Hp}(x:lC H h)(hp:H p=none):p≠h:=by
 obtain⟨l,ns,oh,e1,_,_⟩:=x
 exact(bu e1 hp).symm
theorem Dr.free{h p:Addr}{H H1:Hp}(a:Dr h H H1)(x:lC H h)(hp:H1 p=none):H p=none:=by
 cases e:H p with
 | none=>rfl
 | some o=>
  have n:=(a.tq x).ne hp
  have:=a.keep p o n e
  rw[hp]at this;cases this
theorem kg{h:Addr}{m:Int}{H0 H:Hp}{Q:VK}{E:XK}(hd:lC H0 h)(d:Dr h H0 H)(h1:1<=m)(h2:m<2 ^ 300)(q:∀r H',0<=r->r<m->Dr h H0 H'->(∀b,b≠h->H' b=H b)->Q (.int r) H'):yW [.ref h,.int m] H Q E:=by
 obtain⟨l,x⟩:=hd
 have x':=d.hand l x
 have ap:=x'.apart
 obtain⟨ns,oh,e1,e2,e3⟩:=x'
 refine⟨h,m,rfl,h1,h2,l,ns,oh,e1,e2,e3,λr o' r0 r1 ho=>q r _ r0 r1 ⟨λc o hc e=>?_,λl' x'=>?_⟩ (λb hb=>aO hb)⟩
 ·rw[aO hc];exact d.keep c o hc e
 ·have y:=d.hand l' x'
  have ap':=y.apart
  obtain⟨ns',oh',f1,f2,f3⟩:=y
  have el:l'=l:=by
   obtain⟨a,b,c,d,e,rfl,_⟩:=e2
   obtain⟨a',b',c',d',e',rfl,_⟩:=f2
   rw[e1]at f1
   have:=gU f1
   unfold hv at this
   injection this with this
   injection this with this _
   exact(V.ref.inj this).symm
  subst el
  exact⟨ns,o',aK,ho,by rw[aO ap];exact e3⟩
theorem aP{H:Hp}{p:Addr}(h:H p=none)(o:HO):dk H (upd H p o):=λb u q=>by rw[aO (bu q h)];exact q
theorem JM{α:Type}(f:α->V)(xs:List α)(lo hi:Option Int):tH (xs.map f) lo hi=((xs.drop (HT.eB xs.length 0 lo)).take (HT.eB xs.length xs.length hi-HT.eB xs.length 0 lo)).map f:=by
 unfold tH;rw[di,List.map_take,List.map_drop]
def XF(K:PySem.W.Frag):Sp:=λvs H Q _=>∃a ns,vs=[.ref a]/\uZ K H a (List.map V.int ns)/\∀h H',dk H H'->H h=none->lC H' h->Q (.ref h) H'
theorem VD(T:Txt K mg t):dI P w K mg base mE 1 t.qZ t.qO ["_law_script"] (XF K):=by
 refine T.wA.vU Fb (λvs H Q E h=>?_) (λdh A outer s H vs Q E hr h hc hf=>?_)
 ·obtain⟨a,ns,rfl,_⟩:=h;rfl
 obtain⟨a,ns,rfl,hS,q⟩:=h
 refine⟨_,(by exact az (aS (cN (ae (oq Mx (bK hc) T.Em Zx (ae (lF U7 (aB hc 0) mP (mO ah)) aj)) (ae ah (ae ah (ae ah (ae ah (ae ah aj))))))))),?_⟩
 walk_at "rd"
 refine⟨a,List.map V.int ns,rfl,hS,λp hp=>?_⟩
 rw[JM]
 walk_at "rd"
 refine λl hl=>⟨by decide,λh hh=>?_⟩
 have s1:=aP hp (.lst (List.map V.int ((ns.drop (HT.eB ns.length 0 none)).take (HT.eB ns.length ns.length (some 63)-HT.eB ns.length 0 none))))
 have s2:=aP hl (.lst (List.map V.int ((ns.drop (HT.eB ns.length 0 none)).take (HT.eB ns.length ns.length (some 63)-HT.eB ns.length 0 none))))
 have s3:=aP hh (hv l 0 0 0 20011 40009)
 exact q h _ (s1.trans (s2.trans s3)) ((s1.trans s2).free hh) ⟨l,_,_,aK,⟨_,_,_,_,_,rfl,Int.le_refl 0⟩,s3 _ _ aK⟩
local macro_rules | `(tactic| walk_at "rd") => `(tactic| walk_at "rc")
local macro_rules | `(tactic| walk_at "rl") => `(tactic| first | (refine kl fun R hR => ?_) | walk_at "ry" | (refine Nx.to (by assumption) _ _ ?_))
def U4:Sp:=λvs H Q _=>∃h m,vs=[.ref h,.int m]/\1<=m/\m<=8/\lC H h/\∀p ss H',Dr h H H'->H p=none->H' p=some (.lst (List.map V.str ss))->ss.length=m.toNat->ss.Nodup->(∀s∈ss,Nm s)->Q (.ref p) H'
def sgn(c:Nat):Str:=⟨#[c]⟩
theorem Dk{h:Addr}{n:Nat}{σ:St}{H1:Hp}{Q:VK}(hd:lC H1 h)(h2:σ[2]?=some (some (.str (Str.ofString "abcdefghijklmnopqrstuvwxyz"))))(h0:σ[0]?=some (some (.ref h)))(hn:n<=100)
  (q:∀D (cs:List Nat) H',H1 D=none->Dr h H1 H'->H' D=some (.lst (List.map V.str (cs.map sgn)))->cs.length=n->(∀c∈cs,97<=c/\c<=122)->Q (.ref D) H') :
  pT (J6 0 n) 1 [2,0] (λ_=>ll 0) (λ_=>Rg) (λ_=>QH XZ (Er 1) (Ca yW [] E0 (yR (Er 2) (yR (tC (V.int 26)) Rk)))) σ Q H1:=by
 refine mh (λD i ys H=>∃cs:List Nat,ys=List.map V.str (cs.map sgn)/\cs.length=i/\(∀c∈cs,97<=c/\c<=122)/\Dr h H1 H/\H D=some (.lst ys)) (λD hD=>⟨[],rfl,rfl,(λ_ z=>nomatch z),Dr.refl.new hD,aK⟩) (λD hD i ys H hi p c=>?_) (λD hD ys H p=>?_)
 ·obtain⟨cs,rfl,hl,hc,d,hy⟩:=p
  walk_at "rc"
  repeat (first | walk_at "rd" | simp only[h0,h2,Option.join_some])
  refine kg hd d (by decide) (by decide) λr H' r0 r1 d' k'=>?_
  walk_at "rd"
  refine⟨by decide,?_⟩
  rw[wq r0 r1]
  walk_at "rd"
  refine⟨by rw[k' D (hd.ne hD)];exact hy,eZ (by omega),cs++[97+r.toNat],by simp[sgn],by simp[hl],?_,d'.put hD⟩
  intro c W3
  rcases nR.mp W3 with z | z
  ·exact hc c z
  ·rw[kM.mp z];omega
 ·obtain⟨cs,rfl,hl,hc,d,hy⟩:=p
  exact q D cs H hD d hy hl hc
theorem rW{cs:List Nat}(hn:cs.length<=100):JoinOk (Str.ofString "") (cs.map sgn)=true/\(Txt.join (Str.ofString "") (cs.map sgn)).cps.toList=cs:=by
 refine⟨joinOk_of (L:=1) (n:=100) (λz hz=>?_) (by simpa using hn) (by decide),?_⟩
 ·obtain⟨c,_,rfl⟩:=nQ.mp hz
  exact bW 1
 ·rw[Qe (show(Str.ofString "").cps = #[] by decide)]
  induction cs with
  | nil=>rfl
  | cons c cs ih=>rw[mK,mK,List.flatten_cons,ih (by simp at hn;omega)];rfl
theorem Sx(T:Txt K mg t):dI P w K mg base mE 4 t.pP t.pH ["_law_hand_here","_law_many"] U4:=by
 have bN:=N1 (P:=P) (w:=w) (base:=base) T
 refine T.uT.vU bz (λvs H Q E h=>?_) (λdh A outer s H vs Q E hr h hc hf=>?_)
 ·obtain⟨h,m,rfl,_⟩:=h;rfl
 obtain⟨h,m,rfl,hm1,hm2,hd,q⟩:=h
 refine⟨_,(by apply ai;exact(aQ hc bz.nd hf 2 (by decide +kernel) aU);apply ai;exact(aQ hc bz.nd hf 3 (by decide +kernel) (cN (O1 oa (by decide +kernel))));apply ai;exact(aQ hc bz.nd hf 4 (by decide +kernel) (aT bN hr.mono (bK hc) T.bU T.bO.kp T.bV .nil cj (ae (aB hc 0) (ae ah aj))));apply ai;exact(aW (aN bZ (aB hc 4) ah (bf _)) (by apply ai;exact(aQ hc bz.nd hf 5 (by decide +kernel) (aT bN hr.mono (bK hc) T.bU T.bO.kp T.bV .nil cj (ae (aB hc 0) (ae ah aj))));exact az (aS (jb hc ["_law_k"] [3,5] rfl (by decide +kernel) (ej (bK hc) T.jc (ae (aB hc 1) aj)) (λ_ hc=>Ek hc (by decide +kernel) 0 (by decide +kernel)) (λ_ _=>kA) (λ_ hc=>(bt la (aB hc 1) (aY mS (aY gT (aB hc 2) (aY oH ah (aB hc 0))) ah) (λ_ _=>rfl)))))) aM);apply ai;exact(aQ hc bz.nd hf 6 (by decide +kernel) (cN aj));apply ai;exact(aW (aN bZ (aB hc 4) ah (bf _)) (by apply ai;exact(rz xE rfl (ej (bK hc) T.jc (ae (aB hc 1) aj)) (Oz hc bz.nd hf 7 (by decide +kernel)) (by apply ai;exact(aQ hc bz.nd hf 8 (by decide +kernel) (sW Ky PySem.F.slot_str_join PySem.F.type_str_join HD aU (ae (jb hc ["_law_j"] [2,0] rfl (by decide +kernel) (ej (bK hc) T.jc (ae (aY gT ah (aT bN hr.mono (bK hc) T.bU T.bO.kp T.bV .nil cj (ae (aB hc 0) (ae ah aj)))) aj)) (λ_ hc=>Ek hc (by decide +kernel) 0 (by decide +kernel)) (λ_ _=>kA) (λ_ hc=>(bt YS (aB hc 1) (aT bN hr.mono (bK hc) T.bU T.bO.kp T.bV .nil cj (ae (aB hc 2) (ae ah aj))) (λ_ _=>rfl)))) aj)));apply mM;exact(aW (aN Yu (aB hc 8) (aB hc 6) (by with_unfolding_all rfl)) (by exact az (aQ hc bz.nd hf 8 (by decide +kernel) (bt la (jb hc ["_law_one"] [6] rfl (by decide +kernel) (GJ (aB hc 3)) (λ_ hc=>Ek hc (by decide +kernel) 0 (by decide +kernel)) (λ_ hc=>Oy (aN Pu (aB hc 0) (aB hc 1) (by with_unfolding_all rfl))) (λ_ hc=>(aB hc 0))) ah (λ_ _=>rfl)))) aM);exact az (cG (sW Nc KC KD rP (aB hc 6) (ae (aB hc 8) aj)))));exact az (aS (aB hc 6))) aM);apply ai;exact(aQ hc bz.nd hf 9 (by decide +kernel) (sW Ky PySem.F.slot_str_join PySem.F.type_str_join HD aU (ae (jb hc ["_law_k"] [2,0] rfl (by decide +kernel) (ej (bK hc) T.jc (ae ah aj)) (λ_ hc=>Ek hc (by decide +kernel) 0 (by decide +kernel)) (λ_ _=>kA) (λ_ hc=>(bt YS (aB hc 1) (aT bN hr.mono (bK hc) T.bU T.bO.kp T.bV .nil cj (ae (aB hc 2) (ae ah aj))) (λ_ _=>rfl)))) aj)));apply ai;exact(aW (aN bZ (aB hc 4) ah (bf _)) (by apply ai;exact(aQ hc bz.nd hf 5 (by decide +kernel) (aT bN hr.mono (bK hc) T.bU T.bO.kp T.bV .nil cj (ae (aB hc 0) (ae ah aj))));exact az (aS (jb hc ["_law_k"] [9,5] rfl (by decide +kernel) (ej (bK hc) T.jc (ae (aB hc 1) aj)) (λ_ hc=>Ek hc (by decide +kernel) 0 (by decide +kernel)) (λ_ _=>kA) (λ_ hc=>(lF Ey (aB hc 1) mP (mO (aY gT (aY mS (aY gT (aB hc 2) (aY oH ah (aB hc 0))) ah) ah))))))) aM);apply ai;exact(aQ hc bz.nd hf 10 (by decide +kernel) (aT bN hr.mono (bK hc) T.bU T.bO.kp T.bV .nil cj (ae (aB hc 0) (ae ah aj))));apply ai;exact(aQ hc bz.nd hf 11 (by decide +kernel) (aT bN hr.mono (bK hc) T.bU T.bO.kp T.bV .nil cj (ae (aB hc 0) (ae ah aj))));apply ai;exact(rz xE rfl (ej (bK hc) T.jc (ae (aB hc 1) aj)) (Oz hc bz.nd hf 7 (by decide +kernel)) (by apply ai;exact(aQ hc bz.nd hf 12 (by decide +kernel) (bt YS (aB hc 2) (aY mS (aY gT (aB hc 11) (aY oH ah (aB hc 7))) ah) (λ_ _=>rfl)));apply ai;exact(aQ hc bz.nd hf 8 (by decide +kernel) (aY lK (aY lK (lF Ey (aB hc 9) mP (mO (aB hc 10))) (aB hc 12)) (lF Ey (aB hc 9) (mO (aY gT (aB hc 10) ah)) mP)));exact az (cG (sW Nc KC KD rP (aB hc 6) (ae (lF Ey (aB hc 8) mP (mO (aY gT (aY gT (aB hc 10) ah) (aT bN hr.mono (bK hc) T.bU T.bO.kp T.bV .nil cj (ae (aB hc 0) (ae (aY y0 ah (aB hc 10)) aj)))))) aj)))));exact az (aS (aB hc 6))),?_⟩
 walk_at "rd"
 refine⟨by decide,λS hS=>?_⟩
 have el:oa=lits:=rfl
 rw[el]
 have hSh:S≠h:=hd.ne hS
 refine kg hd (Dr.refl.new hS) (by decide) (by decide) λway H1 w0 w4 d1 k1=>?_
 have hS1:H1 S=some (.lst (List.map V.str lits)):=by rw[k1 S hSh,aK]
 have hd1:=d1.tq hd
 repeat (walk_at "rd")
 split
 ·
  refine kg hd d1 (by decide) (by decide) λQs H2 a0 a1 d2 k2=>?_
  have V6:H2 S=some (.lst (List.map V.str lits)):=by rw[k2 S hSh];exact hS1
  refine⟨by omega,by omega,mh (λD i ys H3=>∃ss:List Str,ys=List.map V.str ss/\ss.length=i/\(∀k s,ss[k]?=some s->lits[((Qs+5*(k:Nat))%13).toNat]?=some s)/\Dr h H H3/\H3 D=some (.lst ys)/\H3 S=some (.lst (List.map V.str lits))) (λD hD=>⟨[],rfl,rfl,(λk s z=>by simp at z),d2.new hD,aK,by rw[aO (bu V6 hD)];exact V6⟩) (λD hD i ys H3 hi p c=>?_) (λD hD ys H3 p=>?_)⟩
  ·obtain⟨ss,rfl,hl,hk,d3,hy,hS3⟩:=p
   walk_at "rc"
   repeat (first | walk_at "rd" | simp only[hS3])
   have hx0:0<=(Qs+5*(i:Int))%13:=xF _ (by decide)
   have Z0:(Qs+5*(i:Int))%13<13:=Ei _ (by decide)
   obtain⟨v,ev,gv⟩:=Zy (xs:=List.map V.str lits) hx0 (by rw[di,zf];exact Z0)
   rw[ev]
   walk_at "rd"
   rw[mz]at gv
   obtain⟨s,es,rfl⟩:∃s,lits[((Qs+5*(i:Int))%13).toNat]?=some s/\V.str s=v:=by
    cases e:lits[((Qs+5*(i:Int))%13).toNat]? with
    | none=>rw[e]at gv;cases gv
    | some s=>rw[e]at gv;exact⟨s,rfl,gU gv⟩
   have hnD:D≠S:=λz=>by rw[z,V6]at hD;cases hD
   refine⟨hy,eZ (by omega),ss++[s],by simp,by simp[hl],λk s' e=>?_,d3.put (d2.free hd hD),by rw[aO hnD.symm];exact hS3⟩
   by_cases hki:k<ss.length
   ·rw[vI hki]at e;exact hk k s' e
   ·rw[ud (by omega)]at e
    have hk0:k-ss.length=0:=by
     cases z:k-ss.length with
     | zero=>rfl
     | succ n=>rw[z]at e;cases e
    rw[hk0]at e
    have:k=i:=by omega
    subst this
    cases e;exact es
  ·obtain⟨ss,rfl,hl,hk,d3,hy,hS3⟩:=p
   refine q D ss H3 d3 (d2.free hd hD) hy hl (vg λi j x hij e1 e2=>?_) λs hs=>?_
   ·have g1:=hk i x e1
    have g2:=hk j x e2
    have hj:j<ss.length:=(nO.mp e2).1
    have u1:((Qs+5*(i:Int))%13).toNat<lits.length:=(nO.mp g1).1
    have:=(List.getElem_inj (i:=((Qs+5*(i:Int))%13).toNat) (j:=((Qs+5*(j:Int))%13).toNat) (h₀:=u1) (h₁:=(nO.mp g2).1) zc).mp ((nO.mp g1).2.trans (nO.mp g2).2.symm)
    omega
   ·obtain⟨k,V2⟩:=M'.mp hs
    exact N5 s (Bd (hk k s V2))
 ·refine⟨by decide,λp hp=>?_⟩
  have hpS:p≠S:=λz=>by rw[z,hS1]at hp;cases hp
  have Z2:p≠h:=hd1.ne hp
  have QK:H p=none:=d1.free hd hp
  have dp:Dr h H (upd H1 p (.lst [])):=d1.new hp
  have hSp:(upd H1 p (.lst [])) S=some (.lst (List.map V.str lits)):=by rw[aO hpS.symm];exact hS1
  split
  ·
   refine⟨by omega,by omega,pF (λi σ' H'=>∃(ss:List Str) (a b:Option V),σ'=[some (.ref h),some (.int m),some (.str (Str.ofString "abcdefghijklmnopqrstuvwxyz")),some (.ref S),some (.int way),none,some (.ref p),a,b,none,none,none,none]/\
    ss.length=i/\ss.Nodup/\(∀s∈ss,Nm s)/\Dr h H H'/\H' p=some (.lst (List.map V.str ss))/\H' S=some (.lst (List.map V.str lits))) ⟨[],none,none,rfl,rfl,List.nodup_nil,(λ_ z=>nomatch z),dp,aK,hSp⟩ (λi σ' H' hi pv=>?_) (λσ' H' pv=>?_)⟩
   ·obtain⟨ss,a,b,rfl,hl,nd,nm,d2,V1,V6⟩:=pv
    repeat (walk_at "rd")
    have hd2:=d2.tq hd
    refine kg hd2 Dr.refl (by decide) (by decide) λr H3 r0 r1 d3 k3=>?_
    repeat (walk_at "rd")
    have hd3:=d3.tq hd2
    refine⟨by omega,by omega,Dk hd3 rfl rfl (by omega) λD cs H4 hD d4 hD4 Ob W2=>?_⟩
    have Z3:H4 p=some (.lst (List.map V.str ss)):=d4.keep _ _ Z2 (d3.keep _ _ Z2 V1)
    have Z8:H4 S=some (.lst (List.map V.str lits)):=d4.keep _ _ hSh (d3.keep _ _ hSh V6)
    have dr4:Dr h H H4:=d2.trans (d3.trans d4)
    repeat (walk_at "rd")
    refine⟨cs.map sgn,hD4,(rW (by omega)).1,?_⟩
    obtain⟨z,hz⟩:∃z,Txt.join (Str.ofString "") (cs.map sgn)=z:=⟨_,rfl⟩
    have ez:z.cps.toList=cs:=by rw[<-hz];exact(rW (by omega)).2
    rw[hz]
    have nz:Nm z:=S5 ez (by omega) (by omega) W2
    refine⟨λσ5 H5=>∃(s:Str),σ5=[some (.ref h),some (.int m),some (.str (Str.ofString "abcdefghijklmnopqrstuvwxyz")),some (.ref S),some (.int way),none,some (.ref p),some (.int i),some (.str s),none,none,none,none]/\Nm s/\s∉ss/\Dr h H H5/\H5 p=some (.lst (List.map V.str ss))/\H5 S=some (.lst (List.map V.str lits)),?_,?_⟩
    ·repeat (first | walk_at "rd" | simp only[Z3])
     refine⟨rfl,J4 _,?_⟩
     simp only[Jb,Eh,Gu,pU]
     by_cases hin:z∈ss
     ·rw[bH hin]
      repeat (first | walk_at "rd" | simp only[Z8])
      refine⟨⟨_,eV Z8⟩,FJ (zs:=List.map V.str lits) (λD i ys H5=>ys=List.map V.str ((lits.take i).filter λx=>decide (x∉ss))/\Dr h H H5/\H5 D=some (.lst ys)/\H5 p=some (.lst (List.map V.str ss))/\H5 S=some (.lst (List.map V.str lits))) (λD hD=>⟨rfl,dr4.new hD,aK,by rw[aO (bu Z3 hD)];exact Z3,by rw[aO (bu Z8 hD)];exact Z8⟩) (λD hD i ys H5 _ pv=>pv.2.2.2.2) (λD hD i x ys H5 hx pv c=>?_) (λD hD ys H5 pv=>?_)⟩
      ·obtain⟨rfl,d5,Z',QJ,Z7⟩:=pv
       rw[mz]at hx
       obtain⟨y,ey,rfl⟩:∃y,lits[i]?=some y/\V.str y=x:=by
        cases e:lits[i]? with
        | none=>rw[e]at hx;cases hx
        | some y=>rw[e]at hx;exact⟨y,rfl,gU hx⟩
       have et:lits.take (i+1)=lits.take i++[y]:=by rw[Gs,ey];rfl
       have hnD:p≠D:=bu Z3 hD
       have hSD:S≠D:=bu Z8 hD
       walk_at "rc"
       repeat (first | walk_at "rd" | simp only[QJ])
       refine⟨rfl,J4 _,?_⟩
       simp only[Jb,oi,Eg,decide_eq_false_iff_not]
       split
       ·rename_i hy
        refine⟨Z',?_,?_,d5.put (dr4.free hd hD),by rw[aO hnD];exact QJ,by rw[aO hSD];exact Z7⟩
        ·have:=List.length_filter_le (λx=>decide (x∉ss)) (lits.take i)
         have h2:(lits.take i).length<=13:=by rw[kO,zf];omega
         try rw[di]
         exact eZ (by omega)
        ·rw[et,List.filter_append];simp[hy]
       ·rename_i hy
        refine⟨?_,d5,Z',Z7⟩
        rw[et,List.filter_append];simp[hy]
      ·obtain⟨rfl,d5,Z',QJ,Z7⟩:=pv
       rw[di,xJ]at Z'
       obtain⟨s,r,es,hs1,hs2⟩:=Te (ss:=ss) (by omega)
       rw[es]at Z'
       repeat (first | walk_at "rd" | simp only[Z'])
       exact⟨N5 s hs1,hs2,d5,QJ,Z7⟩
     ·rw[aR hin]
      exact⟨nz,hin,dr4,Z8⟩
    ·rintro σ5 H5 ⟨s,rfl,ns,hns,d5,QJ,Z7⟩
     repeat (first | walk_at "rd" | simp only[QJ])
     refine⟨.inl ⟨rfl,_,eV QJ⟩,?_⟩
     refine⟨eZ (by omega),ss++[s],by simp[hl],?_,λx hx=>?_,d5.put QK,by simp,by rw[aO hpS.symm];exact Z7⟩
     ·rw[List.nodup_append]
      refine⟨nd,by simp,λa ha b hb=>?_⟩
      rw[kM.mp hb]
      intro e;rw[e]at ha;exact hns ha
     ·rcases nR.mp hx with z | z
      ·exact nm x z
      ·rw[kM.mp z];exact ns
   ·obtain⟨ss,a,b,rfl,hl,nd,nm,d2,V1,V6⟩:=pv
    repeat (walk_at "rd")
    exact q p ss H' d2 QK V1 hl nd nm
  ·
   have hdp:=dp.tq hd
   refine Dk hdp rfl rfl (by decide) λD cs H2 hD d2 hD2 Ob W2=>?_
   have V1:H2 p=some (.lst []):=d2.keep _ _ Z2 aK
   have dr2:Dr h H H2:=dp.trans d2
   repeat (walk_at "rd")
   refine⟨cs.map sgn,hD2,(rW (by omega)).1,?_⟩
   obtain⟨wd,hwd⟩:∃z,Txt.join (Str.ofString "") (cs.map sgn)=z:=⟨_,rfl⟩
   have ew:wd.cps.toList=cs:=by rw[<-hwd];exact(rW (by omega)).2
   have lw:wd.length=8:=by have:=rQ wd;rw[ew]at this;omega
   rw[hwd]
   split
   ·
    refine kg hd dr2 (by decide) (by decide) λQs H3 a0 a1 d3 k3=>?_
    refine⟨by omega,by omega,?_⟩
    obtain⟨Pv,tu⟩:∃Pv:Addr->Nat->List V->Hp->Prop,∀D i ys H',Pv D i ys H'↔∃ss:List Str,ys=List.map V.str ss/\ss.length=i/\(∀(k:Nat) s,ss[k]?=some s->s.cps.toList=cs.take ((Qs+3*(k:Int))%8+1).toNat)/\Dr h H H'/\H' D=some (.lst ys):=⟨_,λ_ _ _ _=>my⟩
    refine mh Pv (λD hD=>(tu _ _ _ _).mpr ⟨[],rfl,rfl,(λk s z=>by simp at z),d3.new hD,aK⟩) (λD hD i ys H4 hi pv c=>?_) (λD hD ys H4 pv=>?_)
    ·obtain⟨ss,rfl,hl,hk,d4,hy⟩:=(tu _ _ _ _).mp pv
     walk_at "rc"
     repeat (walk_at "rd")
     have hx0:0<=(Qs+3*(i:Int))%8:=xF _ (by decide)
     refine⟨by rw[lw];decide,hy,eZ (by omega),(tu _ _ _ _).mpr ⟨ss++[vo wd none (some ((Qs+3*(i:Int))%8+1))],by simp,by simp[hl],λk s e=>?_,d4.put (d3.free hd hD),aK⟩⟩
     by_cases hki:k<ss.length
     ·rw[vI hki]at e;exact hk k s e
     ·rw[ud (by omega)]at e
      have hk0:k-ss.length=0:=by
       cases z:k-ss.length with
       | zero=>rfl
       | succ n=>rw[z]at e;cases e
      rw[hk0]at e
      have:k=i:=by omega
      subst this
      cases e
      rw[FH wd (by omega),ew]
    ·obtain⟨ss,rfl,hl,hk,d4,hy⟩:=(tu _ _ _ _).mp pv
     refine q D ss H4 d4 (d3.free hd hD) hy hl (vg λi j x hij e1 e2=>?_) λs hs=>?_
     ·have g1:=hk i x e1
      have g2:=hk j x e2
      have hj:j<ss.length:=(nO.mp e2).1
      have:=ni List.length (g1.symm.trans g2)
      rw[kO,kO,Ob]at this
      omega
     ·obtain⟨k,V2⟩:=M'.mp hs
      have g:=hk k s V2
      refine S5 g ?_ ?_ λc W3=>W2 c (Ku W3)
      ·rw[kO,Ob];omega
      ·rw[kO,Ob];omega
   ·
    refine kg hd dr2 (by decide) (by decide) λsp H3 s0 s1 d3 k3=>?_
    repeat (walk_at "rd")
    refine kg hd d3 (by decide) (by decide) λst H4 t0 t1 d4 k4=>?_
    have Z3:H4 p=some (.lst []):=by rw[k4 p Z2,k3 p Z2];exact V1
    refine⟨by omega,by omega,?_⟩
    obtain⟨Pv,tu⟩:∃Pv:Nat->St->Hp->Prop,∀i σ' H',Pv i σ' H'↔∃(ss:List Str) (a b c:Option V),σ'=[some (.ref h),some (.int m),some (.str (Str.ofString "abcdefghijklmnopqrstuvwxyz")),some (.ref S),some (.int way),none,some (.ref p),a,b,some (.str wd),some (.int sp),some (.int st),c]/\
     ss.length=i/\(∀(k:Nat) s,ss[k]?=some s->Nm s/\s.cps.toList[sp.toNat]?=some (97+((st+7*(k:Int))%26).toNat))/\Dr h H H'/\H' p=some (.lst (List.map V.str ss)):=⟨_,λ_ _ _=>my⟩
    refine pF Pv ((tu _ _ _).mpr ⟨[],none,none,none,rfl,rfl,(λk s z=>by simp at z),d4,Z3⟩) (λi σ' H5 hi pv=>?_) (λσ' H5 pv=>?_)
    ·obtain⟨ss,a,b,c,rfl,hl,hk,d5,QJ⟩:=(tu _ _ _).mp pv
     repeat (walk_at "rd")
     have hx0:0<=(st+7*(i:Int))%26:=xF _ (by decide)
     have Z0:(st+7*(i:Int))%26<26:=Ei _ (by decide)
     refine⟨by decide,?_⟩
     rw[wq hx0 Z0]
     repeat (walk_at "rd")
     obtain⟨c0,hc0⟩:∃c0,97+((st+7*(i:Int))%26).toNat=c0:=⟨_,rfl⟩
     rw[hc0]
     obtain⟨x1,Z0⟩:∃z,vo wd none (some sp)=z:=⟨_,rfl⟩
     obtain⟨x2,hx2⟩:∃z,vo wd (some (sp+1)) none=z:=⟨_,rfl⟩
     have e1:x1.cps.toList=cs.take sp.toNat:=by rw[<-Z0,FH wd s0,ew]
     have e2:x2.cps.toList=cs.drop (sp.toNat+1):=by
      rw[<-hx2,Qk wd (by omega),ew]
      congr 1;omega
     rw[Z0,hx2]
     have l1:x1.length=sp.toNat:=by have:=rQ x1;rw[e1,kO,Ob]at this;omega
     have l2:x2.length=8-(sp.toNat+1):=by have:=rQ x2;rw[e2,Ay,Ob]at this;omega
     have lc:(Str.mk #[c0]).length=1:=rfl
     have e3:(x1++Str.mk #[c0]).cps.toList=cs.take sp.toNat++[c0]:=by rw[nD,e1]
     have l3:(x1++Str.mk #[c0]).length=sp.toNat+1:=by
      have:=rQ (x1++Str.mk #[c0])
      rw[e3,lS,kO,Ob,M9]at this;omega
     obtain⟨z,hz⟩:∃z,x1++Str.mk #[c0]++x2=z:=⟨_,rfl⟩
     have ez:z.cps.toList=cs.take sp.toNat++[c0]++cs.drop (sp.toNat+1):=by rw[<-hz,nD,e3,e2]
     have lz:z.cps.toList.length=8:=by rw[ez,lS,lS,kO,Ay,Ob,M9];omega
     have lz':z.length=8:=by rw[<-rQ z];exact lz
     rw[hz]
     refine⟨by rw[lw];decide,by rw[l1,lc];exact mR (by omega),by rw[lw];decide,by rw[l3,l2];exact mR (by omega),.inl ⟨rfl,_,eV QJ⟩,?_⟩
     refine kg hd d5 (by omega) (by omega) λr H6 r0 r1 d6 k6=>?_
     have hp6:H6 p=some (.lst (List.map V.str ss)):=by rw[k6 p Z2];exact QJ
     repeat (first | walk_at "rd" | simp only[hp6])
     have eq:(vo z none (some (sp+1+r))).cps.toList=z.cps.toList.take (sp+1+r).toNat:=FH z (by omega)
     refine⟨by rw[lz'];decide,eZ (by omega),(tu _ _ _).mpr ⟨ss++[vo z none (some (sp+1+r))],_,_,_,rfl,by simp[hl],λk s e=>?_,d6.put QK,by simp[aK]⟩⟩
     by_cases hki:k<ss.length
     ·rw[vI hki]at e;exact hk k s e
     ·rw[ud (by omega)]at e
      have hk0:k-ss.length=0:=by
       cases z:k-ss.length with
       | zero=>rfl
       | succ n=>rw[z]at e;cases e
      rw[hk0]at e
      have:k=i:=by omega
      subst this
      cases e
      refine⟨S5 eq (by rw[kO,lz];omega) (by rw[kO,lz];omega) λc W3=>?_,?_⟩
      ·have hm:=Ku W3
       rw[ez]at hm
       rcases nR.mp hm with hm | hm
       ·rcases nR.mp hm with hm | hm
        ·exact W2 c (Ku hm)
        ·rw[kM.mp hm];omega
       ·exact W2 c (List.mem_of_mem_drop hm)
      ·rw[eq,List.getElem?_take_of_lt (by omega),ez,vI (by rw[lS,kO,Ob,M9];omega),ud (by rw[kO,Ob];omega),kO,Ob]
       have:sp.toNat-min sp.toNat 8=0:=by omega
       rw[this,<-hc0];rfl
    ·obtain⟨ss,a,b,c,rfl,hl,hk,d5,QJ⟩:=(tu _ _ _).mp pv
     repeat (walk_at "rd")
     refine q p ss H5 d5 QK QJ hl (vg λi j x hij e1 e2=>?_) λs hs=>?_
     ·have g1:=(hk i x e1).2
      have g2:=(hk j x e2).2
      have hj:j<ss.length:=(nO.mp e2).1
      rw[g1]at g2
      have:=gU g2
      omega
     ·obtain⟨k,V2⟩:=M'.mp hs
      exact(hk k s V2).1
local macro_rules | `(tactic| walk_at "rd") => `(tactic| walk_at "rc")
local macro_rules | `(tactic| walk_at "rl") => `(tactic| first | (refine kl fun R hR => ?_) | walk_at "ry" | (refine Nx.to (by assumption) _ _ ?_))
inductive Rl where
 | yes | no | var (x:Str) | neg (a:Rl) | two (k:Str) (a b:Rl)
def bw:List Str:=[Str.ofString "and",Str.ofString "or",Str.ofString "then",Str.ofString "same"]
def jX(H:Hp):Rl->Addr->Prop
 | .yes,p=>H p=some (.tup [.str (Str.ofString "yes")])
 | .no,p=>H p=some (.tup [.str (Str.ofString "no")])
 | .var x,p=>H p=some (.tup [.str (Str.ofString "is"),.str x])
 | .neg a,p=>∃q,H p=some (.tup [.str (Str.ofString "not"),.ref q])/\jX H a q
 | .two k a b,p=>k∈bw/\∃q r,H p=some (.tup [.str k,.ref q,.ref r])/\jX H a q/\jX H b r
def Rl.deep:Rl->Nat
 | .neg a=>a.deep+1
 | .two _ a b=>max a.deep b.deep+1
 | _=>1
def Rl.names:Rl->List Str
 | .var x=>[x]
 | .neg a=>a.names
 | .two _ a b=>a.names++b.names
 | _=>[]
def ZF(H H':Hp):Prop:=∀q xs,H q=some (.tup xs)->H' q=some (.tup xs)
theorem nk{H H':Hp}(s:dk H H'):ZF H H':=λq xs e=>s q _ e
theorem lC.Yy{H:Hp}{h q:Addr}{xs:List V}(x:lC H h)(e:H q=some (.tup xs)):q≠h:=by
 obtain⟨l,ns,o,e1,⟨a,b,c,d,f,rfl,_⟩,_⟩:=x
 exact HB e e1 (by intro z;cases z)
theorem Dr.tups{h:Addr}{H H':Hp}(d:Dr h H H')(x:lC H h):ZF H H':=λq xs e=>d.keep q _ (x.Yy e) e
theorem jX.mono{H H':Hp}(k:ZF H H'):∀{r:Rl} {p:Addr},jX H r p->jX H' r p
 | .yes,p,h=>k _ _ h
 | .no,p,h=>k _ _ h
 | .var x,p,h=>k _ _ h
 | .neg a,p,⟨q,e,x⟩=>⟨q,k _ _ e,jX.mono k x⟩
 | .two w a b,p,⟨m,q,r,e,x,y⟩=>⟨m,q,r,k _ _ e,jX.mono k x,jX.mono k y⟩
theorem Rl.len:∀r:Rl,r.names.length*2<=2 ^ r.deep
 | .yes=>by decide
 | .no=>by decide
 | .var x=>by show 1*2<=2 ^ 1;decide
 | .neg a=>jY a.len (xr (by decide) (nP _))
 | .two k a b=>by
  show(a.names++b.names).length*2<=2 ^ (max a.deep b.deep+1)
  have h1:=jY a.len (xr (show 0<2 by decide) (Ec a.deep b.deep))
  have h2:=jY b.len (xr (show 0<2 by decide) (Ee a.deep b.deep))
  rw[lS,Nat.pow_succ];lia
theorem Rl.aAI{r:Rl}(h:r.deep<=6):r.names.length<=32:=by
 have h1:=r.len
 have h2:2 ^ r.deep<=2 ^ 6:=xr (by decide) h
 have h3:(2:Nat) ^ 6=64:=by decide
 lia
theorem Rl.pos:∀r:Rl,1<=r.deep
 | .yes=>bW _
 | .no=>bW _
 | .var _=>bW _
 | .neg _=>xG _ _
 | .two _ _ _=>xG _ _
theorem T4:∀k∈bw,k≠Str.ofString "is":=by decide
theorem jX.kids{H:Hp}:∀{r:Rl} {p:Addr},jX H r p->(∃x,r=.var x/\H p=some (.tup [.str (Str.ofString "is"),.str x]))\/
  ∃(k:Str) (qs:List Addr) (rs:List Rl),H p=some (.tup (.str k::qs.map V.ref))/\k≠Str.ofString "is"/\qs.length=rs.length/\rs.length<=2/\(∀(i:Nat) q r',qs[i]?=some q->rs[i]?=some r'->jX H r' q/\r'.deep+1<=r.deep)/\r.names=(rs.map Rl.names).flatten
 | .yes,p,h=>.inr ⟨_,[],[],h,by decide,rfl,by decide,(λi q r' e=>by simp at e),rfl⟩
 | .no,p,h=>.inr ⟨_,[],[],h,by decide,rfl,by decide,(λi q r' e=>by simp at e),rfl⟩
 | .var x,p,h=>.inl ⟨x,rfl,h⟩
 | .neg a,p,⟨q,e,x⟩=>.inr ⟨_,[q],[a],e,by decide,rfl,by simp,(λi q' r' e1 e2=>by
   cases i with
   | zero=>cases e1;cases e2;exact⟨x,bW _⟩
   | succ n=>cases e1),by simp[Rl.names]⟩
 | .two w a b,p,⟨m,q,r,e,x,y⟩=>.inr ⟨_,[q,r],[a,b],e,T4 _ m,rfl,by simp,(λi q' r' e1 e2=>by
   match i with
   | 0=>cases e1;cases e2;exact⟨x,Ef (Ec _ _)⟩
   | 1=>cases e1;cases e2;exact⟨y,Ef (Ee _ _)⟩
   | n+2=>cases e1),by simp[Rl.names]⟩
theorem Dj(x:V)(xs:List V):tH (x::xs) (some 1) none=xs:=by
 unfold tH HT.eB
 simp
local macro_rules | `(tactic| walk_at "rd") => `(tactic| walk_at "rc")
local macro_rules | `(tactic| walk_at "rl") => `(tactic| first | (refine kl fun R hR => ?_) | walk_at "ry" | (refine Nx.to (by assumption) _ _ ?_))
def Rz(d:Nat):Sp:=λvs H Q _=>∃p,vs=[.ref p]/\∃r,jX H r p/\r.deep<=d/\r.deep<=6/\∀L H',dk H H'->H L=none->H' L=some (.lst (List.map V.str r.names))->Q (.ref L) H'
theorem BZ{rs:List Rl}{i:Nat}{r:Rl}(h:rs[i]?=some r):((rs.take (i+1)).map Rl.names).flatten=((rs.take i).map Rl.names).flatten++r.names:=by
 rw[Gs,h]
 simp
theorem RW{qs:List Addr}{i:Nat}{x:V}(h:(List.map V.ref qs)[i]?=some x):∃q,qs[i]?=some q/\x=.ref q:=by
 rw[mz]at h
 cases e:qs[i]? with
 | none=>rw[e]at h;cases h
 | some q=>rw[e]at h;exact⟨q,rfl,(gU h).symm⟩
theorem Ck(T:Txt K mg t):∀d:Nat,dI P w K mg base mE (d+1) t.m6 t.mY ["rule"] (Rz d)
 | 0=>T.lD.vU (k:=0) jZ (λvs H Q E h=>by obtain⟨p,rfl,_⟩:=h;rfl) (λdh A outer s H vs Q E hr h hc hf=>by obtain⟨p,rfl,r,_,h1,_⟩:=h;have:=r.pos;lia)
 | d+1=>by
  have ng:=Ck T d
  refine T.lD.vU (k:=d+1) jZ (λvs H Q E h=>?_) (λdh A outer s H vs Q E hr h hc hf=>?_)
  ·obtain⟨p,rfl,_⟩:=h;rfl
  obtain⟨p,rfl,r,ra,hd,h6,q⟩:=h
  refine⟨_,(by apply ai;exact(aW (aN bZ (bt sr (aB hc 0) ah (λ_ _=>rfl)) aU (bf _)) (by exact az (aS (cN (ae (bt sr (aB hc 0) ah (λ_ _=>rfl)) aj)))) aM);apply ai;exact(aQ hc jZ.nd hf 1 (by decide +kernel) (cN aj));apply ai;exact(rz xE rfl (Nf (lF aAd (aB hc 0) (mO ah) mP)) (Oz hc jZ.nd hf 2 (by decide +kernel)) (by exact az (cG (sW Nc PySem.F.slot_list_extend PySem.F.type_list_extend PB (aB hc 1) (ae (aT ng hr.mono (bK hc) T.qE T.lD.kp T.qT .nil cj (ae (aB hc 2) aj)) aj)))));exact az (aS (aB hc 1))),?_⟩
  rcases ra.kids with ⟨x,rfl,hp⟩ | ⟨k,qs,rs,hp,kis,hl,l2,VL,nm⟩
  ·repeat (first | walk_at "rl" | simp only[hp])
   refine⟨by decide,λL hL=>q L _ (aP hL _) hL aK⟩
  ·repeat (first | walk_at "rl" | simp only[hp,kis])
   refine⟨by decide,λL hL=>?_⟩
   have pL:p≠L:=bu hp hL
   walk_at "r"
   refine⟨_,by rw[aO pL];exact hp,by simp[HT.eB],λC hC=>?_⟩
   rw[Dj]
   have LC:L≠C:=bu aK hC
   have sC:dk H (upd (upd H L (.lst [])) C (.tup (List.map V.ref qs))):=(aP hL _).trans (aP hC _)
   refine⟨⟨_,lG aK⟩,?_⟩
   obtain⟨Pv,tu⟩:∃Pv:Nat->St->Hp->Prop,∀i σ' H',Pv i σ' H'↔∃x:Option V,σ'=[some (.ref p),some (.ref L),x]/\dk H H'/\H' L=some (.lst (List.map V.str ((rs.take i).map Rl.names).flatten))/\H' C=some (.tup (List.map V.ref qs)):=⟨_,λ_ _ _=>my⟩
   refine Mr (xs:=List.map V.ref qs) Pv ((tu _ _ _).mpr ⟨none,rfl,sC,by rw[aO LC,aK];rfl,aK⟩) (λi σ' H1 _ pv=>?_) (λi x σ' H1 hx pv=>?_) (λσ' H1 pv=>?_)
   ·obtain⟨_,_,_,_,h⟩:=(tu _ _ _).mp pv
    exact h
   ·obtain⟨y,rfl,s1,QM,hC1⟩:=(tu _ _ _).mp pv
    obtain⟨a,ea,rfl⟩:=RW hx
    have hi:i<rs.length:=by rw[<-hl];exact(nO.mp ea).1
    have er:rs[i]?=some rs[i]:=nM hi
    obtain⟨ka,kd⟩:=VL i a _ ea er
    have len:((rs.take i).map Rl.names).flatten.length+(rs[i]).names.length<=32:=by
     have:=Rl.aAI h6
     have e2:r.names=((rs.take (i+1)).map Rl.names).flatten++((rs.drop (i+1)).map Rl.names).flatten:=by
      rw[nm,<-List.flatten_append,<-p9,List.take_append_drop]
     rw[e2,BZ er,lS,lS]at this
     lia
    walk_at "r"
    refine⟨.inl ⟨rfl,_,eV QM⟩,a,rfl,rs[i],ka.mono (nk s1),by lia,by lia,λM H2 s2 hM hM2=>?_⟩
    repeat (first | walk_at "rl" | simp only[hM2,s2 _ _ QM])
    refine⟨mR (by lia),(tu _ _ _).mpr ⟨_,rfl,?_,?_,?_⟩⟩
    ·exact λb u e=>by rw[aO (bu e hL)];exact s2 _ _ (s1 _ _ e)
    ·rw[aK,BZ er,p9]
    ·rw[aO LC.symm];exact s2 _ _ hC1
   ·obtain⟨y,rfl,s1,QM,hC1⟩:=(tu _ _ _).mp pv
    walk_at "r"
    refine q L H1 s1 hL ?_
    rw[QM,di,hl,xJ,<-nm]
def Pg:Sp:=λvs H Q _=>∃p,vs=[.ref p]/\∃r,jX H r p/\r.deep<=6/\∀L ts H',dk H H'->H L=none->H' L=some (.lst (List.map V.str ts))->(∀z,z∈ts↔z∈r.names)->ts.Nodup->PyProof.Rows.sortedS ts=true->Q (.ref L) H'
theorem vT(T:Txt K mg t):dI P w K mg base mE 8 t.tO t.tF ["rule"] Pg:=by
 have ng:=Ck (P:=P) (w:=w) (base:=base) T 6
 refine T.tT.vU Hg (λvs H Q E h=>?_) (λdh A outer s H vs Q E hr h hc hf=>?_)
 ·obtain⟨p,rfl,_⟩:=h;rfl
 obtain⟨p,rfl,r,ra,h6,q⟩:=h
 refine⟨_,(by exact az (aS (aZ (Am hr.hd) (bK hc) T.uh T7 (ae (oq (Qo hr.hd) (bK hc) T.Ni aBs (ae (aT ng hr.mono (bK hc) T.qE T.lD.kp T.qT .nil cj (ae (aB hc 0) aj)) aj)) aj)))),?_⟩
 walk_at "r"
 refine⟨p,rfl,r,ra,h6,h6,λL H1 s1 hL QM=>?_⟩
 have l32:=Rl.aAI h6
 repeat (first | walk_at "rl" | simp only[QM])
 refine⟨r.names,rfl,by lia,λZ hZ=>⟨r.names,rfl,by lia,λts mem nd ZQ D hD=>?_⟩⟩
 have s3:=(s1.trans (aP hZ (ZD w Z r.names))).trans (aP hD (.lst (List.map V.str ts)))
 exact q D ts _ s3 ((s1.trans (aP hZ (ZD w Z r.names))).free hD) aK mem nd ZQ
local macro_rules | `(tactic| walk_at "rd") => `(tactic| walk_at "rc")
local macro_rules | `(tactic| walk_at "rl") => `(tactic| first | (refine kl fun R hR => ?_) | walk_at "ry" | (refine Nx.to (by assumption) _ _ ?_))
theorem Xy{ss:List Str}{i:Nat}{x:V}(h:(List.map V.str ss)[i]?=some x):∃y,ss[i]?=some y/\x=.str y:=by
 rw[mz]at h
 cases e:ss[i]? with
 | none=>rw[e]at h;cases h
 | some q=>rw[e]at h;exact⟨q,rfl,(gU h).symm⟩
theorem rL{H H1:Hp}{p:Addr}{o:HO}(a:dk H H1)(hn:H p=none):dk H (upd H1 p o):=λb u e=>by rw[aO (bu e hn)];exact a b u e
theorem lC.aEd{H:Hp}{h q:Addr}{xs:List (Key×V)}(x:lC H h)(e:H q=some (.dK xs)):q≠h:=by
 obtain⟨l,ns,o,e1,⟨a,b,c,d,f,rfl,_⟩,_⟩:=x
 exact HB e e1 (by intro z;cases z)
theorem Dr.same{h:Addr}{H H1 H2:Hp}(d:Dr h H H1)(s:dk H1 H2):Dr h H H2:=⟨λb o hb e=>s _ _ (d.keep b o hb e),λl x=>by
 obtain⟨ns,o,e1,e2,e3⟩:=d.hand l x
 exact⟨ns,o,s _ _ e1,e2,s _ _ e3⟩⟩
theorem aA7(xs:List Str)(lo hi:Option Int):∃ys:List Str,tH (List.map V.str xs) lo hi=List.map V.str ys/\ys.length<=xs.length:=by
 refine⟨_,JM V.str xs lo hi,?_⟩
 rw[kO,Ay]
 lia
theorem aBH(xs:List V){k:Int}(hk:0<=k):tH xs none (some k)=xs.take k.toNat:=by
 have e:HT.eB xs.length xs.length (some k)=min k.toNat xs.length:=by
  show(if k<0 then _ else min k.toNat xs.length)=_
  rw[aR (by lia)]
 have e0:HT.eB xs.length 0 none=0:=rfl
 unfold tH
 rw[e,e0,List.drop_zero,Nat.sub_zero]
 exact(List.take_eq_take_min ..).symm
local macro_rules | `(tactic| walk_at "rd") => `(tactic| walk_at "rc")
local macro_rules | `(tactic| walk_at "rl") => `(tactic| first | (refine kl fun R hR => ?_) | walk_at "ry" | (refine Nx.to (by assumption) _ _ ?_))
def Pj:Sp:=λvs H Q _=>∃s,vs=[.str s]/\Q (match PyProof.Rows.KTD.datumAt s bB with | some i=>.int i | none=>.non) H
theorem mU(K:PySem.W.Frag)(T:String):PySem.W.kitOne K (.type T) (.type T)=some true:=by
 unfold PySem.W.kitOne
 rw[bH (by simp)]
theorem YG{K:PySem.W.Frag}{A B:String}(h:(Value.type A==Value.type B)=false)(e:PySem.W.kitCls K (.type A) (.type B)=some false):PySem.W.kitOne K (.type A) (.type B)=some false:=by
 unfold PySem.W.kitOne
 rw[aR (by rw[h];exact gW)]
 exact e
theorem SN:PyProof.Rows.KTD.datumAt (Str.ofString "not") bB=some 1:=by decide +kernel
theorem T3:∀k∈bw,PyProof.Rows.KTD.datumAt k bB=some 2:=by decide +kernel
def Rl.words:Rl->List Str
 | .yes=>[Str.ofString "yes"]
 | .no=>[Str.ofString "no"]
 | .var x=>[Str.ofString "is",x]
 | .neg a=>Str.ofString "not" :: a.words
 | .two k a b=>k::(a.words++b.words)
def Rl.good:Rl->Prop
 | .neg a=>a.good
 | .two k a b=>k∈bw/\a.good/\b.good
 | _=>True
theorem jX.good{H:Hp}:∀{r:Rl} {p:Addr},jX H r p->r.good
 | .yes,_,_=>trivial
 | .no,_,_=>trivial
 | .var _,_,_=>trivial
 | .neg a,_,⟨_,_,x⟩=>show a.good from jX.good x
 | .two k a b,_,⟨m,_,_,_,x,y⟩=>⟨m,jX.good x,jX.good y⟩
theorem W7:∀k∈bw,k.length<=4/\(32:Nat)∉k.cps.toList:=by decide +kernel
structure Rl.Par(r:Rl)(k:Str)(rs:List Rl):Prop where
 nis:k≠Str.ofString "is"
 tab:PyProof.Rows.KTD.datumAt k bB=some (rs.length:Int)
 two:rs.length<=2
 ws:r.words=k::(rs.map Rl.words).flatten
 VL:∀s∈rs,s.good/\s.deep+1<=r.deep/\∀n∈s.names,n∈r.names
 make:∀(H:Hp) p qs,H p=some (.tup (.str k::List.map V.ref qs))->qs.length=rs.length->(∀(i:Nat) q s,qs[i]?=some q->rs[i]?=some s->jX H s q)->jX H r p
 un:∀(H:Hp) p,jX H r p->∃qs:List Addr,H p=some (.tup (.str k::List.map V.ref qs))/\qs.length=rs.length/\∀(i:Nat) q s,qs[i]?=some q->rs[i]?=some s->jX H s q
 nb:k.length<=4/\(32:Nat)∉k.cps.toList
 nms:r.names=(rs.map Rl.names).flatten
theorem Rl.par:∀{r:Rl},r.good->(∃x,r=.var x)\/∃k rs,Rl.Par r k rs
 | .yes,_=>.inr ⟨_,[],⟨by decide,by decide +kernel,by decide,rfl,(λs h=>nomatch h),λH p qs e hl _=>by
   have z:qs=[]:=GD hl
   subst z;exact e,λH p h=>⟨[],h,rfl,λi q s e=>by simp at e⟩,by decide +kernel,rfl⟩⟩
 | .no,_=>.inr ⟨_,[],⟨by decide,by decide +kernel,by decide,rfl,(λs h=>nomatch h),λH p qs e hl _=>by
   have z:qs=[]:=GD hl
   subst z;exact e,λH p h=>⟨[],h,rfl,λi q s e=>by simp at e⟩,by decide +kernel,rfl⟩⟩
 | .var x,_=>.inl ⟨x,rfl⟩
 | .neg a,g=>.inr ⟨_,[a],⟨by decide,SN,by simp,by simp[Rl.words],λs h=>by rw[kM.mp h];exact⟨g,bW _,λn hn=>hn⟩,λH p qs e hl h=>by
   match qs,hl with
   | [q],_=>exact⟨q,e,h 0 q a rfl rfl⟩,λH p ⟨q,e,x⟩=>⟨[q],e,rfl,λi q' s e1 e2=>by
   cases i with
   | zero=>cases e1;cases e2;exact x
   | succ n=>cases e1⟩,by decide +kernel,by simp[Rl.names]⟩⟩
 | .two k a b,⟨hk,ga,gb⟩=>.inr ⟨k,[a,b],⟨T4 k hk,T3 k hk,by simp,by simp[Rl.words],λs h=>by
   rcases gN.mp h with e | h
   ·rw[e];exact⟨ga,Nat.add_le_add_right (Ec _ _) 1,λn hn=>vH _ hn⟩
   ·rw[kM.mp h];exact⟨gb,Nat.add_le_add_right (Ee _ _) 1,λn hn=>nj _ hn⟩,λH p qs e hl h=>by
   match qs,hl with
   | [q,r],_=>exact⟨hk,q,r,e,h 0 q a rfl rfl,h 1 r b rfl rfl⟩,λH p ⟨_,q,r,e,x,y⟩=>⟨[q,r],e,rfl,λi q' s e1 e2=>by
   match i with
   | 0=>cases e1;cases e2;exact x
   | 1=>cases e1;cases e2;exact y
   | n+2=>cases e1⟩,W7 k hk,by simp[Rl.names]⟩⟩
theorem Rl.Ep:∀{r:Rl},r.good->(∀n∈r.names,Nm n)->∀z∈r.words,z.length<=8/\(32:Nat)∉z.cps.toList
 | .yes,_,_,z,h=>by rw[kM.mp h];decide +kernel
 | .no,_,_,z,h=>by rw[kM.mp h];decide +kernel
 | .var x,_,nm,z,h=>by
  rcases gN.mp h with e | h
  ·rw[e];decide +kernel
  ·rw[kM.mp h]
   obtain⟨_,h8,hl⟩:=nm x gP
   exact⟨h8,λc=>by have:=hl _ c;omega⟩
 | .neg a,g,nm,z,h=>by
  rcases gN.mp h with e | h
  ·rw[e];decide +kernel
  ·exact Rl.Ep (r:=a) g nm z h
 | .two k a b,⟨hk,ga,gb⟩,nm,z,h=>by
  rcases gN.mp h with e | h
  ·rw[e];have:=W7 k hk;exact⟨by omega,this.2⟩
  ·rcases nR.mp h with h | h
   ·exact Rl.Ep (r:=a) ga (λn hn=>nm n (vH _ hn)) z h
   ·exact Rl.Ep (r:=b) gb (λn hn=>nm n (nj _ hn)) z h
theorem Rl.Uu:∀r:Rl,2*(r.words.length+1)<=3*2 ^ r.deep
 | .yes=>by show 2*(1+1)<=3*2 ^ 1;decide
 | .no=>by show 2*(1+1)<=3*2 ^ 1;decide
 | .var x=>by show 2*(2+1)<=3*2 ^ 1;decide
 | .neg a=>by
  show 2*(a.words.length+1+1)<=3*2 ^ (a.deep+1)
  have:=a.Uu
  have h1:1<=2 ^ a.deep:=Nat.one_le_two_pow
  rw[Nat.pow_succ];omega
 | .two k a b=>by
  show 2*((a.words++b.words).length+1+1)<=3*2 ^ (max a.deep b.deep+1)
  have h1:=jY a.Uu (Nat.mul_le_mul_left 3 (xr (show 0<2 by decide) (Ec a.deep b.deep)))
  have h2:=jY b.Uu (Nat.mul_le_mul_left 3 (xr (show 0<2 by decide) (Ee a.deep b.deep)))
  rw[lS,Nat.pow_succ];omega
theorem Rl.aEb{r:Rl}(h:r.deep<=6):r.words.length<=95:=by
 have h1:=r.Uu
 have h2:2 ^ r.deep<=2 ^ 6:=xr (by decide) h
 have h3:(2:Nat) ^ 6=64:=by decide
 omega
theorem Rl.aEa:∀r:Rl,r.words≠[]
 | .yes=>by intro h;cases h
 | .no=>by intro h;cases h
 | .var _=>by intro h;cases h
 | .neg _=>by intro h;cases h
 | .two _ _ _=>by intro h;cases h
def MJ:Str:=Str.ofString " "
theorem FP:MJ=⟨#[32]⟩:=by decide +kernel
def Rl.text(r:Rl):Str:=Txt.join MJ r.words
theorem Xl{rs:List Rl}{i:Nat}{r:Rl}(h:rs[i]?=some r):((rs.take (i+1)).map Rl.words).flatten=((rs.take i).map Rl.words).flatten++r.words:=by
 rw[Gs,h]
 simp
theorem aA1{rs:List Rl}{i:Nat}:((rs.take i).map Rl.words).flatten.length<=(rs.map Rl.words).flatten.length:=by
 have e:(rs.map Rl.words).flatten=((rs.take i).map Rl.words).flatten++((rs.drop i).map Rl.words).flatten:=by
  rw[<-List.flatten_append,<-p9,List.take_append_drop]
 rw[e,lS];omega
instance (s:Str):Decidable (Nm s):=by unfold Nm;infer_instance
abbrev pM(k:Str):Option Int:=PyProof.Rows.KTD.datumAt k bB
theorem uP{k:Str}{i:Int}(h:pM k=some i):((k=Str.ofString "yes"\/k=Str.ofString "no")/\i=0)\/(k=Str.ofString "not"/\i=1)\/(k∈bw/\i=2):=by
 unfold pM bB at h
 simp only[PyProof.Rows.KTD.datumAt,Eh]at h
 unfold bw
 simp only[gN,xI,or_false]
 repeat' split at h
 all_goals first | (injection h with h;subst h;simp_all) | cases h
def S'(k:Str):List Rl->Rl
 | []=>if k=Str.ofString "yes" then .yes else .no
 | [a]=>.neg a
 | a::b::_=>.two k a b
def kQ(f:Nat->Option (Rl×Nat)):Nat->Nat->Option (List Rl×Nat)
 | 0,j=>some ([],j)
 | n+1,j=>(f j).bind λp=>(kQ f n p.2).map λq=>(p.1::q.1,q.2)
def oG(ws:List Str):Nat->Nat->Option (Rl×Nat)
 | 0,_=>none
 | d+1,j=>(ws[j]?).bind λk=>if k=Str.ofString "is" then (ws[j+1]?).map λx=>(.var x,j+2) else (pM k).bind λm=>(kQ (oG ws d) m.toNat (j+1)).map λq=>(S' k q.1,q.2)
theorem HN{f:Nat->Option (Rl×Nat)}{j:Nat}:kQ f 1 j=(f j).map λp=>([p.1],p.2):=by
 show(f j).bind _=_
 cases f j <;> rfl
theorem Ta{f:Nat->Option (Rl×Nat)}{j:Nat}:kQ f 2 j=(f j).bind λp=>(f p.2).map λq=>([p.1,q.1],q.2):=by
 show(f j).bind _=_
 cases f j with
 | none=>rfl
 | some p=>
  show(kQ f 1 p.2).map _=(f p.2).map _
  rw[HN]
  cases f p.2 <;> rfl
theorem Tb{f:Nat->Option (Rl×Nat)}:∀{n j:Nat} {q:List Rl×Nat},kQ f n j=some q->q.1.length=n
 | 0,j,q,h=>by cases h;rfl
 | n+1,j,q,h=>by
  obtain⟨p,_,h⟩:=GC.mp h
  obtain⟨q',h',rfl⟩:=Bf.mp h
  exact ni (· + 1) (Tb h')
theorem HQ{f:Nat->Option (Rl×Nat)}{L:Nat}{G:Rl->Prop}(hf:∀j r k,j<=L->f j=some (r,k)->k<=L/\G r):∀{n j:Nat} {q:List Rl×Nat},j<=L->kQ f n j=some q->q.2<=L/\∀r∈q.1,G r
 | 0,j,q,hj,h=>by cases h;exact⟨hj,λr hr=>nomatch hr⟩
 | n+1,j,q,hj,h=>by
  obtain⟨p,hp,h⟩:=GC.mp h
  obtain⟨q',h',rfl⟩:=Bf.mp h
  obtain⟨h1,h2⟩:=hf j p.1 p.2 hj hp
  obtain⟨h3,h4⟩:=HQ hf h1 h'
  exact⟨h3,λr hr=>by
   rcases gN.mp hr with e | hr
   ·rw[e];exact h2
   ·exact h4 r hr⟩
theorem PJ{k:Str}{d:Nat}:∀{rs:List Rl},(∀r∈rs,r.deep<=d)->(S' k rs).deep<=d+1
 | [],_=>by
  show(if k=Str.ofString "yes" then Rl.yes else Rl.no).deep<=d+1
  split
  ·exact xG _ _
  ·exact xG _ _
 | [a],h=>Ef (h a (by simp))
 | a::b::_,h=>Ef (Nat.max_le.mpr ⟨h a (by simp),h b (by simp)⟩)
theorem RX(ws:List Str):∀{d j:Nat} {r:Rl} {k:Nat},j<=ws.length->oG ws d j=some (r,k)->k<=ws.length/\r.deep<=d/\∀x∈r.names,x∈ws
 | 0,j,r,k,_,h=>by cases h
 | d+1,j,r,k,hj,h=>by
  obtain⟨w0,hw,h⟩:=GC.mp h
  have hj1:j+1<=ws.length:=(nO.mp hw).1
  split at h
  ·obtain⟨x,hx,e⟩:=Bf.mp h
   cases e
   have h2:j+1<ws.length:=(nO.mp hx).1
   exact⟨h2,xG _ _,λy hy=>by rw[kM.mp hy];exact Bd hx⟩
  ·obtain⟨m,hm,h⟩:=GC.mp h
   obtain⟨q,hq,e⟩:=Bf.mp h
   cases e
   obtain⟨h1,h2⟩:=HQ (G:=λr=>r.deep<=d/\∀x∈r.names,x∈ws) (λj r k hj e=>RX ws hj e) hj1 hq
   refine⟨h1,PJ λr hr=>(h2 r hr).1,λx hx=>?_⟩
   obtain⟨rs,i⟩:=q
   match rs,h2,hx with
   | [],_,hx=>
    have hx:x∈(if w0=Str.ofString "yes" then Rl.yes else Rl.no).names:=hx
    split at hx
    ·cases hx
    ·cases hx
   | [a],h2,hx=>exact(h2 a (by simp)).2 x hx
   | a::b::_,h2,hx=>
    rcases nR.mp (show x∈a.names++b.names from hx) with z | z
    ·exact(h2 a (by simp)).2 x z
    ·exact(h2 b (by simp)).2 x z
def pZ(ws:List Str)(d j:Nat):Option (Rl×Nat):=(oG ws d j).bind λp=>if ∀x∈p.1.names,Nm x then some p else none
theorem aBF{ws:List Str}{j:Nat}:pZ ws 0 j=none:=rfl
theorem aCT{ws:List Str}{d j:Nat}(h:ws[j]?=none):pZ ws d j=none:=by
 cases d with
 | zero=>rfl
 | succ d=>unfold pZ oG;rw[h];rfl
theorem Cd{ws:List Str}{d j:Nat}{k:Str}{m:Int}(h:ws[j]?=some k)(hk:k≠Str.ofString "is")(hm:pM k=some m):oG ws (d+1) j=(kQ (oG ws d) m.toNat (j+1)).map λq=>(S' k q.1,q.2):=by
 show(ws[j]?).bind _=_
 rw[h]
 show(if k=Str.ofString "is" then _ else _)=_
 rw[aR hk,hm]
 rfl
theorem Hl{ws:List Str}{d j:Nat}(h:ws[j]?=some (Str.ofString "is")):oG ws (d+1) j=(ws[j+1]?).map λx=>(.var x,j+2):=by
 show(ws[j]?).bind _=_
 rw[h]
 rw[xK,bH rfl]
theorem Nv{ws:List Str}{d j:Nat}{k:Str}(h:ws[j]?=some k)(hk:k≠Str.ofString "is")(hm:pM k=none):oG ws (d+1) j=none:=by
 show(ws[j]?).bind _=_
 rw[h]
 show(if k=Str.ofString "is" then _ else _)=_
 rw[aR hk,hm]
 rfl
theorem aBG{ws:List Str}{d j:Nat}{k:Str}(h:ws[j]?=some k)(hk:k≠Str.ofString "is")(hm:pM k=none):pZ ws (d+1) j=none:=by
 unfold pZ;rw[Nv h hk hm];rfl
theorem aEg{ws:List Str}{d j:Nat}(h:ws[j]?=some (Str.ofString "is")):pZ ws (d+1) j=(ws[j+1]?).bind λx=>if Nm x then some (.var x,j+2) else none:=by
 unfold pZ
 rw[Hl h]
 cases ws[j+1]? with
 | none=>rfl
 | some x=>
  show(if ∀y∈[x],Nm y then _ else _)=if Nm x then _ else _
  by_cases hx:Nm x
  ·rw[bH hx,bH (λy hy=>by rw[kM.mp hy];exact hx)]
  ·rw[aR hx,aR (λz=>hx (z x (by simp)))]
theorem aCQ{ws:List Str}{d j:Nat}(h:ws[j]?=some (Str.ofString "yes")):pZ ws (d+1) j=some (.yes,j+1):=by
 unfold pZ
 rw[Cd h (by decide) (show _=some 0 by decide +kernel)]
 rfl
theorem aEf{ws:List Str}{d j:Nat}(h:ws[j]?=some (Str.ofString "no")):pZ ws (d+1) j=some (.no,j+1):=by
 unfold pZ
 rw[Cd h (by decide) (show _=some 0 by decide +kernel)]
 rfl
theorem aCS{ws:List Str}{d j:Nat}(h:ws[j]?=some (Str.ofString "not")):pZ ws (d+1) j=(pZ ws d (j+1)).map λp=>(.neg p.1,p.2):=by
 unfold pZ
 rw[Cd h (by decide) (show _=some 1 by decide +kernel),show(1:Int).toNat=1 from rfl,HN]
 cases oG ws d (j+1) with
 | none=>rfl
 | some p=>
  show(if ∀x∈p.1.names,Nm x then _ else _)=Option.map _ (if ∀x∈p.1.names,Nm x then _ else _)
  split <;> rfl
theorem aCR{ws:List Str}{d j:Nat}{k:Str}(h:ws[j]?=some k)(hk:k∈bw):pZ ws (d+1) j=(pZ ws d (j+1)).bind λp=>(pZ ws d p.2).map λq=>(.two k p.1 q.1,q.2):=by
 unfold pZ
 rw[Cd h (T4 k hk) (T3 k hk),show(2:Int).toNat=2 from rfl,Ta]
 cases oG ws d (j+1) with
 | none=>rfl
 | some p=>
  show(Option.map _ (Option.map _ (oG ws d p.2))).bind _=(if ∀x∈p.1.names,Nm x then some p else none).bind _
  split
  ·rename_i hp
   show _=Option.map _ ((oG ws d p.2).bind _)
   cases oG ws d p.2 with
   | none=>rfl
   | some q=>
    show(if ∀x∈p.1.names++q.1.names,Nm x then _ else _)=Option.map _ (if ∀x∈q.1.names,Nm x then _ else _)
    by_cases hq:∀x∈q.1.names,Nm x
    ·rw[bH hq,bH (λx hx=>(nR.mp hx).elim (hp x) (hq x))];rfl
    ·rw[aR hq,aR (λz=>hq λx hx=>z x (nj _ hx))];rfl
  ·rename_i hp
   cases oG ws d p.2 with
   | none=>rfl
   | some q=>
    show(if ∀x∈p.1.names++q.1.names,Nm x then _ else _)=none
    rw[aR (λz=>hp λx hx=>z x (vH _ hx))]
def Few(ns:List Str):Prop:=∃ts:List Str,ts.Nodup/\(∀x,x∈ts↔x∈ns)/\ts.length<=5
def Rd(z:Str)(r:Rl):Prop:=oG (Txt.split z MJ) 6 0=some (r,(Txt.split z MJ).length)/\(∀x∈r.names,Nm x)/\Few r.names
theorem V9{ns ts:List Str}(h:Few ns)(nd:ts.Nodup)(mem:∀x,x∈ts↔x∈ns):ts.length<=5:=by
 obtain⟨us,_,m2,l⟩:=h
 exact jY (vf nd λz hz=>(m2 z).mpr ((mem z).mp hz)) l
local macro_rules | `(tactic| walk_at "rd") => `(tactic| walk_at "rc")
local macro_rules | `(tactic| walk_at "rl") => `(tactic| first | (refine kl fun R hR => ?_) | walk_at "ry" | (refine Nx.to (by assumption) _ _ ?_))
def nE(r:Rl):Bool:=r.names.all λx=>decide (Nm x)
def Ph:Sp:=λvs H Q _=>∃z,vs=[.str z]/\z.length<=60000/\∀H',dk H H'->Q (.bl (decide (Nm z))) H'
def RJ(d:Nat):Sp:=λvs H Q _=>∃p dp,vs=[.ref p,.int dp]/\∃r,jX H r p/\(r.deep:Int)<=dp/\dp<=d/\(∀x∈r.names,x.length<=60000)/\∀H',dk H H'->Q (.bl (nE r)) H'
theorem NX{a b:Nat}:(!decide ([a] < [b]))=decide (b<=a):=by
 rw[t8]
 simp only[Eg,decide_eq_false_iff_not,Eh,List.cons_lt_cons_iff]
 constructor
 ·intro z
  exact Kg λy=>z (.inl y)
 ·rintro z (y | ⟨_,y⟩)
  ·omega
  ·exact absurd y (List.not_lt_nil _)
theorem y3(T:Txt K mg t):dI P w K mg base mE 1 t.m5 t.mX ["word"] Pj:=by
 refine T.nh.vU wF (λvs H Q E h=>?_) (λdh A outer s H vs Q E hr h hc hf=>?_)
 ·obtain⟨z,rfl,_⟩:=h;rfl
 obtain⟨z,rfl,q⟩:=h
 refine⟨_,(by exact az (aS (KN (bK hc) T.lh T.bB (aB hc 0)))),?_⟩
 walk_at "r"
 exact q
theorem Li(T : Txt K mg t) : dI P w K mg base mE 1 t.vy t.vn ["thing"] Ph := by
  refine T.DP.vU Lb (λvs H Q E h => ?_) (λdh A outer s H vs Q E hr h hc hf => ?_)
  · obtain⟨v, rfl, _⟩ := h; rfl
  obtain⟨z, rfl, lz, q⟩ := h
  have hu := uK hr
  have WX := hr.ou
  refine⟨_, (by apply ai; exact(aW (vJ (qd (rA (ja (aZ se (bK hc) T.aV bq (ae (aB hc 0) (ae (qg (v := V.ty "str") (bK hc) T.Bj T6 rfl) aj))))) (oj (rA (Bh Ss Ss ah (aZ FN (bK hc) T.qh wo (ae (aB hc 0) aj)) (cq (v := .int 8) (bK hc) T.lj ⟨_, rfl⟩)))))) (by exact az (aS mn)) aM); exact az (aS (aZ (Dm hr.hd) (bK hc) T.GK W8 (ae (jb hc ["sign"] [] rfl (by decide +kernel) (Uq (aB hc 0)) (λ_ hc => Ek hc (by decide +kernel) 0 (by decide +kernel)) (λ_ _ => kA) (λ_ hc => (O0 Cj Cj aU (aB hc 0) aU))) aj)))), ?_⟩
  walk_at "r"
  refine⟨_, .str _, true, mU _ _, ?_⟩
  rw[aR (by simp)]
  refine⟨jY lz (by decide), ?_⟩
  have aA2 : ¬ (1 ≤ z.length ∧ z.length ≤ 8) → decide (Nm z)=false := λn => decide_eq_false λm => n ⟨m.1, m.2.1⟩
  split
  · rename_i h1
    split
    · rename_i h8
      have e := aA2 (by simp at h8; omega)
      rw[← e]
      exact q _ (dk.refl H)
    · rename_i h8
      have h1' : 1 ≤ z.length := by omega
      have h8' : z.length ≤ 8 := by simp at h8; omega
      walk_at "r"
      obtain⟨Pc, Dh⟩ : ∃ Pc : Addr → Nat → List V → Hp → Prop, ∀ Z i ys H', Pc Z i ys H' ↔ ∃ bs : List Bool, ys=List.map V.bl bs ∧ bs=(z.cps.toList.take i).map (λc => decide (97 ≤ c)&&decide (c ≤ 122)) ∧ dk H H' ∧ H' Z=some (.lst ys) := ⟨_, λ_ _ _ _ => my⟩
      refine JQ Pc (λZ hZ => (Dh _ _ _ _).mpr ⟨[], rfl, rfl, aP hZ _, aK⟩) (λZ hZ i c0 ys H' ec pv cb => ?_) (λZ hZ ys H' pv => ?_)
      · obtain⟨bs, rfl, V3, sZ, V5⟩ := (Dh _ _ _ _).mp pv
        have hi : i<z.cps.size := (Bg.mp ec).1
        have hl : z.cps.size=z.length := rfl
        have ec' : z.cps.toList[i]?=some c0 := by rw[Gz]; exact ec
        have lb : bs.length ≤ 8 := by rw[V3, di, kO]; omega
        have step : bs++[decide (97 ≤ c0)&&decide (c0 ≤ 122)]=(z.cps.toList.take (i+1)).map (λc => decide (97 ≤ c)&&decide (c ≤ 122)) := by
          rw[Gs, ec', p9, V3]; rfl
        walk_at "rc"
        repeat (walk_at "rd")
        have ea : (Str.ofString "a").cps.toList=[97] := by decide +kernel
        have ez : (Str.ofString "z").cps.toList=[122] := by decide +kernel
        rw[ea, ez, NX, NX]
        have fin : ∀ b : Bool, b=(decide (97 ≤ c0)&&decide (c0 ≤ 122)) → H' Z=some (.lst (List.map V.bl bs)) ∧ bs.length<sizeLine ∧ Pc Z (i+1) (List.map V.bl bs++[V.bl b]) (upd H' Z (.lst (List.map V.bl bs++[V.bl b]))) := λb eb =>
          ⟨V5, eZ (by omega), (Dh _ _ _ _).mpr ⟨bs++[b], by simp, by rw[eb]; exact step, rL sZ hZ, aK⟩⟩
        by_cases h97 : 97 ≤ c0
        · rw[decide_eq_true h97, bH rfl]
          refine fin _ ?_
          rw[decide_eq_true h97]; rfl
        · rw[decide_eq_false h97, aR gW]
          refine fin _ ?_
          rw[decide_eq_false h97]; rfl
      · obtain⟨bs, rfl, V3, sZ, V5⟩ := (Dh _ _ _ _).mp pv
        refine⟨Z, rfl, bs, V5, ?_⟩
        have e : bs.all id=decide (Nm z) := by
          rw[V3, t8, Eh, DT, su]
          have et : z.cps.toList.take z.cps.size=z.cps.toList := Kx (by simp)
          rw[et]
          constructor
          · intro al
            exact⟨h1', h8', λc hc => by have := al c hc; simp at this; exact this⟩
          · intro nm c hc
            have := nm.2.2 c hc
            simp[this.1, this.2]
        rw[e]
        exact q _ sZ
  · rename_i h1
    have e := aA2 (by omega)
    first
      | (split
         · rw[← e]; exact q _ (dk.refl H)
         · rename_i hx; exact absurd rfl hx)
      | (rw[← e]; exact q _ (dk.refl H))
theorem Rl.Par.nE{r:Rl}{k:Str}{rs:List Rl}(pr:Rl.Par r k rs):My.nE r=rs.all My.nE:=by
 unfold My.nE
 rw[pr.nms,List.all_flatten,DT]
 rfl
theorem Cq(T:Txt K mg t):∀d:Nat,dI P w K mg base mE (d+2) t.tP t.tG ["thing","deepest"] (RJ d)
 | 0=>T.pS.vU (k:=1) vS (λvs H Q E h=>by obtain⟨p,dp,rfl,_⟩:=h;rfl) (λdh A outer s H vs Q E hr h hc hf=>by obtain⟨p,dp,rfl,r,_,h1,h2,_⟩:=h;have:=r.pos;omega)
 | d+1=>by
  have tS:=Cq T d
  have Qy:=Li (P:=P) (w:=w) (base:=base) T
  have m9:=y3 (P:=P) (w:=w) (base:=base) T
  refine T.pS.vU (k:=d+2) vS (λvs H Q E h=>?_) (λdh A outer s H vs Q E hr h hc hf=>?_)
  ·obtain⟨p,dp,rfl,_⟩:=h;rfl
  obtain⟨p,dp,rfl,r,ra,h1,h2,nl,q⟩:=h
  have hu:=uK hr
  have WX:=hr.ou
  have QK:dp≠0:=by have:=r.pos;omega
  refine⟨_,(by apply ai;exact(aW (vJ (qd (aN bZ (aB hc 1) ah (bf _)) (qd (rA (ja (aZ se (bK hc) T.aV bq (ae (aB hc 0) (ae (qg (v:=V.ty "tuple") (bK hc) T.rB FQ rfl) aj))))) (oj (aN bZ (aZ vr (bK hc) T.qh wo (ae (aB hc 0) aj)) ah (bf _)))))) (by exact az (aS mn)) aM);apply ai;exact(aW (rA (ja (aZ se (bK hc) T.aV bq (ae (bt sr (aB hc 0) ah (λ_ _=>rfl)) (ae (qg (v:=V.ty "str") (bK hc) T.Bj T6 rfl) aj))))) (by exact az (aS mn)) aM);apply ai;exact(aW (aN bZ (bt sr (aB hc 0) ah (λ_ _=>rfl)) aU (bf _)) (by exact az (aS (El (ug bZ (aZ vr (bK hc) T.qh wo (ae (aB hc 0) aj)) ah (bf _)) (uf (aT Qy hr.mono (bK hc) T.PL T.DP.kp T.Qr .nil cj (ae (bt sr (aB hc 0) ah (λ_ _=>rfl)) aj)))))) aM);apply ai;exact(aW (aN WQ (aY y0 (aZ vr (bK hc) T.qh wo (ae (aB hc 0) aj)) ah) (aT m9 hr.mono (bK hc) T.qD T.nh.kp T.qS .nil cj (ae (bt sr (aB hc 0) ah (λ_ _=>rfl)) aj)) (bf _)) (by exact az (aS mn)) aM);exact az (aS (aZ (Dm hr.hd) (bK hc) T.GK W8 (ae (jb hc ["part"] [1] rfl (by decide +kernel) (Nf (lF aAd (aB hc 0) (mO ah) mP)) (λ_ hc=>Ek hc (by decide +kernel) 0 (by decide +kernel)) (λ_ _=>kA) (λ_ hc=>(aT tS hr.mono (bK hc) T.y9 T.pS.kp T.zM .nil cj (ae (aB hc 0) (ae (aY y0 (aB hc 1) ah) aj))))) aj)))),?_⟩
  rcases Rl.par ra.good with ⟨x,rfl⟩ | ⟨k,rs,pr⟩
  ·have hp:H p=some (.tup [.str (Str.ofString "is"),.str x]):=ra
   repeat (first | walk_at "rl" | simp only[hp,QK])
   refine⟨_,.tup hp,true,mU _ _,?_⟩
   rw[aR (by simp),aR (by simp)]
   repeat (first | walk_at "rl" | simp only[hp,QK])
   refine⟨_,.str _,true,mU _ _,?_⟩
   rw[aR (by simp)]
   repeat (first | walk_at "rl" | simp only[hp,QK])
   refine⟨x,rfl,nl x gP,λH' s'=>?_⟩
   have:=q H' s'
   rw[show My.nE (.var x)=decide (Nm x) by unfold My.nE;simp[Rl.names]]at this
   exact this
  ·obtain⟨qs,hp,hl,VL⟩:=pr.un H p ra
   have kis:=pr.nis
   have two:=pr.two
   repeat (first | walk_at "rl" | simp only[hp,QK])
   refine⟨_,.tup hp,true,mU _ _,?_⟩
   rw[aR (by simp),aR (by omega)]
   repeat (first | walk_at "rl" | simp only[hp,QK])
   refine⟨_,.str _,true,mU _ _,?_⟩
   rw[aR (by simp)]
   repeat (first | walk_at "rl" | simp only[hp,QK,kis])
   refine⟨k,rfl,?_⟩
   rw[pr.tab]
   refine⟨rfl,?_⟩
   rw[aR (by simp[hl])]
   repeat (first | walk_at "rl" | simp only[hp,QK,kis])
   refine⟨by simp[HT.eB],λS hS=>?_⟩
   rw[Dj]
   have sS:=aP hS (.tup (List.map V.ref qs))
   refine⟨⟨_,lG aK⟩,?_⟩
   obtain⟨Pc,Dh⟩:∃Pc:Addr->Nat->List V->Hp->Prop,∀Z i ys H',Pc Z i ys H'↔∃bs:List Bool,ys=List.map V.bl bs/\bs=(rs.take i).map My.nE/\dk (upd H S (.tup (List.map V.ref qs))) H'/\H' Z=some (.lst ys):=⟨_,λ_ _ _ _=>my⟩
   refine JP (zs:=List.map V.ref qs) Pc (λZ hZ=>(Dh _ _ _ _).mpr ⟨[],rfl,rfl,aP hZ _,aK⟩) (λZ hZ i ys H' _ pv=>?_) (λZ hZ i z ys H' hz pv cb=>?_) (λZ hZ ys H' pv=>?_)
   ·obtain⟨_,_,_,s,_⟩:=(Dh _ _ _ _).mp pv
    exact s _ _ aK
   ·obtain⟨bs,rfl,V3,sZ,V5⟩:=(Dh _ _ _ _).mp pv
    obtain⟨c,ec,rfl⟩:=RW hz
    have hi:i<rs.length:=by rw[<-hl];exact(nO.mp ec).1
    have er:rs[i]?=some rs[i]:=nM hi
    have ka:=(VL i c _ ec er).mono (nk (sS.trans sZ))
    obtain⟨_,kd,kn⟩:=pr.VL _ (xH hi)
    have lb:bs.length<=2:=by rw[V3,di,kO];omega
    walk_at "rc"
    repeat (walk_at "rd")
    refine⟨c,dp-1,rfl,rs[i],ka,by omega,by omega,(λn hn=>nl n (kn n hn)),λH5 s5=>?_⟩
    refine⟨s5 _ _ V5,eZ (by omega),(Dh _ _ _ _).mpr ⟨bs++[My.nE rs[i]],by simp,?_,rL (sZ.trans s5) hZ,aK⟩⟩
    rw[Gs,er,p9,V3]
    rfl
   ·obtain⟨bs,rfl,V3,sZ,V5⟩:=(Dh _ _ _ _).mp pv
    refine⟨Z,rfl,bs,V5,?_⟩
    have e:bs.all id=My.nE r:=by
     rw[pr.nE,V3,di,hl,xJ,DT]
     rfl
    rw[e]
    exact q _ (sS.trans sZ)
def RD:Sp:=λvs H Q _=>∃p,vs=[.ref p]/\∃r,jX H r p/\r.deep<=6/\(∀x∈r.names,x.length<=60000)/\∀b H',(b=true↔(∀x∈r.names,Nm x)/\Few r.names)->dk H H'->Q (.bl b) H'
theorem Py(T:Txt K mg t):dI P w K mg base mE 9 t.vx t.vm ["thing"] RD:=by
 have tS:=Cq (P:=P) (w:=w) (base:=base) T 6
 have tR:=vT (P:=P) (w:=w) (base:=base) T
 refine T.DN.vU La (λvs H Q E h=>?_) (λdh A outer s H vs Q E hr h hc hf=>?_)
 ·obtain⟨p,rfl,_⟩:=h;rfl
 obtain⟨p,rfl,r,ra,h6,nl,q⟩:=h
 have hu:=uK hr
 have WX:=hr.ou
 have al:nE r=true↔∀x∈r.names,Nm x:=by
  unfold nE
  rw[su]
  exact forall₂_congr λx _=>Bb
 refine⟨_,(by exact az (aS (El (aT tS hr.mono (bK hc) T.y9 T.pS.kp T.zM .nil cj (ae (aB hc 0) (ae (cq (v:=.int 6) (bK hc) T.lZ ⟨_,rfl⟩) aj))) (uf (ug Ss (aZ sd (bK hc) T.qh wo (ae (aT tR hr.mono (bK hc) T.y8 T.tT.kp T.zL .nil cj (ae (aB hc 0) aj)) aj)) (cq (v:=.int 5) (bK hc) T.mD ⟨_,rfl⟩) (bf _)))))),?_⟩
 walk_at "r"
 refine⟨p,6,rfl,r,ra,by omega,by decide,nl,λH1 s1=>?_⟩
 cases ea:nE r with
 | false=>
  walk_at "r"
  refine q false _ ⟨(λz=>nomatch z),λz=>?_⟩ s1
  rw[al.mpr z.1]at ea
  cases ea
 | true=>
  walk_at "r"
  refine⟨p,rfl,r,ra.mono (nk s1),h6,λL ts H2 s2 hL hL2 mem nd ZQ=>?_⟩
  repeat (first | walk_at "rl" | simp only[hL2])
  refine q _ _ ?_ (s1.trans s2)
  rw[Bb]
  exact⟨λz=>⟨al.mp ea,ts,nd,mem,by omega⟩,λz=>by have:=V9 z.2 nd mem;omega⟩
local macro_rules | `(tactic| walk_at "rd") => `(tactic| walk_at "rc")
local macro_rules | `(tactic| walk_at "rl") => `(tactic| first | (refine kl fun R hR => ?_) | walk_at "ry" | (refine Nx.to (by assumption) _ _ ?_))
def wl(ws:List Str):Nat:=(ws.map λz=>z.length+1).sum
theorem N7:∀{ws:List Str},ws≠[]->(Str.join MJ ws).length+1=wl ws
 | [],h=>absurd rfl h
 | [x],_=>rfl
 | x::y::r,_=>by
  have h:=N7 (ws:=y::r) (by simp)
  have e:MJ.length=1:=by decide +kernel
  show(x++MJ++Str.join MJ (y::r)).length+1=x.length+1+wl (y::r)
  rw[t9,t9,<-h,e]
  omega
theorem Rx(z:Str):wl (Txt.split z MJ)=z.length+1:=by
 rw[<-N7 (yU z MJ),StrLaws.join_split]
theorem Rb{x:Str}:∀{ws:List Str},x∈ws->x.length+1<=wl ws
 | y::r,h=>by
  show x.length+1<=y.length+1+wl r
  rcases gN.mp h with e | h
  ·rw[e];omega
  ·have:=Rb h;omega
theorem Xe:∀{ws:List Str},ws.length<=wl ws
 | []=>bW _
 | y::r=>by
  show r.length+1<=y.length+1+wl r
  have:=Xe (ws:=r);omega
theorem aAE{H:Hp}{k:Str}{n:Int}{qs:List Addr}{rs:List Rl}{p:Addr}(hb:pM k=some n)(l1:qs.length=n.toNat)(l2:rs.length=n.toNat)(hp:H p=some (.tup (.str k::List.map V.ref qs)))
  (VL:∀(i:Nat) q s,qs[i]?=some q->rs[i]?=some s->jX H s q):jX H (S' k rs) p:=by
 rcases uP hb with ⟨hy,rfl⟩ | ⟨rfl,rfl⟩ | ⟨hk,rfl⟩
 ·have e1:qs=[]:=GD l1
  have e2:rs=[]:=GD l2
  subst e1 e2
  show jX H (if k=Str.ofString "yes" then Rl.yes else Rl.no) p
  rcases hy with rfl | rfl
  ·rw[bH rfl];exact hp
  ·rw[aR (by decide)];exact hp
 ·match qs,rs,l1,l2 with
  | [q],[a],_,_=>exact⟨q,hp,VL 0 q a rfl rfl⟩
 ·match qs,rs,l1,l2 with
  | [q,q'],[a,b],_,_=>exact⟨hk,q,q',hp,VL 0 q a rfl rfl,VL 1 q' b rfl rfl⟩
def Ry(C:Addr):Sp:=λvs H Q E=>∃L i,vs=[.ref L,.int i]/\∃(ws:List Str) (j:Nat),i=(j:Int)/\H L=some (.lst (List.map V.str ws))/\j<=ws.length/\(∀z,ws[j]?=some z->Q (.str z) H)/\(ws[j]?=none->E (.ref C) none H)
def RB(C:Addr)(d:Nat):Sp:=λvs H Q E=>∃L i dp,vs=[.ref L,.int i,.int dp]/\∃(ws:List Str) (j m:Nat),i=(j:Int)/\dp=(m:Int)/\m<d/\H L=some (.lst (List.map V.str ws))/\j<=ws.length/\
 (∀r k T q H',oG ws m j=some (r,k)->dk H H'->H' T=some (.tup [.ref q,.int (k:Int)])->jX H' r q->Q (.ref T) H')/\(oG ws m j=none->∀H',dk H H'->E (.ref C) none H')
theorem Px(T:Txt K mg t):dI P w K mg base (DQ P w) 1 t.vv t.vj ["words","place"] (Ry t.aH):=by
 refine T.vA.Yx K9 (λvs H Q E h=>?_) (λdh A outer s H vs Q E hr h hc hf L V0=>?_)
 ·obtain⟨a,i,rfl,_⟩:=h;rfl
 obtain⟨a,_,rfl,ws,j,rfl,hL,hj,q,qe⟩:=h
 refine⟨_,(by apply ai;exact(aW (aN bZ (aB hc 1) (aZ sd (bK hc) T.qh wo (ae (aB hc 0) aj)) (bf _)) (by exact az (cF (EH:=λ_=>E) T.lV T.gS T.gR (bK hc) T.lY rfl L (ae aU aj))) aM);exact az (aS (bt la (aB hc 0) (aB hc 1) (λ_ _=>rfl)))),?_⟩
 repeat (first | walk_at "rl" | simp only[hL])
 split
 ·rename_i e
  walk_at "r"
  exact⟨by decide,qe (Be (by omega))⟩
 ·rename_i e
  have hj':j<ws.length:=by omega
  have e1:wU (List.map V.str ws) (j:Int)=some (.str ws[j]):=kh (by rw[mz,nM hj'];rfl)
  repeat (first | walk_at "rl" | simp only[hL,e1])
  exact q _ (nM hj')
theorem Cm(T:Txt K mg t):∀d:Nat,dI P w K mg base (DQ P w) (d+1) t.vw t.vk ["words","place","deepest"] (RB t.aH d)
 | 0=>T.sg.Yx (k:=0) fh (λvs H Q E h=>by obtain⟨L,i,dp,rfl,_⟩:=h;rfl) (λdh A outer s H vs Q E hr h hc hf L V0=>by obtain⟨L,i,dp,rfl,ws,j,m,_,_,h1,_⟩:=h;omega)
 | d+1=>by
  have vz:=Cm T d
  have DK:=Px (P:=P) (w:=w) (base:=base) T
  have m9:=y3 (P:=P) (w:=w) (base:=base) T
  refine T.sg.Yx (k:=d+1) fh (λvs H Q E h=>?_) (λdh A outer s H vs Q E hr h hc hf L V0=>?_)
  ·obtain⟨L,i,dp,rfl,_⟩:=h;rfl
  obtain⟨a,_,_,rfl,ws,j,m,rfl,rfl,hm,hL,hj,q,qe⟩:=h
  refine⟨_,(by apply ai;exact(aW (aN bZ (aB hc 2) ah (bf _)) (by exact az (cF (EH:=λ_=>E) T.lV T.gS T.gR (bK hc) T.lY rfl L (ae aU aj))) aM);apply ai;exact(aQ hc fh.nd hf 3 (by decide +kernel) (kB (EH:=λ_=>E) DK hr.mono (bK hc) T.Cr T.vA.kp T.Du L (ae (aB hc 0) (ae (aB hc 1) aj))));apply ai;exact(aW (aN bZ (aB hc 3) aU (bf _)) (by exact az (aS (lN (ae (lN (ae aU (ae (kB (EH:=λ_=>E) DK hr.mono (bK hc) T.Cr T.vA.kp T.Du L (ae (aB hc 0) (ae (aY gT (aB hc 1) ah) aj))) aj))) (ae (aY gT (aB hc 1) ah) aj))))) aM);apply ai;exact(aQ hc fh.nd hf 4 (by decide +kernel) (aT m9 hr.mono (bK hc) T.qD T.nh.kp T.qS .nil cj (ae (aB hc 3) aj)));apply ai;exact(aW (aN Yt (aB hc 4) Nh (bf _)) (by exact az (cF (EH:=λ_=>E) T.lV T.gS T.gR (bK hc) T.lY rfl L (ae aU aj))) aM);apply ai;exact(aQ hc fh.nd hf 5 (by decide +kernel) (cN (ae (aB hc 3) aj)));apply ai;exact(aQ hc fh.nd hf 6 (by decide +kernel) (aY gT (aB hc 1) ah));apply ai;exact(rz V0 rfl (ej (bK hc) T.jc (ae (aB hc 4) aj)) (Oz hc fh.nd hf 7 (by decide +kernel)) (by apply ai;exact(aQ hc fh.nd hf 8 (by decide +kernel) (kB (EH:=λ_=>E) vz hr.mono (bK hc) T.Cu T.sg.kp T.Dv L (ae (aB hc 0) (ae (aB hc 6) (ae (aY y0 (aB hc 2) ah) aj)))));apply ai;exact(cG (sW Nc KC KD rP (aB hc 5) (ae (bt sr (aB hc 8) ah (λ_ _=>rfl)) aj)));exact az (aQ hc fh.nd hf 6 (by decide +kernel) (bt sr (aB hc 8) ah (λ_ _=>rfl)))));exact az (aS (lN (ae (oq wj (bK hc) T.rB FQ (ae (aB hc 5) aj)) (ae (aB hc 6) aj))))),?_⟩
  walk_at "r"
  cases m with
  | zero=>
   rw[bH (by rfl)]
   walk_at "r"
   exact⟨by decide,qe rfl H (dk.refl H)⟩
  | succ m=>
   rw[aR (by omega)]
   walk_at "r"
   refine⟨a,_,rfl,ws,j,rfl,hL,hj,λk hk=>?_,λhk=>qe (by show(ws[j]?).bind _=none;rw[hk];rfl) H (dk.refl H)⟩
   have hj1:j<ws.length:=(nO.mp hk).1
   walk_at "r"
   by_cases his:k=Str.ofString "is"
   ·subst his
    rw[bH rfl]
    walk_at "r"
    refine⟨a,_,rfl,ws,j+1,by omega,hL,hj1,λx hx=>?_,λhx=>qe (by rw[Hl hk,hx];rfl) H (dk.refl H)⟩
    walk_at "r"
    refine⟨by decide,λp hp=>⟨by decide,λp1 Y6=>?_⟩⟩
    have s1:=aP hp (.tup [V.str (Str.ofString "is"),V.str x])
    have s2:=aP Y6 (.tup [V.ref p,V.int ((j:Int)+2)])
    exact q (.var x) (j+2) p1 p _ (by rw[Hl hk,hx];rfl) (s1.trans s2) (by rw[aK];rfl) (s2 _ _ aK)
   ·rw[aR his]
    walk_at "r"
    refine⟨k,rfl,?_⟩
    cases hb:PyProof.Rows.KTD.datumAt k bB with
    | none=>
     walk_at "r"
     exact⟨by decide,qe (Nv hk his hb) H (dk.refl H)⟩
    | some n=>
     have n2:0<=n/\n<=2:=by rcases uP hb with ⟨_,rfl⟩ | ⟨_,rfl⟩ | ⟨_,rfl⟩ <;> decide
     walk_at "r"
     refine⟨by decide,λPa hPa=>?_⟩
     walk_at "r"
     refine⟨by omega,by omega,?_⟩
     obtain⟨f,Za⟩:∃f,oG ws m=f:=⟨_,rfl⟩
     obtain⟨Pv,tu⟩:∃Pv:Nat->St->Hp->Prop,∀i σ' H',Pv i σ' H'↔∃(tn fd:Option V) (qs:List Addr) (rs:List Rl) (bh:Nat),σ'=[some (.ref a),some (.int (j:Int)),some (.int ((m+1:Nat):Int)),some (.str k),some (.int n),some (.ref Pa),some (.int (bh:Int)),tn,fd]/\dk H H'/\H' Pa=some (.lst (.str k::List.map V.ref qs))/\qs.length=i/\rs.length=i/\bh<=ws.length/\i<=n.toNat/\kQ f n.toNat (j+1)=(kQ f (n.toNat-i) bh).map (λp=>(rs++p.1,p.2))/\∀(m:Nat) q s,qs[m]?=some q->rs[m]?=some s->jX H' s q:=⟨_,λ_ _ _=>my⟩
     have e0:((j:Int)+1)=((j+1:Nat):Int):=by omega
     rw[e0]
     refine pF Pv ((tu _ _ _).mpr ⟨none,none,[],[],j+1,rfl,aP hPa _,aK,rfl,rfl,hj1,lQ _,?_,λm q s e=>by simp at e⟩) (λi σ' H1 hi pv=>?_) (λσ' H1 pv=>?_)
     ·rw[Nat.sub_zero]
      exact(Option.map_id' (x:=kQ f n.toNat (j+1))).symm
     ·obtain⟨tn,fd,qs,rs,bh,rfl,s1,Ze,lq,lr,hbh,hin,em,kids⟩:=(tu _ _ _).mp pv
      obtain⟨n',en⟩:∃n',n.toNat-i=n'+1:=⟨n.toNat-i-1,by omega⟩
      rw[en]at em
      walk_at "r"
      refine⟨a,_,_,rfl,ws,bh,m,rfl,by omega,by omega,s1 _ _ hL,hbh,λr k2 T' q' H2 er s2 hT rq=>?_,λer H2 s2=>?_⟩
      ·have Zd:=s2 _ _ Ze
       repeat (first | walk_at "rl" | simp only[hT,Zd])
       have tk:∀o c xs,H2 c=some (.tup xs)->upd H2 Pa o c=some (.tup xs):=λo c xs e=>by rw[aO (HB e Zd (by intro z;cases z))];exact e
       refine⟨.inl ⟨rfl,_,eV Zd⟩,eZ (by omega),?_⟩
       have hT':=tk (.lst (V.str k::(List.map V.ref qs++[V.ref q']))) _ _ hT
       have sP:dk H (upd H2 Pa (.lst (V.str k::(List.map V.ref qs++[V.ref q'])))):=rL (s1.trans s2) hPa
       repeat (first | walk_at "rl" | simp only[hT'])
       have Y9:=(RX ws hbh er).1
       rw[Za]at er
       refine(tu _ _ _).mpr ⟨_,_,qs++[q'],rs++[r],k2,rfl,sP,?_,by simp[lq],by simp[lr],Y9,by omega,?_,λm q0 s0 e1 e2=>?_⟩
       ·rw[aK,p9];rfl
       ·rw[em]
        show Option.map _ ((f bh).bind _)=_
        rw[er]
        show Option.map _ (Option.map _ (kQ f n' k2))=_
        have en2:n.toNat-(i+1)=n':=by omega
        rw[en2]
        cases kQ f n' k2 with
        | none=>rfl
        | some p=>show some (rs++r::p.1,p.2)=some (rs++[r]++p.1,p.2);rw[List.append_assoc];rfl
       ·by_cases hm:m<qs.length
        ·rw[vI hm]at e1
         rw[vI (by omega)]at e2
         exact((kids m q0 s0 e1 e2).mono (nk s2)).mono (λc xs e=>tk _ c xs e)
        ·have hm2:m=qs.length:=by
          have:=(nO.mp e1).1
          simp at this;omega
         subst hm2
         rw[ud (bW _),DX]at e1
         rw[ud (by omega),lr,lq,DX]at e2
         cases e1
         cases e2
         exact rq.mono (λc xs e=>tk _ c xs e)
      ·refine qe ?_ H2 (s1.trans s2)
       rw[Cd hk his hb,Za,em]
       rw[Za]at er
       show Option.map _ (Option.map _ ((f bh).bind _))=none
       rw[er]
       rfl
     ·obtain⟨tn,fd,qs,rs,bh,rfl,s1,Ze,lq,lr,hbh,hin,em,kids⟩:=(tu _ _ _).mp pv
      repeat (first | walk_at "rl" | simp only[Ze])
      rw[DX]at em
      have em:kQ f n.toNat (j+1)=some (rs,bh):=by rw[em];show some (rs++[],bh)=_;rw[vE]
      refine λl hl=>⟨by decide,λp hp=>?_⟩
      have sl:=aP hl (.tup (V.str k::List.map V.ref qs))
      have sp:=aP hp (.tup [V.ref l,V.int bh])
      refine q (S' k rs) bh p l _ ?_ ((s1.trans sl).trans sp) aK (aAE hb lq lr (sp _ _ aK) λm q0 s0 e1 e2=>((kids m q0 s0 e1 e2).mono (nk sl)).mono (nk sp))
      rw[Cd hk his hb,Za,em]
      rfl
def XD(K:PySem.W.Frag)(C:Addr):Sp:=λvs H Q E=>∃v,vs=[v]/\((∃z:Str,v=.str z/\z.length<=60000/\(∀r q H',Rd z r->dk H H'->jX H' r q->Q (.ref q) H')/\((∀r,¬Rd z r)->∀H',dk H H'->E (.ref C) none H'))\/(∃ty,tQ K H v ty/\PySem.W.kitOne K ty (.type "str")=some false/\E (.ref C) none H))
theorem NZ(T:Txt K mg t):dI P w K mg base (DQ P w) 10 t.qV t.qK ["text"] (XD K t.aH):=by
 have vz:=Cm (P:=P) (w:=w) (base:=base) T 7
 have Qx:=Py (P:=P) (w:=w) (base:=base) T
 refine T.rn.Yx oC (λvs H Q E h=>?_) (λdh A outer s H vs Q E hr h hc hf L V0=>?_)
 ·obtain⟨z,rfl,_⟩:=h;rfl
 obtain⟨v,rfl,h⟩:=h
 refine⟨_,(by apply ai;exact(aW (rA (ja (aZ se (bK hc) T.aV bq (ae (aB hc 0) (ae (qg (v:=V.ty "str") (bK hc) T.Bj T6 rfl) aj))))) (by exact az (cF (EH:=λ_=>E) T.lV T.gS T.gR (bK hc) T.lY rfl L (ae aU aj))) aM);apply ai;exact(aQ hc oC.nd hf 1 (by decide +kernel) (sW Ky PySem.F.slot_str_split PySem.F.type_str_split S9 (aB hc 0) (ae aU aj)));apply ai;exact(aQ hc oC.nd hf 2 (by decide +kernel) (kB (EH:=λ_=>E) vz hr.mono (bK hc) T.Cu T.sg.kp T.Dv L (ae (aB hc 1) (ae ah (ae (cq (v:=.int 6) (bK hc) T.lZ ⟨_,rfl⟩) aj)))));apply ai;exact(aW (aN WQ (bt sr (aB hc 2) ah (λ_ _=>rfl)) (aZ sd (bK hc) T.qh wo (ae (aB hc 1) aj)) (bf _)) (by exact az (cF (EH:=λ_=>E) T.lV T.gS T.gR (bK hc) T.lY rfl L (ae aU aj))) aM);apply ai;exact(aW (rA (ja (aT Qx hr.mono (bK hc) T.PK T.DN.kp T.Qq .nil cj (ae (bt sr (aB hc 2) ah (λ_ _=>rfl)) aj)))) (by exact az (cF (EH:=λ_=>E) T.lV T.gS T.gR (bK hc) T.lY rfl L (ae aU aj))) aM);exact az (aS (bt sr (aB hc 2) ah (λ_ _=>rfl)))),?_⟩
 walk_at "r"
 rcases h with ⟨z,rfl,lz,q,qe⟩ | ⟨ty,hty,hno,qe⟩
 ·refine⟨_,.str _,true,mU _ _,?_⟩
  rw[aR (by simp)]
  walk_at "r"
  refine⟨by decide +kernel,lz,λp hp=>?_⟩
  have wz:=Rx z
  obtain⟨ws,hws⟩:∃ws,Txt.split z MJ=ws:=⟨_,rfl⟩
  have aDl:Txt.split z (Str.ofString " ")=ws:=hws
  rw[aDl]
  rw[hws]at wz
  have hRd:∀r,Rd z r↔oG ws 6 0=some (r,ws.length)/\(∀x∈r.names,Nm x)/\Few r.names:=λr=>by unfold Rd;rw[hws]
  have sp:=aP hp (.lst (List.map V.str ws))
  walk_at "r"
  refine⟨p,0,6,rfl,ws,0,6,rfl,rfl,by decide,aK,lQ _,λr k T' q' H1 er s1 hT rq=>?_,λer H1 s1=>qe (λr hr=>?_) H1 (sp.trans s1)⟩
  ·have Y6:H1 p=some (.lst (List.map V.str ws)):=s1 _ _ aK
   obtain⟨hk,h6,nws⟩:=RX ws (lQ _) er
   repeat (first | walk_at "rl" | simp only[hT,Y6])
   split
   ·rename_i Y9
    walk_at "r"
    refine⟨by decide,qe (λr' hr'=>?_) H1 (sp.trans s1)⟩
    have:=((hRd r').mp hr').1
    rw[er]at this
    cases this
    simp at Y9
   ·rename_i Y9
    have Y9:k=ws.length:=by
     simp at Y9
     omega
    subst Y9
    repeat (first | walk_at "rl" | simp only[hT,Y6])
    refine⟨q',rfl,r,rq,h6,λx hx=>by have:=Rb (nws x hx);omega,λb H2 hb s2=>?_⟩
    cases b with
    | true=>
     walk_at "r"
     have:=s2 _ _ hT
     repeat (first | walk_at "rl" | simp only[this])
     exact q r q' H2 ((hRd r).mpr ⟨er,hb.mp rfl⟩) ((sp.trans s1).trans s2) (rq.mono (nk s2))
    | false=>
     walk_at "r"
     refine⟨by decide,qe (λr' hr'=>?_) H2 ((sp.trans s1).trans s2)⟩
     have h:=(hRd r').mp hr'
     have h1:=h.1
     rw[er]at h1
     cases h1
     have:=hb.mpr h.2
     cases this
  ·have:=((hRd r).mp hr).1
   rw[er]at this
   cases this
 ·refine⟨_,hty,false,hno,?_⟩
  walk_at "r"
  exact⟨by decide,qe⟩
local macro_rules | `(tactic| walk_at "rd") => `(tactic| walk_at "rc")
local macro_rules | `(tactic| walk_at "rl") => `(tactic| first | (refine kl fun R hR => ?_) | walk_at "ry" | (refine Nx.to (by assumption) _ _ ?_))
def cls(t:W'):Nat->Addr
 | 0=>t.aE | 1=>t.aF | 2=>t.aq | 3=>t.av | 4=>t.ay | 5=>t.aI | 6=>t.ao | 7=>t.au
 | 8=>t.aH | 9=>t.aC | 10=>t.ag | 11=>t.ak | 12=>t.aD | _=>t.aJ
def fld:Nat->Str
 | 0=>"name" | 1=>"name" | 2=>"part" | 3=>"part" | 4=>"place" | 5=>"label" | 6=>"most" | _=>"label"
def Xv(H:Hp)(k:Nat)(v:V)(dx:Option Addr):Prop:=(k<8->∃d,dx=some d/\H d=some (.xd [(fld k,v)]))/\(8<=k->dx=none)
theorem Xv.dict{H:Hp}{k:Nat}{v:V}{dx:Option Addr}(x:Xv H k v dx):J5 H dx:=λd e=>by
 by_cases h:k<8
 ·obtain⟨d',e',h'⟩:=x.1 h
  rw[e]at e';cases e'
  exact⟨_,h'⟩
 ·rw[x.2 (by omega)]at e;cases e
theorem Xv.mono{H H':Hp}{k:Nat}{v:V}{dx:Option Addr}(x:Xv H k v dx)(s:dk H H'):Xv H' k v dx:=⟨λh=>let ⟨d,e,h'⟩:=x.1 h;⟨d,e,s _ _ h'⟩,x.2⟩
theorem cz{k:Nat}(h:k<14){C:Nat->Prop}(h0:C 0)(h1:C 1)(h2:C 2)(h3:C 3)(h4:C 4)(h5:C 5)(h6:C 6)(h7:C 7)(h8:C 8)(h9:C 9)(ha:C 10)(hb:C 11)(hc:C 12)(hd:C 13):C k:=by
 match k,h with
 | 0,_=>exact h0 | 1,_=>exact h1 | 2,_=>exact h2 | 3,_=>exact h3 | 4,_=>exact h4 | 5,_=>exact h5 | 6,_=>exact h6
 | 7,_=>exact h7 | 8,_=>exact h8 | 9,_=>exact h9 | 10,_=>exact ha | 11,_=>exact hb | 12,_=>exact hc | 13,_=>exact hd
theorem KR(T:Txt K mg t){k:Nat}(h:k<14):XC K (cls t k):=cz h (C:=λk=>XC K (cls t k)) T.qi T.ui T.rD T.rF T.rG T.wX T.rC T.rE T.lV T.Bk T.sy T.xM T.Bl T.Nk
theorem Xx(T:Txt K mg t){k:Nat}(h:k<14):PySem.W.subIn K (.ref (cls t k)) (.ref t.aG)=some true:=cz h (C:=λk=>PySem.W.subIn K (.ref (cls t k)) (.ref t.aG)=some true) T.dO T.dN T.dv T.dy T.dA T.eD T.dr T.dw T.dM T.du T.ck T.cO T.dz T.eF
theorem YD(T:Txt K mg t){k:Nat}(h:k<14):PySem.W.kitOne K (.ref (cls t k)) (.type "ValueError")=some true:=cz h (C:=λk=>PySem.W.kitOne K (.ref (cls t k)) (.type "ValueError")=some true) T.rT T.rS T.oS T.oV T.oX T.uC T.oQ T.oU T.rR T.oR T.kR T.nr T.oW T.uD
theorem aC6(T:Txt K mg t){k:Nat}(h:k<14):PySem.W.kitOne K (.ref (cls t k)) (.ref t.aE)=some (decide (k=0)):=cz h (C:=λk=>PySem.W.kitOne K (.ref (cls t k)) (.ref t.aE)=some (decide (k=0))) T.jO T.jL T.il T.iN T.iV T.j4 T.g0 T.iu T.jx T.g9 T.dD T.gE T.iQ T.j9
theorem aC5(T:Txt K mg t){k:Nat}(h:k<14):PySem.W.kitOne K (.ref (cls t k)) (.ref t.aF)=some (decide (k=1)):=cz h (C:=λk=>PySem.W.kitOne K (.ref (cls t k)) (.ref t.aF)=some (decide (k=1))) T.jN T.jK T.ik T.iM T.iU T.j3 T.gZ T.iq T.jw T.g8 T.dC T.gD T.iP T.j8
theorem aC4(T:Txt K mg t){k:Nat}(h:k<14):PySem.W.kitOne K (.ref (cls t k)) (.ref t.aq)=some (decide (k=2)):=cz h (C:=λk=>PySem.W.kitOne K (.ref (cls t k)) (.ref t.aq)=some (decide (k=2))) T.iG T.iz T.fJ T.gd T.gI T.jn T.fk T.fQ T.hV T.fA T.cT T.eO T.gu T.jA
theorem aC3(T:Txt K mg t){k:Nat}(h:k<14):PySem.W.kitOne K (.ref (cls t k)) (.ref t.av)=some (decide (k=3)):=cz h (C:=λk=>PySem.W.kitOne K (.ref (cls t k)) (.ref t.av)=some (decide (k=3))) T.iI T.iB T.fL T.gi T.gK T.jq T.fq T.fT T.ia T.fC T.cV T.eR T.gy T.jC
theorem aC2(T:Txt K mg t){k:Nat}(h:k<14):PySem.W.kitOne K (.ref (cls t k)) (.ref t.ay)=some (decide (k=4)):=cz h (C:=λk=>PySem.W.kitOne K (.ref (cls t k)) (.ref t.ay)=some (decide (k=4))) T.iK T.iD T.fN T.gk T.gM T.js T.fu T.fV T.ic T.fE T.cX T.eT T.gB T.jE
theorem aC1(T:Txt K mg t){k:Nat}(h:k<14):PySem.W.kitOne K (.ref (cls t k)) (.ref t.aI)=some (decide (k=5)):=cz h (C:=λk=>PySem.W.kitOne K (.ref (cls t k)) (.ref t.aI)=some (decide (k=5))) T.ke T.kb T.jF T.jP T.jT T.kS T.jj T.jH T.j5 T.jt T.dR T.iR T.jR T.kX
theorem aC0(T:Txt K mg t){k:Nat}(h:k<14):PySem.W.kitOne K (.ref (cls t k)) (.ref t.ao)=some (decide (k=6)):=cz h (C:=λk=>PySem.W.kitOne K (.ref (cls t k)) (.ref t.ao)=some (decide (k=6))) T.iE T.iw T.fG T.fY T.gF T.jl T.fi T.fO T.hJ T.fw T.cR T.eM T.gp T.jy
theorem aCZ(T:Txt K mg t){k:Nat}(h:k<14):PySem.W.kitOne K (.ref (cls t k)) (.ref t.au)=some (decide (k=7)):=cz h (C:=λk=>PySem.W.kitOne K (.ref (cls t k)) (.ref t.au)=some (decide (k=7))) T.iH T.iA T.fK T.gh T.gJ T.jo T.fo T.fS T.hX T.fB T.cU T.eQ T.gx T.jB
theorem aCY(T:Txt K mg t){k:Nat}(h:k<14):PySem.W.kitOne K (.ref (cls t k)) (.ref t.aH)=some (decide (k=8)):=cz h (C:=λk=>PySem.W.kitOne K (.ref (cls t k)) (.ref t.aH)=some (decide (k=8))) T.jM T.jJ T.ig T.iL T.iT T.j0 T.gY T.ip T.jv T.g7 T.dB T.gC T.iO T.j7
theorem aCX(T:Txt K mg t){k:Nat}(h:k<14):PySem.W.kitOne K (.ref (cls t k)) (.ref t.aC)=some (decide (k=9)):=cz h (C:=λk=>PySem.W.kitOne K (.ref (cls t k)) (.ref t.aC)=some (decide (k=9))) T.iF T.iy T.fH T.fZ T.gH T.jm T.fj T.fP T.hU T.fz T.cS T.eN T.gq T.jz
theorem aAO(T:Txt K mg t){k:Nat}(h:k<14):PySem.W.kitOne K (.ref (cls t k)) (.ref t.ag)=some (decide (k=10)):=cz h (C:=λk=>PySem.W.kitOne K (.ref (cls t k)) (.ref t.ag)=some (decide (k=10))) T.dG T.dF T.cZ T.de T.dg T.dQ T.cQ T.dc T.dE T.cY T.cg T.cE T.df T.dU
theorem aAN(T:Txt K mg t){k:Nat}(h:k<14):PySem.W.kitOne K (.ref (cls t k)) (.ref t.ak)=some (decide (k=11)):=cz h (C:=λk=>PySem.W.kitOne K (.ref (cls t k)) (.ref t.ak)=some (decide (k=11))) T.fX T.fW T.eI T.eK T.eU T.g6 T.eG T.eJ T.fF T.eH T.cD T.dW T.eL T.ie
theorem aAM(T:Txt K mg t){k:Nat}(h:k<14):PySem.W.kitOne K (.ref (cls t k)) (.ref t.aD)=some (decide (k=12)):=cz h (C:=λk=>PySem.W.kitOne K (.ref (cls t k)) (.ref t.aD)=some (decide (k=12))) T.iJ T.iC T.fM T.gj T.gL T.jr T.ft T.fU T.ib T.fD T.cW T.eS T.gA T.jD
theorem aAL(T:Txt K mg t){k:Nat}(h:k<14):PySem.W.kitOne K (.ref (cls t k)) (.ref t.aJ)=some (decide (k=13)):=cz h (C:=λk=>PySem.W.kitOne K (.ref (cls t k)) (.ref t.aJ)=some (decide (k=13))) T.kf T.kc T.jG T.jQ T.jU T.kW T.jk T.jI T.j6 T.ju T.dS T.iS T.jS T.kY
theorem qz(T:Txt K mg t):dI P w K mg base mE 1 t.bJ t.lB dq (mQ t.aE "name"):=by
 refine T.uX.vU sY (λvs H Q E h=>?_) (λdh A outer s H vs Q E hr h hc hf=>?_)
 ·obtain⟨e,v,t,rfl,_⟩:=h;rfl
 obtain⟨e,v,t0,rfl,he,q⟩:=h
 refine⟨_,(by apply ai;exact(cG (lU T.bQ T.bS T.bP (bK hc) T.cP (ae (aB hc 0) (ae aU aj))));exact az (lT (aB hc 0) (aB hc 1) rfl)),?_⟩
 walk_at "r"
 refine⟨t.aE,t0,he,T.qi,λt'=>?_⟩
 walk_at "r"
 refine⟨t.aE,t',rfl,T.qi,T.rK,λdx hd pE=>?_⟩
 rw[aO pE]at hd
 exact q dx t' hd pE
theorem y2(T:Txt K mg t):dI P w K mg base mE 1 t.bI t.lA dn (mQ t.aF "name"):=by
 refine T.uW.vU sX (λvs H Q E h=>?_) (λdh A outer s H vs Q E hr h hc hf=>?_)
 ·obtain⟨e,v,t,rfl,_⟩:=h;rfl
 obtain⟨e,v,t0,rfl,he,q⟩:=h
 refine⟨_,(by apply ai;exact(cG (lU T.bQ T.bS T.bP (bK hc) T.cP (ae (aB hc 0) (ae aU aj))));exact az (lT (aB hc 0) (aB hc 1) rfl)),?_⟩
 walk_at "r"
 refine⟨t.aF,t0,he,T.ui,λt'=>?_⟩
 walk_at "r"
 refine⟨t.aF,t',rfl,T.ui,T.rJ,λdx hd pE=>?_⟩
 rw[aO pE]at hd
 exact q dx t' hd pE
theorem wH(T:Txt K mg t):dI P w K mg base mE 1 t.bD t.ko cJ (mQ t.aq "part"):=by
 refine T.tV.vU sj (λvs H Q E h=>?_) (λdh A outer s H vs Q E hr h hc hf=>?_)
 ·obtain⟨e,v,t,rfl,_⟩:=h;rfl
 obtain⟨e,v,t0,rfl,he,q⟩:=h
 refine⟨_,(by apply ai;exact(cG (lU T.bQ T.bS T.bP (bK hc) T.cP (ae (aB hc 0) (ae aU aj))));exact az (lT (aB hc 0) (aB hc 1) rfl)),?_⟩
 walk_at "r"
 refine⟨t.aq,t0,he,T.rD,λt'=>?_⟩
 walk_at "r"
 refine⟨t.aq,t',rfl,T.rD,T.oy,λdx hd pE=>?_⟩
 rw[aO pE]at hd
 exact q dx t' hd pE
theorem wJ(T:Txt K mg t):dI P w K mg base mE 1 t.bF t.ku cL (mQ t.av "part"):=by
 refine T.tX.vU sm (λvs H Q E h=>?_) (λdh A outer s H vs Q E hr h hc hf=>?_)
 ·obtain⟨e,v,t,rfl,_⟩:=h;rfl
 obtain⟨e,v,t0,rfl,he,q⟩:=h
 refine⟨_,(by apply ai;exact(cG (lU T.bQ T.bS T.bP (bK hc) T.cP (ae (aB hc 0) (ae aU aj))));exact az (lT (aB hc 0) (aB hc 1) rfl)),?_⟩
 walk_at "r"
 refine⟨t.av,t0,he,T.rF,λt'=>?_⟩
 walk_at "r"
 refine⟨t.av,t',rfl,T.rF,T.oA,λdx hd pE=>?_⟩
 rw[aO pE]at hd
 exact q dx t' hd pE
theorem wK(T:Txt K mg t):dI P w K mg base mE 1 t.bG t.kx cM (mQ t.ay "place"):=by
 refine T.tY.vU sq (λvs H Q E h=>?_) (λdh A outer s H vs Q E hr h hc hf=>?_)
 ·obtain⟨e,v,t,rfl,_⟩:=h;rfl
 obtain⟨e,v,t0,rfl,he,q⟩:=h
 refine⟨_,(by apply ai;exact(cG (lU T.bQ T.bS T.bP (bK hc) T.cP (ae (aB hc 0) (ae aU aj))));exact az (lT (aB hc 0) (aB hc 1) rfl)),?_⟩
 walk_at "r"
 refine⟨t.ay,t0,he,T.rG,λt'=>?_⟩
 walk_at "r"
 refine⟨t.ay,t',rfl,T.rG,T.oB,λdx hd pE=>?_⟩
 rw[aO pE]at hd
 exact q dx t' hd pE
theorem Ad(T:Txt K mg t):dI P w K mg base mE 1 t.bL t.lL dP (mQ t.aI "label"):=by
 refine T.vB.vU ux (λvs H Q E h=>?_) (λdh A outer s H vs Q E hr h hc hf=>?_)
 ·obtain⟨e,v,t,rfl,_⟩:=h;rfl
 obtain⟨e,v,t0,rfl,he,q⟩:=h
 refine⟨_,(by apply ai;exact(cG (lU T.bQ T.bS T.bP (bK hc) T.cP (ae (aB hc 0) (ae aU aj))));exact az (lT (aB hc 0) (aB hc 1) rfl)),?_⟩
 walk_at "r"
 refine⟨t.aI,t0,he,T.wX,λt'=>?_⟩
 walk_at "r"
 refine⟨t.aI,t',rfl,T.wX,T.uk,λdx hd pE=>?_⟩
 rw[aO pE]at hd
 exact q dx t' hd pE
theorem wG(T:Txt K mg t):dI P w K mg base mE 1 t.bC t.km cI (mQ t.ao "most"):=by
 refine T.tU.vU si (λvs H Q E h=>?_) (λdh A outer s H vs Q E hr h hc hf=>?_)
 ·obtain⟨e,v,t,rfl,_⟩:=h;rfl
 obtain⟨e,v,t0,rfl,he,q⟩:=h
 refine⟨_,(by apply ai;exact(cG (lU T.bQ T.bS T.bP (bK hc) T.cP (ae (aB hc 0) (ae aU aj))));exact az (lT (aB hc 0) (aB hc 1) rfl)),?_⟩
 walk_at "r"
 refine⟨t.ao,t0,he,T.rC,λt'=>?_⟩
 walk_at "r"
 refine⟨t.ao,t',rfl,T.rC,T.ow,λdx hd pE=>?_⟩
 rw[aO pE]at hd
 exact q dx t' hd pE
theorem wI(T:Txt K mg t):dI P w K mg base mE 1 t.bE t.kr cK (mQ t.au "label"):=by
 refine T.tW.vU sk (λvs H Q E h=>?_) (λdh A outer s H vs Q E hr h hc hf=>?_)
 ·obtain⟨e,v,t,rfl,_⟩:=h;rfl
 obtain⟨e,v,t0,rfl,he,q⟩:=h
 refine⟨_,(by apply ai;exact(cG (lU T.bQ T.bS T.bP (bK hc) T.cP (ae (aB hc 0) (ae aU aj))));exact az (lT (aB hc 0) (aB hc 1) rfl)),?_⟩
 walk_at "r"
 refine⟨t.au,t0,he,T.rE,λt'=>?_⟩
 walk_at "r"
 refine⟨t.au,t',rfl,T.rE,T.oz,λdx hd pE=>?_⟩
 rw[aO pE]at hd
 exact q dx t' hd pE
local macro_rules | `(tactic| walk_at "rd") => `(tactic| walk_at "rc")
local macro_rules | `(tactic| walk_at "rl") => `(tactic| first | (refine kl fun R hR => ?_) | walk_at "ry" | (refine Nx.to (by assumption) _ _ ?_))
def Xi(k:Str)(a b:Bool):Bool:=if k=Str.ofString "and" then a&&b else if k=Str.ofString "or" then a||b else if k=Str.ofString "then" then !a||b else a==b
def Rl.val(e:Str->Bool):Rl->Bool
 | .yes=>true
 | .no=>false
 | .var x=>e x
 | .neg a=>!a.val e
 | .two k a b=>Xi k (a.val e) (b.val e)
def Fact(aX:List (Key×V))(ns:List Str):Prop:=∀x∈ns,∃b,lW aX (Sum.inr x)=some (.bl b)
def JH(aX:List (Key×V))(x:Str):Bool:=match lW aX (Sum.inr x) with | some (.bl b)=>b | _=>false
theorem V'{aX:List (Key×V)}{x:Str}{b:Bool}(h:lW aX (Sum.inr x)=some (.bl b)):JH aX x=b:=by unfold JH;rw[h]
theorem Fact.left{aX:List (Key×V)}{a b:List Str}(h:Fact aX (a++b)):Fact aX a:=λx hx=>h x (vH _ hx)
theorem Fact.right{aX:List (Key×V)}{a b:List Str}(h:Fact aX (a++b)):Fact aX b:=λx hx=>h x (nj _ hx)
theorem aBr:∀k∈bw,k≠Str.ofString "yes"/\k≠Str.ofString "no"/\k≠Str.ofString "is"/\k≠Str.ofString "not":=by decide
theorem S8:Str.ofString "no"≠Str.ofString "yes"/\Str.ofString "is"≠Str.ofString "yes"/\Str.ofString "is"≠Str.ofString "no"/\Str.ofString "not"≠Str.ofString "yes"/\Str.ofString "not"≠Str.ofString "no"/\Str.ofString "not"≠Str.ofString "is":=by decide
def aAc:Sp:=λvs H Q _=>∃k a b,vs=[.str k,.bl a,.bl b]/\Q (.bl (Xi k a b)) H
def U1(d:Nat):Sp:=λvs H Q _=>∃p f,vs=[.ref p,.ref f]/\∃r,jX H r p/\r.deep<=d/\∃aX,H f=some (.dK aX)/\Fact aX r.names/\Q (.bl (r.val (JH aX))) H
theorem Yv(T:Txt K mg t):dI P w K mg base mE 1 t.mZ t.mW ["word","one","other"] aAc:=by
 refine T.rm.vU wD (λvs H Q E h=>?_) (λdh A outer s H vs Q E hr h hc hf=>?_)
 ·obtain⟨k,a,b,rfl,_⟩:=h;rfl
 obtain⟨k,a,b,rfl,q⟩:=h
 have hu:=uK hr
 have WX:=hr.ou
 refine⟨_,(by apply ai;exact(aW (aN bZ (aB hc 0) aU (bf _)) (by exact az (aS (El (aB hc 1) (uf (aB hc 2))))) aM);apply ai;exact(aW (aN bZ (aB hc 0) aU (bf _)) (by exact az (aS (Q5 (aB hc 1) (uf (aB hc 2))))) aM);apply ai;exact(aW (aN bZ (aB hc 0) aU (bf _)) (by exact az (aS (Q5 (Ng (aB hc 1)) (uf (aB hc 2))))) aM);exact az (aS (ug bZ (aB hc 1) (aB hc 2) (bf _)))),?_⟩
 walk_at "r"
 unfold Xi at q
 split
 ·rename_i h;rw[bH h]at q;cases a <;> exact q
 ·rename_i h1;rw[aR h1]at q
  walk_at "r"
  split
  ·rename_i h;rw[bH h]at q;cases a <;> exact q
  ·rename_i h2;rw[aR h2]at q
   walk_at "r"
   split
   ·rename_i h;rw[bH h]at q;cases a <;> exact q
   ·walk_at "r"
    rename_i h3;rw[aR h3]at q;cases a <;> cases b <;> exact q
theorem Hu(T:Txt K mg t):∀d:Nat,dI P w K mg base mE (d+2) t.tN t.tE ["rule","facts"] (U1 d)
 | 0=>T.lM.vU (k:=1) qw (λvs H Q E h=>by obtain⟨p,f,rfl,_⟩:=h;rfl) (λdh A outer s H vs Q E hr h hc hf=>by obtain⟨p,f,rfl,r,_,h1,_⟩:=h;have:=r.pos;lia)
 | d+1=>by
  have m8:=Hu T d
  have z5:=Yv (P:=P) (w:=w) (base:=base) T
  refine T.lM.vU (k:=d+2) qw (λvs H Q E h=>?_) (λdh A outer s H vs Q E hr h hc hf=>?_)
  ·obtain⟨p,f,rfl,_⟩:=h;rfl
  obtain⟨p,f,rfl,r,ra,hd,aX,hF,fa,q⟩:=h
  have hu:=uK hr
  have WX:=hr.ou
  obtain⟨n1,n2,n3,n4,n5,n6⟩:=S8
  refine⟨_,(by apply ai;exact(aQ hc qw.nd hf 2 (by decide +kernel) (bt sr (aB hc 0) ah (λ_ _=>rfl)));apply ai;exact(aW (aN bZ (aB hc 2) aU (bf _)) (by exact az (aS mn)) aM);apply ai;exact(aW (aN bZ (aB hc 2) aU (bf _)) (by exact az (aS mn)) aM);apply ai;exact(aW (aN bZ (aB hc 2) aU (bf _)) (by exact az (aS (Q6 hu (aB hc 1) (bt sr (aB hc 0) ah (λ_ _=>rfl)) (λ_ _=>rfl)))) aM);apply ai;exact(aW (aN bZ (aB hc 2) aU (bf _)) (by exact az (aS (Ng (aT m8 hr.mono (bK hc) T.oP T.lM.kp T.pN .nil cj (ae (bt sr (aB hc 0) ah (λ_ _=>rfl)) (ae (aB hc 1) aj)))))) aM);exact az (aS (aT z5 hr.mono (bK hc) T.y7 T.rm.kp T.zK .nil cj (ae (aB hc 2) (ae (aT m8 hr.mono (bK hc) T.oP T.lM.kp T.pN .nil cj (ae (bt sr (aB hc 0) ah (λ_ _=>rfl)) (ae (aB hc 1) aj))) (ae (aT m8 hr.mono (bK hc) T.oP T.lM.kp T.pN .nil cj (ae (bt sr (aB hc 0) ah (λ_ _=>rfl)) (ae (aB hc 1) aj))) aj)))))),?_⟩
  match r,ra,q with
  | .yes,ra,q=>
   have hp:H p=some (.tup [.str (Str.ofString "yes")]):=ra
   repeat (first | walk_at "rl" | simp only[hp])
   exact q
  | .no,ra,q=>
   have hp:H p=some (.tup [.str (Str.ofString "no")]):=ra
   repeat (first | walk_at "rl" | simp only[hp,n1,pU])
   exact q
  | .var x,ra,q=>
   have hp:H p=some (.tup [.str (Str.ofString "is"),.str x]):=ra
   obtain⟨b,hb⟩:=fa x gP
   repeat (first | walk_at "rl" | simp only[hp,n2,n3,pU,Rp])
   refine⟨.bl b,(by have:=Gm.k (k:=Sum.inr x) hF;rw[hb]at this;exact this),?_⟩
   have e:(Rl.var x).val (JH aX)=b:=V' hb
   rw[e]at q;exact q
  | .neg a,ra,q=>
   obtain⟨q1,hp,ra1⟩:=ra
   have d1:a.deep+1<=d+1:=hd
   repeat (first | walk_at "rl" | simp only[hp,n4,n5,n6,pU])
   exact⟨q1,f,rfl,a,ra1,by lia,aX,hF,fa,_,rfl,q⟩
  | .two k a b,ra,q=>
   obtain⟨hk,q1,q2,hp,ra1,ra2⟩:=ra
   obtain⟨m1,m2,m3,m4⟩:=aBr k hk
   have d1:max a.deep b.deep+1<=d+1:=hd
   repeat (first | walk_at "rl" | simp only[hp,m1,m2,m3,m4,pU])
   refine⟨q1,f,rfl,a,ra1,by lia,aX,hF,fa.left,?_⟩
   repeat (first | walk_at "rl" | simp only[hp])
   refine⟨q2,f,rfl,b,ra2,by lia,aX,hF,fa.right,?_⟩
   repeat (first | walk_at "rl" | simp only[hp])
   exact⟨k,_,_,rfl,q⟩
def AllB(aX:List (Key×V)):Prop:=∀kv∈aX,∃c,kv.2=.bl c
structure FB(aX:List (Key×V))(ns:List Str):Prop where
 all:AllB aX
 has:∀x∈ns,(Sum.inr x:Key)∈aX.map (·.1)
theorem G'{aX:List (Key×V)}{k:Key}(h:k∈aX.map (·.1)):∃v,lW aX k=some v/\∃kv∈aX,kv.2=v:=by
 unfold lW
 cases e:aX.find? λkv=>decide (kv.1=k) with
 | none=>
  obtain⟨kv,Kd,rfl⟩:=nQ.mp h
  have:=List.find?_eq_none.mp e kv Kd
  simp at this
 | some kv=>exact⟨kv.2,rfl,kv,List.mem_of_find?_eq_some e,rfl⟩
theorem FB.fact{aX:List (Key×V)}{ns:List Str}(h:FB aX ns):Fact aX ns:=λx hx=>by
 obtain⟨v,e,kv,Kd,rfl⟩:=G' (h.has x hx)
 obtain⟨c,hc⟩:=h.all kv Kd
 exact⟨c,by rw[e,hc]⟩
theorem AllB.put{aX:List (Key×V)}(h:AllB aX)(k:Key)(c:Bool):AllB (putK aX k (.bl c)):=λkv Kd=>by
 unfold putK at Kd
 split at Kd
 ·obtain⟨p,hp,rfl⟩:=nQ.mp Kd
  by_cases e:p.1=k
  ·rw[bH e];exact⟨c,rfl⟩
  ·rw[aR e];exact h p hp
 ·rcases nR.mp Kd with z | z
  ·exact h kv z
  ·rw[kM.mp z];exact⟨c,rfl⟩
theorem uE{aX:List (Key×V)}{k:Key}{v:V}{z:Key}:z∈(putK aX k v).map (·.1)↔z∈aX.map (·.1)\/z=k:=by
 unfold putK
 split
 ·rename_i h
  have e:(aX.map λkv=>if kv.1=k then (kv.1,v) else kv).map (·.1)=aX.map (·.1):=by
   rw[u5];refine Kr λkv _=>?_
   show(if kv.1=k then (kv.1,v) else kv).1=kv.1
   split <;> rfl
  rw[e]
  refine⟨.inl,λh'=>h'.elim id λez=>?_⟩
  obtain⟨kv,Kd,hk⟩:=List.any_eq_true.mp h
  rw[ez,<-of_decide_eq_true hk]
  exact List.mem_map_of_mem Kd
 ·rw[p9,nR];simp
theorem FB.put{aX:List (Key×V)}{ns:List Str}(h:FB aX ns)(k:Key)(c:Bool):FB (putK aX k (.bl c)) ns:=⟨h.all.put k c,λx hx=>uE.mpr (.inl (h.has x hx))⟩
theorem FB.new{aX:List (Key×V)}{ns:List Str}(h:FB aX ns)(x:Str)(c:Bool):FB (putK aX (Sum.inr x) (.bl c)) (ns++[x]):=⟨h.all.put _ c,λy hy=>by
 rcases nR.mp hy with z | z
 ·exact uE.mpr (.inl (h.has y z))
 ·rw[kM.mp z];exact uE.mpr (.inr rfl)⟩
theorem AllB.merge:∀{more aX:List (Key×V)},AllB aX->AllB more->AllB (iY aX more)
 | [],aX,h,_=>h
 | p::more,aX,h,h2=>by
  obtain⟨c,hc⟩:=h2 p gP
  show AllB (iY (putK aX p.1 p.2) more)
  rw[hc]
  exact AllB.merge (h.put p.1 c) λkv Kd=>h2 kv (kP _ Kd)
theorem tj:∀{more aX:List (Key×V)} {z:Key},z∈(iY aX more).map (·.1)↔z∈aX.map (·.1)\/z∈more.map (·.1)
 | [],aX,z=>by show z∈aX.map (·.1)↔_;simp
 | p::more,aX,z=>by
  show z∈(iY (putK aX p.1 p.2) more).map (·.1)↔_
  rw[tj,uE,mK,gN,or_assoc]
theorem FB.aCP{aX more:List (Key×V)}{ns:List Str}(h:FB aX ns)(h2:AllB more):FB (iY aX more) ns:=⟨h.all.merge h2,λx hx=>tj.mpr (.inl (h.has x hx))⟩
theorem FB.aCO{aX more:List (Key×V)}{ns:List Str}(h:FB aX ns)(h2:AllB more):FB (iY more aX) ns:=⟨h2.merge h.all,λx hx=>tj.mpr (.inr (h.has x hx))⟩
theorem FB.sub{aX:List (Key×V)}{ns ms:List Str}(h:FB aX ns)(s:∀x∈ms,x∈ns):FB aX ms:=⟨h.all,λx hx=>h.has x (s x hx)⟩
def aBB(aX:List (Key×V))(ns:List Str)(x:Str):Prop:=∃(ts:List Str) (i:Nat),(∀z,z∈ts↔z∈ns)/\ts.Nodup/\PyProof.Rows.sortedS ts=true/\ts[i]?=some x/\(∀j y,j<i->ts[j]?=some y->lW aX (Sum.inr y)≠none)/\lW aX (Sum.inr x)=none
def RG(C:Addr):Sp:=λvs H Q E=>∃p f,vs=[.ref p,.ref f]/\∃r,jX H r p/\r.deep<=6/\∃aX,H f=some (.dK aX)/\AllB aX/\(Fact aX r.names->∀H',dk H H'->Q (.bl (r.val (JH aX))) H')/\
 ∀x,aBB aX r.names x->∀dx H',dk H H'->H' dx=some (.xd [("name",.str x)])->E (.ref C) (some dx) H'
theorem Xf{aX:List (Key×V)}(h:AllB aX){k:Key}{v:V}(e:lW aX k=some v):∃c,v=.bl c:=by
 obtain⟨_,e',kv,Kd,rfl⟩:=G' (Uw e)
 obtain⟨c,hc⟩:=h kv Kd
 rw[e]at e'
 cases e'
 exact⟨c,hc⟩
theorem Cp(T:Txt K mg t):dI P w K mg base (DQ P w) 9 t.Ga t.FG ["rule","facts"] (RG t.aE):=by
 have tR:=vT (P:=P) (w:=w) (base:=base) T
 have m8:=Hu (P:=P) (w:=w) (base:=base) T 6
 have z6:=qz (P:=P) (w:=w) (base:=base) T
 refine T.Gk.Yx Hh (λvs H Q E h=>?_) (λdh A outer s H vs Q E hr h hc hf L V0=>?_)
 ·obtain⟨p,f,rfl,_⟩:=h;rfl
 obtain⟨p,f,rfl,r,ra,h6,aX,hF,ab,q,qe⟩:=h
 have hu:=uK hr
 have WX:=hr.ou
 refine⟨_,(by apply ai;exact(rz V0 rfl (GJ (aT tR hr.mono (bK hc) T.y8 T.tT.kp T.zL .nil cj (ae (aB hc 0) aj))) (Oz hc Hh.nd hf 2 (by decide +kernel)) (by exact az (aW (Up (KQ hu (aB hc 2) (aB hc 1))) (by exact az (fc (EH:=λ_=>E) T.qi T.nX T.nY T.nW z6 T.nC hr.mono (bK hc) T.za rfl L (aB hc 2))) aM)));exact az (aS (aT m8 hr.mono (bK hc) T.oP T.lM.kp T.pN .nil cj (ae (aB hc 0) (ae (aB hc 1) aj))))),?_⟩
 repeat (walk_at "rd")
 refine⟨p,rfl,r,ra,h6,λL ts H1 s1 hL QM mem nd ZQ=>?_⟩
 repeat (walk_at "rd")
 refine⟨⟨_,eV QM⟩,?_⟩
 obtain⟨Pv,tu⟩:∃Pv:Nat->St->Hp->Prop,∀i σ' H',Pv i σ' H'↔∃x:Option V,σ'=[some (.ref p),some (.ref f),x]/\H'=H1/\∀j y,j<i->ts[j]?=some y->lW aX (Sum.inr y)≠none:=⟨_,λ_ _ _=>my⟩
 refine JF (xs:=List.map V.str ts) Pv ((tu _ _ _).mpr ⟨none,rfl,rfl,λj y hj=>absurd hj (Nat.not_lt_zero _)⟩) (λi σ' H2 _ pv=>?_) (λi x σ' H2 hx pv=>?_) (λσ' H2 pv=>?_)
 ·obtain⟨_,_,rfl,_⟩:=(tu _ _ _).mp pv
  exact QM
 ·obtain⟨y,rfl,rfl,bef⟩:=(tu _ _ _).mp pv
  obtain⟨z,ez,rfl⟩:=Xy hx
  repeat (first | walk_at "rd" | simp only[wY])
  refine⟨_,Gm.k (k:=Sum.inr z) (s1 _ _ hF),?_⟩
  cases e:lW aX (Sum.inr z) with
  | none=>
   simp only[Option.isSome_none,Bool.not_false,oi]
   intro dx hdx
   exact qe z ⟨ts,i,mem,nd,ZQ,ez,bef,e⟩ dx _ (s1.trans (aP hdx _)) aK
  | some v=>
   simp only[Option.isSome_some,Bool.not_true,Gu,pU]
   refine(tu _ _ _).mpr ⟨_,rfl,rfl,λj y hj hy=>?_⟩
   rcases Nat.lt_or_ge j i with h | h
   ·exact bef j y h hy
   ·have:j=i:=by omega
    subst this
    rw[ez]at hy;cases hy
    rw[e];exact λz=>nomatch z
 ·obtain⟨y,rfl,rfl,bef⟩:=(tu _ _ _).mp pv
  have fa:Fact aX r.names:=λx hx=>by
   obtain⟨j,hj⟩:=M'.mp ((mem x).mpr hx)
   have hl:=(nO.mp hj).1
   cases e:lW aX (Sum.inr x) with
   | none=>exact absurd e (bef j x (by rw[di];exact hl) hj)
   | some v=>
    obtain⟨c,rfl⟩:=Xf ab e
    exact⟨c,rfl⟩
  repeat (walk_at "rd")
  exact⟨p,f,rfl,r,ra.mono (nk s1),h6,aX,s1 _ _ hF,fa,q fa _ s1⟩
local macro_rules | `(tactic| walk_at "rd") => `(tactic| walk_at "rc")
local macro_rules | `(tactic| walk_at "rl") => `(tactic| first | (refine kl fun R hR => ?_) | walk_at "ry" | (refine Nx.to (by assumption) _ _ ?_))
def mV(d:Int):Nat:=if d=14 then 0 else if d=15 then 8 else d.toNat
def U3(t:W'):Sp:=λvs H _ E=>∃d v,vs=[.int d,v]/\0<=d/\d<14/\∀dx H',dk H H'->Xv H' d.toNat v dx->E (.ref (cls t d.toNat)) dx H'
def XH(t:W'):Sp:=λvs H _ E=>∃d v,vs=[.int d,v]/\0<=d/\d<16/\(14<=d->∃x,v=.str x/\Nm x)/\∀dx H',dk H H'->Xv H' (mV d) v dx->E (.ref (cls t (mV d))) dx H'
theorem O5{x:Str}(nm:Nm x):∀r,¬Rd (Str.ofString "is " ++ x++Str.ofString " " ++ x) r:=λr hr=>by
 have h:=hr.1
 have e:Str.ofString "is " ++ x++Str.ofString " " ++ x=Txt.join MJ [Str.ofString "is",x,x]:=by
  refine Str.ext' (Array.ext' ?_)
  show _=(Builtin.Str.glued MJ [Str.ofString "is",x,x]).cps.toList
  rw[Kq,FP,qH]
  show(Str.ofString "is " ++ x++Str.ofString " " ++ x).cps.toList=(Str.ofString "is").cps.toList++32::(x.cps.toList++32::x.cps.toList)
  rw[nD,nD,nD,show(Str.ofString "is ").cps.toList=(Str.ofString "is").cps.toList++[32] by decide +kernel,show(Str.ofString " ").cps.toList=[32] by decide +kernel]
  simp
 have nb:(32:Nat)∉x.cps.toList:=λc=>by have:=nm.2.2 _ c;omega
 have es:Txt.split (Txt.join ⟨#[32]⟩ [Str.ofString "is",x,x]) ⟨#[32]⟩=_:=yV (c:=32) (by simp) λz hz=>by
  rcases gN.mp hz with e | hz
  ·rw[e];decide +kernel
  ·have:z=x:=by simpa using hz
   rw[this];exact nb
 rw[<-FP]at es
 rw[e,es,Hl rfl]at h
 cases h
theorem bX{c:Prop} [Decidable c] {X Y:Prop} (h1:c->X) (h2:¬c->Y):if c then X else Y:=by
 split
 ·exact h1 ‹_›
 ·exact h2 ‹_›
theorem Sw(T:Txt K mg t):dI P w K mg base (DQ P w) 3 t.pO t.pG ["_law_door","_law_thing"] (U3 t):=by
 have z6:=qz (P:=P) (w:=w) (base:=base) T
 have Ug:=y2 (P:=P) (w:=w) (base:=base) T
 have QB:=wH (P:=P) (w:=w) (base:=base) T
 have QD:=wJ (P:=P) (w:=w) (base:=base) T
 have QF:=wK (P:=P) (w:=w) (base:=base) T
 have Wo:=Ad (P:=P) (w:=w) (base:=base) T
 have Qz:=wG (P:=P) (w:=w) (base:=base) T
 have QC:=wI (P:=P) (w:=w) (base:=base) T
 refine T.uS.Yx Ab (λvs H Q E h=>?_) (λdh A outer s H vs Q E hr h hc hf L V0=>?_)
 ·obtain⟨d,v,rfl,_⟩:=h;rfl
 obtain⟨d,v,rfl,d0,d1,q⟩:=h
 refine⟨_,(by apply ai;exact(aW (aN bZ (aB hc 0) ah (bf _)) (by exact az (fc (EH:=λ_=>E) T.qi T.nX T.nY T.nW z6 T.nC hr.mono (bK hc) T.za rfl L (aB hc 1))) aM);apply ai;exact(aW (aN bZ (aB hc 0) ah (bf _)) (by exact az (fc (EH:=λ_=>E) T.ui T.rX T.rY T.rV Ug T.uQ hr.mono (bK hc) T.HY rfl L (aB hc 1))) aM);apply ai;exact(aW (aN bZ (aB hc 0) ah (bf _)) (by exact az (fc (EH:=λ_=>E) T.rD T.ph T.pA T.o4 QB T.tJ hr.mono (bK hc) T.Cy rfl L (aB hc 1))) aM);apply ai;exact(aW (aN bZ (aB hc 0) ah (bf _)) (by exact az (fc (EH:=λ_=>E) T.rF T.pk T.pC T.o6 QD T.tL hr.mono (bK hc) T.CG rfl L (aB hc 1))) aM);apply ai;exact(aW (aN bZ (aB hc 0) ah (bf _)) (by exact az (fc (EH:=λ_=>E) T.rG T.px T.pD T.o8 QF T.tM hr.mono (bK hc) T.CK rfl L (aB hc 1))) aM);apply ai;exact(aW (aN bZ (aB hc 0) ah (bf _)) (by exact az (fc (EH:=λ_=>E) T.wX T.uH T.uJ T.uF Wo T.vt hr.mono (bK hc) T.N3 rfl L (aB hc 1))) aM);apply ai;exact(aW (aN bZ (aB hc 0) ah (bf _)) (by exact az (fc (EH:=λ_=>E) T.rC T.pd T.pz T.oY Qz T.tI hr.mono (bK hc) T.Cv rfl L (aB hc 1))) aM);apply ai;exact(aW (aN bZ (aB hc 0) ah (bf _)) (by exact az (fc (EH:=λ_=>E) T.rE T.pj T.pB T.o5 QC T.tK hr.mono (bK hc) T.Cz rfl L (aB hc 1))) aM);apply ai;exact(aW (aN bZ (aB hc 0) ah (bf _)) (by exact az (cF (EH:=λ_=>E) T.lV T.gS T.gR (bK hc) T.lY rfl L (ae aU aj))) aM);apply ai;exact(aW (aN bZ (aB hc 0) ah (bf _)) (by exact az (cF (EH:=λ_=>E) T.Bk T.pe T.oZ (bK hc) T.Cw rfl L (ae aU aj))) aM);apply ai;exact(aW (aN bZ (aB hc 0) ah (bf _)) (by exact az (cF (EH:=λ_=>E) T.sy T.lg T.kZ (bK hc) T.sM rfl L (ae aU aj))) aM);apply ai;exact(aW (aN bZ (aB hc 0) ah (bf _)) (by exact az (cF (EH:=λ_=>E) T.xM T.ny T.nu (bK hc) T.zb rfl L (ae aU aj))) aM);apply ai;exact(aW (aN bZ (aB hc 0) ah (bf _)) (by exact az (cF (EH:=λ_=>E) T.Bl T.pw T.o7 (bK hc) T.CJ rfl L (ae aU aj))) aM);exact az (aW (aN bZ (aB hc 0) ah (bf _)) (by exact az (cF (EH:=λ_=>E) T.Nk T.uI T.uG (bK hc) T.N4 rfl L (ae aU aj))) aM)),?_⟩
 have one:∀{k:Nat},k<8->k=d.toNat->∀dx,H dx=none->E (.ref (cls t k)) (some dx) (upd H dx (.xd [(fld k,v)])):=λ{k} h8 ek dx hdx=>by
  subst ek
  exact q _ _ (aP hdx _) ⟨λ_=>⟨dx,rfl,aK⟩,λh=>absurd h (by omega)⟩
 have two:∀{k:Nat},8<=k->k=d.toNat->1<=sizeLine/\E (.ref (cls t k)) none H:=λ{k} h8 ek=>by
  subst ek
  exact⟨by decide,q none H (dk.refl H) ⟨λh=>absurd h (by omega),λ_=>rfl⟩⟩
 walk_at "r"
 refine bX (λe=>by (walk_at "r");exact one (k:=0) (by decide) (by rw[e];rfl)) λn0=>?_
 walk_at "r"
 refine bX (λe=>by (walk_at "r");exact one (k:=1) (by decide) (by rw[e];rfl)) λn1=>?_
 walk_at "r"
 refine bX (λe=>by (walk_at "r");exact one (k:=2) (by decide) (by rw[e];rfl)) λn2=>?_
 walk_at "r"
 refine bX (λe=>by (walk_at "r");exact one (k:=3) (by decide) (by rw[e];rfl)) λn3=>?_
 walk_at "r"
 refine bX (λe=>by (walk_at "r");exact one (k:=4) (by decide) (by rw[e];rfl)) λn4=>?_
 walk_at "r"
 refine bX (λe=>by (walk_at "r");exact one (k:=5) (by decide) (by rw[e];rfl)) λn5=>?_
 walk_at "r"
 refine bX (λe=>by (walk_at "r");exact one (k:=6) (by decide) (by rw[e];rfl)) λn6=>?_
 walk_at "r"
 refine bX (λe=>by (walk_at "r");exact one (k:=7) (by decide) (by rw[e];rfl)) λn7=>?_
 walk_at "r"
 refine bX (λe=>by (walk_at "r");exact two (k:=8) (by decide) (by rw[e];rfl)) λn8=>?_
 walk_at "r"
 refine bX (λe=>by (walk_at "r");exact two (k:=9) (by decide) (by rw[e];rfl)) λn9=>?_
 walk_at "r"
 refine bX (λe=>by (walk_at "r");exact two (k:=10) (by decide) (by rw[e];rfl)) λna=>?_
 walk_at "r"
 refine bX (λe=>by (walk_at "r");exact two (k:=11) (by decide) (by rw[e];rfl)) λnb=>?_
 walk_at "r"
 refine bX (λe=>by (walk_at "r");exact two (k:=12) (by decide) (by rw[e];rfl)) λnc=>?_
 walk_at "r"
 refine bX (λe=>by (walk_at "r");exact two (k:=13) (by decide) (by rw[e];rfl)) λnd=>?_
 omega
theorem VF(T:Txt K mg t):dI P w K mg base (DQ P w) 11 t.rh t.qQ ["_law_door","_law_thing"] (XH t):=by
 have Ge:=Sw (P:=P) (w:=w) (base:=base) T
 have Gd:=Cp (P:=P) (w:=w) (base:=base) T
 have rj:=NZ (P:=P) (w:=w) (base:=base) T
 refine T.wB.Yx Fc (λvs H Q E h=>?_) (λdh A outer s H vs Q E hr h hc hf L V0=>?_)
 ·obtain⟨d,v,rfl,_⟩:=h;rfl
 obtain⟨d,v,rfl,d0,d1,nm,q⟩:=h
 have hu:=uK hr
 have WX:=hr.ou
 refine⟨_,(by apply ai;exact(aW (aN bZ (aB hc 0) ah (bf _)) (by exact az (aS (kB (EH:=λ_=>E) Gd hr.mono (bK hc) T.N2 T.Gk.kp T.Ou L (ae (lN (ae aU (ae (lN (ae aU (ae (aB hc 1) aj))) (ae (lN (ae aU aj)) aj)))) (ae OD aj))))) aM);apply ai;exact(aW (aN bZ (aB hc 0) ah (bf _)) (by exact az (aS (kB (EH:=λ_=>E) rj hr.mono (bK hc) T.vV T.rn.kp T.wm L (ae (aY lK (aY lK (aY lK aU (aB hc 1)) aU) (aB hc 1)) aj)))) aM);exact az (aS (kB (EH:=λ_=>E) Ge hr.mono (bK hc) T.Fp T.uS.kp T.FT L (ae (aB hc 0) (ae (aB hc 1) aj))))),?_⟩
 walk_at "r"
 refine bX (λe=>?_) λn14=>?_
 ·subst e
  obtain⟨x,rfl,nx⟩:=nm (by decide)
  walk_at "r"
  refine⟨by decide,λp1 h1=>⟨by decide,λp2 h2=>⟨by decide,λp3 h3=>?_⟩⟩⟩
  have s1:=aP h1 (.tup [V.str (Str.ofString "is"),V.str x])
  have s2:=aP h2 (.tup [V.str (Str.ofString "yes")])
  have s3:=aP h3 (.tup [V.str (Str.ofString "and"),V.ref p1,V.ref p2])
  have e1:=s3 _ _ (s2 _ _ (aK (H:=H) (a:=p1) (o:=.tup [V.str (Str.ofString "is"),V.str x])))
  have e2:=s3 _ _ (aK (H:=upd H p1 (.tup [V.str (Str.ofString "is"),V.str x])) (a:=p2) (o:=.tup [V.str (Str.ofString "yes")]))
  have e3:=aK (H:=upd (upd H p1 (.tup [V.str (Str.ofString "is"),V.str x])) p2 (.tup [V.str (Str.ofString "yes")])) (a:=p3) (o:=.tup [V.str (Str.ofString "and"),V.ref p1,V.ref p2])
  have s4:=(s1.trans s2).trans s3
  generalize upd (upd (upd H p1 (.tup [V.str (Str.ofString "is"),V.str x])) p2 (.tup [V.str (Str.ofString "yes")])) p3 (.tup [V.str (Str.ofString "and"),V.ref p1,V.ref p2])=H3 at e1 e2 e3 s4 ⊢
  walk_at "r"
  intro p4 h4
  have s5:=aP h4 (.dK [])
  refine⟨p3,p4,rfl,.two (Str.ofString "and") (.var x) .yes,⟨by simp[bw],p1,p2,s5 _ _ e3,s5 _ _ e1,s5 _ _ e2⟩,by simp[Rl.deep],[],aK,(λkv h=>nomatch h),λfa=>?_,λy lk dx H5 s6 hd=>?_⟩
  ·obtain⟨c,hc⟩:=fa x (by simp[Rl.names])
   cases hc
  ·have ey:y=x:=by
    obtain⟨ts,i,mem,_,_,ei,_⟩:=lk
    have:=(mem y).mp (Bd ei)
    simpa [Rl.names]using this
   subst ey
   exact q (some dx) H5 ((s4.trans s5).trans s6) ⟨λ_=>⟨dx,rfl,hd⟩,λh=>absurd h (by decide)⟩
 ·walk_at "r"
  refine bX (λe=>?_) λn15=>?_
  ·subst e
   obtain⟨x,rfl,nx⟩:=nm (by decide)
   walk_at "r"
   have lx:=nx.2.1
   have l1:(Str.ofString "is ").length=3:=by decide +kernel
   have l2:(Str.ofString " ").length=1:=by decide +kernel
   have big:100<=sizeLine:=by decide
   refine⟨by omega,by rw[t9];omega,by rw[t9,t9];omega,_,rfl,.inl ⟨_,rfl,by rw[t9,t9,t9];omega,λr q' H' rd=>absurd rd (O5 nx r),λ_ H' s'=>?_⟩⟩
   exact q none H' s' ⟨λh=>absurd h (by decide),λ_=>rfl⟩
  ·walk_at "r"
   have ek:mV d=d.toNat:=by unfold mV;rw[aR n14,aR n15]
   rw[ek]at q
   exact⟨d,v,rfl,d0,by omega,q⟩
local macro_rules | `(tactic| walk_at "rd") => `(tactic| walk_at "rc")
local macro_rules | `(tactic| walk_at "rl") => `(tactic| first | (refine kl fun R hR => ?_) | walk_at "ry" | (refine Nx.to (by assumption) _ _ ?_))
def zg(k:Nat):List V:=(List.range 14).map λj=>V.bl (decide (k=j))
def qJ(k:Nat)(v:V):List V:=if k<8 then [v] else []
def U5(t:W'):Sp:=λvs H Q _=>∃e,vs=[.ref e]/\∃k v dx,k<14/\H e=some (.ext (Gb e (cls t k) dx))/\Xv H k v dx/\∀L H',dk H H'->H' L=some (.lst (zg k))->Q (.ref L) H'
def U6(t:W'):Sp:=λvs H Q _=>∃e L,vs=[.ref e,.ref L]/\∃k v dx,k<14/\H e=some (.ext (Gb e (cls t k) dx))/\Xv H k v dx/\H L=some (.lst (zg k))/\∀F H',dk H H'->H' F=some (.lst (qJ k v))->Q (.ref F) H'
def Xz(t:W'):Sp:=λvs H Q _=>∃d v,vs=[.int d,v]/\0<=d/\d<16/\(14<=d->∃x,v=.str x/\Nm x)/\∀p L F H',dk H H'->H' p=some (.tup [.ref L,.ref F,.bl true])->H' L=some (.lst (zg (mV d)))->H' F=some (.lst (qJ (mV d) v))->Q (.ref p) H'
theorem Sy(T:Txt K mg t):FnQ P w K mg base 1 t.pQ t.pI ["_law_e"] (U5 t):=by
 refine T.uU.okQ lP (λvs H Q E h=>?_) (λdh A outer s H vs Q E hr h hc hf=>?_)
 ·obtain⟨e,rfl,_⟩:=h;rfl
 obtain⟨e,rfl,k,v,dx,vW,he,xv,q⟩:=h
 have xc:=KR T vW
 have xd:=xv.dict
 refine⟨_,(by apply ai;exact(aQ hc lP.nd hf 1 (by decide +kernel) (cN (ae (aZ (bM (K:=K) rfl) (bK hc) T.aV bq (ae (aB hc 0) (ae (cq (v:=V.ref t.aE) (bK hc) T.za rfl) aj))) (ae (aZ (bM (K:=K) rfl) (bK hc) T.aV bq (ae (aB hc 0) (ae (cq (v:=V.ref t.aF) (bK hc) T.HY rfl) aj))) (ae (aZ (bM (K:=K) rfl) (bK hc) T.aV bq (ae (aB hc 0) (ae (cq (v:=V.ref t.aq) (bK hc) T.Cy rfl) aj))) (ae (aZ (bM (K:=K) rfl) (bK hc) T.aV bq (ae (aB hc 0) (ae (cq (v:=V.ref t.av) (bK hc) T.CG rfl) aj))) aj))))));apply ai;exact(aQ hc lP.nd hf 1 (by decide +kernel) (aY Lh (aB hc 1) (cN (ae (aZ (bM (K:=K) rfl) (bK hc) T.aV bq (ae (aB hc 0) (ae (cq (v:=V.ref t.ay) (bK hc) T.CK rfl) aj))) (ae (aZ (bM (K:=K) rfl) (bK hc) T.aV bq (ae (aB hc 0) (ae (cq (v:=V.ref t.aI) (bK hc) T.N3 rfl) aj))) (ae (aZ (bM (K:=K) rfl) (bK hc) T.aV bq (ae (aB hc 0) (ae (cq (v:=V.ref t.ao) (bK hc) T.Cv rfl) aj))) (ae (aZ (bM (K:=K) rfl) (bK hc) T.aV bq (ae (aB hc 0) (ae (cq (v:=V.ref t.au) (bK hc) T.Cz rfl) aj))) aj)))))));apply ai;exact(aQ hc lP.nd hf 1 (by decide +kernel) (aY Lh (aB hc 1) (cN (ae (aZ (bM (K:=K) rfl) (bK hc) T.aV bq (ae (aB hc 0) (ae (cq (v:=V.ref t.aH) (bK hc) T.lY rfl) aj))) (ae (aZ (bM (K:=K) rfl) (bK hc) T.aV bq (ae (aB hc 0) (ae (cq (v:=V.ref t.aC) (bK hc) T.Cw rfl) aj))) (ae (aZ (bM (K:=K) rfl) (bK hc) T.aV bq (ae (aB hc 0) (ae (cq (v:=V.ref t.ag) (bK hc) T.sM rfl) aj))) (ae (aZ (bM (K:=K) rfl) (bK hc) T.aV bq (ae (aB hc 0) (ae (cq (v:=V.ref t.ak) (bK hc) T.zb rfl) aj))) aj)))))));exact az (aS (aY Lh (aB hc 1) (cN (ae (aZ (bM (K:=K) rfl) (bK hc) T.aV bq (ae (aB hc 0) (ae (cq (v:=V.ref t.aD) (bK hc) T.CJ rfl) aj))) (ae (aZ (bM (K:=K) rfl) (bK hc) T.aV bq (ae (aB hc 0) (ae (cq (v:=V.ref t.aJ) (bK hc) T.N4 rfl) aj))) aj)))))),?_⟩
 repeat (first | walk_at "rl" | simp only[he])
 refine⟨cls t k,dx,rfl,xd,xc,_,aC6 T vW,cls t k,dx,rfl,xd,xc,_,aC5 T vW,cls t k,dx,rfl,xd,xc,_,aC4 T vW,cls t k,dx,rfl,xd,xc,_,aC3 T vW,by decide,λp1 h1=>?_⟩
 have s1:=aP h1 (.lst [V.bl (decide (k=0)),V.bl (decide (k=1)),V.bl (decide (k=2)),V.bl (decide (k=3))])
 have g1:=aK (H:=H) (a:=p1) (o:=.lst [V.bl (decide (k=0)),V.bl (decide (k=1)),V.bl (decide (k=2)),V.bl (decide (k=3))])
 generalize upd H p1 (.lst [V.bl (decide (k=0)),V.bl (decide (k=1)),V.bl (decide (k=2)),V.bl (decide (k=3))])=H1 at s1 g1 ⊢
 have W0:=s1 _ _ he
 have xd1:=(xv.mono s1).dict
 repeat (first | walk_at "rl" | simp only[W0])
 refine⟨cls t k,dx,rfl,xd1,xc,_,aC2 T vW,cls t k,dx,rfl,xd1,xc,_,aC1 T vW,cls t k,dx,rfl,xd1,xc,_,aC0 T vW,cls t k,dx,rfl,xd1,xc,_,aCZ T vW,by decide,λp2 h2=>?_⟩
 have s2:=aP h2 (.lst [V.bl (decide (k=4)),V.bl (decide (k=5)),V.bl (decide (k=6)),V.bl (decide (k=7))])
 refine⟨_,s2 _ _ g1,(show 4+4<=sizeLine by decide),λp3 h3=>?_⟩
 have s3:=aP h3 (.lst ([V.bl (decide (k=0)),V.bl (decide (k=1)),V.bl (decide (k=2)),V.bl (decide (k=3))]++[V.bl (decide (k=4)),V.bl (decide (k=5)),V.bl (decide (k=6)),V.bl (decide (k=7))]))
 have g3:=aK (H:=upd H1 p2 (.lst [V.bl (decide (k=4)),V.bl (decide (k=5)),V.bl (decide (k=6)),V.bl (decide (k=7))])) (a:=p3) (o:=.lst ([V.bl (decide (k=0)),V.bl (decide (k=1)),V.bl (decide (k=2)),V.bl (decide (k=3))]++[V.bl (decide (k=4)),V.bl (decide (k=5)),V.bl (decide (k=6)),V.bl (decide (k=7))]))
 have s13:=(s1.trans s2).trans s3
 generalize upd (upd H1 p2 (.lst [V.bl (decide (k=4)),V.bl (decide (k=5)),V.bl (decide (k=6)),V.bl (decide (k=7))])) p3 (.lst ([V.bl (decide (k=0)),V.bl (decide (k=1)),V.bl (decide (k=2)),V.bl (decide (k=3))]++[V.bl (decide (k=4)),V.bl (decide (k=5)),V.bl (decide (k=6)),V.bl (decide (k=7))]))=H3 at s13 g3 ⊢
 have he3:=s13 _ _ he
 have xd3:=(xv.mono s13).dict
 repeat (first | walk_at "rl" | simp only[he3])
 refine⟨cls t k,dx,rfl,xd3,xc,_,aCY T vW,cls t k,dx,rfl,xd3,xc,_,aCX T vW,cls t k,dx,rfl,xd3,xc,_,aAO T vW,cls t k,dx,rfl,xd3,xc,_,aAN T vW,by decide,λp4 h4=>?_⟩
 have s4:=aP h4 (.lst [V.bl (decide (k=8)),V.bl (decide (k=9)),V.bl (decide (k=10)),V.bl (decide (k=11))])
 have g4:=s4 _ _ g3
 generalize upd H3 p4 (.lst [V.bl (decide (k=8)),V.bl (decide (k=9)),V.bl (decide (k=10)),V.bl (decide (k=11))])=H4 at s4 g4 ⊢
 refine⟨_,g4,(show 8+4<=sizeLine by decide),λp5 h5=>?_⟩
 have s5:=aP h5 (.lst (([V.bl (decide (k=0)),V.bl (decide (k=1)),V.bl (decide (k=2)),V.bl (decide (k=3))]++[V.bl (decide (k=4)),V.bl (decide (k=5)),V.bl (decide (k=6)),V.bl (decide (k=7))])++[V.bl (decide (k=8)),V.bl (decide (k=9)),V.bl (decide (k=10)),V.bl (decide (k=11))]))
 have g5:=aK (H:=H4) (a:=p5) (o:=.lst (([V.bl (decide (k=0)),V.bl (decide (k=1)),V.bl (decide (k=2)),V.bl (decide (k=3))]++[V.bl (decide (k=4)),V.bl (decide (k=5)),V.bl (decide (k=6)),V.bl (decide (k=7))])++[V.bl (decide (k=8)),V.bl (decide (k=9)),V.bl (decide (k=10)),V.bl (decide (k=11))]))
 have ZV:=(s13.trans s4).trans s5
 generalize upd H4 p5 (.lst (([V.bl (decide (k=0)),V.bl (decide (k=1)),V.bl (decide (k=2)),V.bl (decide (k=3))]++[V.bl (decide (k=4)),V.bl (decide (k=5)),V.bl (decide (k=6)),V.bl (decide (k=7))])++[V.bl (decide (k=8)),V.bl (decide (k=9)),V.bl (decide (k=10)),V.bl (decide (k=11))]))=H5 at ZV g5 ⊢
 have he5:=ZV _ _ he
 have xd5:=(xv.mono ZV).dict
 repeat (first | walk_at "rl" | simp only[he5])
 refine⟨cls t k,dx,rfl,xd5,xc,_,aAM T vW,cls t k,dx,rfl,xd5,xc,_,aAL T vW,by decide,λp6 h6=>?_⟩
 have s6:=aP h6 (.lst [V.bl (decide (k=12)),V.bl (decide (k=13))])
 exact⟨_,s6 _ _ g5,(show 12+2<=sizeLine by decide),λp7 h7=>q p7 _ ((ZV.trans s6).trans (aP h7 _)) aK⟩
theorem Sz(T:Txt K mg t):FnQ P w K mg base 1 t.pR t.pJ ["_law_e","_law_kinds_here"] (U6 t):=by
 refine T.uV.okQ Ac (λvs H Q E h=>?_) (λdh A outer s H vs Q E hr h hc hf=>?_)
 ·obtain⟨e,L,rfl,_⟩:=h;rfl
 obtain⟨e,L,rfl,k,v,dx,vW,he,xv,hL,q⟩:=h
 have xc:=KR T vW
 have xd:=xv.dict
 have at_:∀{j:Nat} {i:Int},j<14->i=(j:Int)->wU (zg k) i=some (.bl (decide (k=j))):=λ{j i} hj ei=>by
  rw[ei]
  refine kh ?_
  unfold zg
  rw[mz,List.getElem?_range hj];rfl
 refine⟨_,(by apply ai;exact(aW (vJ (qd (ja (bt la (aB hc 1) ah (λ_ _=>rfl))) (oj (ja (bt la (aB hc 1) ah (λ_ _=>rfl)))))) (by exact az (aS (cN (ae (qf (K:=K) rfl (aB hc 0) rfl) aj)))) aM);apply ai;exact(aW (vJ (qd (ja (bt la (aB hc 1) ah (λ_ _=>rfl))) (oj (ja (bt la (aB hc 1) ah (λ_ _=>rfl)))))) (by exact az (aS (cN (ae (qf (K:=K) rfl (aB hc 0) rfl) aj)))) aM);apply ai;exact(aW (ja (bt la (aB hc 1) ah (λ_ _=>rfl))) (by exact az (aS (cN (ae (qf (K:=K) rfl (aB hc 0) rfl) aj)))) aM);apply ai;exact(aW (vJ (qd (ja (bt la (aB hc 1) ah (λ_ _=>rfl))) (oj (ja (bt la (aB hc 1) ah (λ_ _=>rfl)))))) (by exact az (aS (cN (ae (qf (K:=K) rfl (aB hc 0) rfl) aj)))) aM);apply ai;exact(aW (ja (bt la (aB hc 1) ah (λ_ _=>rfl))) (by exact az (aS (cN (ae (qf (K:=K) rfl (aB hc 0) rfl) aj)))) aM);exact az (aS (cN aj))),?_⟩
 repeat (first | walk_at "rl" | simp only[he,hL,at_ (j:=0) (i:=0) (by decide) rfl,at_ (j:=1) (i:=1) (by decide) rfl])
 have br:∀(j:Nat) (f:Str),j<8->k=j->fld j=f->PySem.W.findIn K (.ref (cls t j)) f=some none->∃C aA4,Gb e (cls t k) dx=Gb e C (some aA4)/\XC K C/\PySem.W.findIn K (.ref C) f=some none/\∃fs,H aA4=some (.xd fs)/\∃v,List.lookup f fs=some v/\1<=sizeLine/\∀p,H p=none->Q (.ref p) (upd H p (.lst [v])):=λj f h8 ek ef hf=>by
  subst ek
  obtain⟨d,rfl,hd⟩:=xv.1 h8
  rw[ef]at hd
  refine⟨cls t k,d,rfl,xc,hf,_,hd,v,by simp[List.lookup],by decide,λp hp=>q p _ (aP hp _) ?_⟩
  rw[aK];unfold qJ;rw[bH h8]
 refine bX (λe0=>br 0 _ (by decide) e0 rfl T.rO) λn0=>bX (λe0=>br 1 _ (by decide) e0 rfl T.rN) λn1=>?_
 repeat (first | walk_at "rl" | simp only[he,hL,at_ (j:=2) (i:=2) (by decide) rfl,at_ (j:=3) (i:=3) (by decide) rfl])
 refine bX (λe0=>br 2 _ (by decide) e0 rfl T.oJ) λn2=>bX (λe0=>br 3 _ (by decide) e0 rfl T.oM) λn3=>?_
 repeat (first | walk_at "rl" | simp only[he,hL,at_ (j:=4) (i:=4) (by decide) rfl])
 refine bX (λe0=>br 4 _ (by decide) e0 rfl T.oN) λn4=>?_
 repeat (first | walk_at "rl" | simp only[he,hL,at_ (j:=5) (i:=5) (by decide) rfl,at_ (j:=7) (i:=7) (by decide) rfl])
 refine bX (λe0=>br 5 _ (by decide) e0 rfl T.uB) λn5=>bX (λe0=>br 7 _ (by decide) e0 rfl T.oK) λn7=>?_
 repeat (first | walk_at "rl" | simp only[he,hL,at_ (j:=6) (i:=6) (by decide) rfl])
 refine bX (λe0=>br 6 _ (by decide) e0 rfl T.oI) λn6=>?_
 walk_at "r"
 refine⟨by decide,λp hp=>q p _ (aP hp _) ?_⟩
 rw[aK];unfold qJ;rw[aR (by omega)]
theorem Vz(T:Txt K mg t):dI P w K mg base mE 12 t.qW t.qL ["_law_door","_law_thing"] (Xz t):=by
 have Ka:=VF (P:=P) (w:=w) (base:=base) T
 have Gg:=Sy (P:=P) (w:=w) (base:=base) T
 have Gh:=Sz (P:=P) (w:=w) (base:=base) T
 refine T.wx.vU oE (λvs H Q E h=>?_) (λdh A outer s H vs Q E hr h hc hf=>?_)
 ·obtain⟨d,v,rfl,_⟩:=h;rfl
 obtain⟨d,v,rfl,d0,d1,nm,q⟩:=h
 have hu:=uK hr
 have WX:=hr.ou
 have vW:mV d<14:=by unfold mV;split;omega;split;omega;omega
 refine⟨_,(by apply ai;exact(Q0 hc oE.nd 2 (by decide +kernel) rfl rfl T.Eo.is (bK hc) T.cP (λEH xe pn L V0=>(λhc hf=>(by exact az (cG (kB (EH:=EH) Ka hr.mono (bK hc) T.HX T.wB.kp T.J0 L (ae (aB hc 0) (ae (aB hc 1) aj)))))) (hcT (xe:=xe) (pn:=pn) hc) (hfT (xe:=xe) (pn:=pn) hf)) (λe=>(λhc hf=>(by apply ai;exact(aQ hc oE.nd hf 3 (by decide +kernel) (Bi Gg (hr.K7 (by omega)) (bK hc) T.Fs T.uU.kp T.FW cj (ae (aB hc 2) aj)));exact az (aS (lN (ae (aB hc 3) (ae (Bi Gh (hr.K7 (by omega)) (bK hc) T.Ft T.uV.kp T.FX cj (ae (aB hc 2) (ae (aB hc 3) aj))) (ae (aZ (JT (K:=K) rfl) (bK hc) T.aV bq (ae (aB hc 2) (ae (qg (v:=V.ty "ValueError") (bK hc) T.mB FZ rfl) aj))) aj))))))) (hcS (e:=e) hc) (hfS (e:=e) hf)));exact az (aS Nh)),?_⟩
 walk_at "r"
 refine⟨λσ' C dx H'=>σ'=[some (.int d),some v,none,none]/\C=.ref (cls t (mV d))/\dk H H'/\Xv H' (mV d) v dx,?_,?_⟩
 ·walk_at "r"
  exact⟨d,v,rfl,d0,d1,nm,λdx H' s' x=>⟨rfl,s',x⟩⟩
 ·rintro σ' C dx H1 ⟨rfl,eC,s1,xv⟩
  cases eC
  refine⟨Xx T vW,λe he=>?_⟩
  have xc:=KR T vW
  have s2:=aP he (.ext (Gb e (cls t (mV d)) dx))
  have Ul:upd H1 e (.ext (Gb e (cls t (mV d)) dx)) e=some (.ext (Gb e (cls t (mV d)) dx)):=aK
  have xv2:=xv.mono s2
  generalize upd H1 e (.ext (Gb e (cls t (mV d)) dx))=H2 at s2 Ul xv2 ⊢
  walk_at "r"
  refine⟨e,rfl,mV d,v,dx,vW,Ul,xv2,λL H3 s3 hL=>?_⟩
  walk_at "r"
  refine⟨e,L,rfl,mV d,v,dx,vW,s3 _ _ Ul,xv2.mono s3,hL,λF H4 s4 hF=>?_⟩
  have he4:=s4 _ _ (s3 _ _ Ul)
  have xd4:=((xv2.mono s3).mono s4).dict
  repeat (first | walk_at "rl" | simp only[he4])
  refine⟨cls t (mV d),dx,rfl,xd4,xc,true,YD T vW,?_⟩
  walk_at "r"
  refine⟨by decide,λp hp=>?_⟩
  have s5:=aP hp (.tup [V.ref L,V.ref F,V.bl true])
  exact q p L F _ ((((s1.trans s2).trans s3).trans s4).trans s5) aK (s5 _ _ (s4 _ _ hL)) (s5 _ _ hF)
local macro_rules | `(tactic| walk_at "rd") => `(tactic| walk_at "rc")
local macro_rules | `(tactic| walk_at "rl") => `(tactic| first | (refine kl fun R hR => ?_) | walk_at "ry" | (refine Nx.to (by assumption) _ _ ?_))
def Nt(K:PySem.W.Frag):Sp:=λvs H Q _=>∃(a:Addr) (ns:List Int),vs=[.ref a]/\uZ K H a (List.map V.int ns)/\ns.length<=63/\∀H',Q (.bl true) H'
theorem N9{x:Str}(nm:Nm x):Rd (Str.ofString "is " ++ x) (.var x):=by
 have e:Str.ofString "is " ++ x=Txt.join MJ [Str.ofString "is",x]:=by
  refine Str.ext' (Array.ext' ?_)
  show _=(Builtin.Str.glued MJ [Str.ofString "is",x]).cps.toList
  rw[Kq,FP,qH]
  show(Str.ofString "is " ++ x).cps.toList=(Str.ofString "is").cps.toList++32::x.cps.toList
  rw[nD,show(Str.ofString "is ").cps.toList=(Str.ofString "is").cps.toList++[32] by decide +kernel]
  simp
 have nb:(32:Nat)∉x.cps.toList:=λc=>by have:=nm.2.2 _ c;omega
 have es:Txt.split (Txt.join ⟨#[32]⟩ [Str.ofString "is",x]) ⟨#[32]⟩=_:=yV (c:=32) (by simp) λz hz=>by
  rcases gN.mp hz with e | hz
  ·rw[e];decide +kernel
  ·rw[kM.mp hz];exact nb
 rw[<-FP]at es
 refine⟨?_,λy hy=>by rw[kM.mp hy];exact nm,[x],by simp,λy=>my,by simp⟩
 rw[e,es,Hl rfl]
 rfl
theorem Yw(T:Txt K mg t):dI P w K mg base mE 13 t.Ua t.TL ["_law_script"] (Nt K):=by
 have bN:=N1 (P:=P) (w:=w) (base:=base) T
 have J':=VD (P:=P) (w:=w) (base:=base) T
 have Gf:=Sx (P:=P) (w:=w) (base:=base) T
 have J8:=Vz (P:=P) (w:=w) (base:=base) T
 have Gd:=Cp (P:=P) (w:=w) (base:=base) T
 have rj:=NZ (P:=P) (w:=w) (base:=base) T
 refine T.aBC.vU mq (λvs H Q E h=>?_) (λdh A outer s H vs Q E hr h hc hf=>?_)
 ·obtain⟨a,ns,rfl,_⟩:=h;rfl
 obtain⟨a,ns,rfl,hS,h63,q⟩:=h
 have hu:=uK hr
 have WX:=hr.ou
 refine⟨_,(by apply ai;exact(aQ hc mq.nd hf 1 (by decide +kernel) (aT J' hr.mono (bK hc) T.HW T.wA.kp T.JZ .nil cj (ae (aB hc 0) aj)));apply ai;exact(aQ hc mq.nd hf 2 (by decide +kernel) (aT Gf hr.mono (bK hc) T.Fq T.uT.kp T.FV .nil cj (ae (aB hc 1) (ae ah aj))));apply ai;exact(rz xE rfl (ej (bK hc) T.jc (ae ah aj)) (Oz hc mq.nd hf 3 (by decide +kernel)) (by apply ai;exact(aQ hc mq.nd hf 4 (by decide +kernel) (bt la (aB hc 2) (aT bN hr.mono (bK hc) T.bU T.bO.kp T.bV .nil cj (ae (aB hc 1) (ae ah aj))) (λ_ _=>rfl)));apply ai;exact(aQ hc mq.nd hf 5 (by decide +kernel) (aB hc 4));apply mM;exact(aW (vJ (qd (aN bZ (aB hc 3) ah (bf _)) (oj (aN bZ (aB hc 3) ah (bf _))))) (by exact az (aQ hc mq.nd hf 5 (by decide +kernel) (oq wj (bK hc) T.rB FQ (ae (jb hc ["_law_j"] [1] rfl (by decide +kernel) (ej (bK hc) T.jc (ae (aT bN hr.mono (bK hc) T.bU T.bO.kp T.bV .nil cj (ae (aB hc 1) (ae ah aj))) aj)) (λ_ hc=>Ek hc (by decide +kernel) 0 (by decide +kernel)) (λ_ _=>kA) (λ_ hc=>(aY gT (aT bN hr.mono (bK hc) T.bU T.bO.kp T.bV .nil cj (ae (aB hc 1) (ae ah aj))) (aY oH ah (aB hc 0))))) aj)))) (by exact az (aW (Bh Ht Ht ah (aB hc 3) ah) (by exact az (aQ hc mq.nd hf 5 (by decide +kernel) (aT bN hr.mono (bK hc) T.bU T.bO.kp T.bV .nil cj (ae (aB hc 1) (ae (aY Sr ah ah) aj))))) aM)));apply ai;exact(aQ hc mq.nd hf 6 (by decide +kernel) (aB hc 3));apply mM;exact(aW (aN WR (aB hc 3) ah (bf _)) (by exact az (aQ hc mq.nd hf 6 (by decide +kernel) (bt la (cN (ae ah (ae ah aj))) (aY y0 (aB hc 3) ah) (λ_ _=>rfl)))) aM);apply ai;exact(aQ hc mq.nd hf 7 (by decide +kernel) (cN aj));apply mM;exact(aW (aN Ht (aB hc 6) ah (bf _)) (by exact az (aQ hc mq.nd hf 7 (by decide +kernel) (cN (ae (aB hc 5) aj)))) aM);apply ai;exact(aW (aN (Ys hr.units) (aT J8 hr.mono (bK hc) T.HR T.wx.kp T.JW .nil cj (ae (aB hc 3) (ae (aB hc 5) aj))) (lN (ae (jb hc ["_law_j"] [6] rfl (by decide +kernel) (ej (bK hc) T.jc (ae ah aj)) (λ_ hc=>Ek hc (by decide +kernel) 0 (by decide +kernel)) (λ_ _=>kA) (λ_ hc=>(ug bZ (aB hc 0) (aB hc 1) (bf _)))) (ae (aB hc 7) (ae mn aj)))) (bf _)) (by exact az (aS mn)) aM);exact az (aW (vJ (qd (aN Vw (aT Gd hr.mono (bK hc) T.N2 T.Gk.kp T.Ou .nil WN (ae (lN (ae aU (ae (aB hc 4) aj))) (ae (OJ (aB hc 4) mn) aj))) mn (bf _)) (oj (aN (Vx hu) (aT rj hr.mono (bK hc) T.vV T.rn.kp T.wm .nil WN (ae (aY lK aU (aB hc 4)) aj)) (lN (ae aU (ae (aB hc 4) aj))) (bf _))))) (by exact az (aS mn)) aM)));exact az (aS mn)),?_⟩
 walk_at "r"
 refine⟨a,ns,rfl,hS,λh H1 s1 h0 hd=>?_⟩
 walk_at "r"
 refine⟨h,8,rfl,by decide,by decide,hd,λN ss H2 d2 hN0 hN2 sU hpn hpm=>?_⟩
 walk_at "r"
 have hNh:N≠h:=hd.ne hN0
 have lss:ss.length=8:=sU
 obtain⟨Pv,tu⟩:∃Pv:Nat->St->Hp->Prop,∀i σ' H',Pv i σ' H'↔∃(x3 x4 x5 x6 x7:Option V),σ'=[some (.ref a),some (.ref h),some (.ref N),x3,x4,x5,x6,x7]/\Dr h H1 H'/\H' N=some (.lst (List.map V.str ss)):=⟨_,λ_ _ _=>my⟩
 refine pF Pv ((tu _ _ _).mpr ⟨none,none,none,none,none,rfl,d2,hN2⟩) (λk σ' H3 hk pv=>?_) (λσ' H3 pv=>?_)
 ·obtain⟨x3,x4,x5,x6,x7,rfl,d3,hN3⟩:=(tu _ _ _).mp pv
  walk_at "r"
  refine kg hd d3 (by decide) (by decide) λi H4 i0 i8 d4 k4=>?_
  have hN4:H4 N=some (.lst (List.map V.str ss)):=by rw[k4 N hNh];exact hN3
  have hi:i.toNat<ss.length:=by omega
  obtain⟨x,ex,nx⟩:∃x,wU (List.map V.str ss) i=some (.str x)/\Nm x:=by
   refine⟨ss[i.toNat],?_,hpm _ (xH hi)⟩
   have:=kh (xs:=List.map V.str ss) (j:=i.toNat) (v:=.str ss[i.toNat]) (by rw[mz,nM hi];rfl)
   rw[Int.toNat_of_nonneg i0]at this;exact this
  repeat (first | walk_at "rl" | simp only[hN4,ex])
  have hd4:=d4.tq hd
  obtain⟨M0,hM0⟩:∃M:St->Hp->Prop,∀σ' H',M σ' H'↔∃v:V,σ'=[some (.ref a),some (.ref h),some (.ref N),some (.int (k:Int)),some (.str x),some v,x6,x7]/\Dr h H1 H'/\H' N=some (.lst (List.map V.str ss))/\Uc v/\(14<=(k:Int)->v=.str x):=⟨_,λ_ _=>my⟩
  refine⟨M0,?_,λσ1 H5 m0=>?_⟩
  ·walk_at "r"
   have hard:(k:Int)<14->yW [V.ref h,V.int 5] H4 (λv H5=>∃n,v=V.int n/\-4611686018427387904<=n/\n<4611686018427387904/\pT (J6 0 n.toNat) 1 [1] (λ_=>ll 0) (λ_=>Rg) (λ_=>QH (Ui λi j=>V.int (i+j)) (Ca yW [] E0 (yR (Er 1) (yR (tC (V.int 9)) Rk))) (QH (rI og λi j=>V.int (i*j)) (tC (V.int 10)) (Er 0))) [some (V.ref a),some (V.ref h),some (V.ref N),some (V.int k),some (V.str x),some (V.str x),x6,x7]
     (λv H6=>∃l,v=V.ref l/\∃xs,H6 l=some (.lst xs)/\∀p,H6 p=none->M0 [some (V.ref a),some (V.ref h),some (V.ref N),some (V.int k),some (V.str x),some (V.ref p),x6,x7] (upd H6 p (.tup xs))) H5) E0:=λk13=>by
    refine kg hd d4 (by decide) (by decide) λn H5 n0 n5 d5 k5=>⟨n,rfl,by omega,by omega,?_⟩
    have Z9:H5 N=some (.lst (List.map V.str ss)):=by rw[k5 N hNh];exact hN4
    obtain⟨Pc,Dh⟩:∃Pc:Addr->Nat->List V->Hp->Prop,∀Z i ys H',Pc Z i ys H'↔ys.length=i/\Dr h H1 H'/\H' Z=some (.lst ys)/\H' N=some (.lst (List.map V.str ss)):=⟨_,λ_ _ _ _=>my⟩
    refine mh Pc (λZ hZ=>(Dh _ _ _ _).mpr ⟨rfl,d5.new hZ,aK,aP hZ _ _ _ Z9⟩) (λZ hZ i ys H' hi pv cb=>?_) (λZ hZ ys H' pv=>?_)
    ·obtain⟨ly,d6,hZ6,hN6⟩:=(Dh _ _ _ _).mp pv
     have hZh:Z≠h:=(d5.tq hd).ne hZ
     have hZN:N≠Z:=bu Z9 hZ
     walk_at "rc"
     repeat (walk_at "rd")
     refine kg hd d6 (by decide) (by decide) λr H7 r0 r9 d7 k7=>?_
     have hZ7:H7 Z=some (.lst ys):=by rw[k7 Z hZh];exact hZ6
     have hN7:H7 N=some (.lst (List.map V.str ss)):=by rw[k7 N hNh];exact hN6
     repeat (walk_at "rd")
     exact⟨hZ7,eZ (by omega),(Dh _ _ _ _).mpr ⟨by simp[ly],d7.put (d5.free hd hZ),aK,by rw[aO hZN];exact hN7⟩⟩
    ·obtain⟨ly,d6,hZ6,hN6⟩:=(Dh _ _ _ _).mp pv
     exact⟨Z,rfl,ys,hZ6,λp hp=>(hM0 _ _).mpr ⟨_,rfl,d6.new hp,aP hp _ _ _ hN6,.inr ⟨p,rfl⟩,λh14=>by omega⟩⟩
   have plain:M0 [some (V.ref a),some (V.ref h),some (V.ref N),some (V.int (k:Int)),some (V.str x),some (V.str x),x6,x7] H4:=(hM0 _ _).mpr ⟨_,rfl,d4,hN4,.inl rfl,λ_=>rfl⟩
   refine bX (λe=>hard (by omega)) λ_=>bX (λe=>hard (by omega)) λ_=>bX (λe=>bX (λe=>?_) λ_=>plain) λ_=>plain
   refine kg hd d4 (by decide) (by decide) λr H5 r0 r1 d5 k5=>(hM0 _ _).mpr ⟨_,rfl,d5,by rw[k5 N hNh];exact hN4,.inl rfl,λh14=>by omega⟩
  ·obtain⟨v,rfl,d5,Z9,ov,v14⟩:=(hM0 _ _).mp m0
   walk_at "r"
   have Zk:mV (k:Int)<14:=by unfold mV;split;omega;split;omega;omega
   obtain⟨M1,hM1⟩:∃M:St->Hp->Prop,∀σ' H',M σ' H'↔σ'=[some (.ref a),some (.ref h),some (.ref N),some (.int (k:Int)),some (.str x),some v,some (.int ((mV (k:Int):Nat):Int)),x7]/\Dr h H1 H'/\H' N=some (.lst (List.map V.str ss)):=⟨_,λ_ _=>my⟩
   refine⟨M1,?_,λσ2 H6 m1=>?_⟩
   ·walk_at "r"
    refine bX (λe=>?_) λe=>(hM1 _ _).mpr ⟨?_,d5,Z9⟩
    ·walk_at "r"
     refine⟨by decide,λZ hZ=>?_⟩
     have sZ:=aP hZ (.lst [V.int 0,V.int 8])
     have:(k:Int)=14\/(k:Int)=15:=by omega
     rcases this with e | e
     ·rw[e]
      refine⟨_,rfl,(hM1 _ _).mpr ⟨?_,d5.same sZ,sZ _ _ Z9⟩⟩
      rw[e];rfl
     ·rw[e]
      refine⟨_,rfl,(hM1 _ _).mpr ⟨?_,d5.same sZ,sZ _ _ Z9⟩⟩
      rw[e];rfl
    ·have:mV (k:Int)=k:=by unfold mV;rw[aR (by omega),aR (by omega)];omega
     rw[this]
   obtain⟨rfl,d6,hN6⟩:=(hM1 _ _).mp m1
   obtain⟨kk,hkk⟩:∃kk,mV (k:Int)=kk:=⟨_,rfl⟩
   rw[hkk]at Zk ⊢
   walk_at "r"
   refine⟨by decide,λF0 hF0=>?_⟩
   have sF0:=aP hF0 (.lst [])
   have eF0:=aK (H:=H6) (a:=F0) (o:=.lst [])
   have d7:=d6.same sF0
   have hN7:=sF0 _ _ hN6
   generalize upd H6 F0 (.lst [])=H7 at sF0 eF0 d7 hN7 ⊢
   walk_at "r"
   obtain⟨M2,hM2⟩:∃M:St->Hp->Prop,∀σ' H',M σ' H'↔∃F,σ'=[some (.ref a),some (.ref h),some (.ref N),some (.int (k:Int)),some (.str x),some v,some (.int (kk:Int)),some (.ref F)]/\Dr h H1 H'/\H' N=some (.lst (List.map V.str ss))/\H' F=some (.lst (qJ kk v)):=⟨_,λ_ _=>my⟩
   refine⟨M2,?_,λσ3 H8 m2=>?_⟩
   ·walk_at "r"
    refine bX (λe=>?_) λe=>(hM2 _ _).mpr ⟨F0,rfl,d7,hN7,?_⟩
    ·walk_at "r"
     refine⟨by decide,λF hF=>(hM2 _ _).mpr ⟨F,rfl,d7.new hF,aP hF _ _ _ hN7,?_⟩⟩
     rw[aK];unfold qJ;rw[bH (by omega)]
    ·unfold qJ;rw[aR (by omega)];exact eF0
   obtain⟨F,rfl,d8,hN8,hF8⟩:=(hM2 _ _).mp m2
   walk_at "r"
   refine⟨(k:Int),v,rfl,by omega,by omega,λh14=>⟨x,v14 h14,nx⟩,λp L F' H9 s9 hp hL hF'=>?_⟩
   rw[hkk]at hL hF'
   walk_at "r"
   have hF9:=s9 _ _ hF8
   have hN9:=s9 _ _ hN8
   have d9:=d8.same s9
   obtain⟨Pc,Dh⟩:∃Pc:Addr->Nat->List V->Hp->Prop,∀Z i ys H',Pc Z i ys H'↔ys=(List.range i).map (λj=>V.bl (decide (kk=j)))/\dk H9 H'/\H' Z=some (.lst ys):=⟨_,λ_ _ _ _=>my⟩
   refine mh Pc (λZ hZ=>(Dh _ _ _ _).mpr ⟨rfl,aP hZ _,aK⟩) (λZ hZ i ys H' hi pv cb=>?_) (λZ hZ ys H10 pv=>?_)
   ·obtain⟨rfl,sZ,V5⟩:=(Dh _ _ _ _).mp pv
    walk_at "rc"
    repeat (walk_at "rd")
    refine⟨V5,by rw[Km];exact eZ (by omega),(Dh _ _ _ _).mpr ⟨?_,rL sZ hZ,aK⟩⟩
    rw[List.range_succ,p9]
    have e:decide ((i:Int)=(kk:Int))=decide (kk=i):=by
     rw[t8,Bb,Bb];omega
    rw[e];rfl
   obtain⟨rfl,XQ,aDx⟩:=(Dh _ _ _ _).mp pv
   refine⟨by decide,λp2 V1=>?_⟩
   have Ww:=aP V1 (.tup [V.ref Z,V.ref F,V.bl true])
   have aA0:=Ww _ _ (XQ _ _ hN9)
   have d11:=(d9.same XQ).same Ww
   refine⟨L,Z,F',F,true,Ww _ _ (XQ _ _ hp),rfl,rfl,rfl,_,Ww _ _ (XQ _ _ hL),Ww _ _ aDx,_,Ww _ _ (XQ _ _ hF'),Ww _ _ (XQ _ _ hF9),λu hu=>?_,λu hu=>?_,?_⟩
   ·obtain⟨j,_,rfl⟩:=nQ.mp hu
    exact .inl rfl
   ·unfold qJ at hu
    split at hu
    ·rw[kM.mp hu];exact ov
    ·cases hu
   generalize upd H10 p2 (.tup [V.ref Z,V.ref F,V.bl true])=H11 at Ww aA0 d11 ⊢
   walk_at "r"
   refine⟨by decide,λq1 h1=>?_⟩
   have t1:=aP h1 (.tup [V.str (Str.ofString "is"),V.str x])
   have g1:=aK (H:=H11) (a:=q1) (o:=.tup [V.str (Str.ofString "is"),V.str x])
   have aAZ:=t1 _ _ aA0
   have d12:=d11.same t1
   generalize upd H11 q1 (.tup [V.str (Str.ofString "is"),V.str x])=H12 at t1 g1 aAZ d12 ⊢
   intro q2 h2
   have t2:=aP h2 (.dK [])
   refine⟨[(Sum.inr x,V.bl true)],rfl,by simp,?_⟩
   have t3:=aP h2 (.dK (iY [] [((Sum.inr x:Key),V.bl true)]))
   have g3:=aK (H:=H12) (a:=q2) (o:=.dK (iY [] [((Sum.inr x:Key),V.bl true)]))
   generalize upd H12 q2 (.dK (iY [] [((Sum.inr x:Key),V.bl true)]))=H13 at t3 g3 ⊢
   have val:lW (iY [] [((Sum.inr x:Key),V.bl true)]) (Sum.inr x)=some (.bl true):=by
    show lW [((Sum.inr x:Key),V.bl true)] (Sum.inr x)=_
    unfold lW
    simp
   refine⟨q1,q2,rfl,.var x,t3 _ _ g1,by simp[Rl.deep],_,g3,λkv Kd=>?_,λfa H14 s14=>?_,λy lk=>?_⟩
   ·have:kv=((Sum.inr x:Key),V.bl true):=kM.mp Kd
    rw[this];exact⟨true,rfl⟩
   ·have ev:(Rl.var x).val (JH (iY [] [((Sum.inr x:Key),V.bl true)]))=true:=by
     show JH _ x=true
     unfold JH;rw[val]
    rw[ev]
    walk_at "r"
    have lx:=nx.2.1
    have l1:(Str.ofString "is ").length=3:=by decide +kernel
    have big:100<=sizeLine:=by decide
    refine⟨by omega,_,rfl,.inl ⟨_,rfl,by rw[t9];omega,λr q' H15 rd ZV ra=>?_,λno=>absurd (N9 nx) (no _)⟩⟩
    have er:r=.var x:=by
     have h1:=rd.1
     rw[(N9 nx).1]at h1
     cases h1;rfl
    subst er
    walk_at "r"
    refine⟨by decide,λq3 h3=>?_⟩
    have t5:=aP h3 (.tup [V.str (Str.ofString "is"),V.str x])
    refine⟨[Str.ofString "is",x],t5 _ _ ra,[Str.ofString "is",x],rfl,?_⟩
    rw[decide_eq_true rfl,aR (by simp)]
    have aAe:=(t3.trans s14).trans (ZV.trans t5)
    exact(tu _ _ _).mpr ⟨_,_,_,_,_,rfl,d12.same aAe,aAe _ _ aAZ⟩
   ·obtain⟨ts,i,mem,_,_,ei,_,nv⟩:=lk
    have ey:y=x:=by
     have:=(mem y).mp (Bd ei)
     simpa [Rl.names]using this
    rw[ey,val]at nv
    cases nv
 ·obtain⟨x3,x4,x5,x6,x7,rfl,d3,hN3⟩:=(tu _ _ _).mp pv
  walk_at "r"
  exact q H3
local macro_rules | `(tactic| walk_at "rd") => `(tactic| walk_at "rc")
local macro_rules | `(tactic| walk_at "rl") => `(tactic| first | (refine kl fun R hR => ?_) | walk_at "ry" | (refine Nx.to (by assumption) _ _ ?_))
theorem all_mk{l:PySem.W.OpenLaw}{w:World}{K:PySem.W.Frag}{h:Heap}{mg:Str->Option Value}{fa f0 f1 f2 f3 f4 f5 f6 f7 f8 f9 f10 f11 f12 f13 f14 f15 f16 f17 f18 f19 f20 f21 f22:Addr}(X:K.In h)(G:h.Ns mainGlobals mg)(hfa:mg "law" = some (.ref fa))
  {od0 an0 od1 an1 od2 an2 od3 an3 od4 an4 od5 an5 od6 an6 od7 an7 od8 an8 od9 an9 aCy aD7 aCx aD6 aCw aD5 aCv aD4 aCu aD3 aCt aD2 aCs aD1 aCr aD0 aCq aDZ aCp aDY aCo aDX aCn aDW aCm aBA:Option Addr} {sl0 sl1 ZR sl3 sl4 sl5 sl6 sl7 sl8 sl9 aBZ aBY aBX aBW aBV aBU aBT aBS aBR aBQ aBP aBO aBN:Array (Option Value)} {oc0 kV0 dc0 pm0 cd0 ct0 oc1 kV1 dc1 pm1 cd1 ct1 oc2 kV2 dc2 pm2 cd2 ct2 oc3 kV3 dc3 pm3 cd3 ct3 oc4 kV4 dc4 pm4 cd4 ct4 oc5 kV5 dc5 pm5 cd5 ct5 oc6 kV6 dc6 pm6 cd6 ct6 oc7 kV7 dc7 pm7 cd7 ct7 oc8 kV8 dc8 pm8 cd8 ct8 oc9 kV9 dc9 pm9 cd9 ct9 aCL aDj aDJ aCk aBq aDV aCK aDi aDI aCj aBp aDU aCJ aDh aDH aCi aBo aDT aCI aDg aDG aCh aBn aDS aCH aDf aDF aCg aBm aDR aCG aDe aDE aCf aBl aDQ aCF aDd aDD aCe aBk aDP aCE aDc aDC aCd aBj aDO aCD aDb aDB aCc aBi aDN aCC aDa aDA aCb aBh aDM aCB aC9 aDz aCa aBg aDL aCA aC8 aDy aB9 aBf aDK aCz aAP aA6 aAv Zu aA8:Value}
  (a0:PySem.W.nsIn K mainGlobals "is_name" = some (some (.ref f0))) (l0:K.lookup f0=some ⟨oc0,od0,.func (PySem.W.fnOf "is_name" "is_name" (bA mJ) (bj mJ) (aA mJ) .none kV0 dc0 pm0 an0 cd0 ct0),sl0⟩) (c0:PySem.W.codeIn K cd0 "is_name" = true) (k0:PySem.W.keepIn K (.ref f0)=true)
  (a1:PySem.W.nsIn K mainGlobals "is_rule" = some (some (.ref f1))) (l1:K.lookup f1=some ⟨oc1,od1,.func (PySem.W.fnOf "is_rule" "is_rule" (bA mH) (bj mH) (aA mH) .none kV1 dc1 pm1 an1 cd1 ct1),sl1⟩) (c1:PySem.W.codeIn K cd1 "is_rule" = true) (k1:PySem.W.keepIn K (.ref f1)=true)
  (a2:PySem.W.nsIn K mainGlobals "has_form" = some (some (.ref f2))) (l2:K.lookup f2=some ⟨oc2,od2,.func (PySem.W.fnOf "has_form" "has_form" (bA lJ) (bj lJ) (aA lJ) .none kV2 dc2 pm2 an2 cd2 ct2),ZR⟩) (c2:PySem.W.codeIn K cd2 "has_form" = true) (k2:PySem.W.keepIn K (.ref f2)=true)
  (a3:PySem.W.nsIn K mainGlobals "rules_behind" = some (some (.ref f3))) (l3:K.lookup f3=some ⟨oc3,od3,.func (PySem.W.fnOf "rules_behind" "rules_behind" (bA e6) (bj e6) (aA e6) .none kV3 dc3 pm3 an3 cd3 ct3),sl3⟩) (c3:PySem.W.codeIn K cd3 "rules_behind" = true) (k3:PySem.W.keepIn K (.ref f3)=true)
  (a4:PySem.W.nsIn K mainGlobals "names_of" = some (some (.ref f4))) (l4:K.lookup f4=some ⟨oc4,od4,.func (PySem.W.fnOf "names_of" "names_of" (bA lI) (bj lI) (aA lI) .none kV4 dc4 pm4 an4 cd4 ct4),sl4⟩) (c4:PySem.W.codeIn K cd4 "names_of" = true) (k4:PySem.W.keepIn K (.ref f4)=true)
  (a5:PySem.W.nsIn K mainGlobals "names_within" = some (some (.ref f5))) (l5:K.lookup f5=some ⟨oc5,od5,.func (PySem.W.fnOf "names_within" "names_within" (bA e8) (bj e8) (aA e8) .none kV5 dc5 pm5 an5 cd5 ct5),sl5⟩) (c5:PySem.W.codeIn K cd5 "names_within" = true) (k5:PySem.W.keepIn K (.ref f5)=true)
  (a6:PySem.W.nsIn K mainGlobals "read_rule" = some (some (.ref f6))) (l6:K.lookup f6=some ⟨oc6,od6,.func (PySem.W.fnOf "read_rule" "read_rule" (bA kE) (bj kE) (aA kE) .none kV6 dc6 pm6 an6 cd6 ct6),sl6⟩) (c6:PySem.W.codeIn K cd6 "read_rule" = true) (k6:PySem.W.keepIn K (.ref f6)=true)
  (a7:PySem.W.nsIn K mainGlobals "rule_at" = some (some (.ref f7))) (l7:K.lookup f7=some ⟨oc7,od7,.func (PySem.W.fnOf "rule_at" "rule_at" (bA mG) (bj mG) (aA mG) .none kV7 dc7 pm7 an7 cd7 ct7),sl7⟩) (c7:PySem.W.codeIn K cd7 "rule_at" = true) (k7:PySem.W.keepIn K (.ref f7)=true)
  (a8:PySem.W.nsIn K mainGlobals "word_at" = some (some (.ref f8))) (l8:K.lookup f8=some ⟨oc8,od8,.func (PySem.W.fnOf "word_at" "word_at" (bA mF) (bj mF) (aA mF) .none kV8 dc8 pm8 an8 cd8 ct8),sl8⟩) (c8:PySem.W.codeIn K cd8 "word_at" = true) (k8:PySem.W.keepIn K (.ref f8)=true)
  (a9:PySem.W.nsIn K mainGlobals "holds" = some (some (.ref f9))) (l9:K.lookup f9=some ⟨oc9,od9,.func (PySem.W.fnOf "holds" "holds" (bA rM) (bj rM) (aA rM) .none kV9 dc9 pm9 an9 cd9 ct9),sl9⟩) (c9:PySem.W.codeIn K cd9 "holds" = true) (k9:PySem.W.keepIn K (.ref f9)=true)
  (a10:PySem.W.nsIn K mainGlobals "truth_of" = some (some (.ref f10))) (l10:K.lookup f10=some ⟨aCL,aCy,.func (PySem.W.fnOf "truth_of" "truth_of" (bA lH) (bj lH) (aA lH) .none aDj aDJ aCk aD7 aBq aDV),aBZ⟩) (c10:PySem.W.codeIn K aBq "truth_of" = true) (k10:PySem.W.keepIn K (.ref f10)=true)
  (a11:PySem.W.nsIn K mainGlobals "truth_of_two" = some (some (.ref f11))) (l11:K.lookup f11=some ⟨aCK,aCx,.func (PySem.W.fnOf "truth_of_two" "truth_of_two" (bA e4) (bj e4) (aA e4) .none aDi aDI aCj aD6 aBp aDU),aBY⟩) (c11:PySem.W.codeIn K aBp "truth_of_two" = true) (k11:PySem.W.keepIn K (.ref f11)=true)
  (a12:PySem.W.nsIn K mainGlobals "_law_hand" = some (some (.ref f12))) (l12:K.lookup f12=some ⟨aCJ,aCw,.func (PySem.W.fnOf "_law_hand" "_law_hand" (bA kJ) (bj kJ) (aA kJ) .none aDh aDH aCi aD5 aBo aDT),aBX⟩) (c12:PySem.W.codeIn K aBo "_law_hand" = true) (k12:PySem.W.keepIn K (.ref f12)=true)
  (a13:PySem.W.nsIn K mainGlobals "_law_next" = some (some (.ref f13))) (l13:K.lookup f13=some ⟨aCI,aCv,.func (PySem.W.fnOf "_law_next" "_law_next" (bA kI) (bj kI) (aA kI) .none aDg aDG aCh aD4 aBn aDS),aBW⟩) (c13:PySem.W.codeIn K aBn "_law_next" = true) (k13:PySem.W.keepIn K (.ref f13)=true)
  (a14:PySem.W.nsIn K mainGlobals "_law_take" = some (some (.ref f14))) (l14:K.lookup f14=some ⟨aCH,aCu,.func (PySem.W.fnOf "_law_take" "_law_take" (bA kG) (bj kG) (aA kG) .none aDf aDF aCg aD3 aBm aDR),aBV⟩) (c14:PySem.W.codeIn K aBm "_law_take" = true) (vW:PySem.W.keepIn K (.ref f14)=true)
  (a15:PySem.W.nsIn K mainGlobals "_law_draw" = some (some (.ref f15))) (l15:K.lookup f15=some ⟨aCG,aCt,.func (PySem.W.fnOf "_law_draw" "_law_draw" (bA kK) (bj kK) (aA kK) .none aDe aDE aCf aD2 aBl aDQ),aBU⟩) (c15:PySem.W.codeIn K aBl "_law_draw" = true) (k15:PySem.W.keepIn K (.ref f15)=true)
  (a16:PySem.W.nsIn K mainGlobals "_law_names" = some (some (.ref f16))) (l16:K.lookup f16=some ⟨aCF,aCs,.func (PySem.W.fnOf "_law_names" "_law_names" (bA jg) (bj jg) (aA jg) .none aDd aDD aCe aD1 aBk aDP),aBT⟩) (c16:PySem.W.codeIn K aBk "_law_names" = true) (k16:PySem.W.keepIn K (.ref f16)=true)
  (a17:PySem.W.nsIn K mainGlobals "_law_raise" = some (some (.ref f17))) (l17:K.lookup f17=some ⟨aCE,aCr,.func (PySem.W.fnOf "_law_raise" "_law_raise" (bA jf) (bj jf) (aA jf) .none aDc aDC aCd aD0 aBj aDO),aBS⟩) (c17:PySem.W.codeIn K aBj "_law_raise" = true) (k17:PySem.W.keepIn K (.ref f17)=true)
  (a18:PySem.W.nsIn K mainGlobals "_law_deed" = some (some (.ref f18))) (l18:K.lookup f18=some ⟨aCD,aCq,.func (PySem.W.fnOf "_law_deed" "_law_deed" (bA kL) (bj kL) (aA kL) .none aDb aDB aCc aDZ aBi aDN),aBR⟩) (c18:PySem.W.codeIn K aBi "_law_deed" = true) (k18:PySem.W.keepIn K (.ref f18)=true)
  (a19:PySem.W.nsIn K mainGlobals "_law_kinds" = some (some (.ref f19))) (l19:K.lookup f19=some ⟨aCC,aCp,.func (PySem.W.fnOf "_law_kinds" "_law_kinds" (bA jh) (bj jh) (aA jh) .none aDa aDA aCb aDY aBh aDM),aBQ⟩) (c19:PySem.W.codeIn K aBh "_law_kinds" = true) (k19:PySem.W.keepIn K (.ref f19)=true)
  (a20:PySem.W.nsIn K mainGlobals "_law_field" = some (some (.ref f20))) (l20:K.lookup f20=some ⟨aCB,aCo,.func (PySem.W.fnOf "_law_field" "_law_field" (bA ji) (bj ji) (aA ji) .none aC9 aDz aCa aDX aBg aDL),aBP⟩) (c20:PySem.W.codeIn K aBg "_law_field" = true) (k20:PySem.W.keepIn K (.ref f20)=true)
  (a21:PySem.W.nsIn K mainGlobals "_law_told" = some (some (.ref f21))) (l21:K.lookup f21=some ⟨aCA,aCn,.func (PySem.W.fnOf "_law_told" "_law_told" (bA kF) (bj kF) (aA kF) .none aC8 aDy aB9 aDW aBf aDK),aBO⟩) (c21:PySem.W.codeIn K aBf "_law_told" = true) (k21:PySem.W.keepIn K (.ref f21)=true)
  (a22:PySem.W.nsIn K mainGlobals "law" = some (some (.ref f22))) (l22:K.lookup f22=some ⟨aCz,aCm,.func (PySem.W.fnOf "law" "law" (bA uy) (bj uy) (aA uy) .none aAP aA6 aAv aBA Zu aA8),aBN⟩) (c22:PySem.W.codeIn K Zu "law" = true) (k22:PySem.W.keepIn K (.ref f22)=true)
  (mB:PySem.W.nsIn K mainGlobals "ValueError" = some none)
  (Nj:PySem.W.nsIn K mainGlobals "abs" = some none)
  (GK:PySem.W.nsIn K mainGlobals "all" = some none)
  (aV:PySem.W.nsIn K mainGlobals "isinstance" = some none)
  (qh:PySem.W.nsIn K mainGlobals "len" = some none)
  (Em:PySem.W.nsIn K mainGlobals "list" = some none)
  (jc:PySem.W.nsIn K mainGlobals "range" = some none)
  (Ni:PySem.W.nsIn K mainGlobals "set" = some none)
  (uh:PySem.W.nsIn K mainGlobals "sorted" = some none)
  (Bj:PySem.W.nsIn K mainGlobals "str" = some none)
  (rB:PySem.W.nsIn K mainGlobals "tuple" = some none)
  {wO:Tok} (lj:PySem.W.nsIn K mainGlobals "MOST_LETTERS" = some (some (.int 8 wO)))
  {Fv:Tok} (lZ:PySem.W.nsIn K mainGlobals "MOST_DEEP" = some (some (.int 6 Fv)))
  {Ai:Tok} (mD:PySem.W.nsIn K mainGlobals "MOST_NAMES" = some (some (.int 5 Ai)))
  {mw:Addr} {pY:Array DictEntry} {wR:Nat} (lh:PySem.W.nsIn K mainGlobals "RULES_BEHIND" = some (some (.ref mw))) (qF:K.lookup mw=some ⟨.type "dict",none,.dict pY wR,#[]⟩) (qx:Hc pY.toList bB=true) (qB:(mw==sysModules)=false)
  (Kf:PySem.W.specialIn K (.builtin "object.__class__") "__get__" = some (some (.builtin "getset_descriptor.__get__"))) (Ke:PySem.W.takesIn K (.builtin "object.__class__")=some true)
  {aG aE aH aF aq av ay aC ag ak aI aD ao au aJ:Addr}
  {bJ bI bD bF bG bL bC bE:Addr} {L7 Ml L5 Mk Iu Jw Iw Jy Iy Jz P7 Qb Ir Jv Iv Jx:Option Addr} {LK Lz Ih Ij Ik P4 Ig Ii:Array (Option Value)} {Ma Mf Mh LW zy Mj L8 Md Mg LQ zx Mi IK Jf Jk Im vZ Jq IW Jh Jm Ip v5 Js Ja Ji Jo Iq v7 Jt P8 P9 P' P6 De Qa Iz Je Jj Il vY Jp IV Jg Jl Io v3 Jr:Value}
  (sV:PySem.W.nsIn K mainGlobals "TruceError" = some (some (.ref aG))) (sI:kj K aG=true) (sH:PySem.W.hasDictIn K aG=true) (sG:PySem.W.findIn K (.ref aG) "__setattr__" = some (some (.builtin "object.__setattr__"))) (sF:PySem.W.findIn K (.ref aG) "__getattribute__" = some (some (.builtin "BaseException.__getattribute__"))) (sE:PySem.W.findIn K (.ref aG) "__getattr__" = some none) (sD:PySem.W.findIn K (.ref aG) "__class__" = some (some (.builtin "object.__class__"))) (sA:PySem.W.mroIn K aG (.type "object")=some true)
  (Dy:PySem.W.nsIn K mainGlobals "NoFact" = some (some (.ref aE))) (BR:kj K aE=true) (BL:PySem.W.hasDictIn K aE=true) (BG:PySem.W.findIn K (.ref aE) "__setattr__" = some (some (.builtin "object.__setattr__"))) (Bx:PySem.W.findIn K (.ref aE) "__getattribute__" = some (some (.builtin "BaseException.__getattribute__"))) (Bu:PySem.W.findIn K (.ref aE) "__getattr__" = some none) (Br:PySem.W.findIn K (.ref aE) "__class__" = some (some (.builtin "object.__class__"))) (Bo:PySem.W.mroIn K aE (.type "object")=some true)
  (Dw:PySem.W.nsIn K mainGlobals "NoText" = some (some (.ref aH))) (BM:kj K aH=true) (BJ:PySem.W.hasDictIn K aH=true) (By:PySem.W.findIn K (.ref aH) "__setattr__" = some (some (.builtin "object.__setattr__"))) (Bv:PySem.W.findIn K (.ref aH) "__getattribute__" = some (some (.builtin "BaseException.__getattribute__"))) (Bs:PySem.W.findIn K (.ref aH) "__getattr__" = some none) (Bp:PySem.W.findIn K (.ref aH) "__class__" = some (some (.builtin "object.__class__"))) (Bm:PySem.W.mroIn K aH (.type "object")=some true)
  (Dx:PySem.W.nsIn K mainGlobals "NoJoin" = some (some (.ref aF))) (BP:kj K aF=true) (BK:PySem.W.hasDictIn K aF=true) (Bz:PySem.W.findIn K (.ref aF) "__setattr__" = some (some (.builtin "object.__setattr__"))) (Bw:PySem.W.findIn K (.ref aF) "__getattribute__" = some (some (.builtin "BaseException.__getattribute__"))) (Bt:PySem.W.findIn K (.ref aF) "__getattr__" = some none) (Bq:PySem.W.findIn K (.ref aF) "__class__" = some (some (.builtin "object.__class__"))) (Bn:PySem.W.mroIn K aF (.type "object")=some true)
  (zP:PySem.W.nsIn K mainGlobals "NoPeace" = some (some (.ref aq))) (yH:kj K aq=true) (yA:PySem.W.hasDictIn K aq=true) (yr:PySem.W.findIn K (.ref aq) "__setattr__" = some (some (.builtin "object.__setattr__"))) (yj:PySem.W.findIn K (.ref aq) "__getattribute__" = some (some (.builtin "BaseException.__getattribute__"))) (yc:PySem.W.findIn K (.ref aq) "__getattr__" = some none) (xW:PySem.W.findIn K (.ref aq) "__class__" = some (some (.builtin "object.__class__"))) (xP:PySem.W.mroIn K aq (.type "object")=some true)
  (zR:PySem.W.nsIn K mainGlobals "NoClash" = some (some (.ref av))) (yJ:kj K av=true) (yC:PySem.W.hasDictIn K av=true) (yu:PySem.W.findIn K (.ref av) "__setattr__" = some (some (.builtin "object.__setattr__"))) (ym:PySem.W.findIn K (.ref av) "__getattribute__" = some (some (.builtin "BaseException.__getattribute__"))) (ye:PySem.W.findIn K (.ref av) "__getattr__" = some none) (xY:PySem.W.findIn K (.ref av) "__class__" = some (some (.builtin "object.__class__"))) (xR:PySem.W.mroIn K av (.type "object")=some true)
  (zT:PySem.W.nsIn K mainGlobals "BadHeap" = some (some (.ref ay))) (yL:kj K ay=true) (yE:PySem.W.hasDictIn K ay=true) (yw:PySem.W.findIn K (.ref ay) "__setattr__" = some (some (.builtin "object.__setattr__"))) (yo:PySem.W.findIn K (.ref ay) "__getattribute__" = some (some (.builtin "BaseException.__getattribute__"))) (yg:PySem.W.findIn K (.ref ay) "__getattr__" = some none) (x8:PySem.W.findIn K (.ref ay) "__class__" = some (some (.builtin "object.__class__"))) (xT:PySem.W.mroIn K ay (.type "object")=some true)
  (zO:PySem.W.nsIn K mainGlobals "NoTruce" = some (some (.ref aC))) (yG:kj K aC=true) (yz:PySem.W.hasDictIn K aC=true) (yq:PySem.W.findIn K (.ref aC) "__setattr__" = some (some (.builtin "object.__setattr__"))) (yi:PySem.W.findIn K (.ref aC) "__getattribute__" = some (some (.builtin "BaseException.__getattribute__"))) (yb:PySem.W.findIn K (.ref aC) "__getattr__" = some none) (xV:PySem.W.findIn K (.ref aC) "__class__" = some (some (.builtin "object.__class__"))) (xO:PySem.W.mroIn K aC (.type "object")=some true)
  (qU:PySem.W.nsIn K mainGlobals "OtherLabels" = some (some (.ref ag))) (qt:kj K ag=true) (qq:PySem.W.hasDictIn K ag=true) (qp:PySem.W.findIn K (.ref ag) "__setattr__" = some (some (.builtin "object.__setattr__"))) (qo:PySem.W.findIn K (.ref ag) "__getattribute__" = some (some (.builtin "BaseException.__getattribute__"))) (qm:PySem.W.findIn K (.ref ag) "__getattr__" = some none) (ql:PySem.W.findIn K (.ref ag) "__class__" = some (some (.builtin "object.__class__"))) (qj:PySem.W.mroIn K ag (.type "object")=some true)
  (wt:PySem.W.nsIn K mainGlobals "BadLabel" = some (some (.ref ak))) (vQ:kj K ak=true) (vP:PySem.W.hasDictIn K ak=true) (vO:PySem.W.findIn K (.ref ak) "__setattr__" = some (some (.builtin "object.__setattr__"))) (vN:PySem.W.findIn K (.ref ak) "__getattribute__" = some (some (.builtin "BaseException.__getattribute__"))) (vM:PySem.W.findIn K (.ref ak) "__getattr__" = some none) (vL:PySem.W.findIn K (.ref ak) "__class__" = some (some (.builtin "object.__class__"))) (vK:PySem.W.mroIn K ak (.type "object")=some true)
  (J2:PySem.W.nsIn K mainGlobals "Taken" = some (some (.ref aI))) (G8:kj K aI=true) (G6:PySem.W.hasDictIn K aI=true) (G4:PySem.W.findIn K (.ref aI) "__setattr__" = some (some (.builtin "object.__setattr__"))) (G0:PySem.W.findIn K (.ref aI) "__getattribute__" = some (some (.builtin "BaseException.__getattribute__"))) (GX:PySem.W.findIn K (.ref aI) "__getattr__" = some none) (GQ:PySem.W.findIn K (.ref aI) "__class__" = some (some (.builtin "object.__class__"))) (GL:PySem.W.mroIn K aI (.type "object")=some true)
  (zS:PySem.W.nsIn K mainGlobals "BadRule" = some (some (.ref aD))) (yK:kj K aD=true) (yD:PySem.W.hasDictIn K aD=true) (yv:PySem.W.findIn K (.ref aD) "__setattr__" = some (some (.builtin "object.__setattr__"))) (yn:PySem.W.findIn K (.ref aD) "__getattribute__" = some (some (.builtin "BaseException.__getattribute__"))) (yf:PySem.W.findIn K (.ref aD) "__getattr__" = some none) (xZ:PySem.W.findIn K (.ref aD) "__class__" = some (some (.builtin "object.__class__"))) (xS:PySem.W.mroIn K aD (.type "object")=some true)
  (zN:PySem.W.nsIn K mainGlobals "TooMany" = some (some (.ref ao))) (yF:kj K ao=true) (yx:PySem.W.hasDictIn K ao=true) (yp:PySem.W.findIn K (.ref ao) "__setattr__" = some (some (.builtin "object.__setattr__"))) (yh:PySem.W.findIn K (.ref ao) "__getattribute__" = some (some (.builtin "BaseException.__getattribute__"))) (x9:PySem.W.findIn K (.ref ao) "__getattr__" = some none) (xU:PySem.W.findIn K (.ref ao) "__class__" = some (some (.builtin "object.__class__"))) (xN:PySem.W.mroIn K ao (.type "object")=some true)
  (zQ:PySem.W.nsIn K mainGlobals "NoLabel" = some (some (.ref au))) (yI:kj K au=true) (yB:PySem.W.hasDictIn K au=true) (yt:PySem.W.findIn K (.ref au) "__setattr__" = some (some (.builtin "object.__setattr__"))) (yk:PySem.W.findIn K (.ref au) "__getattribute__" = some (some (.builtin "BaseException.__getattribute__"))) (yd:PySem.W.findIn K (.ref au) "__getattr__" = some none) (xX:PySem.W.findIn K (.ref au) "__class__" = some (some (.builtin "object.__class__"))) (xQ:PySem.W.mroIn K au (.type "object")=some true)
  (J3:PySem.W.nsIn K mainGlobals "NoRow" = some (some (.ref aJ))) (G9:kj K aJ=true) (G7:PySem.W.hasDictIn K aJ=true) (G5:PySem.W.findIn K (.ref aJ) "__setattr__" = some (some (.builtin "object.__setattr__"))) (G3:PySem.W.findIn K (.ref aJ) "__getattribute__" = some (some (.builtin "BaseException.__getattribute__"))) (GZ:PySem.W.findIn K (.ref aJ) "__getattr__" = some none) (GR:PySem.W.findIn K (.ref aJ) "__class__" = some (some (.builtin "object.__class__"))) (GP:PySem.W.mroIn K aJ (.type "object")=some true)
  (nH:PySem.W.keepIn K (.ref aG)=true)
  (nI:PySem.W.findIn K (.ref aG) "__init__" = some (some (.builtin "ValueError.__init__")))
  (bQ:PySem.W.readsIn K aG (.type "type")=true)
  (bS:PySem.W.findCls K (.ref aG) (.type "type") "__init__" = some (.val (.builtin "ValueError.__init__")))
  (bP:PySem.W.specialIn K (.ref aG) "__getattribute__" = some (some (.builtin "type.__getattribute__")))
  (nW:PySem.W.keepIn K (.ref aE)=true)
  (CZ:K.lookup bJ=some ⟨Ma,L7,.func (PySem.W.fnOf "__init__" "NoFact.__init__" (bA cC) (bj cC) (aA cC) .none Mf Mh LW Ml zy Mj),LK⟩) (Dg:PySem.W.codeIn K zy "NoFact.__init__" = true) (Dd:PySem.W.keepIn K (.ref bJ)=true)
  (nX:PySem.W.findIn K (.ref aE) "__init__" = some (some (.ref bJ)))
  (nY:PySem.W.typeIn K (.ref bJ)=some (.type "function"))
  (rK:PySem.W.takerIn K aE "name" = some none)
  (rO:PySem.W.findIn K (.ref aE) "name" = some none)
  (gR:PySem.W.keepIn K (.ref aH)=true)
  (gS:PySem.W.findIn K (.ref aH) "__init__" = some (some (.builtin "ValueError.__init__")))
  (rV:PySem.W.keepIn K (.ref aF)=true)
  (CW:K.lookup bI=some ⟨L8,L5,.func (PySem.W.fnOf "__init__" "NoJoin.__init__" (bA cB) (bj cB) (aA cB) .none Md Mg LQ Mk zx Mi),Lz⟩) (Df:PySem.W.codeIn K zx "NoJoin.__init__" = true) (Dc:PySem.W.keepIn K (.ref bI)=true)
  (rX:PySem.W.findIn K (.ref aF) "__init__" = some (some (.ref bI)))
  (rY:PySem.W.typeIn K (.ref bI)=some (.type "function"))
  (rJ:PySem.W.takerIn K aF "name" = some none)
  (rN:PySem.W.findIn K (.ref aF) "name" = some none)
  (o4:PySem.W.keepIn K (.ref aq)=true)
  (zk:K.lookup bD=some ⟨IK,Iu,.func (PySem.W.fnOf "__init__" "NoPeace.__init__" (bA cv) (bj cv) (aA cv) .none Jf Jk Im Jw vZ Jq),Ih⟩) (zB:PySem.W.codeIn K vZ "NoPeace.__init__" = true) (zr:PySem.W.keepIn K (.ref bD)=true)
  (ph:PySem.W.findIn K (.ref aq) "__init__" = some (some (.ref bD)))
  (pA:PySem.W.typeIn K (.ref bD)=some (.type "function"))
  (oy:PySem.W.takerIn K aq "part" = some none)
  (oJ:PySem.W.findIn K (.ref aq) "part" = some none)
  (o6:PySem.W.keepIn K (.ref av)=true)
  (zm:K.lookup bF=some ⟨IW,Iw,.func (PySem.W.fnOf "__init__" "NoClash.__init__" (bA cx) (bj cx) (aA cx) .none Jh Jm Ip Jy v5 Js),Ij⟩) (zD:PySem.W.codeIn K v5 "NoClash.__init__" = true) (zu:PySem.W.keepIn K (.ref bF)=true)
  (pk:PySem.W.findIn K (.ref av) "__init__" = some (some (.ref bF)))
  (pC:PySem.W.typeIn K (.ref bF)=some (.type "function"))
  (oA:PySem.W.takerIn K av "part" = some none)
  (oM:PySem.W.findIn K (.ref av) "part" = some none)
  (o8:PySem.W.keepIn K (.ref ay)=true)
  (zp:K.lookup bG=some ⟨Ja,Iy,.func (PySem.W.fnOf "__init__" "BadHeap.__init__" (bA cy) (bj cy) (aA cy) .none Ji Jo Iq Jz v7 Jt),Ik⟩) (zE:PySem.W.codeIn K v7 "BadHeap.__init__" = true) (zv:PySem.W.keepIn K (.ref bG)=true)
  (px:PySem.W.findIn K (.ref ay) "__init__" = some (some (.ref bG)))
  (pD:PySem.W.typeIn K (.ref bG)=some (.type "function"))
  (oB:PySem.W.takerIn K ay "place" = some none)
  (oN:PySem.W.findIn K (.ref ay) "place" = some none)
  (oZ:PySem.W.keepIn K (.ref aC)=true)
  (pe:PySem.W.findIn K (.ref aC) "__init__" = some (some (.builtin "ValueError.__init__")))
  (kZ:PySem.W.keepIn K (.ref ag)=true)
  (lg:PySem.W.findIn K (.ref ag) "__init__" = some (some (.builtin "ValueError.__init__")))
  (nu:PySem.W.keepIn K (.ref ak)=true)
  (ny:PySem.W.findIn K (.ref ak) "__init__" = some (some (.builtin "ValueError.__init__")))
  (uF:PySem.W.keepIn K (.ref aI)=true)
  (Jc:K.lookup bL=some ⟨P8,P7,.func (PySem.W.fnOf "__init__" "Taken.__init__" (bA dj) (bj dj) (aA dj) .none P9 P' P6 Qb De Qa),P4⟩) (Ju:PySem.W.codeIn K De "Taken.__init__" = true) (Jd:PySem.W.keepIn K (.ref bL)=true)
  (uH:PySem.W.findIn K (.ref aI) "__init__" = some (some (.ref bL)))
  (uJ:PySem.W.typeIn K (.ref bL)=some (.type "function"))
  (uk:PySem.W.takerIn K aI "label" = some none)
  (uB:PySem.W.findIn K (.ref aI) "label" = some none)
  (o7:PySem.W.keepIn K (.ref aD)=true)
  (pw:PySem.W.findIn K (.ref aD) "__init__" = some (some (.builtin "ValueError.__init__")))
  (oY:PySem.W.keepIn K (.ref ao)=true)
  (zj:K.lookup bC=some ⟨Iz,Ir,.func (PySem.W.fnOf "__init__" "TooMany.__init__" (bA cu) (bj cu) (aA cu) .none Je Jj Il Jv vY Jp),Ig⟩) (zA:PySem.W.codeIn K vY "TooMany.__init__" = true) (zq:PySem.W.keepIn K (.ref bC)=true)
  (pd:PySem.W.findIn K (.ref ao) "__init__" = some (some (.ref bC)))
  (pz:PySem.W.typeIn K (.ref bC)=some (.type "function"))
  (ow:PySem.W.takerIn K ao "most" = some none)
  (oI:PySem.W.findIn K (.ref ao) "most" = some none)
  (o5:PySem.W.keepIn K (.ref au)=true)
  (zl:K.lookup bE=some ⟨IV,Iv,.func (PySem.W.fnOf "__init__" "NoLabel.__init__" (bA cw) (bj cw) (aA cw) .none Jg Jl Io Jx v3 Jr),Ii⟩) (zC:PySem.W.codeIn K v3 "NoLabel.__init__" = true) (zt:PySem.W.keepIn K (.ref bE)=true)
  (pj:PySem.W.findIn K (.ref au) "__init__" = some (some (.ref bE)))
  (pB:PySem.W.typeIn K (.ref bE)=some (.type "function"))
  (oz:PySem.W.takerIn K au "label" = some none)
  (oK:PySem.W.findIn K (.ref au) "label" = some none)
  (uG:PySem.W.keepIn K (.ref aJ)=true)
  (uI:PySem.W.findIn K (.ref aJ) "__init__" = some (some (.builtin "ValueError.__init__")))
  (dM:PySem.W.subIn K (.ref aH) (.ref aG)=some true)
  (jx:PySem.W.kitOne K (.ref aH) (.ref aE)=some false)
  (jw:PySem.W.kitOne K (.ref aH) (.ref aF)=some false)
  (hV:PySem.W.kitOne K (.ref aH) (.ref aq)=some false)
  (ia:PySem.W.kitOne K (.ref aH) (.ref av)=some false)
  (ic:PySem.W.kitOne K (.ref aH) (.ref ay)=some false)
  (j5:PySem.W.kitOne K (.ref aH) (.ref aI)=some false)
  (hJ:PySem.W.kitOne K (.ref aH) (.ref ao)=some false)
  (hX:PySem.W.kitOne K (.ref aH) (.ref au)=some false)
  (jv:PySem.W.kitOne K (.ref aH) (.ref aH)=some true)
  (hU:PySem.W.kitOne K (.ref aH) (.ref aC)=some false)
  (dE:PySem.W.kitOne K (.ref aH) (.ref ag)=some false)
  (fF:PySem.W.kitOne K (.ref aH) (.ref ak)=some false)
  (ib:PySem.W.kitOne K (.ref aH) (.ref aD)=some false)
  (j6:PySem.W.kitOne K (.ref aH) (.ref aJ)=some false)
  (rR:PySem.W.kitOne K (.ref aH) (.type "ValueError")=some true)
  (dO:PySem.W.subIn K (.ref aE) (.ref aG)=some true)
  (jO:PySem.W.kitOne K (.ref aE) (.ref aE)=some true)
  (jN:PySem.W.kitOne K (.ref aE) (.ref aF)=some false)
  (iG:PySem.W.kitOne K (.ref aE) (.ref aq)=some false)
  (iI:PySem.W.kitOne K (.ref aE) (.ref av)=some false)
  (iK:PySem.W.kitOne K (.ref aE) (.ref ay)=some false)
  (ke:PySem.W.kitOne K (.ref aE) (.ref aI)=some false)
  (iE:PySem.W.kitOne K (.ref aE) (.ref ao)=some false)
  (iH:PySem.W.kitOne K (.ref aE) (.ref au)=some false)
  (jM:PySem.W.kitOne K (.ref aE) (.ref aH)=some false)
  (iF:PySem.W.kitOne K (.ref aE) (.ref aC)=some false)
  (dG:PySem.W.kitOne K (.ref aE) (.ref ag)=some false)
  (fX:PySem.W.kitOne K (.ref aE) (.ref ak)=some false)
  (iJ:PySem.W.kitOne K (.ref aE) (.ref aD)=some false)
  (kf:PySem.W.kitOne K (.ref aE) (.ref aJ)=some false)
  (rT:PySem.W.kitOne K (.ref aE) (.type "ValueError")=some true)
  (dN:PySem.W.subIn K (.ref aF) (.ref aG)=some true)
  (jL:PySem.W.kitOne K (.ref aF) (.ref aE)=some false)
  (jK:PySem.W.kitOne K (.ref aF) (.ref aF)=some true)
  (iz:PySem.W.kitOne K (.ref aF) (.ref aq)=some false)
  (iB:PySem.W.kitOne K (.ref aF) (.ref av)=some false)
  (iD:PySem.W.kitOne K (.ref aF) (.ref ay)=some false)
  (kb:PySem.W.kitOne K (.ref aF) (.ref aI)=some false)
  (iw:PySem.W.kitOne K (.ref aF) (.ref ao)=some false)
  (iA:PySem.W.kitOne K (.ref aF) (.ref au)=some false)
  (jJ:PySem.W.kitOne K (.ref aF) (.ref aH)=some false)
  (iy:PySem.W.kitOne K (.ref aF) (.ref aC)=some false)
  (dF:PySem.W.kitOne K (.ref aF) (.ref ag)=some false)
  (fW:PySem.W.kitOne K (.ref aF) (.ref ak)=some false)
  (iC:PySem.W.kitOne K (.ref aF) (.ref aD)=some false)
  (kc:PySem.W.kitOne K (.ref aF) (.ref aJ)=some false)
  (rS:PySem.W.kitOne K (.ref aF) (.type "ValueError")=some true)
  (dv:PySem.W.subIn K (.ref aq) (.ref aG)=some true)
  (il:PySem.W.kitOne K (.ref aq) (.ref aE)=some false)
  (ik:PySem.W.kitOne K (.ref aq) (.ref aF)=some false)
  (fJ:PySem.W.kitOne K (.ref aq) (.ref aq)=some true)
  (fL:PySem.W.kitOne K (.ref aq) (.ref av)=some false)
  (fN:PySem.W.kitOne K (.ref aq) (.ref ay)=some false)
  (jF:PySem.W.kitOne K (.ref aq) (.ref aI)=some false)
  (fG:PySem.W.kitOne K (.ref aq) (.ref ao)=some false)
  (fK:PySem.W.kitOne K (.ref aq) (.ref au)=some false)
  (ig:PySem.W.kitOne K (.ref aq) (.ref aH)=some false)
  (fH:PySem.W.kitOne K (.ref aq) (.ref aC)=some false)
  (cZ:PySem.W.kitOne K (.ref aq) (.ref ag)=some false)
  (eI:PySem.W.kitOne K (.ref aq) (.ref ak)=some false)
  (fM:PySem.W.kitOne K (.ref aq) (.ref aD)=some false)
  (jG:PySem.W.kitOne K (.ref aq) (.ref aJ)=some false)
  (oS:PySem.W.kitOne K (.ref aq) (.type "ValueError")=some true)
  (dy:PySem.W.subIn K (.ref av) (.ref aG)=some true)
  (iN:PySem.W.kitOne K (.ref av) (.ref aE)=some false)
  (iM:PySem.W.kitOne K (.ref av) (.ref aF)=some false)
  (gd:PySem.W.kitOne K (.ref av) (.ref aq)=some false)
  (gi:PySem.W.kitOne K (.ref av) (.ref av)=some true)
  (gk:PySem.W.kitOne K (.ref av) (.ref ay)=some false)
  (jP:PySem.W.kitOne K (.ref av) (.ref aI)=some false)
  (fY:PySem.W.kitOne K (.ref av) (.ref ao)=some false)
  (gh:PySem.W.kitOne K (.ref av) (.ref au)=some false)
  (iL:PySem.W.kitOne K (.ref av) (.ref aH)=some false)
  (fZ:PySem.W.kitOne K (.ref av) (.ref aC)=some false)
  (de:PySem.W.kitOne K (.ref av) (.ref ag)=some false)
  (eK:PySem.W.kitOne K (.ref av) (.ref ak)=some false)
  (gj:PySem.W.kitOne K (.ref av) (.ref aD)=some false)
  (jQ:PySem.W.kitOne K (.ref av) (.ref aJ)=some false)
  (oV:PySem.W.kitOne K (.ref av) (.type "ValueError")=some true)
  (dA:PySem.W.subIn K (.ref ay) (.ref aG)=some true)
  (iV:PySem.W.kitOne K (.ref ay) (.ref aE)=some false)
  (iU:PySem.W.kitOne K (.ref ay) (.ref aF)=some false)
  (gI:PySem.W.kitOne K (.ref ay) (.ref aq)=some false)
  (gK:PySem.W.kitOne K (.ref ay) (.ref av)=some false)
  (gM:PySem.W.kitOne K (.ref ay) (.ref ay)=some true)
  (jT:PySem.W.kitOne K (.ref ay) (.ref aI)=some false)
  (gF:PySem.W.kitOne K (.ref ay) (.ref ao)=some false)
  (gJ:PySem.W.kitOne K (.ref ay) (.ref au)=some false)
  (iT:PySem.W.kitOne K (.ref ay) (.ref aH)=some false)
  (gH:PySem.W.kitOne K (.ref ay) (.ref aC)=some false)
  (dg:PySem.W.kitOne K (.ref ay) (.ref ag)=some false)
  (eU:PySem.W.kitOne K (.ref ay) (.ref ak)=some false)
  (gL:PySem.W.kitOne K (.ref ay) (.ref aD)=some false)
  (jU:PySem.W.kitOne K (.ref ay) (.ref aJ)=some false)
  (oX:PySem.W.kitOne K (.ref ay) (.type "ValueError")=some true)
  (eD:PySem.W.subIn K (.ref aI) (.ref aG)=some true)
  (j4:PySem.W.kitOne K (.ref aI) (.ref aE)=some false)
  (j3:PySem.W.kitOne K (.ref aI) (.ref aF)=some false)
  (jn:PySem.W.kitOne K (.ref aI) (.ref aq)=some false)
  (jq:PySem.W.kitOne K (.ref aI) (.ref av)=some false)
  (js:PySem.W.kitOne K (.ref aI) (.ref ay)=some false)
  (kS:PySem.W.kitOne K (.ref aI) (.ref aI)=some true)
  (jl:PySem.W.kitOne K (.ref aI) (.ref ao)=some false)
  (jo:PySem.W.kitOne K (.ref aI) (.ref au)=some false)
  (j0:PySem.W.kitOne K (.ref aI) (.ref aH)=some false)
  (jm:PySem.W.kitOne K (.ref aI) (.ref aC)=some false)
  (dQ:PySem.W.kitOne K (.ref aI) (.ref ag)=some false)
  (g6:PySem.W.kitOne K (.ref aI) (.ref ak)=some false)
  (jr:PySem.W.kitOne K (.ref aI) (.ref aD)=some false)
  (kW:PySem.W.kitOne K (.ref aI) (.ref aJ)=some false)
  (uC:PySem.W.kitOne K (.ref aI) (.type "ValueError")=some true)
  (dr:PySem.W.subIn K (.ref ao) (.ref aG)=some true)
  (g0:PySem.W.kitOne K (.ref ao) (.ref aE)=some false)
  (gZ:PySem.W.kitOne K (.ref ao) (.ref aF)=some false)
  (fk:PySem.W.kitOne K (.ref ao) (.ref aq)=some false)
  (fq:PySem.W.kitOne K (.ref ao) (.ref av)=some false)
  (fu:PySem.W.kitOne K (.ref ao) (.ref ay)=some false)
  (jj:PySem.W.kitOne K (.ref ao) (.ref aI)=some false)
  (fi:PySem.W.kitOne K (.ref ao) (.ref ao)=some true)
  (fo:PySem.W.kitOne K (.ref ao) (.ref au)=some false)
  (gY:PySem.W.kitOne K (.ref ao) (.ref aH)=some false)
  (fj:PySem.W.kitOne K (.ref ao) (.ref aC)=some false)
  (cQ:PySem.W.kitOne K (.ref ao) (.ref ag)=some false)
  (eG:PySem.W.kitOne K (.ref ao) (.ref ak)=some false)
  (ft:PySem.W.kitOne K (.ref ao) (.ref aD)=some false)
  (jk:PySem.W.kitOne K (.ref ao) (.ref aJ)=some false)
  (oQ:PySem.W.kitOne K (.ref ao) (.type "ValueError")=some true)
  (dw:PySem.W.subIn K (.ref au) (.ref aG)=some true)
  (iu:PySem.W.kitOne K (.ref au) (.ref aE)=some false)
  (iq:PySem.W.kitOne K (.ref au) (.ref aF)=some false)
  (fQ:PySem.W.kitOne K (.ref au) (.ref aq)=some false)
  (fT:PySem.W.kitOne K (.ref au) (.ref av)=some false)
  (fV:PySem.W.kitOne K (.ref au) (.ref ay)=some false)
  (jH:PySem.W.kitOne K (.ref au) (.ref aI)=some false)
  (fO:PySem.W.kitOne K (.ref au) (.ref ao)=some false)
  (fS:PySem.W.kitOne K (.ref au) (.ref au)=some true)
  (ip:PySem.W.kitOne K (.ref au) (.ref aH)=some false)
  (fP:PySem.W.kitOne K (.ref au) (.ref aC)=some false)
  (dc:PySem.W.kitOne K (.ref au) (.ref ag)=some false)
  (eJ:PySem.W.kitOne K (.ref au) (.ref ak)=some false)
  (fU:PySem.W.kitOne K (.ref au) (.ref aD)=some false)
  (jI:PySem.W.kitOne K (.ref au) (.ref aJ)=some false)
  (oU:PySem.W.kitOne K (.ref au) (.type "ValueError")=some true)
  (du:PySem.W.subIn K (.ref aC) (.ref aG)=some true)
  (g9:PySem.W.kitOne K (.ref aC) (.ref aE)=some false)
  (g8:PySem.W.kitOne K (.ref aC) (.ref aF)=some false)
  (fA:PySem.W.kitOne K (.ref aC) (.ref aq)=some false)
  (fC:PySem.W.kitOne K (.ref aC) (.ref av)=some false)
  (fE:PySem.W.kitOne K (.ref aC) (.ref ay)=some false)
  (jt:PySem.W.kitOne K (.ref aC) (.ref aI)=some false)
  (fw:PySem.W.kitOne K (.ref aC) (.ref ao)=some false)
  (fB:PySem.W.kitOne K (.ref aC) (.ref au)=some false)
  (g7:PySem.W.kitOne K (.ref aC) (.ref aH)=some false)
  (fz:PySem.W.kitOne K (.ref aC) (.ref aC)=some true)
  (cY:PySem.W.kitOne K (.ref aC) (.ref ag)=some false)
  (eH:PySem.W.kitOne K (.ref aC) (.ref ak)=some false)
  (fD:PySem.W.kitOne K (.ref aC) (.ref aD)=some false)
  (ju:PySem.W.kitOne K (.ref aC) (.ref aJ)=some false)
  (oR:PySem.W.kitOne K (.ref aC) (.type "ValueError")=some true)
  (ck:PySem.W.subIn K (.ref ag) (.ref aG)=some true)
  (dD:PySem.W.kitOne K (.ref ag) (.ref aE)=some false)
  (dC:PySem.W.kitOne K (.ref ag) (.ref aF)=some false)
  (cT:PySem.W.kitOne K (.ref ag) (.ref aq)=some false)
  (cV:PySem.W.kitOne K (.ref ag) (.ref av)=some false)
  (cX:PySem.W.kitOne K (.ref ag) (.ref ay)=some false)
  (dR:PySem.W.kitOne K (.ref ag) (.ref aI)=some false)
  (cR:PySem.W.kitOne K (.ref ag) (.ref ao)=some false)
  (cU:PySem.W.kitOne K (.ref ag) (.ref au)=some false)
  (dB:PySem.W.kitOne K (.ref ag) (.ref aH)=some false)
  (cS:PySem.W.kitOne K (.ref ag) (.ref aC)=some false)
  (cg:PySem.W.kitOne K (.ref ag) (.ref ag)=some true)
  (cD:PySem.W.kitOne K (.ref ag) (.ref ak)=some false)
  (cW:PySem.W.kitOne K (.ref ag) (.ref aD)=some false)
  (dS:PySem.W.kitOne K (.ref ag) (.ref aJ)=some false)
  (kR:PySem.W.kitOne K (.ref ag) (.type "ValueError")=some true)
  (cO:PySem.W.subIn K (.ref ak) (.ref aG)=some true)
  (gE:PySem.W.kitOne K (.ref ak) (.ref aE)=some false)
  (gD:PySem.W.kitOne K (.ref ak) (.ref aF)=some false)
  (eO:PySem.W.kitOne K (.ref ak) (.ref aq)=some false)
  (eR:PySem.W.kitOne K (.ref ak) (.ref av)=some false)
  (eT:PySem.W.kitOne K (.ref ak) (.ref ay)=some false)
  (iR:PySem.W.kitOne K (.ref ak) (.ref aI)=some false)
  (eM:PySem.W.kitOne K (.ref ak) (.ref ao)=some false)
  (eQ:PySem.W.kitOne K (.ref ak) (.ref au)=some false)
  (gC:PySem.W.kitOne K (.ref ak) (.ref aH)=some false)
  (eN:PySem.W.kitOne K (.ref ak) (.ref aC)=some false)
  (cE:PySem.W.kitOne K (.ref ak) (.ref ag)=some false)
  (dW:PySem.W.kitOne K (.ref ak) (.ref ak)=some true)
  (eS:PySem.W.kitOne K (.ref ak) (.ref aD)=some false)
  (iS:PySem.W.kitOne K (.ref ak) (.ref aJ)=some false)
  (nr:PySem.W.kitOne K (.ref ak) (.type "ValueError")=some true)
  (dz:PySem.W.subIn K (.ref aD) (.ref aG)=some true)
  (iQ:PySem.W.kitOne K (.ref aD) (.ref aE)=some false)
  (iP:PySem.W.kitOne K (.ref aD) (.ref aF)=some false)
  (gu:PySem.W.kitOne K (.ref aD) (.ref aq)=some false)
  (gy:PySem.W.kitOne K (.ref aD) (.ref av)=some false)
  (gB:PySem.W.kitOne K (.ref aD) (.ref ay)=some false)
  (jR:PySem.W.kitOne K (.ref aD) (.ref aI)=some false)
  (gp:PySem.W.kitOne K (.ref aD) (.ref ao)=some false)
  (gx:PySem.W.kitOne K (.ref aD) (.ref au)=some false)
  (iO:PySem.W.kitOne K (.ref aD) (.ref aH)=some false)
  (gq:PySem.W.kitOne K (.ref aD) (.ref aC)=some false)
  (df:PySem.W.kitOne K (.ref aD) (.ref ag)=some false)
  (eL:PySem.W.kitOne K (.ref aD) (.ref ak)=some false)
  (gA:PySem.W.kitOne K (.ref aD) (.ref aD)=some true)
  (jS:PySem.W.kitOne K (.ref aD) (.ref aJ)=some false)
  (oW:PySem.W.kitOne K (.ref aD) (.type "ValueError")=some true)
  (eF:PySem.W.subIn K (.ref aJ) (.ref aG)=some true)
  (j9:PySem.W.kitOne K (.ref aJ) (.ref aE)=some false)
  (j8:PySem.W.kitOne K (.ref aJ) (.ref aF)=some false)
  (jA:PySem.W.kitOne K (.ref aJ) (.ref aq)=some false)
  (jC:PySem.W.kitOne K (.ref aJ) (.ref av)=some false)
  (jE:PySem.W.kitOne K (.ref aJ) (.ref ay)=some false)
  (kX:PySem.W.kitOne K (.ref aJ) (.ref aI)=some false)
  (jy:PySem.W.kitOne K (.ref aJ) (.ref ao)=some false)
  (jB:PySem.W.kitOne K (.ref aJ) (.ref au)=some false)
  (j7:PySem.W.kitOne K (.ref aJ) (.ref aH)=some false)
  (jz:PySem.W.kitOne K (.ref aJ) (.ref aC)=some false)
  (dU:PySem.W.kitOne K (.ref aJ) (.ref ag)=some false)
  (ie:PySem.W.kitOne K (.ref aJ) (.ref ak)=some false)
  (jD:PySem.W.kitOne K (.ref aJ) (.ref aD)=some false)
  (kY:PySem.W.kitOne K (.ref aJ) (.ref aJ)=some true)
  (uD:PySem.W.kitOne K (.ref aJ) (.type "ValueError")=some true)
  : ∃fd:FuncData,(∀(s:Shared) (v:Value),BindsTo s fd ⟨[v],[]⟩ [("_law_script",v)])/\∀base:Heap,K.In base->base.Ns mainGlobals mg->dI l.prog w K mg base mE 13 fa fd ["_law_script"] (Nt K):=by
 have e:=hfa.symm.trans (dY X G a22)
 cases e
 have F0:=bT (st:=mJ) l0 c0 k0
 have b0:=F0.binds (ps:=["thing"]) λ_ _ _ _ _ _=>SM λ_=>rfl
 have F1:=bT (st:=mH) l1 c1 k1
 have b1:=F1.binds (ps:=["thing"]) λ_ _ _ _ _ _=>SM λ_=>rfl
 have F2:=bT (st:=lJ) l2 c2 k2
 have b2:=F2.binds (ps:=["thing","deepest"]) λ_ _ _ _ _ _=>of2 λ_ _=>rfl
 have F3:=bT (st:=e6) l3 c3 k3
 have b3:=F3.binds (ps:=["word"]) λ_ _ _ _ _ _=>SM λ_=>rfl
 have F4:=bT (st:=lI) l4 c4 k4
 have b4:=F4.binds (ps:=["rule"]) λ_ _ _ _ _ _=>SM λ_=>rfl
 have F5:=bT (st:=e8) l5 c5 k5
 have b5:=F5.binds (ps:=["rule"]) λ_ _ _ _ _ _=>SM λ_=>rfl
 have F6:=bT (st:=kE) l6 c6 k6
 have b6:=F6.binds (ps:=["text"]) λ_ _ _ _ _ _=>SM λ_=>rfl
 have F7:=bT (st:=mG) l7 c7 k7
 have b7:=F7.binds (ps:=["words","place","deepest"]) λ_ _ _ _ _ _=>of3 λ_ _ _=>rfl
 have F8:=bT (st:=mF) l8 c8 k8
 have b8:=F8.binds (ps:=["words","place"]) λ_ _ _ _ _ _=>of2 λ_ _=>rfl
 have F9:=bT (st:=rM) l9 c9 k9
 have b9:=F9.binds (ps:=["rule","facts"]) λ_ _ _ _ _ _=>of2 λ_ _=>rfl
 have F10:=bT (st:=lH) l10 c10 k10
 have b10:=F10.binds (ps:=["rule","facts"]) λ_ _ _ _ _ _=>of2 λ_ _=>rfl
 have F11:=bT (st:=e4) l11 c11 k11
 have b11:=F11.binds (ps:=["word","one","other"]) λ_ _ _ _ _ _=>of3 λ_ _ _=>rfl
 have F12:=bT (st:=kJ) l12 c12 k12
 have b12:=F12.binds (ps:=["_law_script"]) λ_ _ _ _ _ _=>SM λ_=>rfl
 have F13:=bT (st:=kI) l13 c13 k13
 have b13:=F13.binds (ps:=["_law_hand_here"]) λ_ _ _ _ _ _=>SM λ_=>rfl
 have F14:=bT (st:=kG) l14 c14 vW
 have b14:=F14.binds (ps:=["_law_hand_here"]) λ_ _ _ _ _ _=>SM λ_=>rfl
 have F15:=bT (st:=kK) l15 c15 k15
 have b15:=F15.binds (ps:=["_law_hand_here","_law_many"]) λ_ _ _ _ _ _=>of2 λ_ _=>rfl
 have F16:=bT (st:=jg) l16 c16 k16
 have b16:=F16.binds (ps:=["_law_hand_here","_law_many"]) λ_ _ _ _ _ _=>of2 λ_ _=>rfl
 have F17:=bT (st:=jf) l17 c17 k17
 have b17:=F17.binds (ps:=["_law_door","_law_thing"]) λ_ _ _ _ _ _=>of2 λ_ _=>rfl
 have F18:=bT (st:=kL) l18 c18 k18
 have b18:=F18.binds (ps:=["_law_door","_law_thing"]) λ_ _ _ _ _ _=>of2 λ_ _=>rfl
 have F19:=bT (st:=jh) l19 c19 k19
 have b19:=F19.binds (ps:=["_law_e"]) λ_ _ _ _ _ _=>SM λ_=>rfl
 have F20:=bT (st:=ji) l20 c20 k20
 have b20:=F20.binds (ps:=["_law_e","_law_kinds_here"]) λ_ _ _ _ _ _=>of2 λ_ _=>rfl
 have F21:=bT (st:=kF) l21 c21 k21
 have b21:=F21.binds (ps:=["_law_door","_law_thing"]) λ_ _ _ _ _ _=>of2 λ_ _=>rfl
 have F22:=bT (st:=uy) l22 c22 k22
 have b22:=F22.binds (ps:=["_law_script"]) λ_ _ _ _ _ _=>SM λ_=>rfl
 have DG:=bT (st:=cC) CZ Dg Dd
 have Qw:=DG.binds (ps:=dq) λ_ _ _ _ _ _=>of2 λ_ _=>rfl
 have Dz:=bT (st:=cB) CW Df Dc
 have Qv:=Dz.binds (ps:=dn) λ_ _ _ _ _ _=>of2 λ_ _=>rfl
 have zW:=bT (st:=cv) zk zB zr
 have M4:=zW.binds (ps:=cJ) λ_ _ _ _ _ _=>of2 λ_ _=>rfl
 have zY:=bT (st:=cx) zm zD zu
 have M6:=zY.binds (ps:=cL) λ_ _ _ _ _ _=>of2 λ_ _=>rfl
 have zZ:=bT (st:=cy) zp zE zv
 have M7:=zZ.binds (ps:=cM) λ_ _ _ _ _ _=>of2 λ_ _=>rfl
 have J7:=bT (st:=dj) Jc Ju Jd
 have Ue:=J7.binds (ps:=dP) λ_ _ _ _ _ _=>of2 λ_ _=>rfl
 have zV:=bT (st:=cu) zj zA zq
 have M3:=zV.binds (ps:=cI) λ_ _ _ _ _ _=>of2 λ_ _=>rfl
 have zX:=bT (st:=cw) zl zC zt
 have M5:=zX.binds (ps:=cK) λ_ _ _ _ _ _=>of2 λ_ _=>rfl
 have T:Txt K mg ⟨_,_,_,_,_,_,_,_,_,_,_,_,_,_,_,_,_,_,_,_,_,_,_,_,_,_,_,_,_,_,_,_,_,_,_,_,_,_,_,_,_,_,_,_,_,_,_,_,_,_,_,_,_,_,_,_,_,_,_,_,_,_,_,_,_,_,_,_,_,_,_,_,_,_,_,_,_,_,_,_,_⟩:=⟨F0,b0,dY X G a0,F1,b1,dY X G a1,F2,b2,dY X G a2,F3,b3,dY X G a3,F4,b4,dY X G a4,F5,b5,dY X G a5,F6,b6,dY X G a6,F7,b7,dY X G a7,F8,b8,dY X G a8,F9,b9,dY X G a9,F10,b10,dY X G a10,F11,b11,dY X G a11,F12,b12,dY X G a12,F13,b13,dY X G a13,F14,b14,dY X G a14,F15,b15,dY X G a15,F16,b16,dY X G a16,F17,b17,dY X G a17,F18,b18,dY X G a18,F19,b19,dY X G a19,F20,b20,dY X G a20,F21,b21,dY X G a21,F22,b22,dY X G a22,qb X G mB,qb X G Nj,qb X G GK,qb X G aV,qb X G qh,qb X G Em,qb X G jc,qb X G Ni,qb X G uh,qb X G Bj,qb X G rB,dY X G lj,dY X G lZ,dY X G mD,dY X G lh,tab_of qF qx qB,dY X G sV,⟨sI,sH,sG,sF,sE,sD,Kf,Ke,sA⟩,nH,nI,bQ,bS,bP,dY X G Dy,⟨BR,BL,BG,Bx,Bu,Br,Kf,Ke,Bo⟩,nW,DG,Qw,nX,nY,rK,rO,dY X G Dw,⟨BM,BJ,By,Bv,Bs,Bp,Kf,Ke,Bm⟩,gR,gS,dY X G Dx,⟨BP,BK,Bz,Bw,Bt,Bq,Kf,Ke,Bn⟩,rV,Dz,Qv,rX,rY,rJ,rN,dY X G zP,⟨yH,yA,yr,yj,yc,xW,Kf,Ke,xP⟩,o4,zW,M4,ph,pA,oy,oJ,dY X G zR,⟨yJ,yC,yu,ym,ye,xY,Kf,Ke,xR⟩,o6,zY,M6,pk,pC,oA,oM,dY X G zT,⟨yL,yE,yw,yo,yg,x8,Kf,Ke,xT⟩,o8,zZ,M7,px,pD,oB,oN,dY X G zO,⟨yG,yz,yq,yi,yb,xV,Kf,Ke,xO⟩,oZ,pe,dY X G qU,⟨qt,qq,qp,qo,qm,ql,Kf,Ke,qj⟩,kZ,lg,dY X G wt,⟨vQ,vP,vO,vN,vM,vL,Kf,Ke,vK⟩,nu,ny,dY X G J2,⟨G8,G6,G4,G0,GX,GQ,Kf,Ke,GL⟩,uF,J7,Ue,uH,uJ,uk,uB,dY X G zS,⟨yK,yD,yv,yn,yf,xZ,Kf,Ke,xS⟩,o7,pw,dY X G zN,⟨yF,yx,yp,yh,x9,xU,Kf,Ke,xN⟩,oY,zV,M3,pd,pz,ow,oI,dY X G zQ,⟨yI,yB,yt,yk,yd,xX,Kf,Ke,xQ⟩,o5,zX,M5,pj,pB,oz,oK,dY X G J3,⟨G9,G7,G5,G3,GZ,GR,Kf,Ke,GP⟩,uG,uI,dM,jx,jw,hV,ia,ic,j5,hJ,hX,jv,hU,dE,fF,ib,j6,rR,dO,jO,jN,iG,iI,iK,ke,iE,iH,jM,iF,dG,fX,iJ,kf,rT,dN,jL,jK,iz,iB,iD,kb,iw,iA,jJ,iy,dF,fW,iC,kc,rS,dv,il,ik,fJ,fL,fN,jF,fG,fK,ig,fH,cZ,eI,fM,jG,oS,dy,iN,iM,gd,gi,gk,jP,fY,gh,iL,fZ,de,eK,gj,jQ,oV,dA,iV,iU,gI,gK,gM,jT,gF,gJ,iT,gH,dg,eU,gL,jU,oX,eD,j4,j3,jn,jq,js,kS,jl,jo,j0,jm,dQ,g6,jr,kW,uC,dr,g0,gZ,fk,fq,fu,jj,fi,fo,gY,fj,cQ,eG,ft,jk,oQ,dw,iu,iq,fQ,fT,fV,jH,fO,fS,ip,fP,dc,eJ,fU,jI,oU,du,g9,g8,fA,fC,fE,jt,fw,fB,g7,fz,cY,eH,fD,ju,oR,ck,dD,dC,cT,cV,cX,dR,cR,cU,dB,cS,cg,cD,cW,dS,kR,cO,gE,gD,eO,eR,eT,iR,eM,eQ,gC,eN,cE,dW,eS,iS,nr,dz,iQ,iP,gu,gy,gB,jR,gp,gx,iO,gq,df,eL,gA,jS,oW,eF,j9,j8,jA,jC,jE,kX,jy,jB,j7,jz,dU,ie,jD,kY,uD⟩
 exact⟨PySem.W.fnOf "law" "law" (bA uy) (bj uy) (aA uy) .none aAP aA6 aAv aBA Zu aA8,λs v=>.of_eq rfl,λbase _ _=>Yw (P:=l.prog) (w:=w) (base:=base) T⟩
theorem walk{l:PySem.W.OpenLaw}{q:Program}{loose:List Str}{XP:(Str->Option Value)->Heap->Prop}{YP:World->Heap->Prop}{d:DefRec}{K:Params->PySem.W.Frag}(hn:l.most=some 63)(hdf:d.params.defaults=[])
  (hY:∀(w:World) (h:Heap),YP w h->(K w.params).In h)
  (F:∀(w:World) (mg:Str->Option Value) (fa:Addr) (h:Heap),(K w.params).In h->h.Ns mainGlobals mg->mg d.name=some (.ref fa)->
   ∃fd:FuncData,(∀(s:Shared) (u:Value),BindsTo s fd ⟨[u],[]⟩ [("_law_script",u)])/\∀base:Heap,(K w.params).In base->base.Ns mainGlobals mg->dI l.prog w (K w.params) mg base mE 13 fa fd ["_law_script"] (Nt (K w.params))) :
  PySem.W.WalkO q loose XP YP l.row.toRowW d [] (λf vs=>PySem.call f vs):=
 L2.Uv (n:=63) (k:=13) (x:="_law_script") (CX:=λ_=>mE) (sp:=λw=>Nt (K w.params)) hn (by decide) hdf ⟨rfl,by decide,by decide⟩ hY F (λ_ _ a ns hl _ hS=>⟨a,ns,rfl,hS,hl,λ_=>rfl⟩) λ_ _ _ _ _ z=>z
end
end My
open PySem PySem.W PyProof.Rows
local macro_rules | `(tactic| o_head $H:term) => `(tactic| (
  refine holds_open (q := My.view) (loose := [PySem.Str.ofString "RULES_BEHIND"]) (Xt := (fun s => xlAt My.view [] s && recOk (RowW.records (OpenRow.toRowW PySem.Challenge.rw_truceroll_k19_refusals_apart.row)) s)) (XP := XL My.view []) (Yf := Hook.obs $H) (Ya := Hook.val $H) (YP := Hook.says $H) (N := 40000) ?hl (Hook.of $H) (Hook.keeps $H) (fun s e => xl_of s (Bool.and_eq_true_iff.mp e).1) XL.keeps (by rfl) (by rfl) (by rfl) (fun s e => recFacts_of (Bool.and_eq_true_iff.mp e).2) (by rfl) (by first | assumption | decide +kernel) (by decide +kernel) ⟨rfl, rfl, rfl, rfl, rfl, by decide +kernel⟩ ?hw ?hc
  case hl => exact My.left))
theorem PySem.Challenge.cw_truceroll_k19_refusals_apart_holds : PySem.Challenge.rw_truceroll_k19_refusals_apart.Holds := by
 w_on;o_law;o_head (kHook My.h0.heap_1 My.as (λ_=>by kernel_rfl));(case hw=>w_witness2)
 k_fill
 refine My.walk (l:=PySem.Challenge.rw_truceroll_k19_refusals_apart) rfl rfl (λw h Y=>PySem.W.kIn_of Y) ?F
 case F=>
  intro w mg fa h KX G hmg
  refine' My.all_mk KX G hmg ?a0 ?l0 ?c0 ?k0 ?a1 ?l1 ?c1 ?k1 ?a2 ?l2 ?c2 ?k2 ?a3 ?l3 ?c3 ?k3 ?a4 ?l4 ?c4 ?k4 ?a5 ?l5 ?c5 ?k5 ?a6 ?l6 ?c6 ?k6 ?a7 ?l7 ?c7 ?k7 ?a8 ?l8 ?c8 ?k8 ?a9 ?l9 ?c9 ?k9 ?a10 ?l10 ?c10 ?k10 ?a11 ?l11 ?c11 ?k11 ?a12 ?l12 ?c12 ?k12 ?a13 ?l13 ?c13 ?k13 ?a14 ?l14 ?c14 ?vW ?a15 ?l15 ?c15 ?k15 ?a16 ?l16 ?c16 ?k16 ?a17 ?l17 ?c17 ?k17 ?a18 ?l18 ?c18 ?k18 ?a19 ?l19 ?c19 ?k19 ?a20 ?l20 ?c20 ?k20 ?a21 ?l21 ?c21 ?k21 ?a22 ?l22 ?c22 ?k22 ?mB ?Nj ?GK ?aV ?qh ?Em ?jc ?Ni ?uh ?Bj ?rB ?lj ?lZ ?mD ?lh ?qF ?qx ?qB ?Kf ?Ke ?sV ?sI ?sH ?sG ?sF ?sE ?sD ?sA ?Dy ?BR ?BL ?BG ?Bx ?Bu ?Br ?Bo ?Dw ?BM ?BJ ?By ?Bv ?Bs ?Bp ?Bm ?Dx ?BP ?BK ?Bz ?Bw ?Bt ?Bq ?Bn ?zP ?yH ?yA ?yr ?yj ?yc ?xW ?xP ?zR ?yJ ?yC ?yu ?ym ?ye ?xY ?xR ?zT ?yL ?yE ?yw ?yo ?yg ?x8 ?xT ?zO ?yG ?yz ?yq ?yi ?yb ?xV ?xO ?qU ?qt ?qq ?qp ?qo ?qm ?ql ?qj ?wt ?vQ ?vP ?vO ?vN ?vM ?vL ?vK ?J2 ?G8 ?G6 ?G4 ?G0 ?GX ?GQ ?GL ?zS ?yK ?yD ?yv ?yn ?yf ?xZ ?xS ?zN ?yF ?yx ?yp ?yh ?x9 ?xU ?xN ?zQ ?yI ?yB ?yt ?yk ?yd ?xX ?xQ ?J3 ?G9 ?G7 ?G5 ?G3 ?GZ ?GR ?GP ?nH ?nI ?bQ ?bS ?bP ?nW ?CZ ?Dg ?Dd ?nX ?nY ?rK ?rO ?gR ?gS ?rV ?CW ?Df ?Dc ?rX ?rY ?rJ ?rN ?o4 ?zk ?zB ?zr ?ph ?pA ?oy ?oJ ?o6 ?zm ?zD ?zu ?pk ?pC ?oA ?oM ?o8 ?zp ?zE ?zv ?px ?pD ?oB ?oN ?oZ ?pe ?kZ ?lg ?nu ?ny ?uF ?Jc ?Ju ?Jd ?uH ?uJ ?uk ?uB ?o7 ?pw ?oY ?zj ?zA ?zq ?pd ?pz ?ow ?oI ?o5 ?zl ?zC ?zt ?pj ?pB ?oz ?oK ?uG ?uI ?dM ?jx ?jw ?hV ?ia ?ic ?j5 ?hJ ?hX ?jv ?hU ?dE ?fF ?ib ?j6 ?rR ?dO ?jO ?jN ?iG ?iI ?iK ?ke ?iE ?iH ?jM ?iF ?dG ?fX ?iJ ?kf ?rT ?dN ?jL ?jK ?iz ?iB ?iD ?kb ?iw ?iA ?jJ ?iy ?dF ?fW ?iC ?kc ?rS ?dv ?il ?ik ?fJ ?fL ?fN ?jF ?fG ?fK ?ig ?fH ?cZ ?eI ?fM ?jG ?oS ?dy ?iN ?iM ?gd ?gi ?gk ?jP ?fY ?gh ?iL ?fZ ?de ?eK ?gj ?jQ ?oV ?dA ?iV ?iU ?gI ?gK ?gM ?jT ?gF ?gJ ?iT ?gH ?dg ?eU ?gL ?jU ?oX ?eD ?j4 ?j3 ?jn ?jq ?js ?kS ?jl ?jo ?j0 ?jm ?dQ ?g6 ?jr ?kW ?uC ?dr ?g0 ?gZ ?fk ?fq ?fu ?jj ?fi ?fo ?gY ?fj ?cQ ?eG ?ft ?jk ?oQ ?dw ?iu ?iq ?fQ ?fT ?fV ?jH ?fO ?fS ?ip ?fP ?dc ?eJ ?fU ?jI ?oU ?du ?g9 ?g8 ?fA ?fC ?fE ?jt ?fw ?fB ?g7 ?fz ?cY ?eH ?fD ?ju ?oR ?ck ?dD ?dC ?cT ?cV ?cX ?dR ?cR ?cU ?dB ?cS ?cg ?cD ?cW ?dS ?kR ?cO ?gE ?gD ?eO ?eR ?eT ?iR ?eM ?eQ ?gC ?eN ?cE ?dW ?eS ?iS ?nr ?dz ?iQ ?iP ?gu ?gy ?gB ?jR ?gp ?gx ?iO ?gq ?df ?eL ?gA ?jS ?oW ?eF ?j9 ?j8 ?jA ?jC ?jE ?kX ?jy ?jB ?j7 ?jz ?dU ?ie ?jD ?kY ?uD
  all_goals (first | k_is | rfl | skip)
  all_goals (first | k_is | rfl | skip)
