import PyProof.Rows.All
import Wide.All
import OpenK.AllK
import Wide.FinOn
import Lean
import PyProof.EqAt
import PyProof.EqKinds
import PyProof.TupleCall
import PySem.Challenge.RW_truceroll_k48_whole_good_trees_alone
set_option Elab.async false
set_option linter.all false
set_option maxRecDepth 100000
set_option maxHeartbeats 0
def bw:=@List.getElem?_eq_getElem
def aP:=@List.length_map
def cT:=@List.size_toArray
def dR:=@List.length_append
def dc:=@List.map_append
def gI:=@PySem.Heap.get?_push_of_some
def fN:=@Nat.lt_of_lt_of_le
def ib:=@Nat.le_of_ble_eq_true
def cu:=@Nat.le_refl
def fO:=@List.getElem?_map
def fP:=@List.getElem?_eq_some_iff
def cR:=@List.length_cons
def dQ:=@Bool.false_ne_true
def bS:=@PySem.Heap.lt_size
def bG:=@PySem.wpAny_bind
def fw:=@PySem.mem_of_lookup
def cq:=@Nat.le_trans
def dS:=@List.lookup_cons
def dP:=@Option.some.inj
def cQ:=@PySem.W.mg_of
def eO:=@Bool.and_eq_true
def aO:=@if_neg
def aR:=@if_pos
def iF:=@List.mem_cons_of_mem
def cn:=@PySem.wpAny_pure
def cZ:=@Nat.ne_of_lt
def ja:=@List.mem_append_right
def fu:=@List.mem_append
def lQ:=@List.getElem?_append_right
def nI:=@List.getD_eq_getElem?_getD
def iZ:=@PySem.Heap.get?_push_size
def ft:=@List.mem_cons
def jM:=@PySem.W.mg_none_of
def nH:=@PySem.F.plainAttrs_list
def ou:=@List.getElem?_append_left
def iY:=@beq_self_eq_true
def iX:=@List.all_eq_true
def ot:=@PySem.F.type_list_append
def oq:=@PySem.F.slot_list_append
def nF:=@List.length_filter_le
def iW:=@List.mem_filter
def iV:=@Bool.eq_iff_iff
def nE:=@List.mem_singleton
def nC:=@List.mem_cons_self
def nB:=@decide_eq_true_eq
def nA:=@List.take_add_one
def jL:=@List.map_cons
def jK:=@Bool.true_and
def gi:=@PySem.wpAny_mono
def lP:=@PySem.W.kia_one
def nz:=@List.length_take
def ny:=@List.getElem_mem
def lr:=@Nat.lt_irrefl
def du:=@Iff.rfl
def qP:=@List.length_replicate
def oo:=@List.take_length
def nv:=@PySem.PassesOwn.never
def qO:=@List.mem_of_getElem?
def qN:=@List.mem_iff_getElem
def qM:=@List.mem_append_left
def om:=@List.append_nil
def lq:=@Nat.zero_le
def qL:=@Nat.lt_of_le_of_lt
def oj:=@Bool.false_and
def qK:=@Int.toNat_natCast
def tD:=@beq_eq_false_iff_ne
def tu:=@decide_eq_true_iff
def oi:=@List.mem_map
def iU:=@congrArg
def vO:=@List.length_singleton
def tq:=@Option.some.injEq
def qJ:=@PySem.wpAny_passesOwn
def pO:=@List.map_map
def tj:=@List.any_eq_true
def sZ:=@PySem.wpAny_newObj_type
def vN:=@List.filterMap_cons
def qI:=@PySem.Heap.size_push
def qH:=@Nat.le_of_lt
def y7:=@List.length_pos_of_mem
def Cm:=@PyProof.Rows.slot_tuple_getitem
def y4:=@List.getElem?_eq_none
def vM:=@Nat.lt_succ_self
def lj:=@Ne.symm
def sY:=@List.any_cons
def vL:=@PySem.wpAny_truthy_bool
def y3:=@Nat.pow_le_pow_right
def Ck:=@List.eq_nil_of_length_eq_zero
def y0:=@Int.toNat_of_nonneg
def Cj:=@PyProof.Rows.callWith_type1
def sX:=@List.all_map
def vK:=@List.mem_range
def yZ:=@List.filter_append
def yX:=@PySem.Heap.get?_none_of_le
def sW:=@Nat.le_succ
def Ci:=@PySem.F.args_tuple_add_2
def vJ:=@List.all_cons
def yW:=@PySem.wpAny_Call_Name_kw
def Cg:=@PySem.F.entry_tuple_add
def Ce:=@List.getElem?_replicate
def Cd:=@PySem.F.slot_tuple_add
def qS:=@Nat.ne_of_gt
def uy:=@List.nodup_cons
def ux:=@List.foldl_cons
def uw:=@Int.natCast_pow
def uv:=@Bool.or_eq_true
def xC:=@PySem.wpAny_comprehension_free
def lR:=@if_true
def xB:=@PySem.W.plainGet_of
def xA:=@Array.length_toList
def ur:=@PySem.wpAny_execs_nil
def xu:=@PySem.W.callWith_K
def qR:=@PySem.sizeLine_eq
def qQ:=@PySem.seqIndex_of
def xt:=@Nat.or_lt_two_pow
def uq:=@Nat.le_of_eq
def xr:=@List.length_range
def uo:=@List.any_map
def xq:=@decide_eq_decide
def xm:=@Nat.le_of_not_lt
def xl:=@List.getElem_zip
def xk:=@Bool.not_eq_true
def um:=@PySem.wpAny_holding
def uk:=@Int.one_mul
namespace L2
open PySem
def bA(s:Stmt):Arguments:=match s with
 | .FunctionDef _ a _ _ _ _ _ _ _ _=>a
 | _=>{ posonlyargs:=[],args:=[],vararg:=none,kwonlyargs:=[],kw_defaults:=[],kwarg:=none,defaults:=[] }
def bf(s:Stmt):List Stmt:=match s with
 | .FunctionDef _ _ b _ _ _ _ _ _ _=>b
 | _=>[]
def av(s:Stmt):Scope:=match s with
 | .FunctionDef _ _ _ _ _ _ sc _ _ _=>sc
 | _=>{ kind:=.function,names:=[],isGenerator:=false,isCoroutine:=false }
def Jk(s:Stmt)(j:Nat):Stmt:=match s with
 | .ClassDef _ _ _ b _ _ _ _ _ _ _=>b.getD j (.Pass ⟨0,0,0,0⟩)
 | _=>.Pass ⟨0,0,0,0⟩
end L2
namespace My
open PySem L2
def top(i:Nat):Stmt:=PySem.Challenge.pw_truceroll_k48_whole_good_trees_alone.main.body.getD i (.Pass ⟨0,0,0,0⟩)
abbrev bZ:Stmt:=top 1
abbrev fA:Stmt:=top 2
abbrev jX:Stmt:=top 4
abbrev iz:Stmt:=top 5
abbrev iw:Stmt:=top 6
abbrev iy:Stmt:=top 8
abbrev fG:Stmt:=top 11
abbrev fE:Stmt:=top 12
abbrev fC:Stmt:=top 13
abbrev fJ:Stmt:=top 14
abbrev cF:Stmt:=top 15
abbrev dD:Stmt:=top 16
abbrev cW:Stmt:=top 17
abbrev iA:Stmt:=top 18
abbrev eM:Stmt:=top 19
abbrev cG:Stmt:=top 21
abbrev fD:Stmt:=top 22
abbrev eN:Stmt:=top 23
abbrev fH:Stmt:=top 24
abbrev fF:Stmt:=top 25
abbrev fI:Stmt:=top 26
abbrev fB:Stmt:=top 27
abbrev eL:Stmt:=top 28
abbrev cX:Stmt:=top 29
abbrev gu:Stmt:=top 30
abbrev tM:Stmt:=top 31
abbrev bJ:Stmt:=Jk (top 9) 0
abbrev bM:Stmt:=Jk (top 9) 1
inductive Pk (K:PySem.W.Frag):Prop
 | mk {f0 f1 f2 f3 f4 f5 f6 f7 f8 f9 Xr Xq Xp Xo Xn Xm Xl Xk Xj Xi Xh Xg Xf Xe Xd Xc:Addr}
  {od0 an0 od1 an1 od2 an2 od3 an3 od4 an4 od5 an5 od6 an6 od7 an7 od8 an8 od9 an9 Uj Zd Ui Zc Uh Zb Ug Za Ue Y9 Ud Y8 Uc Y7 Ub Y6 Ua Y5 T9 Y4 T8 Y3 T7 Y2 T6 Y1 T5 Y0 T4 YZ T3 YX:Option Addr} {sl0 sl1 MN sl3 sl4 sl5 sl6 sl7 sl8 sl9 S4 S3 S2 S1 S0 SX SQ SN SM SJ SF Sz Sy Sx Sw Sv:Array (Option Value)} {oc0 kV0 dc0 pm0 cd0 ct0 oc1 kV1 dc1 pm1 cd1 ct1 oc2 kV2 dc2 pm2 cd2 ct2 oc3 kV3 dc3 pm3 cd3 ct3 oc4 kV4 dc4 pm4 cd4 ct4 oc5 kV5 dc5 pm5 cd5 ct5 oc6 kV6 dc6 pm6 cd6 ct6 oc7 kV7 dc7 pm7 cd7 ct7 oc8 kV8 dc8 pm8 cd8 ct8 oc9 kV9 dc9 pm9 cd9 ct9 UJ Vz X4 TX QB Yq UG Vy X3 TV Qz Yp Uz Vx X2 TQ Qy Yo Uy Vw X1 TL Qx Yn Ux Vv XZ TK Qw Ym Uw Vu XT TJ Qv Yl Uv Vt XS TF Qu Yk Uu Vs XR TB Qt Yj Ut Vr XQ Tz Qs Yi Us Vq XM Tx Qr Yh Ur Vp XJ Tw Qq Yg Uq Vo XH Tv Qp Ye Uo Vn XF Tt Qo Yd Um Vm XD Ts Qn Yc Ul Vl XC Tq Qm Yb Uk Vk XB Tp Ql X9:Value}
  (a0:PySem.W.nsIn K mainGlobals "is_whole_number" = some (some (.ref f0))) (l0:K.lookup f0=some ⟨oc0,od0,.func (PySem.W.fnOf "is_whole_number" "is_whole_number" (bA bZ) (bf bZ) (av bZ) .none kV0 dc0 pm0 an0 cd0 ct0),sl0⟩) (c0:PySem.W.codeIn K cd0 "is_whole_number" = true) (k0:PySem.W.keepIn K (.ref f0)=true)
  (a1:PySem.W.nsIn K mainGlobals "is_worded" = some (some (.ref f1))) (l1:K.lookup f1=some ⟨oc1,od1,.func (PySem.W.fnOf "is_worded" "is_worded" (bA fA) (bf fA) (av fA) .none kV1 dc1 pm1 an1 cd1 ct1),sl1⟩) (c1:PySem.W.codeIn K cd1 "is_worded" = true) (k1:PySem.W.keepIn K (.ref f1)=true)
  (a2:PySem.W.nsIn K mainGlobals "is_set" = some (some (.ref f2))) (l2:K.lookup f2=some ⟨oc2,od2,.func (PySem.W.fnOf "is_set" "is_set" (bA jX) (bf jX) (av jX) .none kV2 dc2 pm2 an2 cd2 ct2),MN⟩) (c2:PySem.W.codeIn K cd2 "is_set" = true) (k2:PySem.W.keepIn K (.ref f2)=true)
  (a3:PySem.W.nsIn K mainGlobals "is_part" = some (some (.ref f3))) (l3:K.lookup f3=some ⟨oc3,od3,.func (PySem.W.fnOf "is_part" "is_part" (bA iz) (bf iz) (av iz) .none kV3 dc3 pm3 an3 cd3 ct3),sl3⟩) (c3:PySem.W.codeIn K cd3 "is_part" = true) (k3:PySem.W.keepIn K (.ref f3)=true)
  (a4:PySem.W.nsIn K mainGlobals "rest_of" = some (some (.ref f4))) (l4:K.lookup f4=some ⟨oc4,od4,.func (PySem.W.fnOf "rest_of" "rest_of" (bA iw) (bf iw) (av iw) .none kV4 dc4 pm4 an4 cd4 ct4),sl4⟩) (c4:PySem.W.codeIn K cd4 "rest_of" = true) (k4:PySem.W.keepIn K (.ref f4)=true)
  (a5:PySem.W.nsIn K mainGlobals "is_tree" = some (some (.ref f5))) (l5:K.lookup f5=some ⟨oc5,od5,.func (PySem.W.fnOf "is_tree" "is_tree" (bA iy) (bf iy) (av iy) .none kV5 dc5 pm5 an5 cd5 ct5),sl5⟩) (c5:PySem.W.codeIn K cd5 "is_tree" = true) (k5:PySem.W.keepIn K (.ref f5)=true)
  (a6:PySem.W.nsIn K mainGlobals "_law_hand" = some (some (.ref f6))) (l6:K.lookup f6=some ⟨oc6,od6,.func (PySem.W.fnOf "_law_hand" "_law_hand" (bA fG) (bf fG) (av fG) .none kV6 dc6 pm6 an6 cd6 ct6),sl6⟩) (c6:PySem.W.codeIn K cd6 "_law_hand" = true) (k6:PySem.W.keepIn K (.ref f6)=true)
  (a7:PySem.W.nsIn K mainGlobals "_law_next" = some (some (.ref f7))) (l7:K.lookup f7=some ⟨oc7,od7,.func (PySem.W.fnOf "_law_next" "_law_next" (bA fE) (bf fE) (av fE) .none kV7 dc7 pm7 an7 cd7 ct7),sl7⟩) (c7:PySem.W.codeIn K cd7 "_law_next" = true) (k7:PySem.W.keepIn K (.ref f7)=true)
  (a8:PySem.W.nsIn K mainGlobals "_law_take" = some (some (.ref f8))) (l8:K.lookup f8=some ⟨oc8,od8,.func (PySem.W.fnOf "_law_take" "_law_take" (bA fC) (bf fC) (av fC) .none kV8 dc8 pm8 an8 cd8 ct8),sl8⟩) (c8:PySem.W.codeIn K cd8 "_law_take" = true) (k8:PySem.W.keepIn K (.ref f8)=true)
  (a9:PySem.W.nsIn K mainGlobals "_law_draw" = some (some (.ref f9))) (l9:K.lookup f9=some ⟨oc9,od9,.func (PySem.W.fnOf "_law_draw" "_law_draw" (bA fJ) (bf fJ) (av fJ) .none kV9 dc9 pm9 an9 cd9 ct9),sl9⟩) (c9:PySem.W.codeIn K cd9 "_law_draw" = true) (k9:PySem.W.keepIn K (.ref f9)=true)
  (Zw:PySem.W.nsIn K mainGlobals "_law_is_whole" = some (some (.ref Xr))) (l10:K.lookup Xr=some ⟨UJ,Uj,.func (PySem.W.fnOf "_law_is_whole" "_law_is_whole" (bA cF) (bf cF) (av cF) .none Vz X4 TX Zd QB Yq),S4⟩) (YJ:PySem.W.codeIn K QB "_law_is_whole" = true) (Ji:PySem.W.keepIn K (.ref Xr)=true)
  (Zv:PySem.W.nsIn K mainGlobals "_law_is_set" = some (some (.ref Xq))) (Vi:K.lookup Xq=some ⟨UG,Ui,.func (PySem.W.fnOf "_law_is_set" "_law_is_set" (bA dD) (bf dD) (av dD) .none Vy X3 TV Zc Qz Yp),S3⟩) (YH:PySem.W.codeIn K Qz "_law_is_set" = true) (Gg:PySem.W.keepIn K (.ref Xq)=true)
  (Zu:PySem.W.nsIn K mainGlobals "_law_members" = some (some (.ref Xp))) (Vh:K.lookup Xp=some ⟨Uz,Uh,.func (PySem.W.fnOf "_law_members" "_law_members" (bA cW) (bf cW) (av cW) .none Vx X2 TQ Zb Qy Yo),S2⟩) (YG:PySem.W.codeIn K Qy "_law_members" = true) (HB:PySem.W.keepIn K (.ref Xp)=true)
  (Zt:PySem.W.nsIn K mainGlobals "_law_by" = some (some (.ref Xo))) (Vg:K.lookup Xo=some ⟨Uy,Ug,.func (PySem.W.fnOf "_law_by" "_law_by" (bA iA) (bf iA) (av iA) .none Vw X1 TL Za Qx Yn),S1⟩) (YF:PySem.W.codeIn K Qx "_law_by" = true) (VP:PySem.W.keepIn K (.ref Xo)=true)
  (Zr:PySem.W.nsIn K mainGlobals "_law_masks" = some (some (.ref Xn))) (Vf:K.lookup Xn=some ⟨Ux,Ue,.func (PySem.W.fnOf "_law_masks" "_law_masks" (bA eM) (bf eM) (av eM) .none Vv XZ TK Y9 Qw Ym),S0⟩) (YD:PySem.W.codeIn K Qw "_law_masks" = true) (Gf:PySem.W.keepIn K (.ref Xn)=true)
  (Zq:PySem.W.nsIn K mainGlobals "_law_greatest" = some (some (.ref Xm))) (Ve:K.lookup Xm=some ⟨Uw,Ud,.func (PySem.W.fnOf "_law_greatest" "_law_greatest" (bA cG) (bf cG) (av cG) .none Vu XT TJ Y8 Qv Yl),SX⟩) (YC:PySem.W.codeIn K Qv "_law_greatest" = true) (Ba:PySem.W.keepIn K (.ref Xm)=true)
  (Zo:PySem.W.nsIn K mainGlobals "_law_pair" = some (some (.ref Xl))) (Vd:K.lookup Xl=some ⟨Uv,Uc,.func (PySem.W.fnOf "_law_pair" "_law_pair" (bA fD) (bf fD) (av fD) .none Vt XS TF Y7 Qu Yk),SQ⟩) (c16:PySem.W.codeIn K Qu "_law_pair" = true) (VN:PySem.W.keepIn K (.ref Xl)=true)
  (Zn:PySem.W.nsIn K mainGlobals "_law_lists" = some (some (.ref Xk))) (Vc:K.lookup Xk=some ⟨Uu,Ub,.func (PySem.W.fnOf "_law_lists" "_law_lists" (bA eN) (bf eN) (av eN) .none Vs XR TB Y6 Qt Yj),SN⟩) (YB:PySem.W.codeIn K Qt "_law_lists" = true) (VM:PySem.W.keepIn K (.ref Xk)=true)
  (Zm:PySem.W.nsIn K mainGlobals "_law_good" = some (some (.ref Xj))) (Vb:K.lookup Xj=some ⟨Ut,Ua,.func (PySem.W.fnOf "_law_good" "_law_good" (bA fH) (bf fH) (av fH) .none Vr XQ Tz Y5 Qs Yi),SM⟩) (Yz:PySem.W.codeIn K Qs "_law_good" = true) (VL:PySem.W.keepIn K (.ref Xj)=true)
  (Zk:PySem.W.nsIn K mainGlobals "_law_more" = some (some (.ref Xi))) (Va:K.lookup Xi=some ⟨Us,T9,.func (PySem.W.fnOf "_law_more" "_law_more" (bA fF) (bf fF) (av fF) .none Vq XM Tx Y4 Qr Yh),SJ⟩) (Yy:PySem.W.codeIn K Qr "_law_more" = true) (VJ:PySem.W.keepIn K (.ref Xi)=true)
  (Zj:PySem.W.nsIn K mainGlobals "_law_ends" = some (some (.ref Xh))) (U9:K.lookup Xh=some ⟨Ur,T8,.func (PySem.W.fnOf "_law_ends" "_law_ends" (bA fI) (bf fI) (av fI) .none Vp XJ Tw Y3 Qq Yg),SF⟩) (Yx:PySem.W.codeIn K Qq "_law_ends" = true) (VH:PySem.W.keepIn K (.ref Xh)=true)
  (Zi:PySem.W.nsIn K mainGlobals "_law_tree" = some (some (.ref Xg))) (U8:K.lookup Xg=some ⟨Uq,T7,.func (PySem.W.fnOf "_law_tree" "_law_tree" (bA fB) (bf fB) (av fB) .none Vo XH Tv Y2 Qp Ye),Sz⟩) (Yw:PySem.W.codeIn K Qp "_law_tree" = true) (VG:PySem.W.keepIn K (.ref Xg)=true)
  (Zh:PySem.W.nsIn K mainGlobals "_law_other" = some (some (.ref Xf))) (U7:K.lookup Xf=some ⟨Uo,T6,.func (PySem.W.fnOf "_law_other" "_law_other" (bA eL) (bf eL) (av eL) .none Vn XF Tt Y1 Qo Yd),Sy⟩) (Yv:PySem.W.codeIn K Qo "_law_other" = true) (VF:PySem.W.keepIn K (.ref Xf)=true)
  (Zg:PySem.W.nsIn K mainGlobals "_law_changed" = some (some (.ref Xe))) (U6:K.lookup Xe=some ⟨Um,T5,.func (PySem.W.fnOf "_law_changed" "_law_changed" (bA cX) (bf cX) (av cX) .none Vm XD Ts Y0 Qn Yc),Sx⟩) (Yu:PySem.W.codeIn K Qn "_law_changed" = true) (VD:PySem.W.keepIn K (.ref Xe)=true)
  (Zf:PySem.W.nsIn K mainGlobals "_law_far" = some (some (.ref Xd))) (U5:K.lookup Xd=some ⟨Ul,T4,.func (PySem.W.fnOf "_law_far" "_law_far" (bA gu) (bf gu) (av gu) .none Vl XC Tq YZ Qm Yb),Sw⟩) (Yt:PySem.W.codeIn K Qm "_law_far" = true) (M3:PySem.W.keepIn K (.ref Xd)=true)
  (RX:PySem.W.nsIn K mainGlobals "law" = some (some (.ref Xc))) (U4:K.lookup Xc=some ⟨Uk,T3,.func (PySem.W.fnOf "law" "law" (bA tM) (bf tM) (av tM) .none Vk XB Tp YX Ql X9),Sv⟩) (Ys:PySem.W.codeIn K Ql "law" = true) (VB:PySem.W.keepIn K (.ref Xc)=true)
  (vR:PySem.W.nsIn K mainGlobals "abs" = some none)
  (lu:PySem.W.nsIn K mainGlobals "all" = some none)
  (qU:PySem.W.nsIn K mainGlobals "any" = some none)
  (lT:PySem.W.nsIn K mainGlobals "bool" = some none)
  (tH:PySem.W.nsIn K mainGlobals "int" = some none)
  (bq:PySem.W.nsIn K mainGlobals "isinstance" = some none)
  (bY:PySem.W.nsIn K mainGlobals "len" = some none)
  (gq:PySem.W.nsIn K mainGlobals "list" = some none)
  (vQ:PySem.W.nsIn K mainGlobals "max" = some none)
  (eH:PySem.W.nsIn K mainGlobals "range" = some none)
  (lS:PySem.W.nsIn K mainGlobals "sorted" = some none)
  (tG:PySem.W.nsIn K mainGlobals "str" = some none)
  (eG:PySem.W.nsIn K mainGlobals "tuple" = some none)
  {aL:Addr} {bj:Addr} {bC:Addr}
  (jz:PySem.W.nsIn K mainGlobals "TreeReader" = some (some (.ref aL)))
  (jD:PySem.W.plainGet K aL Str.empty=true)
  (jC:PySem.W.hasDictIn K aL=true)
  (jB:PySem.W.plainOver K aL=true)
  (jA:PySem.W.findIn K (.ref aL) "__setattr__" = some (some (.builtin "object.__setattr__")))
  (eS:PySem.W.findIn K (.ref aL) "whole" = some none)
  (cO:PySem.W.findIn K (.ref aL) "clash_list" = some none)
  (cN:PySem.W.findIn K (.ref aL) "peace_list" = some none)
  (jy:PySem.W.makesIn K aL=true)
  (jx:PySem.W.findIn K (.ref aL) "__init__" = some (some (.ref bj)))
  (jw:PySem.W.isFn K (.ref bj)=true)
  (jv:PySem.W.keepIn K (.ref aL)=true)
  {jR jW:Option Addr} {jP:Array (Option Value)} {jS jT jU jQ fz jV:Value}
  (dh:K.lookup bj=some ⟨jS,jR,.func (PySem.W.fnOf "__init__" "TreeReader.__init__" (bA bJ) (bf bJ) (av bJ) .none jT jU jQ jW fz jV),jP⟩)
  (dj:PySem.W.codeIn K fz "TreeReader.__init__" = true)
  (di:PySem.W.keepIn K (.ref bj)=true)
  (dH:PySem.W.findIn K (.ref aL) "lets_by" = some (some (.ref bC)))
  (dG:PySem.W.isFn K (.ref bC)=true)
  {kh ku:Option Addr} {kf:Array (Option Value)} {kj kl ko kg fS kr:Value}
  (dI:K.lookup bC=some ⟨kj,kh,.func (PySem.W.fnOf "lets_by" "TreeReader.lets_by" (bA bM) (bf bM) (av bM) .none kl ko kg ku fS kr),kf⟩)
  (dJ:PySem.W.codeIn K fS "TreeReader.lets_by" = true)
  (cB:PySem.W.keepIn K (.ref bC)=true)
  : Pk K
def view:Program:={ PySem.Challenge.pw_truceroll_k48_whole_good_trees_alone with main:={ PySem.Challenge.pw_truceroll_k48_whole_good_trees_alone.main with body:=[top 1,top 2,top 4,top 5,top 6,top 8,top 9,top 11,top 12,top 13,top 14,top 15,top 16,top 17,top 18,top 19,top 20,top 21,top 22,top 23,top 24,top 25,top 26,top 27,top 28,top 29,top 30,top 31] } }
end My
section
open PySem PySem.W PyProof.Rows
local macro_rules | `(tactic| o_head $H:term) => `(tactic| (
  refine holds_open (q := My.view) (loose := []) (Xt := fun s => xlAt My.view [] s && recOk (RowW.records (OpenRow.toRowW PySem.Challenge.rw_truceroll_k48_whole_good_trees_alone.row)) s) (XP := XL My.view []) (Yf := Hook.obs $H) (Ya := Hook.val $H) (YP := Hook.says $H) (N := 40000) ?hl (Hook.of $H) (Hook.keeps $H) (fun s e => xl_of s (Bool.and_eq_true_iff.mp e).1) XL.keeps (by rfl) (by rfl) (by rfl) (fun s e => recFacts_of (Bool.and_eq_true_iff.mp e).2) (by rfl) (by first | assumption | decide +kernel) (by decide +kernel) ⟨rfl, rfl, rfl, rfl, rfl, by decide +kernel⟩ ?hw ?hc
  case hl => intro w; kernel_rfl))
theorem My.head(Good:World->PySem.W.Frag->(PySem.Str->Option Value)->Addr->Prop)(Wk:∀{q:Program} {loose:List PySem.Str} {XP:(PySem.Str->Option Value)->Heap->Prop} {YP:World->Heap->Prop} {d:DefRec} {K:Params->PySem.W.Frag},d.params.defaults=[]->(∀(w:World) (h:Heap),YP w h->(K w.params).In h)->(∀(w:World) (mg:PySem.Str->Option Value) (fa:Addr) (h:Heap),(K w.params).In h->h.Ns mainGlobals mg->mg d.name=some (.ref fa)->Good w (K w.params) mg fa)->PySem.W.WalkO q loose XP YP PySem.Challenge.rw_truceroll_k48_whole_good_trees_alone.row.toRowW d [] (λf vs=>PySem.call f vs))
  (M:∀{w:World} {K:PySem.W.Frag} {h:Heap} {mg:PySem.Str->Option Value} {fa:Addr},K.In h->h.Ns mainGlobals mg->mg "law" = some (.ref fa)->My.Pk K->Good w K mg fa):PySem.Challenge.rw_truceroll_k48_whole_good_trees_alone.Holds:=by
 w_on;o_law;k_head;(case hw=>w_witness2)
 k_fill
 refine Wk rfl (λw h Y=>PySem.W.kIn_of Y) ?F
 case F=>
  intro w mg fa h KX G O5
  refine M KX G O5 ?_
  refine' My.Pk.mk ?a0 ?l0 ?c0 ?k0 ?a1 ?l1 ?c1 ?k1 ?a2 ?l2 ?c2 ?k2 ?a3 ?l3 ?c3 ?k3 ?a4 ?l4 ?c4 ?k4 ?a5 ?l5 ?c5 ?k5 ?a6 ?l6 ?c6 ?k6 ?a7 ?l7 ?c7 ?k7 ?a8 ?l8 ?c8 ?k8 ?a9 ?l9 ?c9 ?k9 ?Zw ?l10 ?YJ ?Ji ?Zv ?Vi ?YH ?Gg ?Zu ?Vh ?YG ?HB ?Zt ?Vg ?YF ?VP ?Zr ?Vf ?YD ?Gf ?Zq ?Ve ?YC ?Ba ?Zo ?Vd ?c16 ?VN ?Zn ?Vc ?YB ?VM ?Zm ?Vb ?Yz ?VL ?Zk ?Va ?Yy ?VJ ?Zj ?U9 ?Yx ?VH ?Zi ?U8 ?Yw ?VG ?Zh ?U7 ?Yv ?VF ?Zg ?U6 ?Yu ?VD ?Zf ?U5 ?Yt ?M3 ?RX ?U4 ?Ys ?VB ?vR ?lu ?qU ?lT ?tH ?bq ?bY ?gq ?vQ ?eH ?lS ?tG ?eG ?jz ?jD ?jC ?jB ?jA ?eS ?cO ?cN ?jy ?jx ?jw ?jv ?dh ?dj ?di ?dH ?dG ?dI ?dJ ?cB
  all_goals (first | k_is | rfl | skip)
  all_goals (first | k_is | rfl | skip)
end
section
namespace L2
open PySem PySem.Spec PyProof.Rows
abbrev Key:=Sum Int Str
def Jh:Key->Value->Bool
 | .inl k,v=>Value.isInt k v
 | .inr x,v=>Value.isStrOf x v
def Vj(w:World):Key->Int
 | .inl k=>hashInt k
 | .inr x=>hashStr w x
theorem cJ:∀{k:Key} {v:Value},Jh k v=true->(∃i t,k=Sum.inl i/\v=Value.int i t)\/(∃x t,k=Sum.inr x/\v=Value.str x t)
 | .inl i,v,h=>by
  obtain⟨t,e⟩:=Value.isInt_shape (k:=i) (v:=v) h
  exact .inl ⟨i,t,rfl,e⟩
 | .inr x,v,h=>by
  obtain⟨t,e⟩:=Value.isStrOf_shape (x:=x) (v:=v) h
  exact .inr ⟨x,t,rfl,e⟩
theorem Le(a b:Int):decide ((Sum.inl a:Key)=Sum.inl b)=(a==b):=by
 by_cases e:a=b
 ·subst e;simp
 ·have h:¬(Sum.inl a:Key)=Sum.inl b:=λq=>e (Sum.inl.inj q)
  rw[decide_eq_false h]
  exact(tD.mpr e).symm
theorem Lb(a b:Str):decide ((Sum.inr a:Key)=Sum.inr b)=decide (a=b):=by
 by_cases e:a=b
 ·subst e;simp
 ·have h:¬(Sum.inr a:Key)=Sum.inr b:=λq=>e (Sum.inr.inj q)
  rw[decide_eq_false h,decide_eq_false e]
theorem Ld(a:Int)(b:Str):decide ((Sum.inl a:Key)=Sum.inr b)=false:=decide_eq_false (λq=>nomatch q)
theorem Lc(a:Str)(b:Int):decide ((Sum.inr a:Key)=Sum.inl b)=false:=decide_eq_false (λq=>nomatch q)
def zF(prog:Program)(w:World):PySem.KeyKind prog w Key where
 is:=Jh
 hash:=Vj w
 inj:=λv a b ha hb=>by
  rcases cJ ha with ⟨i,t,rfl,rfl⟩ | ⟨x,t,rfl,rfl⟩
  ·rcases cJ hb with ⟨j,u,rfl,e⟩ | ⟨y,u,rfl,e⟩
   ·injection e with e1 _;rw[e1]
   ·exact nomatch e
  ·rcases cJ hb with ⟨j,u,rfl,e⟩ | ⟨y,u,rfl,e⟩
   ·exact nomatch e
   ·injection e with e1 _;rw[e1]
 byValue:=λk v h=>by
  rcases cJ h with ⟨i,t,rfl,rfl⟩ | ⟨x,t,rfl,rfl⟩ <;> rfl
 pyHash:=λhv h=>by
  rcases cJ hv with ⟨i,t,rfl,rfl⟩ | ⟨x,t,rfl,rfl⟩
  ·exact wpAny_pyHash_int h
  ·exact wpAny_pyHash_str h
 eqBool:=λhu hv h=>by
  rcases cJ hu with ⟨i,t,rfl,rfl⟩ | ⟨x,t,rfl,rfl⟩
  ·rcases cJ hv with ⟨j,u,rfl,rfl⟩ | ⟨y,u,rfl,rfl⟩
   ·rw[Le]at h;exact wpAny_eqBool_int h
   ·rw[Ld]at h;exact SeqAt.EqAt.int_str i t y u _ _ _ _ h
  ·rcases cJ hv with ⟨j,u,rfl,rfl⟩ | ⟨y,u,rfl,rfl⟩
   ·rw[Lc]at h;exact SeqAt.EqAt.str_int x t j u _ _ _ _ h
   ·rw[Lb]at h;exact wpAny_eqBool_str h
 «strs»:=λk x t v h=>by
  rcases cJ h with ⟨i,u,rfl,e⟩ | ⟨y,u,rfl,e⟩
  ·exact nomatch e
  ·injection e with e1 _
   subst e1
   cases v <;> rfl
end L2
namespace L2
open PySem PySem.Spec PyProof.Rows
inductive V where
 | non | bl (b:Bool) | int (i:Int) | str (x:Str) | BX (b:Array UInt8) | Mf (b:UInt64) | ref (a:Addr) | ty (n:String)
 deriving DecidableEq
def RelV:V->Value->Prop
 | .non,u=>u=Value.none
 | .bl b,u=>u=Value.bool b
 | .int i,u=>∃t,u=Value.int i t
 | .str x,u=>∃t,u=Value.str x t
 | .BX b,u=>∃t,u=Value.bytes b t
 | .Mf b,u=>∃t,u=Value.float b t
 | .ref a,u=>u=Value.ref a
 | .ty n,u=>u=Value.type n
abbrev Vals:List V->List Value->Prop:=Paired RelV
theorem Vals.length{xs:List V}{us:List Value}(r:Vals xs us):xs.length=us.length:=Paired.length r
theorem Vals.get:∀{xs:List V} {us:List Value} {i:Nat} {x:V},Vals xs us->xs[i]?=some x->∃u,us[i]?=some u/\RelV x u
 | _,_,_,_,.nil,e=>by simp at e
 | _,_,0,_,.cons r _,e=>by simp at e;subst e;exact⟨_,rfl,r⟩
 | _,_,i+1,x,.cons _ t,e=>by
  obtain⟨u,h1,h2⟩:=Vals.get (i:=i) (x:=x) t (by simpa using e)
  exact⟨u,by simpa using h1,h2⟩
theorem Vals.set{x:V}{u:Value}(r:RelV x u):∀{xs:List V} {us:List Value} (i:Nat),Vals xs us->Vals (xs.set i x) (us.set i u)
 | _,_,_,.nil=>.nil
 | _,_,0,.cons _ t=>.cons r t
 | _,_,i+1,.cons q t=>.cons q (Vals.set r i t)
theorem Vals.append:∀{xs ys:List V} {us ws:List Value},Vals xs us->Vals ys ws->Vals (xs++ys) (us++ws)
 | _,_,_,_,.nil,s=>s
 | _,_,_,_,.cons r t,s=>.cons r (Vals.append t s)
theorem Vals.take:∀{xs:List V} {us:List Value} (n:Nat),Vals xs us->Vals (xs.take n) (us.take n)
 | _,_,0,_=>.nil
 | _,_,_+1,.nil=>.nil
 | _,_,n+1,.cons r t=>.cons r (Vals.take n t)
theorem Vals.drop:∀{xs:List V} {us:List Value} (n:Nat),Vals xs us->Vals (xs.drop n) (us.drop n)
 | _,_,0,r=>r
 | _,_,_+1,.nil=>.nil
 | _,_,n+1,.cons _ t=>Vals.drop n t
def sS:Option V->Option Value->Prop
 | some v,some u=>RelV v u
 | none,none=>True
 | _,_=>False
def KV{κ:Type}:List (κ×V)->List (κ×Value)->Prop:=Paired λ(p:κ×V) (q:κ×Value)=>p.1=q.1/\RelV p.2 q.2
def kV:Key->V
 | .inl i=>.int i
 | .inr x=>.str x
inductive HO where
 | lst (xs:List V)
 | tup (xs:List V)
 | dK (hV:List (Key×V)) | dT (hV:List (List Key×V))
 | set (S:Int->Bool) (n:Nat)
 | ins (C dx:Addr) (fs:List (Str×V))
 | own (x:Addr)
 | xd (fs:List (Str×V))
 | met (f x:Addr)
 | S8 (lo hi:Int)
 | zR (o:Obj) (u:HO)
 | JQ (ps:Array Value)
 | ext (φ:Heap->Prop)
abbrev Hp:=Addr->Option HO
def upd(H:Hp)(a:Addr)(o:HO):Hp:=λb=>if b=a then some o else H b
theorem aj{H:Hp}{a:Addr}{o:HO}:upd H a o a=some o:=by unfold upd;rw[aR rfl]
theorem aM{H:Hp}{a b:Addr}{o:HO}(h:b≠a):upd H a o b=H b:=by unfold upd;rw[aO h]
theorem uA{H:Hp}{a:Addr}{o u:HO}:upd (upd H a o) a u=upd H a u:=by
 funext b;unfold upd;split <;> rfl
theorem Jf{H:Hp}{a b:Addr}{o u:HO}(h:H a=some o)(h':H b=some u)(d:o≠u):a≠b:=by
 intro e;subst e;rw[h]at h';exact d (dP h')
theorem aQ{H:Hp}{a b:Addr}{o:HO}(h:H a=some o)(h':H b=none):a≠b:=by
 intro e;subst e;rw[h]at h';cases h'
section
variable (P:Program)(w:World)
def fe(H:Hp)(h:Heap)(a:Addr):HO->Prop
 | .lst xs=>xs.length<=sizeLine/\∃(its:List Value) (n:Nat),Vals xs its/\h.get? a=some { cls:=.type "list",data:=.seq its.toArray n }
 | .tup xs=>xs.length<=sizeLine/\∃its:List Value,Vals xs its/\IsTup h a its.toArray
 | .dK hV=>hV.length<=sizeLine/\(a==sysModules)=false/\∃vs,KV hV vs/\h.DictOf (zF P w) a vs
 | .dT hV=>hV.length<=sizeLine/\(a==sysModules)=false/\∃xs:List (List Key×Addr×Value),
   Paired (λ(p:List Key×V) (q:List Key×Addr×Value)=>p.1=q.1/\H q.2.1=some (.tup (p.1.map kV))/\RelV p.2 q.2.2) hV xs/\
   ∃o es ep,h.get? a=some o/\o.ExactDict/\o.data=.dict es ep/\es.toList=xs.map (entryOfKey (tupleKind (zF P w)))/\(xs.map (·.1)).Nodup
 | .set S n=>h.SetOf (intKind P w) a S n
 | .ins C dx fs=>H dx=some (.own a)/\fs.length<=1000/\dx≠a/\h.get? a=some (PySem.W.instObj C dx)/\
   ∃mA,h.Ns1 dx mA/\(∀f,sS (fs.lookup f) (mA f))/\PySem.Within mA (fs.map (·.1))
 | .own _=>∃o,h.get? a=some o
 | .xd fs=>∃mA,h.Ns1 a mA/\∀f,sS (fs.lookup f) (mA f)
 | .S8 lo hi=>∃t u v,h.get? a=some { cls:=.type "range",data:=.fields #[.int lo t,.int hi u,.int 1 v] }
 | .zR o u=>h.get? a=some o/\fe H h a u
 | .JQ ps=>h.get? a=some { cls:=.none,data:=.fields ps }
 | .met f x=>h.get? a=some (PySem.W.methodObj (.ref f) (.ref x))
 | .ext φ=>φ h/\(∃o,h.get? a=some o)/\∀h1 h2:Heap,φ h1->(∀o,h1.get? a=some o->h2.get? a=some o)->φ h2
def pL(H:Hp)(h:Heap):Prop:=∀a o,H a=some o->fe P w H h a o
end
section
variable {P:Program}{w:World}{H H':Hp}{h h':Heap}{a:Addr}{o:HO}
theorem fe.lt(x:fe P w H h a o):a<h.objs.size:=by
 cases o with
 | lst xs=>obtain⟨_,_,_,_,e⟩:=x;exact bS e
 | tup xs=>obtain⟨_,_,_,p⟩:=x;exact p.lt
 | dK hV=>obtain⟨_,_,_,_,o,_,_,e,_⟩:=x;exact bS e
 | dT hV=>obtain⟨_,_,_,_,o,_,_,e,_⟩:=x;exact bS e
 | set S n=>obtain⟨o,_,_,_,e,_⟩:=x;exact bS e
 | ins C dx fs=>obtain⟨_,_,_,e,_⟩:=x;exact bS e
 | own y=>obtain⟨_,e⟩:=x;exact bS e
 | xd fs=>obtain⟨_,⟨_,_,_,e,_⟩,_⟩:=x;exact bS e
 | S8 lo hi=>obtain⟨_,_,_,e⟩:=x;exact bS e
 | zR ob u=>obtain⟨e,_⟩:=x;exact bS e
 | JQ ps=>exact bS (show h.get? a=some _ from x)
 | met f y=>exact bS (show h.get? a=some _ from x)
 | ext φ=>obtain⟨_,⟨_,e⟩,_⟩:=x;exact bS e
theorem Paired.Oo{α β:Type}{F G:α->β->Prop}:∀{l₁:List α} {l₂:List β},Paired F l₁ l₂->(∀a b,F a b->G a b)->Paired G l₁ l₂
 | _,_,.nil,_=>.nil
 | _,_,.cons r t,f=>.cons (f _ _ r) (Paired.Oo t f)
theorem fe.stay(x:fe P w H h a o)(k:∀b u,(b=a\/H b=some (.own a))->h.get? b=some u->h'.get? b=some u)
  (ho:∀b,H b=some (.own a)->H' b=some (.own a)) (ht:∀b xs,H b=some (.tup xs)->H' b=some (.tup xs)):fe P w H' h' a o:=by
 induction o with
 | lst xs=>obtain⟨z,its,n,r,e⟩:=x;exact⟨z,its,n,r,k _ _ (.inl rfl) e⟩
 | tup xs=>obtain⟨z,its,r,ob,e,c⟩:=x;exact⟨z,its,r,ob,k _ _ (.inl rfl) e,c⟩
 | dK hV=>obtain⟨z,y,vs,r,ob,es,ep,e,c⟩:=x;exact⟨z,y,vs,r,ob,es,ep,k _ _ (.inl rfl) e,c⟩
 | dT hV=>
  obtain⟨z,y,xs,r,ob,es,ep,e,c⟩:=x
  exact⟨z,y,xs,Paired.Oo r λp q z=>⟨z.1,ht _ _ z.2.1,z.2.2⟩,ob,es,ep,k _ _ (.inl rfl) e,c⟩
 | set S n=>obtain⟨ob,es,ep,t,e,c⟩:=x;exact⟨ob,es,ep,t,k _ _ (.inl rfl) e,c⟩
 | ins C dx fs=>
  obtain⟨d,z,ne,e,mA,⟨od,es,ep,e2,c⟩,r⟩:=x
  exact⟨ho _ d,z,ne,k _ _ (.inl rfl) e,mA,⟨od,es,ep,k _ _ (.inr d) e2,c⟩,r⟩
 | own y=>obtain⟨ob,e⟩:=x;exact⟨ob,k _ _ (.inl rfl) e⟩
 | xd fs=>obtain⟨mA,⟨od,es,ep,e,c⟩,r⟩:=x;exact⟨mA,⟨od,es,ep,k _ _ (.inl rfl) e,c⟩,r⟩
 | S8 lo hi=>obtain⟨t,u,v,e⟩:=x;exact⟨t,u,v,k _ _ (.inl rfl) e⟩
 | zR ob u ih=>obtain⟨e,q⟩:=x;exact⟨k _ _ (.inl rfl) e,ih q⟩
 | JQ ps=>
  have e:h.get? a=some { cls:=.none,data:=.fields ps }:=x
  show h'.get? a=some { cls:=.none,data:=.fields ps }
  exact k a _ (.inl rfl) e
 | met f y=>
  have e:h.get? a=some (PySem.W.methodObj (.ref f) (.ref y)):=x
  show h'.get? a=some (PySem.W.methodObj (.ref f) (.ref y))
  exact k a _ (.inl rfl) e
 | ext φ=>obtain⟨p,⟨o,e⟩,st⟩:=x;exact⟨st _ _ p λo q=>k _ _ (.inl rfl) q,⟨o,k _ _ (.inl rfl) e⟩,st⟩
theorem pL.lt(x:pL P w H h)(e:H a=some o):a<h.objs.size:=(x a o e).lt
theorem pL.fresh(x:pL P w H h)(e:h.objs.size<=a):H a=none:=by
 cases q:H a with
 | none=>rfl
 | some u=>exact absurd (fN (x.lt q) e) (lr _)
theorem pL.kept(x:pL P w H h)(k:∀b u,h.get? b=some u->h'.get? b=some u):pL P w H h':=λa o e=>
 (x a o e).stay (λb u _ q=>k b u q) (λ_ q=>q) λ_ _ q=>q
theorem pL.laid(x:pL P w H h)(k:∀b u,h.get? b=some u->h'.get? b=some u)(hp:h.objs.size<=a)(new:fe P w (upd H a o) h' a o):pL P w (upd H a o) h':=λb u e=>by
 have hn:=x.fresh hp
 by_cases hb:b=a
 ·subst hb;rw[aj]at e;cases e;exact new
 ·rw[aM hb]at e
  exact(x b u e).stay (λc v _ q=>k c v q) (λc q=>by rw[aM (aQ q hn)];exact q) λc xs q=>by rw[aM (aQ q hn)];exact q
end
def Rd(H:Hp)(a:Addr)(u:HO):Prop:=H a=some u\/∃o,H a=some (.zR o u)
theorem Rd.ok{P:Program}{w:World}{H:Hp}{h:Heap}{a:Addr}{u:HO}(r:Rd H a u)(x:pL P w H h):fe P w H h a u:=by
 rcases r with r | ⟨o,r⟩
 ·exact x a u r
 ·obtain⟨_,q⟩:=x a _ r
  exact q
def R1:Option HO->Prop
 | some (.lst _)=>True
 | some (.dK _)=>True
 | some (.dT _)=>True
 | some (.set _ _)=>True
 | some (.ins _ _ _)=>True
 | some (.ext _)=>True
 | _=>False
section
variable {P:Program}{w:World}{H:Hp}{h h':Heap}{x e:Addr}{o':HO}
theorem pL.write(ok:pL P w H h)(mu:R1 (H x))(he:e=x\/H e=some (.own x))(k:∀b u,b≠e->h.get? b=some u->h'.get? b=some u)(M6:∃u,h'.get? e=some u)
  (new:fe P w (upd H x o') h' x o'):pL P w (upd H x o') h':=λb u q=>by
 have Oj:∀c y,H c=some (.own y)->c≠x:=λc y r z=>by subst z;rw[r]at mu;exact mu
 have md:∀c xs,H c=some (.tup xs)->c≠x:=λc xs r z=>by subst z;rw[r]at mu;exact mu
 by_cases hb:b=x
 ·subst hb;rw[aj]at q;cases q;exact new
 ·rw[aM hb]at q
  by_cases Ly:b=e
  ·have q':H b=some (.own x):=by
    rcases he with z | z
    ·exact absurd (Ly.trans z) hb
    ·rw[Ly];exact z
   rw[q]at q';cases q'
   obtain⟨v,hv⟩:=M6
   exact⟨v,by rw[Ly];exact hv⟩
  ·refine(ok b u q).stay (λc v hc r=>k c v ?_ r) (λc r=>by rw[aM (Oj c b r)];exact r) λc xs r=>by rw[aM (md c xs r)];exact r
   rcases hc with rfl | hc
   ·exact Ly
   ·rintro rfl
    rcases he with z | z
    ·exact Oj c b hc z
    ·rw[hc]at z;cases z;exact hb rfl
end
structure Un(fs ex:List Addr)(H H':Hp)(h h':Heap):Prop where
 keep:∀b o,h.get? b=some o->H b=none->b∉fs->b∉ex->h'.get? b=some o
 slot:∀b o,h.get? b=some o->H b=none->b∈fs->b∉ex->∃sl,h'.get? b=some { o with slots:=sl }
 free:∀b o,h.get? b=some o->H b=none->b∉ex->H' b=none
 there:∀b o,h.get? b=some o->b∉ex->∃o',h'.get? b=some o'
 tups:∀b xs,H b=some (.tup xs)->H' b=some (.tup xs)
 frzs:∀b o u,H b=some (.zR o u)->H' b=some (.zR o u)
 tbls:∀b ps,H b=some (.JQ ps)->∃more,H' b=some (.JQ (ps++more))
section
variable {fs fs' ex ex':List Addr}{H H1 H2:Hp}{h h1 h2 h':Heap}{a x e:Addr}{o:HO}
theorem Un.any(u:Un fs ex H H1 h h1){b:Addr}{ob:Obj}(q:h.get? b=some ob)(n:H b=none)(hx:b∉ex):∃sl,h1.get? b=some { ob with slots:=sl }:=by
 by_cases hb:b∈fs
 ·exact u.slot b ob q n hb hx
 ·exact⟨ob.slots,u.keep b ob q n hb hx⟩
theorem Un.kept(k:∀b u,h.get? b=some u->h'.get? b=some u):Un fs ex H H h h':=
 ⟨λb ob q _ _ _=>k b ob q,λb ob q _ _ _=>⟨ob.slots,k b ob q⟩,λ_ _ _ n _=>n,λb ob q _=>⟨ob,k b ob q⟩,λ_ _ q=>q,λ_ _ _ q=>q,λ_ ps q=>⟨#[],by rw[q];simp⟩⟩
theorem Un.refl:Un fs ex H H h h:=Un.kept λ_ _ q=>q
theorem Un.laid(k:∀b u,h.get? b=some u->h'.get? b=some u)(hp:h.objs.size<=a)(hn:H a=none):Un fs ex H (upd H a o) h h' where
 keep:=λb u q _ _ _=>k b u q
 slot:=λb u q _ _ _=>⟨u.slots,k b u q⟩
 free:=λb u q n _=>by rw[aM (cZ (fN (bS q) hp))];exact n
 there:=λb u q _=>⟨u,k b u q⟩
 tups:=λb xs q=>by rw[aM (aQ q hn)];exact q
 frzs:=λb u xs q=>by rw[aM (aQ q hn)];exact q
 tbls:=λb ps q=>⟨#[],by rw[aM (aQ q hn),q];simp⟩
theorem Un.write(mu:R1 (H x))(he:e=x\/H e=some (.own x))(k:∀b u,b≠e->h.get? b=some u->h'.get? b=some u)(M6:∃u,h'.get? e=some u):Un fs ex H (upd H x o) h h':=by
 have hx:∀b,H b=none->b≠x:=λb n z=>by subst z;rw[n]at mu;exact mu
 have hb:∀b,H b=none->b≠e:=λb n z=>by
  subst z
  rcases he with r | r
  ·exact hx b n r
  ·rw[n]at r;cases r
 have hm:∀b u,H b=some u->¬R1 (some u)->b≠x:=λb u q nm z=>by subst z;rw[q]at mu;exact nm mu
 refine⟨λb u q n _ _=>k b u (hb b n) q,λb u q n _ _=>⟨u.slots,k b u (hb b n) q⟩,λb u q n _=>by rw[aM (hx b n)];exact n,λb u q _=>?_,
  λb xs q=>by rw[aM (hm b _ q λz=>z)];exact q,λb u xs q=>by rw[aM (hm b _ q λz=>z)];exact q,λb ps q=>⟨#[],by rw[aM (hm b _ q λz=>z),q];simp⟩⟩
 by_cases Ly:b=e
 ·subst Ly;exact M6
 ·exact⟨u,k b u Ly q⟩
end
def QX(h:Heap)(H:Hp):List Addr:=(List.range h.objs.size).filter λa=>(H a).isSome
def vn(h:Heap)(H:Hp):Heap:=PySem.W.hideAll h (QX h H)
theorem Bf(h:Heap)(H:Hp):(vn h H).objs.size=h.objs.size:=PySem.W.hideAll_size _ _
theorem Er{h:Heap}{H:Hp}{b:Addr}{o:Obj}(e:h.get? b=some o)(n:H b=none):(vn h H).get? b=some o:=
 PySem.W.hideAll_get _ e λhm=>by
  have q:(H b).isSome=true:=(iW.mp hm).2
  rw[n]at q;simp at q
theorem Hw{h:Heap}{H:Hp}{b:Addr}{o:Obj}(e:(vn h H).get? b=some o):h.get? b=some o/\H b=none:=by
 have e':h.get? b=some o:=PySem.W.of_hideAll (QX h H) e
 refine⟨e',?_⟩
 cases q:H b with
 | none=>rfl
 | some x=>
  have hm:b∈QX h H:=iW.mpr ⟨vK.mpr (bS e'),by simp[q]⟩
  have z:(vn h H).get? b=none:=PySem.W.hideAll_none (QX h H) hm
  rw[z]at e;cases e
def Ir(g h:Heap)(L:Addr):List (Addr×Obj):=(List.range h.objs.size).filterMap λa=>if a=L\/(g.get? a).isSome=true then none else (h.get? a).map λo=>(a,o)
def rest(g h:Heap)(L d:Addr):List (Addr×Obj):=(Ir g h L).filter λp=>decide (p.1≠d)
end L2
namespace L2
open PySem PySem.Spec PyProof.Rows
structure Mod(K:PySem.W.Frag)(mg:Str->Option Value)(base:Heap):Prop where
 Ov:K.In base
 glob:base.Ns mainGlobals mg
 blt:∃mb,base.Ns builtinsNs mb/\∀x:Str,x≠"__name__"->mb x=bootBuiltins x
 nolimit:base.NoLimit
structure Cx where
 prog:Program
 w:World
 K:PySem.W.Frag
 mg:Str->Option Value
 base:Heap
 A:Around
 N:List Str
 s₀:Shared
 H₀:Hp
 env:Env
 outer:List Env
 stack:List Env
 ex:List Addr
 fn:Str->Bool
 calm:Bool
 pn:List (Addr×Obj)
 xe:Value->Shared->Prop
def E'(l:List Env):List Addr:=l.filterMap (·.frame)
abbrev Cx.fs(X:Cx):List Addr:=E' X.outer
def Mv(sc:Scope)(x:Str):Prop:=sc.names.lookup x=some .local\/sc.names.lookup x=some .cell\/sc.names.lookup x=some .free
def Loc(sc:Scope)(x:Str):Prop:=sc.names.lookup x=some .local\/sc.names.lookup x=some .cell
def Look(env:Env)(h:Heap)(m:Str->Option Value)(x:Str)(u:Value):Prop:=
 (env.kindOf x=some .local/\m x=some u)\/((env.kindOf x=some .cell\/env.kindOf x=some .free)/\∃c,env.cells.lookup x=some c/\h.IsCell c (some u))
structure Cx.Ok(X:Cx):Prop where
 mod:Mod X.K X.mg X.base
 kind:X.env.scope.kind=.function
 glob:X.env.globals=mainGlobals
 blt:X.env.builtins=builtinsNs
 above:X.s₀.heap.objs.size<=X.env.locals
 inj:∀x y c,X.env.cells.lookup x=some c->X.env.cells.lookup y=some c->x=y
 has:∀x,(X.env.kindOf x=some .cell\/X.env.kindOf x=some .free)->∃c,X.env.cells.lookup x=some c
 QC:∀x c,X.fn x=true->X.env.cells.lookup x=some c->X.s₀.heap.objs.size<=c
 hd:X.calm=true->X.A.handled=none
 frames:X.A.frames=some X.stack
 QZ:X.stack=X.outer\/(X.stack=X.env::X.outer/\X.env.frame=some X.env.locals)
 exf:∀b∈X.ex,b≠X.env.locals/\∀x c,X.env.cells.lookup x=some c->c≠b
 bs:∀b o,X.base.get? b=some o->X.s₀.heap.get? b=some o/\X.H₀ b=none
 FJ:X.base.objs.size<=X.s₀.heap.objs.size
 Aw:∀b o,X.base.get? b=some o->b∉X.ex
 Ij:∀b∈X.ex,b∉X.fs
 qq:X.s₀.heap.FunFrames X.base X.outer
 Ma:∀b∈X.fs,X.H₀ b=none
structure Inv(X:Cx)(pins:List (Addr×Obj))(σ:List (Option V))(H:Hp)(s:Shared):Prop where
 ok:X.Ok
 os:s.os=X.s₀.os
 bare:AllBare s.gens
 base:Un X.fs X.ex X.H₀ H X.s₀.heap s.heap
 loc:∃m,s.heap.Ns X.env.locals m/\∀(i:Nat) (x:Str) (v:V),X.N[i]?=some x->σ[i]?=some (some v)->Mv X.env.scope x->∃u,RelV v u/\Look X.env s.heap m x u
 cell:∀x c,X.env.cells.lookup x=some c->∃v,s.heap.IsCell c v
 free:H X.env.locals=none
 lC:∀x c,X.env.cells.lookup x=some c->H c=none
 pin:∀p∈X.pn++pins,s.heap.get? p.1=some p.2/\H p.1=none/\p.1≠X.env.locals/\p.1∉X.fs/\∀v,p.2.data≠.cell v
 dN:pL X.prog X.w H s.heap
 len:σ.length=X.N.length
section
variable {X:Cx}{pins:List (Addr×Obj)}{σ:List (Option V)}{H H':Hp}{s:Shared}{h':Heap}
theorem Cx.Ok.UT(ok:X.Ok){b:Addr}{o:Obj}(e:X.base.get? b=some o):b∉X.fs:=λhb=>by
 have:=(ok.qq.mem hb).1
 rw[e]at this;cases this
theorem Inv.bs(I:Inv X pins σ H s):∀b o,X.base.get? b=some o->s.heap.get? b=some o/\H b=none:=λb o e=>
 ⟨I.base.keep b o (I.ok.bs b o e).1 (I.ok.bs b o e).2 (I.ok.UT e) (I.ok.Aw b o e),I.base.free b o (I.ok.bs b o e).1 (I.ok.bs b o e).2 (I.ok.Aw b o e)⟩
theorem Inv.bk(I:Inv X pins σ H s):∀b o,X.base.get? b=some o->s.heap.get? b=some o:=λb o e=>(I.bs b o e).1
theorem Inv.mod(I:Inv X pins σ H s):Mod X.K X.mg X.base:=I.ok.mod
theorem Inv.qE(I:Inv X pins σ H s):X.K.In s.heap:=I.ok.mod.Ov.keeps I.bk
theorem Inv.lt(I:Inv X pins σ H s):X.env.locals<s.heap.objs.size:=let ⟨_,hn,_⟩:=I.loc;hn.lt
theorem Inv.sz(I:Inv X pins σ H s):X.s₀.heap.objs.size<=s.heap.objs.size:=cq I.ok.above (qH I.lt)
theorem Inv.UL(I:Inv X pins σ H s){a:Addr}(h:s.heap.objs.size<=a):a∉X.fs:=λhb=>by
 obtain⟨_,o,ho,_⟩:=I.ok.qq.mem hb
 exact absurd (fN (bS ho) (cq I.sz h)) (lr _)
theorem Inv.Mq(I:Inv X pins σ H s):∀x c,X.env.cells.lookup x=some c->c≠X.env.locals:=λx c e z=>by
 obtain⟨v,o,ho,hd⟩:=I.cell x c e
 obtain⟨m,⟨o',es,ep,Lr,Ws,_⟩,_⟩:=I.loc
 rw[z,Lr]at ho;cases ho;rw[Ws]at hd;cases hd
theorem Inv.qq(I:Inv X pins σ H s):s.heap.FunFrames X.base X.outer:=by
 have all:∀(l:List Env),(∀b∈E' l,b∈X.fs)->X.s₀.heap.FunFrames X.base l->s.heap.FunFrames X.base l:=by
  intro l
  induction l with
  | nil=>intro _ _;trivial
  | cons env r ih=>
   intro hs hl
   obtain⟨hk,⟨L,o,hf,hn,ho,hd⟩,hr⟩:=hl
   have hL:L∈X.fs:=hs L (by unfold E';rw[vN,hf];exact nC)
   obtain⟨sl,e⟩:=I.base.slot L o ho (I.ok.Ma L hL) hL λz=>I.ok.Ij L z hL
   exact⟨hk,⟨L,_,hf,hn,e,hd⟩,ih (λb hb=>hs b (by unfold E';rw[vN,hf];exact iF _ hb)) hr⟩
 exact all X.outer (λ_ hb=>hb) I.ok.qq
theorem Inv.stack(I:Inv X pins σ H s):s.heap.FunFrames X.base X.stack:=by
 rcases I.ok.QZ with e | ⟨e,hf⟩
 ·rw[e];exact I.qq
 ·rw[e]
  obtain⟨m,hn,_⟩:=I.loc
  refine .cons (by rw[I.ok.kind];decide) hf hn ?_ I.qq
  exact yX (cq I.ok.FJ I.ok.above)
theorem Inv.oW(I:Inv X pins σ H s):∀b∈E' X.stack,b∈X.env.locals::X.fs:=λb hb=>by
 rcases I.ok.QZ with e | ⟨e,hf⟩
 ·rw[e]at hb;exact iF _ hb
 ·rw[e]at hb
  unfold E' at hb
  rw[vN,hf]at hb
  exact hb
theorem Inv.uE(I:Inv X pins σ H s):∀b∈E' X.stack,H b=none:=λb hb=>by
 rcases ft.mp (I.oW b hb) with e | hb
 ·rw[e];exact I.free
 ·obtain⟨_,o,ho,_⟩:=I.ok.qq.mem hb
  exact I.base.free b o ho (I.ok.Ma b hb) λz=>I.ok.Ij b z hb
theorem Inv.step{g':Array GenState}{t':Nat}{d':Drawn}{ch:List Addr}(I:Inv X pins σ H s)
  (Jp:∀b∈ch,(b∈X.ex\/X.s₀.heap.objs.size<=b)/\b≠X.env.locals/\(∀x c,X.env.cells.lookup x=some c->c≠b)/\∀p∈X.pn++pins,p.1≠b)
  (keep:∀b o,b≠X.env.locals->b∉X.fs->b∉ch->s.heap.get? b=some o->H b=none->h'.get? b=some o)
  (slot:∀b o,b≠X.env.locals->b∈X.fs->b∉ch->s.heap.get? b=some o->H b=none->∃sl,h'.get? b=some { o with slots:=sl }) (free:∀b o,b∉ch->s.heap.get? b=some o->H b=none->H' b=none)
  (there:∀b o,b∉ch->s.heap.get? b=some o->∃o',h'.get? b=some o')
  (tups:∀b xs,H b=some (.tup xs)->H' b=some (.tup xs)) (frzs:∀b o u,H b=some (.zR o u)->H' b=some (.zR o u)) (tbls:∀b ps,H b=some (.JQ ps)->∃more,H' b=some (.JQ (ps++more)))
  (ns:∀m,s.heap.Ns X.env.locals m->h'.Ns X.env.locals m) (dN:pL X.prog X.w H' h') (hg:AllBare g') :
  Inv X pins σ H' { s with heap:=h',gens:=g',drawn:=d',toks:=t' }:=by
 have neL:∀b o,X.s₀.heap.get? b=some o->b≠X.env.locals:=λb o e=>cZ (fN (bS e) I.ok.above)
 have Rh:∀b o,X.s₀.heap.get? b=some o->b∉X.ex->b∉ch:=λb o e hx hb=>by
  rcases(Jp b hb).1 with z | z
  ·exact hx z
  ·exact absurd (fN (bS e) z) (lr _)
 have cellK:∀x c,X.env.cells.lookup x=some c->∀v,s.heap.IsCell c v->h'.IsCell c v:=λx c e v ⟨o,ho,hd⟩=>by
  have Om:c∉ch:=λz=>(Jp c z).2.2.1 x c e rfl
  by_cases hc:c∈X.fs
  ·obtain⟨sl,q⟩:=slot c o (I.Mq x c e) hc Om ho (I.lC x c e)
   exact⟨_,q,hd⟩
  ·exact⟨o,keep c o (I.Mq x c e) hc Om ho (I.lC x c e),hd⟩
 refine⟨I.ok,I.os,hg,⟨λb o e n hb hx=>?_,λb o e n hb hx=>?_,λb o e n hx=>?_,λb o e hx=>?_,λb xs e=>tups b xs (I.base.tups b xs e),λb o xs e=>frzs b o xs (I.base.frzs b o xs e),λb ps e=>?_⟩,?_,λx c e=>?_,?_,λx c e=>?_,λp hp=>?_,dN,I.len⟩
 ·exact keep b o (neL b o e) hb (Rh b o e hx) (I.base.keep b o e n hb hx) (I.base.free b o e n hx)
 ·obtain⟨sl,e1⟩:=I.base.slot b o e n hb hx
  obtain⟨sl',e2⟩:=slot b _ (neL b o e) hb (Rh b o e hx) e1 (I.base.free b o e n hx)
  exact⟨sl',e2⟩
 ·obtain⟨o',e1⟩:=I.base.there b o e hx
  exact free b o' (Rh b o e hx) e1 (I.base.free b o e n hx)
 ·obtain⟨o',e1⟩:=I.base.there b o e hx
  exact there b o' (Rh b o e hx) e1
 ·obtain⟨m1,e1⟩:=I.base.tbls b ps e
  obtain⟨m2,e2⟩:=tbls b _ e1
  exact⟨m1++m2,by rw[e2,Array.append_assoc]⟩
 ·obtain⟨m,hn,hl⟩:=I.loc
  refine⟨m,ns m hn,λi x v e1 e2 e3=>?_⟩
  obtain⟨u,r,l⟩:=hl i x v e1 e2 e3
  refine⟨u,r,?_⟩
  rcases l with l | ⟨k,c,e,z⟩
  ·exact .inl l
  ·exact .inr ⟨k,c,e,cellK x c e _ z⟩
 ·obtain⟨v,z⟩:=I.cell x c e
  exact⟨v,cellK x c e v z⟩
 ·obtain⟨m,⟨o,_,_,ho,_⟩,_⟩:=I.loc
  exact free _ o (λz=>(Jp _ z).2.1 rfl) ho I.free
 ·obtain⟨v,o,ho,hd⟩:=I.cell x c e
  exact free c o (λz=>(Jp c z).2.2.1 x c e rfl) ho (I.lC x c e)
 ·obtain⟨e,n,ne,nf,d⟩:=I.pin p hp
  have Om:p.1∉ch:=λz=>(Jp p.1 z).2.2.2 p hp rfl
  exact⟨keep p.1 p.2 ne nf Om e n,free p.1 p.2 Om e n,ne,nf,d⟩
theorem Inv.un{t':Nat}(I:Inv X pins σ H s)(u:Un X.fs [] H H' s.heap h')(dN:pL X.prog X.w H' h'):Inv X pins σ H' { s with heap:=h',toks:=t' }:=by
 obtain⟨m,⟨o,es,ep,ho,r⟩,_⟩:=id I.loc
 obtain⟨sl,hL⟩:=u.any ho I.free (by simp)
 exact I.step (g':=s.gens) (d':=s.drawn) (ch:=[]) (λ_ z=>nomatch z) (λb o _ hb _ e n=>u.keep b o e n hb (by simp)) (λb o _ hb _ e n=>u.slot b o e n hb (by simp)) (λb o _ e n=>u.free b o e n (by simp)) (λb o _ e=>u.there b o e (by simp)) u.tups u.frzs u.tbls (λm' hm=>by
  obtain⟨o',Xu,Xw,Lr,r'⟩:=hm
  rw[ho]at Lr;cases Lr
  exact⟨_,Xu,Xw,hL,r'⟩) dN I.bare
theorem Inv.call{g':Array GenState}{t':Nat}{d':Drawn}{ch:List Addr}(I:Inv X pins σ H s)(u:Un (E' X.stack) ch H H' s.heap h')(dN:pL X.prog X.w H' h')(hg:AllBare g')
  (Jp:∀b∈ch,(b∈X.ex\/X.s₀.heap.objs.size<=b)/\b≠X.env.locals/\(∀x c,X.env.cells.lookup x=some c->c≠b)/\∀p∈X.pn++pins,p.1≠b) :
  Inv X pins σ H' { s with heap:=h',gens:=g',drawn:=d',toks:=t' }:=by
 obtain⟨m,⟨o,es,ep,ho,r⟩,_⟩:=id I.loc
 obtain⟨sl,hL⟩:=u.any ho I.free λz=>(Jp _ z).2.1 rfl
 exact I.step (ch:=ch) Jp (λb o hL hb hc e n=>u.keep b o e n (λz=>(ft.mp (I.oW b z)).elim hL hb) hc) (λb o _ _ hc e n=>u.any e n hc) (λb o hc e n=>u.free b o e n hc) (λb o hc e=>u.there b o e hc) u.tups u.frzs u.tbls (λm' hm=>by
  obtain⟨o',Xu,Xw,Lr,r'⟩:=hm
  rw[ho]at Lr;cases Lr
  exact⟨_,Xu,Xw,hL,r'⟩) dN hg
theorem Inv.turned{t':Nat}{it:Addr}(I:Inv X pins σ H s)(k:∀b o,b≠it->s.heap.get? b=some o->h'.get? b=some o)(hn:H it=none)(hL:it≠X.env.locals)
  (h1:it∈X.ex\/X.s₀.heap.objs.size<=it) (h2:∀x c,X.env.cells.lookup x=some c->c≠it) (h3:∀p∈X.pn++pins,p.1≠it):Inv X pins σ H { s with heap:=h',toks:=t' }:=by
 have nit:∀b u,H b=some u->b≠it:=λb u e z=>by rw[z,hn]at e;cases e
 refine I.step (g':=s.gens) (d':=s.drawn) (ch:=[it]) (λb hb=>?_) (λb o _ _ hc e _=>k b o (λz=>hc (by simp[z])) e) (λb o _ _ hc e _=>⟨o.slots,k b o (λz=>hc (by simp[z])) e⟩) (λ_ _ _ _ n=>n)
  (λb o hc e=>⟨o,k b o (λz=>hc (by simp[z])) e⟩) (λ_ _ e=>e) (λ_ _ _ e=>e) (λb ps e=>⟨#[],by rw[e];simp⟩) (λm hm=>?_) (λb u e=>?_) I.bare
 ·have e:b=it:=by simpa using hb
  subst e
  exact⟨h1,hL,h2,h3⟩
 ·obtain⟨o,es,ep,ho,r⟩:=hm
  exact⟨o,es,ep,k _ o (lj hL) ho,r⟩
 ·refine(I.dN b u e).stay (λc v hc q=>k c v ?_ q) (λ_ q=>q) λ_ _ q=>q
  rcases hc with z | z
  ·rw[z];exact nit b u e
  ·exact nit c _ z
theorem Inv.tok(I:Inv X pins σ H s)(t:Nat):Inv X pins σ H { s with toks:=t }:=I.un (h':=s.heap) (t':=t) Un.refl I.dN
theorem Inv.kept{t':Nat}(I:Inv X pins σ H s)(k:∀b u,s.heap.get? b=some u->h'.get? b=some u):Inv X pins σ H { s with heap:=h',toks:=t' }:=I.un (Un.kept k) (I.dN.kept k)
theorem Inv.laid{a:Addr}{o:HO}{t':Nat}(I:Inv X pins σ H s)(k:∀b u,s.heap.get? b=some u->h'.get? b=some u)(hp:s.heap.objs.size<=a)(new:fe X.prog X.w (upd H a o) h' a o) :
  Inv X pins σ (upd H a o) { s with heap:=h',toks:=t' }:=I.un (Un.laid k hp (I.dN.fresh hp)) (I.dN.laid k hp new)
theorem Inv.write{x e:Addr}{o:HO}{t':Nat}(I:Inv X pins σ H s)(mu:R1 (H x))(he:e=x\/H e=some (.own x))(k:∀b u,b≠e->s.heap.get? b=some u->h'.get? b=some u)(M6:∃u,h'.get? e=some u)
  (new:fe X.prog X.w (upd H x o) h' x o):Inv X pins σ (upd H x o) { s with heap:=h',toks:=t' }:=I.un (Un.write mu he k M6) (I.dN.write mu he k M6 new)
theorem Inv.zt{Jb:List (Addr×Obj)}(I:Inv X pins σ H s)(h:∀p∈Jb,s.heap.get? p.1=some p.2/\H p.1=none/\p.1≠X.env.locals/\p.1∉X.fs/\∀v,p.2.data≠.cell v):Inv X Jb σ H s:=
 ⟨I.ok,I.os,I.bare,I.base,I.loc,I.cell,I.free,I.lC,λp hp=>(fu.mp hp).elim (λz=>I.pin p (qM _ z)) (h p),I.dN,I.len⟩
theorem wu{N:List Str}(hN:N.Nodup){i j:Nat}{x:Str}(a:N[i]?=some x)(b:N[j]?=some x):i=j:=by
 obtain⟨h1,e1⟩:=fP.mp a
 obtain⟨h2,e2⟩:=fP.mp b
 exact(List.getElem_inj hN).mp (e1.trans e2.symm)
theorem tL{M:Model}{A:Around}{E:Value->Shared->Prop}{i:Nat}{x:Str}{v:V}{u:Value}{Q:Unit->Shared->Prop}(I:Inv X pins σ H s)(hN:X.N.Nodup)(hi:X.N[i]?=some x)(hx:Loc X.env.scope x)(r:RelV v u)
  (h:∀s',Inv X pins (σ.set i (some v)) H s'->(∃a,Heap.SameBut a s.heap s'.heap/\(a=X.env.locals\/X.env.cells.lookup x=some a))->Q () s') (hf:X.fn x=true\/X.env.scope.names.lookup x=some .local:=by first | exact .inl rfl | exact .inr rfl | assumption):wpAny M A (storeName X.env x u) Q E s:=by
 obtain⟨m,hn,hl⟩:=id I.loc
 have Wt:(X.env.scope.kind == .class||(X.env.scope.kind == .module&&X.env.locals != X.env.globals))=false:=by rw[I.ok.kind];rfl
 have hiσ:i<σ.length:=by rw[I.len];exact(fP.mp hi).1
 have Mq:=I.Mq
 have tracked:∀{a:Addr} {h':Heap},(∃o,s.heap.get? a=some o/\H a=none)->Heap.SameBut a s.heap h'->pL X.prog X.w H h':=λ{a h'} ha hs b ob e=>by
  obtain⟨_,_,pX⟩:=ha
  refine(I.dN b ob e).stay (λc w' hc q=>(hs.2 c ?_).trans q) (λ_ q=>q) λ_ _ q=>q
  rintro rfl
  rcases hc with rfl | hc
  ·rw[pX]at e;cases e
  ·rw[pX]at hc;cases hc
 rcases hx with hk | hk
 ·refine wpAny_storeName_local hk hn (λh' Rn hs=>?_) Wt
  obtain⟨oL,_,_,hoL,_⟩:=id hn
  refine h _ ⟨I.ok,I.os,I.bare,⟨λb o e n hb hx=>?_,λb o e n hb hx=>?_,I.base.free,λb o e hx=>?_,I.base.tups,I.base.frzs,I.base.tbls⟩,⟨_,Rn,λj y v' e1 e2 e3=>?_⟩,λy c e=>?_,I.free,I.lC,λp hp=>?_,tracked ⟨oL,hoL,I.free⟩ hs,by simpa using I.len⟩ ⟨_,hs,.inl rfl⟩
  ·exact(hs.2 b (cZ (fN (bS e) I.ok.above))).trans (I.base.keep b o e n hb hx)
  ·obtain⟨sl,e1⟩:=I.base.slot b o e n hb hx
   exact⟨sl,(hs.2 b (cZ (fN (bS e) I.ok.above))).trans e1⟩
  ·obtain⟨o',e1⟩:=I.base.there b o e hx
   exact⟨o',(hs.2 b (cZ (fN (bS e) I.ok.above))).trans e1⟩
  ·by_cases hj:j=i
   ·subst hj
    rw[hi]at e1;cases e1
    rw[List.getElem?_set_self hiσ]at e2
    cases e2
    exact⟨u,r,.inl ⟨hk,by simp⟩⟩
   ·rw[List.getElem?_set_ne (lj hj)]at e2
    obtain⟨u',r',q⟩:=hl j y v' e1 e2 e3
    refine⟨u',r',?_⟩
    rcases q with ⟨k,e⟩ | ⟨k,c,e,z⟩
    ·refine .inl ⟨k,?_⟩
     have:y≠x:=λe=>hj (wu hN e1 (e ▸ hi))
     simp[this,e]
    ·exact .inr ⟨k,c,e,z.sameBut hs (Mq y c e)⟩
  ·obtain⟨w',z⟩:=I.cell y c e
   exact⟨w',z.sameBut hs (Mq y c e)⟩
  ·obtain⟨e,n,ne,nf,d⟩:=I.pin p hp
   exact⟨(hs.2 p.1 ne).trans e,n,ne,nf,d⟩
 ·have Wl:X.fn x=true:=by
   rcases hf with z | z
   ·exact z
   ·rw[z]at hk;cases hk
  obtain⟨c,hc⟩:=I.ok.has x (.inl hk)
  obtain⟨w',z⟩:=I.cell x c hc
  refine wpAny_storeName_cell I.ok.kind hk hc z (λh' M8 hs=>?_)
  obtain⟨oc,hoc,Wd⟩:=id z
  refine h { s with heap:=h' } ⟨I.ok,I.os,I.bare,⟨λb o e n hb hx=>?_,λb o e n hb hx=>?_,I.base.free,λb o e hx=>?_,I.base.tups,I.base.frzs,I.base.tbls⟩,⟨m,hn.sameBut hs (lj (Mq x c hc)),λj y v' e1 e2 e3=>?_⟩,λy c' e=>?_,I.free,I.lC,λp hp=>?_,tracked ⟨oc,hoc,I.lC x c hc⟩ hs,by simpa using I.len⟩ ⟨c,hs,.inr hc⟩
  ·exact(hs.2 b (cZ (fN (bS e) (I.ok.QC x c Wl hc)))).trans (I.base.keep b o e n hb hx)
  ·obtain⟨sl,e1⟩:=I.base.slot b o e n hb hx
   exact⟨sl,(hs.2 b (cZ (fN (bS e) (I.ok.QC x c Wl hc)))).trans e1⟩
  ·obtain⟨o',e1⟩:=I.base.there b o e hx
   exact⟨o',(hs.2 b (cZ (fN (bS e) (I.ok.QC x c Wl hc)))).trans e1⟩
  ·by_cases hj:j=i
   ·subst hj
    rw[hi]at e1;cases e1
    rw[List.getElem?_set_self hiσ]at e2
    cases e2
    exact⟨u,r,.inr ⟨.inl hk,c,hc,M8⟩⟩
   ·rw[List.getElem?_set_ne (lj hj)]at e2
    obtain⟨u',r',q⟩:=hl j y v' e1 e2 e3
    refine⟨u',r',?_⟩
    rcases q with q | ⟨k,c',e,z'⟩
    ·exact .inl q
    ·refine .inr ⟨k,c',e,z'.sameBut hs ?_⟩
     rintro rfl
     exact hj (wu hN e1 (I.ok.inj _ _ _ e hc ▸ hi))
  ·by_cases hcc:c'=c
   ·subst hcc;exact⟨_,M8⟩
   ·obtain⟨w2,z2⟩:=I.cell y c' e
    exact⟨w2,z2.sameBut hs hcc⟩
  ·obtain⟨e,n,ne,nf,d⟩:=I.pin p hp
   refine⟨(hs.2 p.1 ?_).trans e,n,ne,nf,d⟩
   intro q
   rw[q,hoc]at e
   have q':oc=p.2:=dP e
   exact d w' (by rw[<-q'];exact Wd)
theorem qZ{M:Model}{A:Around}{E:Value->Shared->Prop}{i:Nat}{x:Str}{v:V}{u:Value}{Q:Unit->Shared->Prop}(I:Inv X pins σ H s)(hN:X.N.Nodup)(hi:X.N[i]?=some x)(hx:Loc X.env.scope x)(r:RelV v u)
  (h:∀s',Inv X pins (σ.set i (some v)) H s'->Q () s') (hf:X.fn x=true\/X.env.scope.names.lookup x=some .local:=by first | exact .inl rfl | exact .inr rfl | assumption):wpAny M A (storeName X.env x u) Q E s:=
 tL I hN hi hx r (λs' I' _=>h s' I') hf
end
abbrev XK:=Value->Option Addr->Hp->Prop
abbrev St:=List (Option V)
abbrev VK:=V->Hp->Prop
abbrev TE:=St->Hp->VK->Prop
abbrev TT:=St->Hp->(Bool->Hp->Prop)->Prop
abbrev TA:=St->Hp->(List V->Hp->Prop)->Prop
structure Ends where
 nx:St->Hp->Prop
 rt:VK
 bk:St->Hp->Prop:=λ_ _=>False
 ct:St->Hp->Prop:=λ_ _=>False
abbrev TS:=Ends->St->Hp->Prop
def EP(X:Cx)(pins:List (Addr×Obj))(σ:St)(Q:VK)(u:Value)(s':Shared):Prop:=∃v H',Inv X pins σ H' s'/\RelV v u/\Q v H'
def TP(X:Cx)(pins:List (Addr×Obj))(σ:St)(Q:Bool->Hp->Prop)(b:Bool)(s':Shared):Prop:=∃H',Inv X pins σ H' s'/\Q b H'
def AP(X:Cx)(pins:List (Addr×Obj))(σ:St)(Q:List V->Hp->Prop)(us:List Value)(s':Shared):Prop:=∃vs H',Inv X pins σ H' s'/\Vals vs us/\Q vs H'
def SP(X:Cx)(pins:List (Addr×Obj))(D:Ends)(f:Flow)(s':Shared):Prop:=
 match f with
 | .next=>∃σ' H',Inv X pins σ' H' s'/\D.nx σ' H'
 | .brk=>∃σ' H',Inv X pins σ' H' s'/\D.bk σ' H'
 | .cont=>∃σ' H',Inv X pins σ' H' s'/\D.ct σ' H'
 | .ret u=>∃v σ' H',Inv X pins σ' H' s'/\RelV v u/\D.rt v H'
def PE(X:Cx)(e:Expr)(t:TE):Prop:=
 ∀(pins:List (Addr×Obj)) (s:Shared) (σ:St) (H:Hp) (Q:VK),Inv X pins σ H s->t σ H Q->wpAny (model X.prog X.w) X.A (eval e X.env) (EP X pins σ Q) X.xe s
def PT(X:Cx)(e:Expr)(t:TT):Prop:=
 ∀(pins:List (Addr×Obj)) (s:Shared) (σ:St) (H:Hp) (Q:Bool->Hp->Prop),Inv X pins σ H s->t σ H Q->wpAny (model X.prog X.w) X.A (isTrue e X.env (eval e X.env)) (TP X pins σ Q) X.xe s
def PW(X:Cx)(e:Expr)(t:TT):Prop:=
 ∀(whole:Sem Value) (pins:List (Addr×Obj)) (s:Shared) (σ:St) (H:Hp) (Q:Bool->Hp->Prop),Inv X pins σ H s->t σ H Q->wpAny (model X.prog X.w) X.A (isTrue e X.env whole) (TP X pins σ Q) X.xe s
theorem PW.pt{X:Cx}{e:Expr}{t:TT}(h:PW X e t):PT X e t:=h _
def PA(X:Cx)(es:List Expr)(t:TA):Prop:=
 ∀(pos:Pos) (pins:List (Addr×Obj)) (s:Shared) (σ:St) (H:Hp) (Q:List V->Hp->Prop),Inv X pins σ H s->t σ H Q->wpAny (model X.prog X.w) X.A (spliced (backTo pos (starEach es X.env))) (AP X pins σ Q) X.xe s
def PS(X:Cx)(st:Stmt)(t:TS):Prop:=
 ∀(pins:List (Addr×Obj)) (s:Shared) (σ:St) (H:Hp) (D:Ends),Inv X pins σ H s->t D σ H->wpAny (model X.prog X.w) X.A (exec st X.env) (SP X pins D) X.xe s
def vD(X:Cx)(st:List Stmt)(t:TS):Prop:=
 ∀(pins:List (Addr×Obj)) (s:Shared) (σ:St) (H:Hp) (D:Ends),Inv X pins σ H s->t D σ H->wpAny (model X.prog X.w) X.A (execs st X.env) (SP X pins D) X.xe s
theorem cV{α:Type}{t:Sem α}{Q Q':α->Shared->Prop}{M:Model}{A:Around}{E:Value->Shared->Prop}{s:Shared}(h:wpAny M A t Q E s)(hQ:∀a s,Q a s->Q' a s):wpAny M A t Q' E s:=gi h hQ λ_ _ x=>x
end L2
namespace L2
open PySem PySem.Spec PyProof.Rows
section
variable {X:Cx}
theorem bin{a b:Expr}{ta tb:TE}(ha:PE X a ta)(hb:PE X b tb){pins:List (Addr×Obj)}{s:Shared}{σ:St}{H:Hp}{R:V->V->Hp->Prop}(I:Inv X pins σ H s)(h:ta σ H λx H1=>tb σ H1 λy H2=>R x y H2)
  {α:Type} {Q:α->Shared->Prop} {f:Value->Value->Sem α}
  (hf:∀v u s2 x y H2,Inv X pins σ H2 s2->RelV x v->RelV y u->R x y H2->wpAny (model X.prog X.w) X.A (f v u) Q X.xe s2) :
  wpAny (model X.prog X.w) X.A (eval a X.env) (λv s₁=>wpAny (model X.prog X.w) X.A (eval b X.env) (λu s₂=>wpAny (model X.prog X.w) X.A (f v u) Q X.xe s₂) X.xe s₁) X.xe s:=by
 refine cV (ha pins s σ H _ I h) λv s1 ⟨x,H1,I1,r1,q1⟩=>?_
 refine cV (hb pins s1 σ H1 _ I1 q1) λu s2 ⟨y,H2,I2,r2,q2⟩=>?_
 exact hf v u s2 x y H2 I2 r1 r2 q2
def uC(i:Nat):TE:=λσ H Q=>∃v,σ[i]?=some (some v)/\Q v H
def tC(v:V):TE:=λ_ H Q=>Q v H
theorem DP{i:Nat}{x:Str}{pos:Pos}(hN:X.N[i]?=some x)(hv:Mv X.env.scope x)(hd:(x==("__debug__" : Str))=false:=by decide)(Eu:(x==("__classdict__" : Str))=false:=by decide):PE X (.Name x pos) (uC i):=by
 intro pins s σ H Q I h
 obtain⟨v,e,h⟩:=h
 obtain⟨m,hn,hl⟩:=I.loc
 obtain⟨u,r,l⟩:=hl i x v hN e hv
 have fin:EP X pins σ Q u s:=⟨v,H,I,r,h⟩
 rcases l with ⟨hk,hm⟩ | ⟨hk,c,hc,nM⟩
 ·exact wpAny_Name (wpAny_loadName_local I.ok.kind hk hn hm fin) hd
 ·rcases hk with hk | hk
  ·exact wpAny_Name (wpAny_loadName_cell I.ok.kind hk hc nM fin) hd
  ·exact wpAny_Name (wpAny_loadName_free I.ok.kind hk hc nM fin Eu) hd
theorem KJ{i j pos}:PE X (.Constant (.int i) j pos) (tC (.int i)):=λ_ _ _ H _ I h=>wpAny_Constant_int ⟨.int i,H,I.tok _,⟨_,rfl⟩,h⟩
theorem Od{b j pos}:PE X (.Constant (.bool b) j pos) (tC (.bl b)):=λ_ _ _ H _ I h=>Constant_bool ⟨.bl b,H,I,rfl,h⟩
theorem KD{j pos}:PE X (.Constant .none j pos) (tC .non):=λ_ _ _ H _ I h=>Constant_none ⟨.non,H,I,rfl,h⟩
theorem Ky{x j pos}:PE X (.Constant (.str x) j pos) (tC (.str x)):=λ_ _ _ H _ I h=>Calls.Constant_str ⟨.str x,H,I.tok _,⟨_,rfl⟩,h⟩
def Gl(X:Cx)(x:Str):Prop:=X.env.kindOf x=some .globalImplicit
theorem zH{E:Value->Shared->Prop}{pins:List (Addr×Obj)}{s:Shared}{σ:St}{H:Hp}{x:Str}{u:Value}{pos:Pos}{Q:Value->Shared->Prop}(I:Inv X pins σ H s)(hg:Gl X x)(hm:X.mg x=some u)(h:Q u s)
  (hd:(x==("__debug__" : Str))=false:=by decide):wpAny (model X.prog X.w) X.A (eval (.Name x pos) X.env) Q E s:=
 Calls.Name_function_global I.ok.kind hg (Calls.loadGlobal_global (by rw[I.ok.glob];exact I.mod.glob.keeps I.bk) hm h) hd
theorem rM{E:Value->Shared->Prop}{pins:List (Addr×Obj)}{s:Shared}{σ:St}{H:Hp}{x:Str}{u:Value}{pos:Pos}{Q:Value->Shared->Prop}(I:Inv X pins σ H s)(hg:Gl X x)(hm:X.mg x=none)(hv:bootBuiltins x=some u)(h:Q u s)
  (hn:x≠"__name__":=by decide) (hd:(x==("__debug__" : Str))=false:=by decide):wpAny (model X.prog X.w) X.A (eval (.Name x pos) X.env) Q E s:=by
 obtain⟨mb,h1,h2⟩:=I.mod.blt
 exact Calls.Name_function_global I.ok.kind hg (Calls.loadGlobal_builtin (by rw[I.ok.glob];exact I.mod.glob.keeps I.bk) hm (by rw[I.ok.blt];exact h1.keeps I.bk) ((h2 x hn).trans hv) h) hd
theorem uT{x:Str}{v:V}{u:Value}{pos:Pos}(hg:Gl X x)(hm:X.mg x=none)(hv:bootBuiltins x=some u)(r:RelV v u)(hn:x≠"__name__":=by decide)(hd:(x==("__debug__" : Str))=false:=by decide):PE X (.Name x pos) (tC v):=
 λ_ _ _ H _ I h=>rM I hg hm hv ⟨v,H,I,r,h⟩ hn hd
variable {a b:Expr}{ta tb:TE}{pos:Pos}
def PC(X:Cx)(op:CmpOp)(a b:Expr)(t:TE):Prop:=
 ∀(pins:List (Addr×Obj)) (s:Shared) (σ:St) (H:Hp) (Q:VK),Inv X pins σ H s->t σ H Q->
  wpAny (model X.prog X.w) X.A (eval a X.env) (λv s₁=>wpAny (model X.prog X.w) X.A (eval b X.env) (λu s₂=>wpAny (model X.prog X.w) X.A (compareOp op v u) (EP X pins σ Q) X.xe s₂) X.xe s₁) X.xe s
theorem Ee(b:Expr){op:CmpOp}(h:op≠.In)(h2:op≠.NotIn):behindInMarks op b=false:=by
 have e1:(op==CmpOp.In)=false:=by cases op <;> first | rfl | exact absurd rfl h
 have e2:(op==CmpOp.NotIn)=false:=by cases op <;> first | rfl | exact absurd rfl h2
 cases b <;> simp[behindInMarks,e1,e2]
def tB(t:TE):TT:=λσ H Q=>t σ H λx H1=>∃c,x=.bl c/\Q c H1
theorem Tn{op:CmpOp}{t:TE}(h:PC X op a b t)(h1:behindInMarks op b=false:=by first | exact Ee _ (by decide) (by decide) | rfl):PT X (.Compare a [op] [b] pos) (tB t):=by
 intro pins s σ H Q I hw
 refine wpAny_isTrue_Compare1 (cV (h pins s σ H _ I hw) λv s1 h1=>cV h1 λu s2 h2=>cV h2 λc s3 ⟨x,H1,I1,r1,q1⟩=>?_) h1
 obtain⟨d,rfl,q⟩:=q1
 cases r1
 exact vL ⟨H1,I1,q⟩
theorem Dv{e:Expr}{t:TE}(h:PE X e t)(he:∀whole,isTrue e X.env whole=(do let v <-whole;standAt e.pos;holding [v] (truthy v)):=by intro _;rfl):PT X e (tB t):=by
 intro pins s σ H Q I hw
 refine isTrue_plain (cV (h pins s σ H _ I hw) λv s1 ⟨x,H1,I1,r1,q1⟩=>?_) (he _)
 obtain⟨d,rfl,q⟩:=q1
 cases r1
 exact vL ⟨H1,I1,q⟩
variable {tA Gb:TT}{rest:List Expr}
def CK(t u:TT):TT:=λσ H Q=>t σ H λc H1=>if c=true then u σ H1 Q else Q false H1
def Nt(t u:TT):TT:=λσ H Q=>t σ H λc H1=>if c=true then Q true H1 else u σ H1 Q
def CG(t:TT):TT:=λσ H Q=>t σ H λc H1=>Q (!c) H1
theorem G5(ha:PT X a tA):PW X (.BoolOp .And [a] pos) tA:=by
 intro wh pins s σ H Q I h
 refine isTrue_and (cV (ha pins s σ H Q I h) λc s1 e=>?_)
 cases c with
 | true=>exact isTrue_and_nil e
 | false=>exact e
theorem Km(ha:PT X a tA):PW X (.BoolOp .Or [a] pos) tA:=by
 intro wh pins s σ H Q I h
 refine isTrue_or (cV (ha pins s σ H Q I h) λc s1 e=>?_)
 cases c with
 | false=>exact isTrue_or_nil e
 | true=>exact e
theorem Kn(ha:PT X a tA)(hb:PW X (.BoolOp .And (b::rest) pos) Gb):PW X (.BoolOp .And (a::b::rest) pos) (CK tA Gb):=by
 intro wh pins s σ H Q I h
 refine isTrue_and (cV (ha pins s σ H _ I h) λc s1 ⟨H1,I1,q1⟩=>?_)
 cases c with
 | true=>exact hb wh pins s1 σ H1 Q I1 q1
 | false=>exact⟨H1,I1,q1⟩
theorem N7(ha:PT X a tA)(hb:PW X (.BoolOp .Or (b::rest) pos) Gb):PW X (.BoolOp .Or (a::b::rest) pos) (Nt tA Gb):=by
 intro wh pins s σ H Q I h
 refine isTrue_or (cV (ha pins s σ H _ I h) λc s1 ⟨H1,I1,q1⟩=>?_)
 cases c with
 | true=>exact⟨H1,I1,q1⟩
 | false=>exact hb wh pins s1 σ H1 Q I1 q1
theorem Kq(ha:PT X a tA):PT X (.UnaryOp .Not a pos) (CG tA):=by
 intro pins s σ H Q I h
 exact isTrue_not (ha pins s σ H (λc H1=>Q (!c) H1) I h)
def vX(ta tb:TE):TE:=λσ H Q=>ta σ H λx H1=>∃c,x=.bl c/\if c=true then tb σ H1 Q else Q (.bl false) H1
def JS(ta tb:TE):TE:=λσ H Q=>ta σ H λx H1=>∃c,x=.bl c/\if c=true then Q (.bl true) H1 else tb σ H1 Q
def vU(ta:TE):TE:=λσ H Q=>ta σ H λx H1=>∃c,x=.bl c/\Q (.bl (!c)) H1
theorem Kz{op}{t:TE}(h:PE X a t):PE X (.BoolOp op [a] pos) t:=λpins s σ H Q I hw=>BoolOp_one (h pins s σ H Q I hw)
theorem KQ(ha:PE X a ta)(hb:PE X (.BoolOp .And (b::rest) pos) tb):PE X (.BoolOp .And (a::b::rest) pos) (vX ta tb):=by
 intro pins s σ H Q I h
 refine BoolOp_and (cV (ha pins s σ H _ I h) λv s1 ⟨x,H1,I1,r1,q1⟩=>?_)
 obtain⟨c,rfl,q1⟩:=q1
 cases r1
 refine vL ?_
 cases c with
 | true=>exact hb pins s1 σ H1 Q I1 q1
 | false=>exact⟨.bl false,H1,I1,rfl,q1⟩
theorem KC(ha:PE X a ta):PE X (.UnaryOp .Not a pos) (vU ta):=by
 intro pins s σ H Q I h
 refine UnaryOp_ (cV (ha pins s σ H _ I h) λv s1 ⟨x,H1,I1,r1,q1⟩=>?_)
 obtain⟨c,rfl,q1⟩:=q1
 cases r1
 exact not_of (vL ⟨.bl (!c),H1,I1,rfl,q1⟩)
def Se(t:TT)(ta tb:TE):TE:=λσ H Q=>t σ H λc H1=>if c=true then ta σ H1 Q else tb σ H1 Q
end
end L2
namespace L2
open PySem PySem.Spec PyProof.Rows
def og(K:PySem.W.Frag)(H:Hp)(a:Addr)(xs:List V):Prop:=
 Rd H a (.lst xs)\/
  ∃(o:Obj) (its:Array Value) (n:Nat),K.lookup a=some o/\o.cls=.type "list"/\o.dict=none/\o.data=.seq its n/\its.size<=sizeLine/\Vals xs its.toList
def sQ(K:PySem.W.Frag)(H:Hp)(a:Addr)(xs:List V):Prop:=
 Rd H a (.tup xs)\/
  ∃(o:Obj) (its:Array Value) (n:Nat),K.lookup a=some o/\o.cls=.type "tuple"/\o.data=.seq its n/\its.size<=sizeLine/\Vals xs its.toList
def Ze:Value->Option V
 | .none=>some .non
 | .bool b=>some (.bl b)
 | .int i _=>some (.int i)
 | .str x _=>some (.str x)
 | .bytes b _=>some (.BX b)
 | .float b _=>some (.Mf b)
 | .ref a=>some (.ref a)
 | .type n=>some (.ty n)
 | _=>none
theorem RelV.abs{x:V}{u:Value}(r:RelV x u):Ze u=some x:=by
 cases x with
 | non=>cases r;rfl
 | bl _=>cases r;rfl
 | int _=>obtain⟨t,rfl⟩:=r;rfl
 | str _=>obtain⟨t,rfl⟩:=r;rfl
 | BX _=>obtain⟨t,rfl⟩:=r;rfl
 | Mf _=>obtain⟨t,rfl⟩:=r;rfl
 | ref _=>cases r;rfl
 | ty _=>cases r;rfl
theorem RelV.inj{x y:V}{u:Value}(r:RelV x u)(q:RelV y u):x=y:=dP (r.abs.symm.trans q.abs)
theorem Vals.inj:∀{xs ys:List V} {us:List Value},Vals xs us->Vals ys us->xs=ys
 | _,_,_,.nil,.nil=>rfl
 | _,_,_,.cons r t,.cons r' t'=>by rw[r.inj r',Vals.inj t t']
section
variable {X:Cx}{pins:List (Addr×Obj)}{σ:St}{H:Hp}{s:Shared}{a:Addr}{xs ys:List V}
theorem og.of{K:PySem.W.Frag}(h:H a=some (.lst xs)):og K H a xs:=.inl (.inl h)
theorem sQ.of{K:PySem.W.Frag}(h:H a=some (.tup xs)):sQ K H a xs:=.inl (.inl h)
theorem Inv.list(I:Inv X pins σ H s)(h:og X.K H a xs):∃its:List Value,Vals xs its/\PlainL s.heap a its.toArray/\xs.length<=sizeLine:=by
 rcases h with h | ⟨o,its,n,hk,hc,hd,hs,hz,r⟩
 ·obtain⟨z,its,n,r,e⟩:=h.ok I.dN
  exact⟨its,r,⟨_,n,e,rfl,rfl,rfl⟩,z⟩
 ·refine⟨its.toList,r,⟨o,n,I.qE a o hk,hc,hd,by simpa using hs⟩,?_⟩
  have e:=r.length
  simp only[xA]at e
  lia
theorem Inv.tuple(I:Inv X pins σ H s)(h:sQ X.K H a xs):∃its:List Value,Vals xs its/\IsTup s.heap a its.toArray/\xs.length<=sizeLine:=by
 rcases h with h | ⟨o,its,n,hk,hc,hs,hz,r⟩
 ·obtain⟨z,its,r,p⟩:=h.ok I.dN
  exact⟨its,r,p,z⟩
 ·refine⟨its.toList,r,⟨o,I.qE a o hk,hc,n,by simpa using hs⟩,?_⟩
  have e:=r.length
  simp only[xA]at e
  lia
theorem Inv.Eh(I:Inv X pins σ H s)(h:og X.K H a xs)(h':og X.K H a ys):xs=ys:=by
 obtain⟨its,r,⟨o,n,e,_,_,d⟩,_⟩:=I.list h
 obtain⟨its',r',⟨o',n',e',_,_,d'⟩,_⟩:=I.list h'
 rw[e]at e';cases e'
 rw[d]at d'
 injection d' with d1 _
 have:its=its':=by simpa using iU Array.toList d1
 subst this
 exact r.inj r'
theorem Inv.Ac(I:Inv X pins σ H s)(h:sQ X.K H a xs)(h':sQ X.K H a ys):xs=ys:=by
 obtain⟨its,r,⟨o,e,_,n,d⟩,_⟩:=I.tuple h
 obtain⟨its',r',⟨o',e',_,n',d'⟩,_⟩:=I.tuple h'
 rw[e]at e';cases e'
 rw[d]at d'
 injection d' with d1 _
 have:its=its':=by simpa using iU Array.toList d1
 subst this
 exact r.inj r'
end
abbrev Cx.wish(X:Cx)(E:Value->Shared->Prop):Cx:={ X with xe:=E }
abbrev Cx.Ge(X:Cx):Cx:=X.wish λ_ _=>False
theorem Cx.Ok.wish{X:Cx}(ok:X.Ok)(E:Value->Shared->Prop):(X.wish E).Ok:=
 ⟨ok.mod,ok.kind,ok.glob,ok.blt,ok.above,ok.inj,ok.has,ok.QC,ok.hd,ok.frames,ok.QZ,ok.exf,ok.bs,ok.FJ,ok.Aw,ok.Ij,ok.qq,ok.Ma⟩
theorem Cx.Ok.lU{X:Cx}{E:Value->Shared->Prop}(ok:(X.wish E).Ok):X.Ok:=
 ⟨ok.mod,ok.kind,ok.glob,ok.blt,ok.above,ok.inj,ok.has,ok.QC,ok.hd,ok.frames,ok.QZ,ok.exf,ok.bs,ok.FJ,ok.Aw,ok.Ij,ok.qq,ok.Ma⟩
section
variable {X:Cx}{pins:List (Addr×Obj)}{σ:St}{H:Hp}{s:Shared}{E:Value->Shared->Prop}
theorem Inv.wish(I:Inv X pins σ H s)(E:Value->Shared->Prop):Inv (X.wish E) pins σ H s:=⟨I.ok.wish E,I.os,I.bare,I.base,I.loc,I.cell,I.free,I.lC,I.pin,I.dN,I.len⟩
theorem Inv.lU(I:Inv (X.wish E) pins σ H s):Inv X pins σ H s:=⟨I.ok.lU,I.os,I.bare,I.base,I.loc,I.cell,I.free,I.lC,I.pin,I.dN,I.len⟩
theorem SP.lU{D:Ends}{f:Flow}{s':Shared}(h:SP (X.wish E) pins D f s'):SP X pins D f s':=by
 cases f with
 | next=>obtain⟨σ',H',I,q⟩:=h;exact⟨σ',H',I.lU,q⟩
 | brk=>obtain⟨σ',H',I,q⟩:=h;exact⟨σ',H',I.lU,q⟩
 | cont=>obtain⟨σ',H',I,q⟩:=h;exact⟨σ',H',I.lU,q⟩
 | ret u=>obtain⟨v,σ',H',I,r,q⟩:=h;exact⟨v,σ',H',I.lU,r,q⟩
theorem vD.Ge{st:List Stmt}{t:TS}(h:vD X.Ge st t):vD X st t:=λpins s σ H D I hw=>
 gi (h pins s σ H D (I.wish _) hw) (λ_ _ q=>q.lU) λ_ _ z=>False.elim z
end
section
variable {X:Cx}{st:Stmt}{rest:List Stmt}{t u:TS}{e:Expr}{te:TE}{pos:Pos}
def tJ:TS:=λD σ H=>D.nx σ H
def tSeq(t u:TS):TS:=λD σ H=>t { D with nx:=u D } σ H
theorem G8:vD X [] tJ:=λ_ _ σ H _ I h=>ur ⟨σ,H,I,h⟩
theorem Dw(h1:PS X st t)(h2:vD X rest u):vD X (st::rest) (tSeq t u):=by
 intro pins s σ H D I h
 refine wpAny_execs_cons (cV (h1 pins s σ H { D with nx:=u D } I h) λf s1 q=>?_)
 cases f with
 | next=>
  obtain⟨σ',H',I',q⟩:=q
  exact h2 pins s1 σ' H' D I' q
 | ret v=>exact q
 | brk=>exact q
 | cont=>exact q
theorem G7(h1:PS X st t):vD X [st] t:=by
 intro pins s σ H D I h
 refine wpAny_execs_cons (cV (h1 pins s σ H D I h) λf s1 q=>?_)
 cases f with
 | next=>exact ur q
 | ret v=>exact q
 | brk=>exact q
 | cont=>exact q
theorem Inv.quiet{pins:List (Addr×Obj)}{σ:St}{H:Hp}{s:Shared}(I:Inv X pins σ H s):interactive X.env=false:=by simp[interactive,I.ok.kind]
def vV(te:TE):TS:=λD σ H=>te σ H λ_ H1=>D.nx σ H1
theorem zq(he:PE X e te)(hs:swapsWith e none pos.line X.env=pure false:=by rfl):PS X (.Expr e pos) (vV te):=by
 intro pins s σ H D I h
 exact wpAny_Expr_any (cV (he pins s σ H _ I h) λv s1 ⟨x,H1,I1,r1,q1⟩=>⟨σ,H1,I1,q1⟩) I.quiet hs
def Cz(te:TE):TS:=λD σ H=>te σ H D.rt
theorem Ks(he:PE X e te):PS X (.Return (some e) pos) (Cz te):=by
 intro pins s σ H D I h
 exact wpAny_Return_some (cV (he pins s σ H _ I h) λv s1 ⟨x,H1,I1,r1,q1⟩=>⟨x,σ,H1,I1,r1,q1⟩)
def Cy:TS:=λD _ H=>D.rt .non H
def Ae(c:TT)(t u:TS):TS:=λD σ H=>c σ H λb H1=>if b=true then t D σ H1 else u D σ H1
theorem N8{c:Expr}{a b:List Stmt}{tc:TT}(hc:PT X c tc)(ha:vD X a t)(hb:vD X b u):PS X (.If c a b pos) (Ae tc t u):=by
 intro pins s σ H D I h
 refine wpAny_If (cV (hc pins s σ H _ I h) λd s1 ⟨H1,I1,q1⟩=>?_)
 cases d with
 | true=>exact ha pins s1 σ H1 D I1 q1
 | false=>exact hb pins s1 σ H1 D I1 q1
def xO:TS:=λ_ _ _=>False
end
abbrev TG:=V->St->Hp->(St->Hp->Prop)->Prop
abbrev Gm:=List V->St->Hp->(St->Hp->Prop)->Prop
def PG(X:Cx)(target:Expr)(t:TG):Prop:=
 ∀(pins:List (Addr×Obj)) (s:Shared) (σ:St) (H:Hp) (v:V) (u:Value) (Q:St->Hp->Prop),Inv X pins σ H s->RelV v u->t v σ H Q->
  wpAny (model X.prog X.w) X.A (assign target X.env u) (λ_ s'=>∃σ' H',Inv X pins σ' H' s'/\Q σ' H') X.xe s
def QL(X:Cx)(ts:List Expr)(t:Gm):Prop:=
 ∀(pins:List (Addr×Obj)) (s:Shared) (σ:St) (H:Hp) (vs:List V) (us:List Value) (Q:St->Hp->Prop),Inv X pins σ H s->Vals vs us->t vs σ H Q->
  wpAny (model X.prog X.w) X.A (assignInOrder ((assignEach ts X.env).map (·.2)) us) (λ_ s'=>∃σ' H',Inv X pins σ' H' s'/\Q σ' H') X.xe s
abbrev yP:=V->V->V->Hp->(Hp->Prop)->Prop
def By(X:Cx)(t:yP):Prop:=
 ∀(pins:List (Addr×Obj)) (s:Shared) (σ:St) (H:Hp) (o i v:V) (ov iv u:Value) (Q:Hp->Prop),Inv X pins σ H s->RelV o ov->RelV i iv->RelV v u->t o i v H Q->
  wpAny (model X.prog X.w) X.A (setItem ov iv u) (λ_ s'=>∃H',Inv X pins σ H' s'/\Q H') X.xe s
abbrev Iu:=V->V->Hp->VK->Prop
def Mw(X:Cx)(op:Operator)(t:Iu):Prop:=
 ∀(pins:List (Addr×Obj)) (s:Shared) (σ:St) (H:Hp) (x y:V) (v u:Value) (Q:VK),Inv X pins σ H s->RelV x v->RelV y u->t x y H Q->
  wpAny (model X.prog X.w) X.A (inplaceOp op v u) (EP X pins σ Q) X.xe s
section
variable {X:Cx}{pos:Pos}
def cL(i:Nat):TG:=λv σ H Q=>Q (σ.set i (some v)) H
theorem uS{i:Nat}{x:Str}(hN:X.N.Nodup)(hi:X.N[i]?=some x)(hx:Loc X.env.scope x)(hf:X.fn x=true\/X.env.scope.names.lookup x=some .local:=by first | exact .inl rfl | exact .inr rfl | assumption):PG X (.Name x pos) (cL i):=by
 intro pins s σ H v u Q I r h
 exact wpAny_assign_Name (qZ I hN hi hx r (λs' I'=>⟨_,H,I',h⟩) hf)
def Ig:Gm:=λvs σ H Q=>vs=[]/\Q σ H
def zQ(t:TG)(u:Gm):Gm:=λvs σ H Q=>∃v r,vs=v::r/\t v σ H λσ' H'=>u r σ' H' Q
theorem Hf:QL X [] Ig:=by
 intro pins s σ H vs us Q I r h
 obtain⟨e,h⟩:=h
 subst e
 cases r
 exact assignInOrder_nil ⟨σ,H,I,h⟩
theorem wk{e:Expr}{es:List Expr}{t:TG}{u:Gm}(h1:PG X e t)(h2:QL X es u)
  (hs:(assignEach (e::es) X.env).map (·.2)=assign e X.env::(assignEach es X.env).map (·.2):=by rfl):QL X (e::es) (zQ t u):=by
 intro pins s σ H vs us Q I r h
 obtain⟨v,vr,e1,h⟩:=h
 subst e1
 cases r with
 | cons r rr=>
  rw[hs]
  refine assignInOrder_cons (cV (h1 pins s σ H _ _ _ I r h) λ_ s1 ⟨σ1,H1,I1,q1⟩=>?_)
  exact h2 pins s1 σ1 H1 _ _ Q I1 rr q1
def Ie(K:PySem.W.Frag)(n:Nat)(t:Gm):TG:=λv σ H Q=>∃a xs,v=.ref a/\sQ K H a xs/\xs.length=n/\t xs σ H Q
theorem yb{es:List Expr}{k:Nat}{t:Gm}{n:Nat}(hc:X.calm=true)(h:QL X es t)
  (hn:(assignEach es X.env).length=n:=by rfl) (Oy:(assignEach es X.env).findIdx? (·.1)=none:=by rfl):PG X (.Tuple es k pos) (Ie X.K n t):=by
 intro pins s σ H v u Q I r hw
 obtain⟨a,xs,e1,hq,hl,hw⟩:=hw
 subst e1
 cases r
 obtain⟨its,rv,ht,hz⟩:=I.tuple hq
 refine assign_Tuple_tuple (I.ok.hd hc) ht (by simp[hn,<-hl,rv.length]) Oy λh' hx=>?_
 have I1:Inv X pins σ H { s with heap:=h' }:=I.kept (t':=s.toks) λb o e=>hx b o (cZ (bS e)) e
 exact h pins _ σ H xs _ Q I1 (by simpa using rv) hw
def EY(to ti:TE)(t:yP):TG:=λv σ H Q=>to σ H λo H1=>ti σ H1 λi H2=>t o i v H2 λH3=>Q σ H3
theorem DN{o i:Expr}{to ti:TE}{t:yP}(ho:PE X o to)(hi:PE X i ti)(hs:By X t)
  (ha:∀v,assign (.Subscript o i pos) X.env v=(do
   let ov <-holding [v] (eval o X.env)
   let iv <-holding [v,ov] (eval i X.env)
   standAt pos
   holding [v,ov,iv] (setItem ov iv v)
   release [v,ov,iv] []):=by intro _;rfl):PG X (.Subscript o i pos) (EY to ti t):=by
 intro pins s σ H v u Q I r h
 rw[ha]
 refine bG (um (cV (ho pins s σ H _ I h) λov s1 ⟨x,H1,I1,r1,q1⟩=>?_))
 refine bG (um (cV (hi pins s1 σ H1 _ I1 q1) λiv s2 ⟨y,H2,I2,r2,q2⟩=>?_))
 refine bG (wpAny_standAt (bG (um (cV (hs pins s2 σ H2 x y v ov iv u _ I2 r1 r2 r q2) λ_ s3 ⟨H3,I3,q3⟩=>?_))))
 exact wpAny_release ⟨σ,H3,I3,q3⟩
def qY(te:TE)(g:TG):TS:=λD σ H=>te σ H λx H1=>g x σ H1 D.nx
theorem uR{tg e:Expr}{te:TE}{g:TG}(he:PE X e te)(hg:PG X tg g)(hs:swapsWithSole [tg] e pos.line X.env=pure false:=by rfl)(hw:swappedStores [tg] e X.env=pure none:=by rfl)
  (h1:(assignEach [tg] X.env).map (·.2)=[assign tg X.env]:=by rfl):PS X (.Assign [tg] e pos) (qY te g):=by
 intro pins s σ H D I h
 refine wpAny_Assign_stores (cV (he pins s σ H _ I h) λv s1 ⟨x,H1,I1,r1,q1⟩=>?_) hs hw
 rw[h1]
 exact cV (hg pins s1 σ H1 x v _ I1 r1 q1) λ_ s2 q=>q
theorem Kr{i:Nat}{x:Str}{e:Expr}{te:TE}{pos':Pos}(hN:X.N.Nodup)(hi:X.N[i]?=some x)(hx:Loc X.env.scope x)(he:PE X e te)(hs:swapsWith e (some (.Name x pos')) pos.line X.env=pure false:=by rfl)(hf:X.fn x=true\/X.env.scope.names.lookup x=some .local:=by first | exact .inl rfl | exact .inr rfl | assumption) :
  PS X (.Assign [.Name x pos'] e pos) (qY te (cL i)):=by
 intro pins s σ H D I h
 refine wpAny_Assign_Name (cV (he pins s σ H _ I h) λv s1 ⟨y,H1,I1,r1,q1⟩=>?_) hs
 exact qZ I1 hN hi hx r1 (λs2 I2=>⟨_,H1,I2,q1⟩) hf
def Gw(i:Nat)(te:TE)(ti:Iu):TS:=λD σ H=>∃x,σ[i]?=some (some x)/\te σ H λy H1=>ti x y H1 λz H2=>D.nx (σ.set i (some z)) H2
theorem Kv{i:Nat}{x:Str}{e:Expr}{te:TE}{op:Operator}{ti:Iu}{pos':Pos}(hN:X.N.Nodup)(hi:X.N[i]?=some x)(hx:Loc X.env.scope x)(he:PE X e te)(ho:Mw X op ti)(hf:X.fn x=true\/X.env.scope.names.lookup x=some .local:=by first | exact .inl rfl | exact .inr rfl | assumption) :
  PS X (.AugAssign (.Name x pos') op e pos) (Gw i te ti):=by
 intro pins s σ H D I h
 obtain⟨v,e1,h⟩:=h
 obtain⟨m,hn,hl⟩:=I.loc
 have Nn:Mv X.env.scope x:=by rcases hx with k | k;exact .inl k;exact .inr (.inl k)
 obtain⟨u,r,l⟩:=hl i x v hi e1 Nn
 refine wpAny_AugAssign_Name ?_
 have go:wpAny (model X.prog X.w) X.A (eval e X.env) (λw s₂=>wpAny (model X.prog X.w) X.A (inplaceOp op u w) (λr s₃=>wpAny (model X.prog X.w) X.A (storeName X.env x r) (λ_=>SP X pins D .next) X.xe s₃) X.xe s₂) X.xe s:=by
  refine cV (he pins s σ H _ I h) λw s1 ⟨y,H1,I1,r1,q1⟩=>?_
  refine cV (ho pins s1 σ H1 v y u w _ I1 r r1 q1) λz s2 ⟨zv,H2,I2,r2,q2⟩=>?_
  exact qZ I2 hN hi hx r2 (λs3 I3=>⟨_,H2,I3,q2⟩) hf
 rcases l with ⟨hk,hm⟩ | ⟨hk,c,hc,nM⟩
 ·exact wpAny_loadName_local I.ok.kind hk hn hm go
 ·rcases hk with hk | hk
  ·exact wpAny_loadName_cell I.ok.kind hk hc nM go
  ·rcases hx with k | k
   ·have:X.env.scope.names.lookup x=some .free:=hk
    rw[k]at this;cases this
   ·have:X.env.scope.names.lookup x=some .free:=hk
    rw[k]at this;cases this
def vW(to ti te:TE)(xJ:V->V->Hp->VK->Prop)(JP:Iu)(xI:yP):TS:=λD σ H=>to σ H λo H1=>ti σ H1 λi H2=>xJ o i H2 λx H3=>te σ H3 λy H4=>JP x y H4 λz H5=>xI o i z H5 λH6=>D.nx σ H6
def Mx(X:Cx)(t:V->V->Hp->VK->Prop):Prop:=
 ∀(pins:List (Addr×Obj)) (s:Shared) (σ:St) (H:Hp) (o i:V) (ov iv:Value) (Q:VK),Inv X pins σ H s->RelV o ov->RelV i iv->t o i H Q->
  wpAny (model X.prog X.w) X.A (getItem ov iv) (EP X pins σ Q) X.xe s
theorem zr{o i e:Expr}{to ti te:TE}{xJ:V->V->Hp->VK->Prop}{JP:Iu}{xI:yP}{op:Operator}{Gr:Pos}(ho:PE X o to)(hi:PE X i ti)(hg:Mx X xJ)(he:PE X e te)(hp:Mw X op JP)(hs:By X xI)
  (ha:∀ov iv new,augStore i ov iv new=(do holding [new,ov,iv] (setItem ov iv new);release [new,ov,iv] [];pure .next):=by intros;rfl):PS X (.AugAssign (.Subscript o i Gr) op e pos) (vW to ti te xJ JP xI):=by
 intro pins s σ H D I h
 refine wpAny_AugAssign_SubscriptAny (cV (ho pins s σ H _ I h) λov s1 ⟨x1,H1,I1,r1,q1⟩=>?_) ha
 refine cV (hi pins s1 σ H1 _ I1 q1) λiv s2 ⟨x2,H2,I2,r2,q2⟩=>?_
 refine cV (hg pins s2 σ H2 x1 x2 ov iv _ I2 r1 r2 q2) λold s3 ⟨x3,H3,I3,r3,q3⟩=>?_
 refine cV (he pins s3 σ H3 _ I3 q3) λv s4 ⟨x4,H4,I4,r4,q4⟩=>?_
 refine cV (hp pins s4 σ H4 x3 x4 old v _ I4 r3 r4 q4) λnew s5 ⟨x5,H5,I5,r5,q5⟩=>?_
 exact cV (hs pins s5 σ H5 x1 x2 x5 ov iv new _ I5 r1 r2 r5 q5) λ_ s6 ⟨H6,I6,q6⟩=>⟨σ,H6,I6,q6⟩
def M4(f:Int->Int->Int):Iu:=λx y H Q=>∃i j,x=.int i/\y=.int j/\Q (.int (f i j)) H
theorem Ej:Mw X .Add (M4 λi j=>i+j):=by
 intro pins s σ H x y v u Q I r1 r2 h
 obtain⟨i,j,e1,e2,q⟩:=h
 subst e1;subst e2
 obtain⟨t,rfl⟩:=r1
 obtain⟨t',rfl⟩:=r2
 exact iadd_int ⟨.int _,H,I.tok _,⟨_,rfl⟩,q⟩
theorem Lg:Mw X .Sub (M4 λi j=>i-j):=by
 intro pins s σ H x y v u Q I r1 r2 h
 obtain⟨i,j,e1,e2,q⟩:=h
 subst e1;subst e2
 obtain⟨t,rfl⟩:=r1
 obtain⟨t',rfl⟩:=r2
 exact isub_int ⟨.int _,H,I.tok _,⟨_,rfl⟩,q⟩
def xK(c:TT)(tb:TS):TS:=λD σ H=>∃W:Nat->St->Hp->Prop,(∃m,W m σ H)/\∀m σ H,W m σ H->
 c σ H λb H1=>if b=true then ∃N:St->Hp->Prop,(∀σ' H',N σ' H'->∃m',m'<m/\W m' σ' H')/\tb { D with nx:=N,ct:=N,bk:=D.nx } σ H1 else D.nx σ H1
theorem Dx{c:Expr}{body:List Stmt}{tc:TT}{tb:TS}(hp:PassesOwn (model X.prog X.w) X.A X.env X.xe)(hc:PT X c tc)(hb:vD X body tb):PS X (.While c body [] pos) (xK tc tb):=by
 intro pins s σ H D I h
 obtain⟨W,⟨m0,w0⟩,turn⟩:=h
 refine wpAny_While (codeAny_whileLoop (λn s'=>∃σ' H',Inv X pins σ' H' s'/\W n σ' H') ?_ m0 ⟨σ,H,I,w0⟩)
 rintro n s1 ⟨σ1,H1,I1,w1⟩
 refine qJ hp (cV (hc pins s1 σ1 H1 _ I1 (turn n σ1 H1 w1)) λb s2 ⟨H2,I2,q2⟩=>?_)
 cases b with
 | true=>
  obtain⟨N,hN,q2⟩:=q2
  rw[aR rfl]
  refine qJ hp (cV (hb pins s2 σ1 H2 _ I2 q2) λf s3 q3=>?_)
  cases f with
  | next=>
   obtain⟨σ3,H3,I3,n3⟩:=q3
   obtain⟨m',hm,w3⟩:=hN σ3 H3 n3
   exact⟨m',hm,σ3,H3,I3,w3⟩
  | cont=>
   obtain⟨σ3,H3,I3,n3⟩:=q3
   obtain⟨m',hm,w3⟩:=hN σ3 H3 n3
   exact⟨m',hm,σ3,H3,I3,w3⟩
  | brk=>exact q3
  | ret v=>exact q3
 | false=>
  rw[aO dQ]
  exact ur ⟨σ1,H2,I2,q2⟩
end
structure It where
 go:Nat->Hp->Prop
 y9:Nat->Hp->V->Hp->Prop
 stop:Nat->Hp->Prop
def qx(X:Cx)(pins:List (Addr×Obj))(H:Hp)(b:Addr):Prop:=
 H b=none/\b≠X.env.locals/\b∉X.fs/\(b∈X.ex\/X.s₀.heap.objs.size<=b)/\(∀x c,X.env.cells.lookup x=some c->c≠b)/\∀p∈X.pn++pins,p.1≠b
theorem Inv.Md{X:Cx}{pins:List (Addr×Obj)}{σ:St}{H H':Hp}{s:Shared}{b:Addr}(I:Inv X pins σ H s)(hb:s.heap.objs.size<=b)(hn:H' b=none):qx X pins H' b:=by
 refine⟨hn,qS (fN I.lt hb),I.UL hb,.inr (cq I.sz hb),λx c e z=>?_,λp hp z=>?_⟩
 ·obtain⟨v,q⟩:=I.cell x c e
  exact absurd (fN q.lt (by rw[z];exact hb)) (lr _)
 ·exact absurd (fN (bS (I.pin p hp).1) (by rw[z];exact hb)) (lr _)
structure Turn(P:Program)(w:World)(K:PySem.W.Frag)(tg:Expr)(J:It)(fp:List Addr)(it:Addr)(tn:Nat->Heap->Prop):Prop where
 mem:it∈fp
 obj:∀i h,tn i h->∀b∈fp,∃o,h.get? b=some o/\∀v,o.data≠.cell v
 keep:∀i h h',tn i h->(∀b∈fp,∀o,h.get? b=some o->h'.get? b=some o)->tn i h'
 item:∀(X:Cx),X.prog=P->X.w=w->X.K=K->X.calm=true->∀(i:Nat) (pins:List (Addr×Obj)) (s:Shared) (σ:St) (H:Hp) (E:Value->Shared->Prop),Inv X pins σ H s->(∀b∈fp,qx X pins H b)->tn i s.heap->J.go i H->
  wpAny (model P w) X.A (pyNext (.ref it)) (λr s1=>∃u,r=some u/\
   wpAny (model P w) X.A (letOwnedTupleGo tg (.ref it) u) (λ_ s2=>∃x H',Inv X pins σ H' s2/\RelV x u/\J.y9 i H x H'/\tn (i+1) s2.heap/\∀b∈fp,H' b=none) E s1) E s
 done:∀(X:Cx),X.prog=P->X.w=w->X.K=K->X.calm=true->∀(i:Nat) (pins:List (Addr×Obj)) (s:Shared) (σ:St) (H:Hp) (E:Value->Shared->Prop),Inv X pins σ H s->(∀b∈fp,qx X pins H b)->tn i s.heap->J.stop i H->
  wpAny (model P w) X.A (pyNext (.ref it)) (λr s1=>r=none/\Inv X pins σ H s1) E s
 self:∀(A:Around) (i:Nat) (s:Shared) (Q:Value->Shared->Prop) (E:Value->Shared->Prop),tn i s.heap->Q (.ref it) s->wpAny (model P w) A (pyIter (.ref it)) Q E s
abbrev TI:=St->Hp->(It->Hp->Prop)->Prop
def PIE(X:Cx)(pins:List (Addr×Obj))(σ:St)(tg:Expr)(R:It->Hp->Prop)(Ow:Value)(s2:Shared):Prop:=
 ∃(it:Addr) (fp:List Addr) (tn:Nat->Heap->Prop) (J:It) (H':Hp),Ow=.ref it/\Inv X pins σ H' s2/\Turn X.prog X.w X.K tg J fp it tn/\tn 0 s2.heap/\(∀b∈fp,qx X pins H' b)/\R J H'
def PI(X:Cx)(tg iter:Expr)(wi:TI):Prop:=
 ∀(pins:List (Addr×Obj)) (s:Shared) (σ:St) (H:Hp) (R:It->Hp->Prop),Inv X pins σ H s->wi σ H R->
  wpAny (model X.prog X.w) X.A (eval iter X.env) (λv s1=>wpAny (model X.prog X.w) X.A (pyIter v) (PIE X pins σ tg R) X.xe s1) X.xe s
theorem Ey{M : Model}{A : Around}{E : Value → Shared → Prop}{s : Shared}{tg : Expr}{it : Addr}{u : Value}{o : Obj}{n : String}{vs : Array Value}{Q : Unit → Shared → Prop}(ho : s.heap.get? it=some o)(hc : o.cls=.type n)(hd : o.data=.fields vs)
    (hn : ["enumerate", "zip", "dict_itemiterator", "dict_reverseitemiterator", "odict_iterator", "itertools.zip_longest", "itertools.pairwise"].contains n=false) (hQ : Q () s) : wpAny M A (letOwnedTupleGo tg (.ref it) u) Q E s := by
  unfold letOwnedTupleGo
  cases tg <;> first
    | exact cn hQ
    | (cases u <;> first
        | exact cn hQ
        | (refine bG (wpAny_load ho ?_)
           rw[hc, hd]
           show wpAny M A (if (["enumerate", "zip", "dict_itemiterator", "dict_reverseitemiterator", "odict_iterator", "itertools.zip_longest", "itertools.pairwise"].contains n&&vs[0]? == some (rawInt _))=true then _ else _) Q E s
           rw[aO (by intro h; rw[hn, oj]at h; cases h)]
           exact cn hQ))
def xj(K:PySem.W.Frag)(a:Addr):It:=
 ⟨λi H=>∃xs x,og K H a xs/\xs[i]?=some x,λi H x H'=>H'=H/\∀xs,og K H a xs->xs[i]?=some x,λi H=>∃xs,og K H a xs/\xs.length<=i⟩
def Iy(K:PySem.W.Frag)(a:Addr):It:=
 ⟨λi H=>∃xs x,sQ K H a xs/\xs[i]?=some x,λi H x H'=>H'=H/\∀xs,sQ K H a xs->xs[i]?=some x,λi H=>∃xs,sQ K H a xs/\xs.length<=i⟩
def yS(lo:Int)(n:Nat):It:=⟨λi _=>i<n,λi H x H'=>H'=H/\x=.int (lo+i),λi _=>n<=i⟩
theorem Ab{P:Program}{w:World}{K:PySem.W.Frag}{tg:Expr}(a it:Addr):Turn P w K tg (xj K a) [it] it (λi h=>h.IsListIter it a i) where
 mem:=by simp
 obj:=λi h st b hb=>by
  have e:b=it:=by simpa using hb
  subst e
  obtain⟨o,e,c,d⟩:=st
  exact⟨o,e,λv z=>by rw[d]at z;cases z⟩
 keep:=λi h h' st k=>st.at λo e=>k it (by simp) o e
 item:=by
  intro X hP hw hK hc i pins s σ H E I hf st hg
  subst hP hw hK
  obtain⟨xs,x,hq,hx⟩:=hg
  obtain⟨its,rv,p,hz⟩:=I.list hq
  obtain⟨u,hu,ru⟩:=rv.get hx
  obtain⟨f0,f1,f2,f3,f4,f5⟩:=hf it (by simp)
  refine wpAny_pyNext_list_item st p.isList (x:=u) (by simpa using hu) λh' IV sb=>?_
  have I1:Inv X pins σ H { s with heap:=h' }:=I.turned (t':=s.toks) (λb o hb e=>(sb.2 b hb).trans e) f0 f1 f3 f4 f5
  obtain⟨o,e,c,d⟩:=id IV
  exact⟨u,rfl,Ey (s:={ s with heap:=h' }) e c d (by decide) ⟨x,H,I1,ru,⟨rfl,λys hy=>by rw[I.Eh hy hq];exact hx⟩,IV,λb hb=>(hf b hb).1⟩⟩
 done:=by
  intro X hP hw hK hc i pins s σ H E I hf st hg
  subst hP hw hK
  obtain⟨xs,hq,hx⟩:=hg
  obtain⟨its,rv,p,hz⟩:=I.list hq
  obtain⟨f0,f1,f2,f3,f4,f5⟩:=hf it (by simp)
  have hl:=rv.length
  exact wpAny_pyNext_list_end (I.ok.hd hc) st p.isList (by simp;lia) λh' eb=>⟨rfl,I.turned (t':=s.toks) (λb o hb e=>eb b o hb e) f0 f1 f3 f4 f5⟩
 self:=λ_ _ _ _ _ st h=>wpAny_pyIter_listiter st h
theorem xG{P:Program}{w:World}{K:PySem.W.Frag}{tg:Expr}(a it:Addr):Turn P w K tg (Iy K a) [it] it (λi h=>h.IsTupleIter it a i) where
 mem:=by simp
 obj:=λi h st b hb=>by
  have e:b=it:=by simpa using hb
  subst e
  obtain⟨o,e,c,d⟩:=st
  exact⟨o,e,λv z=>by rw[d]at z;cases z⟩
 keep:=λi h h' st k=>st.at λo e=>k it (by simp) o e
 item:=by
  intro X hP hw hK hc i pins s σ H E I hf st hg
  subst hP hw hK
  obtain⟨xs,x,hq,hx⟩:=hg
  obtain⟨its,rv,p,hz⟩:=I.tuple hq
  obtain⟨u,hu,ru⟩:=rv.get hx
  obtain⟨f0,f1,f2,f3,f4,f5⟩:=hf it (by simp)
  refine wpAny_pyNext_tuple_item st (show s.heap.IsTuple a its.toArray from p) (x:=u) (by simpa using hu) λh' IV sb=>?_
  have I1:Inv X pins σ H { s with heap:=h' }:=I.turned (t':=s.toks) (λb o hb e=>(sb.2 b hb).trans e) f0 f1 f3 f4 f5
  obtain⟨o,e,c,d⟩:=id IV
  exact⟨u,rfl,Ey (s:={ s with heap:=h' }) e c d (by decide) ⟨x,H,I1,ru,⟨rfl,λys hy=>by rw[I.Ac hy hq];exact hx⟩,IV,λb hb=>(hf b hb).1⟩⟩
 done:=by
  intro X hP hw hK hc i pins s σ H E I hf st hg
  subst hP hw hK
  obtain⟨xs,hq,hx⟩:=hg
  obtain⟨its,rv,p,hz⟩:=I.tuple hq
  obtain⟨f0,f1,f2,f3,f4,f5⟩:=hf it (by simp)
  have hl:=rv.length
  exact wpAny_pyNext_tuple_end (I.ok.hd hc) st (show s.heap.IsTuple a its.toArray from p) (by simp;lia) λh' eb=>⟨rfl,I.turned (t':=s.toks) (λb o hb e=>eb b o hb e) f0 f1 f3 f4 f5⟩
 self:=λ_ _ _ _ _ st h=>wpAny_pyIter_tupleiter st h
theorem xH{P:Program}{w:World}{K:PySem.W.Frag}{tg:Expr}(it:Addr)(lo:Int)(n:Nat):Turn P w K tg (yS lo n) [it] it (λi h=>IsRangeIter h it (lo+(i:Nat)*1) ((n:Int)-(i:Nat)) 1) where
 mem:=by simp
 obj:=λi h st b hb=>by
  have e:b=it:=by simpa using hb
  subst e
  exact⟨_,st,λv z=>by
   have z':Data.fields _=Data.cell v:=z
   cases z'⟩
 keep:=λi h h' st k=>k it (by simp) _ st
 item:=by
  intro X hP hw hK hc i pins s σ H E I hf st hg
  subst hP hw hK
  obtain⟨f0,f1,f2,f3,f4,f5⟩:=hf it (by simp)
  have W:=Walks.range (prog:=X.prog) (w:=X.w) (I.ok.hd hc) it lo 1 n
  refine W.item i s _ _ hg st λv h' tk hv IV kk=>?_
  obtain⟨t,rfl⟩:=hv
  have I1:Inv X pins σ H { s with heap:=h',toks:=tk }:=I.turned (λb o hb e=>kk b o (by simpa using hb) e) f0 f1 f3 f4 f5
  refine⟨_,rfl,Ey (s:={ s with heap:=h',toks:=tk }) (n:="range_iterator") IV rfl rfl (by decide) ⟨.int (lo+i),H,I1,⟨t,?_⟩,⟨rfl,rfl⟩,IV,λb hb=>(hf b hb).1⟩⟩
  rw[Int.mul_one]
 done:=by
  intro X hP hw hK hc i pins s σ H E I hf st hg
  subst hP hw hK
  obtain⟨f0,f1,f2,f3,f4,f5⟩:=hf it (by simp)
  exact wpAny_pyNext_range_end (I.ok.hd hc) st (by have:n<=i:=hg;lia) λh' eb=>⟨rfl,I.turned (t':=s.toks) (λb o hb e=>eb b o hb e) f0 f1 f3 f4 f5⟩
 self:=λ_ _ _ _ _ st h=>wpAny_pyIter_rangeiter st h
end L2
namespace L2
open PySem PySem.Spec PyProof.Rows
section
variable {X:Cx}{tg:Expr}
def wH(K:PySem.W.Frag)(tl:TE):TI:=λσ H R=>tl σ H λx H1=>∃a,x=.ref a/\(∃xs,og K H1 a xs)/\R (xj K a) H1
def Ek(K:PySem.W.Frag)(tl:TE):TI:=λσ H R=>tl σ H λx H1=>∃a,x=.ref a/\(∃xs,sQ K H1 a xs)/\R (Iy K a) H1
theorem He{l:Expr}{tl:TE}(hl:PE X l tl):PI X tg l (wH X.K tl):=by
 intro pins s σ H R I h
 refine cV (hl pins s σ H _ I h) λv s1 ⟨x,H1,I1,r1,q1⟩=>?_
 obtain⟨a,e,⟨xs,hq⟩,q⟩:=q1
 subst e
 cases r1
 obtain⟨its,rv,p,hz⟩:=I1.list hq
 refine wpAny_pyIter_list p.isList ?_
 refine⟨s1.heap.objs.size,[s1.heap.objs.size],_,_,H1,rfl,I1.kept (t':=s1.toks) λb o e=>gI _ e,Ab a _,⟨_,iZ _ rfl,rfl,rfl⟩,λb hb=>?_,q⟩
 have e:b=s1.heap.objs.size:=by simpa using hb
 subst e
 exact I1.Md (cu _) (I1.dN.fresh (cu _))
theorem Kw{l:Expr}{tl:TE}(hl:PE X l tl):PI X tg l (Ek X.K tl):=by
 intro pins s σ H R I h
 refine cV (hl pins s σ H _ I h) λv s1 ⟨x,H1,I1,r1,q1⟩=>?_
 obtain⟨a,e,⟨xs,hq⟩,q⟩:=q1
 subst e
 cases r1
 obtain⟨its,rv,p,hz⟩:=I1.tuple hq
 refine wpAny_pyIter_tuple (show s1.heap.IsTuple a its.toArray from p) ?_
 refine⟨s1.heap.objs.size,[s1.heap.objs.size],_,_,H1,rfl,I1.kept (t':=s1.toks) λb o e=>gI _ e,xG a _,⟨_,iZ _ rfl,rfl,rfl⟩,λb hb=>?_,q⟩
 have e:b=s1.heap.objs.size:=by simpa using hb
 subst e
 exact I1.Md (cu _) (I1.dN.fresh (cu _))
theorem wc{pins:List (Addr×Obj)}{σ:St}{H:Hp}{s:Shared}{R:It->Hp->Prop}{E:Value->Shared->Prop}{lo hi:Int}{t u v:Tok}{tk:Nat}(I:Inv X pins σ H s)(h1 : -(2 ^ 62)<=lo)(h2:lo<2 ^ 62)(h3 : -(2 ^ 62)<=hi)(h4:hi<2 ^ 62)
  (q:R (yS lo (hi-lo).toNat) H):wpAny (model X.prog X.w) X.A (pyIter (.ref s.heap.objs.size)) (PIE X pins σ tg R) E { s with heap:=s.heap.push { cls:=.type "range",data:=.fields #[.int lo t,.int hi u,.int 1 v] },toks:=tk }:=by
 refine wpAny_pyIter_range (IsRange.new ..) (small_one h1 h2 h3 h4) ?_
 have I1:Inv X pins σ H { s with heap:=s.heap.push { cls:=.type "range",data:=.fields #[.int lo t,.int hi u,.int 1 v] },toks:=tk }:=I.kept λb o e=>gI _ e
 refine⟨(s.heap.push { cls:=.type "range",data:=.fields #[.int lo t,.int hi u,.int 1 v] }).objs.size,[(s.heap.push { cls:=.type "range",data:=.fields #[.int lo t,.int hi u,.int 1 v] }).objs.size],_,_,H,rfl,
  I1.kept (t':=tk) λb o e=>gI _ e,xH _ lo (hi-lo).toNat,?_,λb hb=>?_,q⟩
 ·have e1:lo+((0:Nat):Int)*1=lo:=by simp
  have e2:(((hi-lo).toNat:Nat):Int)-((0:Nat):Int)=Builtin.Range.rangeSize lo hi 1:=by rw[rangeSize_one];split <;> lia
  show IsRangeIter _ _ (lo+((0:Nat):Int)*1) ((((hi-lo).toNat:Nat):Int)-((0:Nat):Int)) 1
  rw[e1,e2]
  exact iZ _ rfl
 ·have e:b=(s.heap.push { cls:=.type "range",data:=.fields #[.int lo t,.int hi u,.int 1 v] }).objs.size:=by simpa using hb
  subst e
  exact I1.Md (cu _) (I1.dN.fresh (cu _))
def wG(ta:TA):TI:=λσ H R=>ta σ H λvs H1=>∃j:Int,vs=[.int j]/\-(2 ^ 62)<=j/\j<2 ^ 62/\R (yS 0 j.toNat) H1
def wF(ta:TA):TI:=λσ H R=>ta σ H λvs H1=>∃i j:Int,vs=[.int i,.int j]/\(-(2 ^ 62)<=i/\i<2 ^ 62/\-(2 ^ 62)<=j/\j<2 ^ 62)/\R (yS i (j-i).toNat) H1
theorem tP{a:Expr}{ta:TA}{p pos:Pos}(hg:Gl X "range")(hm:X.mg "range" = none)(ha:PA X [a] ta)(hs:starEach [a] X.env=[(false,eval a X.env)]:=by rfl):PI X tg (.Call (.Name "range" p) [a] [] pos) (wG ta):=by
 intro pins s σ H R I h
 refine Call_ (rM I hg hm boot_range (Cj (cV (ha pos pins s σ H _ I h) λus s1 ⟨vs,H1,I1,r1,q1⟩=>?_) hs rfl))
 obtain⟨j,e,q1,q2,q⟩:=q1
 subst e
 cases r1 with
 | cons r rr=>
  cases rr
  obtain⟨t,rfl⟩:=r
  exact call_range_1 (wc I1 (by lia) (by lia) q1 q2 (by simpa using q))
theorem o4{a b:Expr}{ta:TA}{p pos:Pos}(hg:Gl X "range")(hm:X.mg "range" = none)(ha:PA X [a,b] ta)(hs:starEach [a,b] X.env=[(false,eval a X.env),(false,eval b X.env)]:=by rfl)(Oz:starEach [b] X.env=[(false,eval b X.env)]:=by rfl) :
  PI X tg (.Call (.Name "range" p) [a,b] [] pos) (wF ta):=by
 intro pins s σ H R I h
 refine Call_ (rM I hg hm boot_range (Cj (cV (ha pos pins s σ H _ I h) λus s1 ⟨vs,H1,I1,r1,q1⟩=>?_) (by rw[hs,Oz]) (by rw[Oz];rfl)))
 obtain⟨i,j,e,⟨q1,q2,q3,q4⟩,q⟩:=q1
 subst e
 cases r1 with
 | cons r rr=>
  cases rr with
  | cons r' rr=>
   cases rr
   obtain⟨t,rfl⟩:=r
   obtain⟨t',rfl⟩:=r'
   exact call_range_2 (wc I1 q1 q2 q3 q4 q)
def Gs(wi:TI)(g:TG)(tb:TS):TS:=λD σ H=>wi σ H λJ H1=>∃W:Nat->Nat->St->Hp->Prop,(∃m,W 0 m σ H1)/\∀i m σ H,W i m σ H->
 (J.stop i H/\D.nx σ H)\/(J.go i H/\∃N:St->Hp->Prop,(∀σ' H',N σ' H'->∃m',m'<m/\W (i+1) m' σ' H')/\∀x H',J.y9 i H x H'->g x σ H' λσ2 H2=>tb { D with nx:=N,ct:=N,bk:=D.nx } σ2 H2)
def o3(fp:List Addr)(h:Heap):List (Addr×Obj):=fp.filterMap λb=>(h.get? b).map λo=>(b,o)
theorem gy{fp:List Addr}{h:Heap}{b:Addr}{o:Obj}(hb:b∈fp)(e:h.get? b=some o):(b,o)∈o3 fp h:=List.mem_filterMap.mpr ⟨b,hb,by rw[e];rfl⟩
theorem Av{fp:List Addr}{h:Heap}{p:Addr×Obj}(hp:p∈o3 fp h):p.1∈fp/\h.get? p.1=some p.2:=by
 obtain⟨b,hb,e⟩:=List.mem_filterMap.mp hp
 cases q:h.get? b with
 | none=>rw[q]at e;cases e
 | some o=>
  rw[q]at e
  have e':(b,o)=p:=dP e
  subst e'
  exact⟨hb,q⟩
theorem Inv.pinned{pins:List (Addr×Obj)}{σ:St}{H:Hp}{s:Shared}{fp:List Addr}(I:Inv X pins σ H s)(hf:∀b∈fp,qx X pins H b)(ho:∀b∈fp,∃o,s.heap.get? b=some o/\∀v,o.data≠.cell v):Inv X (pins++o3 fp s.heap) σ H s:=
 I.zt λp hp=>(fu.mp hp).elim (λz=>I.pin p (ja _ z)) λz=>by
  obtain⟨hb,e⟩:=Av z
  obtain⟨f0,f1,f2,_⟩:=hf p.1 hb
  obtain⟨o,e',d⟩:=ho p.1 hb
  rw[e]at e';cases e'
  exact⟨e,f0,f1,f2,d⟩
theorem Inv.lV{pins pl:List (Addr×Obj)}{σ:St}{H:Hp}{s:Shared}(I:Inv X (pins++pl) σ H s):Inv X pins σ H s:=I.zt λp hp=>I.pin p (ja _ (qM _ hp))
theorem Kt{iter:Expr}{body:List Stmt}{wi:TI}{g:TG}{tb:TS}{pos:Pos}(hp:PassesOwn (model X.prog X.w) X.A X.env X.xe)(hc:X.calm=true)(hi:PI X tg iter wi)(hg:PG X tg g)(hb:vD X body tb)
  (hs:∀x,foldedSetIterable iter X.env x=pure x:=by intro _;rfl):PS X (.For tg iter body [] pos) (Gs wi g tb):=by
 intro pins s σ H D I h
 refine wpAny_For (cV (hi pins s σ H _ I h) λv s1 h1=>cV h1 λOw s2 h2=>?_) hs
 obtain⟨it,fp,tn,J,H2,e,I2,T,v5,f2,W,⟨m0,w0⟩,turn⟩:=h2
 subst e
 have stat:∀{H':Hp},(∀b∈fp,H' b=none)->∀b∈fp,qx X pins H' b:=λhn b hb=>⟨hn b hb,(f2 b hb).2⟩
 refine codeAny_forLoop_any (λn s'=>∃i σ' H',Inv X pins σ' H' s'/\tn i s'.heap/\(∀b∈fp,H' b=none)/\W i n σ' H') ?_ m0 ⟨0,σ,H2,I2,v5,λb hb=>(f2 b hb).1,w0⟩
 rintro n s3 ⟨i,σ3,H3,I3,Z5,fr3,w3⟩
 rcases turn i n σ3 H3 w3 with ⟨stop,qn⟩ | ⟨go,N,hN,step⟩
 ·refine qJ hp (cV (T.done X rfl rfl rfl hc i pins s3 σ3 H3 X.xe I3 (stat fr3) Z5 stop) λr s4 ⟨hr,I4⟩=>?_)
  subst hr
  exact ur ⟨σ3,H3,I4,qn⟩
 ·refine qJ hp (cV (T.item X rfl rfl rfl hc i pins s3 σ3 H3 X.xe I3 (stat fr3) Z5 go) λr s4 ⟨u,hr,h4⟩=>?_)
  subst hr
  refine qJ hp (cV h4 λ_ s5 ⟨x,H5,I5,r5,y5,Sr,fr5⟩=>?_)
  have I5':=I5.pinned (stat fr5) (T.obj _ _ Sr)
  refine qJ hp (cV (hg _ s5 σ3 H5 x u _ I5' r5 (step x H5 y5)) λ_ s6 ⟨σ6,H6,I6,q6⟩=>?_)
  refine qJ hp (cV (hb _ s6 σ6 H6 _ I6 q6) λf s7 q7=>?_)
  have again:∀{σ7:St} {H7:Hp},Inv X (pins++o3 fp s5.heap) σ7 H7 s7->N σ7 H7->∃m,m<n/\∃i σ' H',Inv X pins σ' H' s7/\tn i s7.heap/\(∀b∈fp,H' b=none)/\W i m σ' H':=λ{σ7 H7} I7 n7=>by
   obtain⟨m',hm,w7⟩:=hN σ7 H7 n7
   refine⟨m',hm,i+1,σ7,H7,I7.lV,T.keep _ _ _ Sr λb hb o e=>(I7.pin (b,o) (ja _ (ja _ (gy hb e)))).1,λb hb=>?_,w7⟩
   obtain⟨o,e,d⟩:=T.obj _ _ Sr b hb
   exact(I7.pin (b,o) (ja _ (ja _ (gy hb e)))).2.1
  cases f with
  | next=>obtain⟨σ7,H7,I7,n7⟩:=q7;exact again I7 n7
  | cont=>obtain⟨σ7,H7,I7,n7⟩:=q7;exact again I7 n7
  | brk=>obtain⟨σ7,H7,I7,q7⟩:=q7;exact⟨σ7,H7,I7.lV,q7⟩
  | ret v=>obtain⟨x7,σ7,H7,I7,r7,q7⟩:=q7;exact⟨x7,σ7,H7,I7.lV,r7,q7⟩
end
theorem Fb{K:PySem.W.Frag}{a:Addr}{xs:List V}{g:TG}{tb:TS}{D:Ends}{σ:St}{H:Hp}(Pv:Nat->St->Hp->Prop)(h0:Pv 0 σ H)(hl:∀i σ H,i<=xs.length->Pv i σ H->og K H a xs)
  (hs:∀i x σ H,xs[i]?=some x->Pv i σ H->g x σ H λσ2 H2=>tb { D with nx:=Pv (i+1),ct:=Pv (i+1),bk:=D.nx } σ2 H2) (hd:∀σ H,Pv xs.length σ H->D.nx σ H) :
  ∃W:Nat->Nat->St->Hp->Prop,(∃m,W 0 m σ H)/\∀i m σ H,W i m σ H->
   ((xj K a).stop i H/\D.nx σ H)\/((xj K a).go i H/\∃N:St->Hp->Prop,(∀σ' H',N σ' H'->∃m',m'<m/\W (i+1) m' σ' H')/\∀x H',(xj K a).y9 i H x H'->g x σ H' λσ2 H2=>tb { D with nx:=N,ct:=N,bk:=D.nx } σ2 H2):=by
 refine⟨λi m σ H=>m=xs.length-i/\i<=xs.length/\Pv i σ H,⟨xs.length,by simp,lq _,h0⟩,?_⟩
 rintro i m σ H ⟨rfl,hi,p⟩
 have q:=hl i σ H hi p
 by_cases rS:i<xs.length
 ·refine .inr ⟨⟨xs,xs[i],q,by simp[rS]⟩,Pv (i+1),λσ' H' p'=>⟨xs.length-(i+1),by lia,rfl,rS,p'⟩,λx H' y=>?_⟩
  obtain⟨e,y⟩:=y
  subst e
  exact hs i x σ _ (y xs q) p
 ·have e:i=xs.length:=by lia
  subst e
  exact .inl ⟨⟨xs,q,cu _⟩,hd σ H p⟩
theorem Ih{K:PySem.W.Frag}{a:Addr}{xs:List V}{g:TG}{tb:TS}{D:Ends}{σ:St}{H:Hp}(Pv:Nat->St->Hp->Prop)(h0:Pv 0 σ H)(hl:∀i σ H,i<=xs.length->Pv i σ H->sQ K H a xs)
  (hs:∀i x σ H,xs[i]?=some x->Pv i σ H->g x σ H λσ2 H2=>tb { D with nx:=Pv (i+1),ct:=Pv (i+1),bk:=D.nx } σ2 H2) (hd:∀σ H,Pv xs.length σ H->D.nx σ H) :
  ∃W:Nat->Nat->St->Hp->Prop,(∃m,W 0 m σ H)/\∀i m σ H,W i m σ H->
   ((Iy K a).stop i H/\D.nx σ H)\/((Iy K a).go i H/\∃N:St->Hp->Prop,(∀σ' H',N σ' H'->∃m',m'<m/\W (i+1) m' σ' H')/\∀x H',(Iy K a).y9 i H x H'->g x σ H' λσ2 H2=>tb { D with nx:=N,ct:=N,bk:=D.nx } σ2 H2):=by
 refine⟨λi m σ H=>m=xs.length-i/\i<=xs.length/\Pv i σ H,⟨xs.length,by simp,lq _,h0⟩,?_⟩
 rintro i m σ H ⟨rfl,hi,p⟩
 have q:=hl i σ H hi p
 by_cases rS:i<xs.length
 ·refine .inr ⟨⟨xs,xs[i],q,by simp[rS]⟩,Pv (i+1),λσ' H' p'=>⟨xs.length-(i+1),by lia,rfl,rS,p'⟩,λx H' y=>?_⟩
  obtain⟨e,y⟩:=y
  subst e
  exact hs i x σ _ (y xs q) p
 ·have e:i=xs.length:=by lia
  subst e
  exact .inl ⟨⟨xs,q,cu _⟩,hd σ H p⟩
theorem Bk{lo:Int}{n:Nat}{g:TG}{tb:TS}{D:Ends}{σ:St}{H:Hp}(Pv:Nat->St->Hp->Prop)(h0:Pv 0 σ H)
  (hs:∀i σ H,i<n->Pv i σ H->g (.int (lo+i)) σ H λσ2 H2=>tb { D with nx:=Pv (i+1),ct:=Pv (i+1),bk:=D.nx } σ2 H2) (hd:∀σ H,Pv n σ H->D.nx σ H) :
  ∃W:Nat->Nat->St->Hp->Prop,(∃m,W 0 m σ H)/\∀i m σ H,W i m σ H->
   ((yS lo n).stop i H/\D.nx σ H)\/((yS lo n).go i H/\∃N:St->Hp->Prop,(∀σ' H',N σ' H'->∃m',m'<m/\W (i+1) m' σ' H')/\∀x H',(yS lo n).y9 i H x H'->g x σ H' λσ2 H2=>tb { D with nx:=N,ct:=N,bk:=D.nx } σ2 H2):=by
 refine⟨λi m σ H=>m=n-i/\i<=n/\Pv i σ H,⟨n,by simp,lq _,h0⟩,?_⟩
 rintro i m σ H ⟨rfl,hi,p⟩
 by_cases rS:i<n
 ·refine .inr ⟨rS,Pv (i+1),λσ' H' p'=>⟨n-(i+1),by lia,rfl,rS,p'⟩,λx H' y=>?_⟩
  obtain⟨e,y⟩:=y
  subst e y
  exact hs i σ _ rS p
 ·have e:i=n:=by lia
  subst e
  exact .inl ⟨cu _,hd σ H p⟩
end L2
namespace L2
open PySem PySem.Spec PyProof.Rows
abbrev R2:=V->V->Hp->VK->Prop
def kc(X:Cx)(f:Value->Value->Sem Value)(r:R2):Prop:=
 ∀(pins:List (Addr×Obj)) (s:Shared) (σ:St) (H:Hp) (x y:V) (v u:Value) (Q:VK),Inv X pins σ H s->RelV x v->RelV y u->r x y H Q->
  wpAny (model X.prog X.w) X.A (f v u) (EP X pins σ Q) X.xe s
def R0(X:Cx)(f:Value->Sem Value)(r:V->Hp->VK->Prop):Prop:=
 ∀(pins:List (Addr×Obj)) (s:Shared) (σ:St) (H:Hp) (x:V) (v:Value) (Q:VK),Inv X pins σ H s->RelV x v->r x H Q->
  wpAny (model X.prog X.w) X.A (f v) (EP X pins σ Q) X.xe s
def eQ(X:Cx)(f:Value)(r:List V->Hp->VK->Prop):Prop:=
 ∀(pins:List (Addr×Obj)) (s:Shared) (σ:St) (H:Hp) (xs:List V) (us:List Value) (Q:VK),Inv X pins σ H s->Vals xs us->r xs H Q->
  wpAny (model X.prog X.w) X.A (call f us) (EP X pins σ Q) X.xe s
def BK(r:R2)(ta tb:TE):TE:=λσ H Q=>ta σ H λx H1=>tb σ H1 λy H2=>r x y H2 Q
def Nq(r:V->Hp->VK->Prop)(ta:TE):TE:=λσ H Q=>ta σ H λx H1=>r x H1 Q
def rI(C:Int->Int->Prop)(g:Int->Int->V):R2:=λx y H Q=>∃i j,x=.int i/\y=.int j/\C i j/\Q (g i j) H
def Ao(g:Int->Int->V):R2:=λx y H Q=>∃i j,x=.int i/\y=.int j/\Q (g i j) H
def rU(g:Int->V):V->Hp->VK->Prop:=λx H Q=>∃i,x=.int i/\Q (g i) H
section
variable {X:Cx}{a b c:Expr}{ta tb tc:TE}{pos:Pos}
theorem Mt(ha:PE X a ta)(hb:PE X b tb){pins:List (Addr×Obj)}{s:Shared}{σ:St}{H:Hp}{R:V->V->Hp->Prop}(I:Inv X pins σ H s)
  (h:ta σ H λx H1=>tb σ H1 λy H2=>R x y H2) {Q:Value->Shared->Prop} {f:Value->Value->Sem Value}
  (hf:∀v u s2 x y H2,Inv X pins σ H2 s2->RelV x v->RelV y u->R x y H2->wpAny (model X.prog X.w) X.A (f v u) Q X.xe s2) :
  wpAny (model X.prog X.w) X.A (eval a X.env) (λv s₁=>wpAny (model X.prog X.w) X.A (eval b X.env) (λu s₂=>wpAny (model X.prog X.w) X.A (f v u) Q X.xe s₂) X.xe s₁) X.xe s:=by
 refine cV (ha pins s σ H _ I h) λv s1 ⟨x,H1,I1,r1,q1⟩=>?_
 refine cV (hb pins s1 σ H1 _ I1 q1) λu s2 ⟨y,H2,I2,r2,q2⟩=>?_
 exact hf v u s2 x y H2 I2 r1 r2 q2
theorem Ob{op:Operator}{r:R2}(ho:kc X (binaryOp op) r)(ha:PE X a ta)(hb:PE X b tb):PE X (.BinOp a op b pos) (BK r ta tb):=by
 intro pins s σ H Q I h
 exact wpAny_BinOp (Mt ha hb I h λv u s2 x y H2 I2 rx ry q=>ho pins s2 σ H2 x y v u Q I2 rx ry q)
theorem Oa{op:UnaryOp}{r:V->Hp->VK->Prop}(ho:R0 X (unaryOp op) r)(ha:PE X a ta):PE X (.UnaryOp op a pos) (Nq r ta):=by
 intro pins s σ H Q I h
 exact UnaryOp_ (cV (ha pins s σ H _ I h) λv s1 ⟨x,H1,I1,r1,q1⟩=>ho pins s1 σ H1 x v Q I1 r1 q1)
theorem M0{f:Value->Value->Sem Value}{C:Int->Int->Prop}{g:Int->Int->Int}
  (rule:∀(i j:Int) (t u:Tok) (s:Shared) (Q:Value->Shared->Prop) (E:Value->Shared->Prop),C i j->Q (.int (g i j) s.toks) { s with toks:=s.toks+1 }->wpAny (model X.prog X.w) X.A (f (.int i t) (.int j u)) Q E s) :
  kc X f (rI C λi j=>.int (g i j)):=by
 intro pins s σ H x y v u Q I rx ry h
 obtain⟨i,j,rfl,rfl,hc,q⟩:=h
 obtain⟨t,rfl⟩:=rx
 obtain⟨t',rfl⟩:=ry
 exact rule i j t t' s _ _ hc ⟨.int (g i j),H,I.tok _,⟨_,rfl⟩,q⟩
theorem Hm{f:Value->Value->Sem Value}{g:Int->Int->Int}
  (rule:∀(i j:Int) (t u:Tok) (s:Shared) (Q:Value->Shared->Prop) (E:Value->Shared->Prop),Q (.int (g i j) s.toks) { s with toks:=s.toks+1 }->wpAny (model X.prog X.w) X.A (f (.int i t) (.int j u)) Q E s) :
  kc X f (Ao λi j=>.int (g i j)):=by
 intro pins s σ H x y v u Q I rx ry h
 obtain⟨i,j,rfl,rfl,q⟩:=h
 obtain⟨t,rfl⟩:=rx
 obtain⟨t',rfl⟩:=ry
 exact rule i j t t' s _ _ ⟨.int (g i j),H,I.tok _,⟨_,rfl⟩,q⟩
theorem K3{f:Value->Value->Sem Value}{g:Int->Int->Bool}
  (rule:∀(i j:Int) (t u:Tok) (s:Shared) (Q:Value->Shared->Prop) (E:Value->Shared->Prop),Q (.bool (g i j)) s->wpAny (model X.prog X.w) X.A (f (.int i t) (.int j u)) Q E s) :
  kc X f (Ao λi j=>.bl (g i j)):=by
 intro pins s σ H x y v u Q I rx ry h
 obtain⟨i,j,rfl,rfl,q⟩:=h
 obtain⟨t,rfl⟩:=rx
 obtain⟨t',rfl⟩:=ry
 exact rule i j t t' s _ _ ⟨.bl (g i j),H,I,rfl,q⟩
def yV(i j:Int):Prop:=0<=j/\j<=1000000/\i.natAbs<2 ^ 64
def kZ(i j:Int):Prop:=(-(2 ^ 64)<i/\i<2 ^ 64)\/(-(2 ^ 64)<j/\j<2 ^ 64)
theorem kZ.ok{i j:Int}(h:kZ i j):IntMulOk i j:=by
 rcases h with ⟨h1,h2⟩ | ⟨h1,h2⟩
 ·exact .of_left (intBits_le_64 h1 h2)
 ·exact .of_right (intBits_le_64 h1 h2)
theorem xF(k:Nat):(0:Int)<=2 ^ k:=by
 rw[two_pow_cast]
 exact Int.natCast_nonneg _
theorem gx:kc X (binaryOp .Add) (Ao λi j=>.int (i+j)):=Hm λ_ _ _ _ _ _ _ q=>add_int q
theorem uU:kc X (binaryOp .Sub) (Ao λi j=>.int (i-j)):=Hm λ_ _ _ _ _ _ _ q=>sub_int q
theorem o5:kc X (binaryOp .Mult) (rI kZ λi j=>.int (i*j)):=M0 λ_ _ _ _ _ _ _ hc q=>mul_int q hc.ok
theorem lY:kc X (binaryOp .Mod) (rI (λ_ j=>0<j) λi j=>.int (i%j)):=M0 λi j _ _ _ _ _ hc q=>by
 have h1:(0:Int)<j:=hc
 exact mod_int' (by lia) (by rw[Int.fmod_eq_emod_of_nonneg i (by lia)];exact q)
theorem rD:kc X (binaryOp .Pow) (rI yV λi j=>.int (i ^ j.toNat)):=M0 λ_ _ _ _ _ _ _ hc q=>pow_int_small hc.1 hc.2.1 hc.2.2 q
theorem nT:kc X (binaryOp .LShift) (rI yV λi j=>.int (i*2 ^ j.toNat)):=M0 λ_ _ _ _ _ _ _ hc q=>lshift_int_small hc.1 hc.2.1 hc.2.2 q
theorem KZ:kc X (binaryOp .RShift) (rI (λ_ j=>0<=j) λi j=>.int (i / 2 ^ j.toNat)):=M0 λi j _ _ _ _ _ hc q=>
 rshift_int hc (by rw[Int.fdiv_eq_ediv_of_nonneg i (xF _)];exact q)
theorem o6:kc X (binaryOp .BitAnd) (Ao λi j=>.int (Builtin.bitAnd i j)):=Hm λ_ _ _ _ _ _ _ q=>and_int q
theorem Jd:kc X (binaryOp .BitOr) (Ao λi j=>.int (Builtin.bitOr i j)):=Hm λ_ _ _ _ _ _ _ q=>or_int q
theorem unI{f:Value->Sem Value}{g:Int->Int}
  (rule:∀(i:Int) (t:Tok) (s:Shared) (Q:Value->Shared->Prop) (E:Value->Shared->Prop),Q (.int (g i) s.toks) { s with toks:=s.toks+1 }->wpAny (model X.prog X.w) X.A (f (.int i t)) Q E s) :
  R0 X f (rU λi=>.int (g i)):=by
 intro pins s σ H x v Q I rx h
 obtain⟨i,rfl,q⟩:=h
 obtain⟨t,rfl⟩:=rx
 exact rule i t s _ _ ⟨.int (g i),H,I.tok _,⟨_,rfl⟩,q⟩
theorem JM:R0 X (unaryOp .USub) (rU λi=>.int (-i)):=unI λ_ _ _ _ _ q=>neg_int q
end
def CV:V->V->Bool
 | .non,.non=>true | .non,.int _=>true | .int _,.non=>true | .non,.bl _=>true | .bl _,.non=>true | .non,.str _=>true | .str _,.non=>true
 | .int _,.int _=>true | .bl _,.bl _=>true | .str _,.str _=>true | .BX _,.BX _=>true
 | .int _,.str _=>true | .str _,.int _=>true | .bl _,.str _=>true | .str _,.bl _=>true
 | _,_=>false
def Q8:R2:=λx y H Q=>CV x y=true/\Q (.bl (decide (x=y))) H
def Q7:R2:=λx y H Q=>CV x y=true/\Q (.bl (!decide (x=y))) H
theorem zV{i j:Int}:decide (V.int i=V.int j)=(i==j):=by
 rw[iV]
 simp
theorem Fj{i j:Bool}:decide (V.bl i=V.bl j)=(i==j):=by
 rw[iV]
 simp
theorem zU{i j:Str}:decide (V.str i=V.str j)=(i==j):=by
 rw[iV]
 simp
theorem zW{i j:Array UInt8}:decide (V.BX i=V.BX j)=(i.toList==j.toList):=by
 rw[iV]
 cases i
 cases j
 simp
section
variable {X:Cx}{a b c:Expr}{ta tb tc:TE}{pos:Pos}
theorem bN{pins:List (Addr×Obj)}{σ:St}{H:Hp}{s:Shared}{Q:VK}{k k':Bool}(I:Inv X pins σ H s)(q:Q (.bl k) H)(e:k=k'):EP X pins σ Q (.bool k') s:=by
 subst e
 exact⟨.bl k,H,I,rfl,q⟩
theorem cS:kc X (compareOp .Eq) Q8:=by
 intro pins s σ H x y v u Q I rx ry h
 obtain⟨hs,q⟩:=h
 cases x with
 | non=>
  cases rx
  cases y with
  | non=>cases ry;exact PySem.EqNone.eq_none_none (bN I q (by simp))
  | bl j=>cases ry;exact PySem.EqNone.eq_none_bool (bN I q (by simp))
  | int j=>obtain⟨t',rfl⟩:=ry;exact PySem.EqNone.eq_none_int (bN I q (by simp))
  | str j=>obtain⟨t',rfl⟩:=ry;exact PySem.EqNone.eq_none_str (bN I q (by simp))
  | _=>exact absurd (show false=true from hs) dQ
 | bl i=>
  cases rx
  cases y with
  | non=>cases ry;exact PySem.EqNone.eq_bool_none (bN I q (by simp))
  | bl j=>cases ry;exact eq_bool (bN I q Fj)
  | str j=>obtain⟨t',rfl⟩:=ry;exact PySem.EqMixed.eq_bool_str (bN I q (by simp))
  | _=>exact absurd (show false=true from hs) dQ
 | int i=>
  obtain⟨t,rfl⟩:=rx
  cases y with
  | non=>cases ry;exact PySem.EqNone.eq_int_none (bN I q (by simp))
  | int j=>obtain⟨t',rfl⟩:=ry;exact eq_int (bN I q zV)
  | str j=>obtain⟨t',rfl⟩:=ry;exact PySem.EqMixed.eq_int_str (bN I q (by simp))
  | _=>exact absurd (show false=true from hs) dQ
 | str i=>
  obtain⟨t,rfl⟩:=rx
  cases y with
  | non=>cases ry;exact PySem.EqNone.eq_str_none (bN I q (by simp))
  | bl j=>cases ry;exact PySem.EqMixed.eq_str_bool (bN I q (by simp))
  | int j=>obtain⟨t',rfl⟩:=ry;exact PySem.EqMixed.eq_str_int (bN I q (by simp))
  | str j=>obtain⟨t',rfl⟩:=ry;exact eq_str (bN I q zU)
  | _=>exact absurd (show false=true from hs) dQ
 | BX i=>
  obtain⟨t,rfl⟩:=rx
  cases y with
  | BX j=>obtain⟨t',rfl⟩:=ry;exact PySem.W.eq_bytes (bN I q zW)
  | _=>exact absurd (show false=true from hs) dQ
 | _=>cases y <;> exact absurd (show false=true from hs) dQ
theorem tS:kc X (compareOp .NotEq) Q7:=by
 intro pins s σ H x y v u Q I rx ry h
 obtain⟨hs,q⟩:=h
 cases x with
 | non=>
  cases rx
  cases y with
  | non=>cases ry;exact PySem.EqNone.ne_none_none (bN I q (by simp))
  | bl j=>cases ry;exact PySem.EqNone.ne_none_bool (bN I q (by simp))
  | int j=>obtain⟨t',rfl⟩:=ry;exact PySem.EqNone.ne_none_int (bN I q (by simp))
  | str j=>obtain⟨t',rfl⟩:=ry;exact PySem.EqNone.ne_none_str (bN I q (by simp))
  | _=>exact absurd (show false=true from hs) dQ
 | bl i=>
  cases rx
  cases y with
  | non=>cases ry;exact PySem.EqNone.ne_bool_none (bN I q (by simp))
  | bl j=>cases ry;exact ne_bool (bN I q (iU not Fj))
  | str j=>obtain⟨t',rfl⟩:=ry;exact PySem.EqMixed.ne_bool_str (bN I q (by simp))
  | _=>exact absurd (show false=true from hs) dQ
 | int i=>
  obtain⟨t,rfl⟩:=rx
  cases y with
  | non=>cases ry;exact PySem.EqNone.ne_int_none (bN I q (by simp))
  | int j=>obtain⟨t',rfl⟩:=ry;exact ne_int (bN I q (iU not zV))
  | str j=>obtain⟨t',rfl⟩:=ry;exact PySem.EqMixed.ne_int_str (bN I q (by simp))
  | _=>exact absurd (show false=true from hs) dQ
 | str i=>
  obtain⟨t,rfl⟩:=rx
  cases y with
  | non=>cases ry;exact PySem.EqNone.ne_str_none (bN I q (by simp))
  | bl j=>cases ry;exact PySem.EqMixed.ne_str_bool (bN I q (by simp))
  | int j=>obtain⟨t',rfl⟩:=ry;exact PySem.EqMixed.ne_str_int (bN I q (by simp))
  | str j=>obtain⟨t',rfl⟩:=ry;exact ne_str (bN I q (iU not zU))
  | _=>exact absurd (show false=true from hs) dQ
 | BX i=>
  obtain⟨t,rfl⟩:=rx
  cases y with
  | BX j=>obtain⟨t',rfl⟩:=ry;exact PySem.W.ne_bytes (bN I q (iU not zW))
  | _=>exact absurd (show false=true from hs) dQ
 | _=>cases y <;> exact absurd (show false=true from hs) dQ
theorem rE:kc X (compareOp .Lt) (Ao λi j=>.bl (decide (i<j))):=K3 λ_ _ _ _ _ _ _ q=>lt_int q
theorem lA:kc X (compareOp .Gt) (Ao λi j=>.bl (decide (j<i))):=K3 λ_ _ _ _ _ _ _ q=>gt_int q
theorem Oi:kc X (compareOp .GtE) (Ao λi j=>.bl (decide (j<=i))):=K3 λ_ _ _ _ _ _ _ q=>ge_int q
theorem aN(b:Expr){op:CmpOp}(h:op≠.In:=by decide)(h2:op≠.NotIn:=by decide):behindInMarks op b=false:=by
 have e1:(op==CmpOp.In)=false:=by cases op <;> first | rfl | exact absurd rfl h
 have e2:(op==CmpOp.NotIn)=false:=by cases op <;> first | rfl | exact absurd rfl h2
 cases b <;> simp[behindInMarks,e1,e2]
theorem Hj{op:CmpOp}{r:R2}(ho:kc X (compareOp op) r)(ha:PE X a ta)(hb:PE X b tb)(hm:behindInMarks op b=false):PE X (.Compare a [op] [b] pos) (BK r ta tb):=by
 intro pins s σ H Q I h
 exact wpAny_Compare1 (Mt ha hb I h λv u s2 x y H2 I2 rx ry q=>ho pins s2 σ H2 x y v u Q I2 rx ry q) hm
def tI(t:TE):TT:=λσ H Q=>t σ H λx H'=>∃k,x=.bl k/\Q k H'
theorem G6{op:CmpOp}{r:R2}(ho:kc X (compareOp op) r)(ha:PE X a ta)(hb:PE X b tb)(hm:behindInMarks op b=false):PT X (.Compare a [op] [b] pos) (tI (BK r ta tb)):=by
 intro pins s σ H Q I h
 refine wpAny_isTrue_Compare1 (cV (ha pins s σ H _ I h) λv s1 ⟨x,H1,I1,r1,q1⟩=>cV (hb pins s1 σ H1 _ I1 q1) λu s2 ⟨y,H2,I2,r2,q2⟩=>
  cV (ho pins s2 σ H2 x y v u _ I2 r1 r2 q2) λc s3 ⟨z,H3,I3,r3,k,e,q3⟩=>?_) hm
 subst e
 cases r3
 exact vL ⟨H3,I3,q3⟩
theorem rL:(sizeLine:Nat)<2 ^ 63:=by rw[qR];decide
theorem vals1{x:V}{us:List Value}(r:Vals [x] us):∃u,us=[u]/\RelV x u:=by
 cases r with
 | cons r1 r2=>cases r2;exact⟨_,rfl,r1⟩
theorem Fz:eQ X (.builtin "abs") (λxs H Q=>∃i,xs=[.int i]/\Q (.int (if i<0 then -i else i)) H):=by
 intro pins s σ H xs us Q I r h
 obtain⟨i,rfl,q⟩:=h
 obtain⟨u,rfl,t,rfl⟩:=vals1 r
 exact call_abs_int λu tk=>⟨.int (if i<0 then -i else i),H,I.tok _,⟨_,rfl⟩,q⟩
end
end L2
namespace L2
open PySem PySem.Spec PyProof.Rows
structure yR(h:Heap)(x dx C:Addr)(mA:Str->Option Value):Prop where
 obj:h.get? x=some (PySem.W.instObj C dx)
 ns:h.Ns1 dx mA
 ne:dx≠x
theorem Az{h:Heap}{dx:Addr}{mA:Str->Option Value}(n:h.Ns1 dx mA):∃od,h.get? dx=some od/\∀name,PySem.W.lookIn name od=some (mA name):=by
 obtain⟨o,es,ep,ho,hd,hk,_,hm⟩:=n
 refine⟨o,ho,λname=>?_⟩
 have e:=hm name
 unfold nsFind findBy at e
 rw[<-Array.find?_toList]at e
 unfold PySem.W.lookIn
 rw[hd]
 dsimp only
 split
 ·rename_i y q
  rw[q]at e
  exact iU some e
 ·rename_i q
  rw[q]at e
  have a:es.toList.any (·.refKey)=false:=by
   rw[List.any_eq_false]
   intro y hy
   obtain⟨z,t,hkey⟩:=hk y (Array.mem_toList_iff.mp hy)
   simp[DictEntry.refKey,hkey]
  have a':¬es.toList.any (·.refKey)=true:=by rw[a];exact dQ
  rw[aO a']
  exact iU some e
theorem yR.look{h:Heap}{x dx C:Addr}{mA:Str->Option Value}(I:yR h x dx C mA):∃od,PySem.W.InstAt h x (PySem.W.instObj C dx) C (some od)/\∀name,PySem.W.lookIn name od=some (mA name):=
 let ⟨od,ho,hl⟩:=Az I.ns
 ⟨od,⟨I.obj,rfl,rfl,ho⟩,hl⟩
section
variable {prog:Program}{w:World}{A:Around}{E:Value->Shared->Prop}{s:Shared}{K:PySem.W.Frag}{x dx C f:Addr}{mA:Str->Option Value}{name:Str}{v:Value}
theorem get_map{expr:Bool}{Q:Value->Shared->Prop}(X:K.In s.heap)(I:yR s.heap x dx C mA)(hg:PySem.W.plainGet K C name=true)(hh:PySem.W.hasDictIn K C=true)
  (ha:PySem.W.findIn K (.ref C) name=some none) (hv:mA name=some v) (M5:PySem.W.handedIn v=true) (h:Q v { s with toks:=s.toks+1 }) :
  wpAny (model prog w) A (getAttr (.ref x) name expr) Q E s:=by
 obtain⟨od,J,hl⟩:=I.look
 exact PySem.W.get_value X J (xB hg).1 (PySem.W.findObj_own hh ha rfl (by rw[hl,hv])) M5 h
theorem Ez{pl:Sem Bool}{Q:Value×List Value->Shared->Prop}(X:K.In s.heap)(I:yR s.heap x dx C mA)(hg:PySem.W.plainGet K C name=true)
  (hf:PySem.W.findIn K (.ref C) name=some (some (.ref f))) (ht:PySem.W.isFn K (.ref f)=true) (hv:mA name=none) (h:Q (.ref f,[.ref x]) s) :
  wpAny (model prog w) A (getMethod (.ref x) name pl) Q E s:=by
 obtain⟨od,J,hl⟩:=I.look
 exact PySem.W.method_fn X J (xB hg).1 (xB hg).2 hf (beq_iff_eq.mp ht) (by show(PySem.W.lookIn name od).map (·.isSome)=some false;rw[hl,hv];rfl) h
theorem GJ{ns:List Str}{Q:Unit->Shared->Prop}(X:K.In s.heap)(I:yR s.heap x dx C mA)
  (hs:PySem.W.findIn K (.ref C) "__setattr__" = some (some (.builtin "object.__setattr__"))) (hp:PySem.W.plainOver K C=true) (ht:PySem.W.takerIn K C name=some none) (hh:PySem.W.hasDictIn K C=true)
  (hw:PySem.Within mA ns) (V2:ns.length<=sizeLine)
  (h:∀h',yR h' x dx C (λy=>if y=name then some v else mA y)->Heap.SameBut dx s.heap h'->Q () { s with heap:=h',toks:=s.toks+2 }) :
  wpAny (model prog w) A (setAttr (.ref x) name v) Q E s:=by
 obtain⟨od,J,hl⟩:=I.look
 refine PySem.W.set_plain X J hs (PySem.W.osa_open (s:={ s with toks:=s.toks+1 }) (r:=none) X J hp ht λb=>?_)
 obtain⟨cd,hc,Ws⟩:=PySem.W.any_some hh
 have hx:s.heap.get? x=some ⟨.ref C,some dx,.plain,#[]⟩:=I.obj
 refine bG (cn (bG (bG (wpAny_loadPart hx (bG (PySem.W.Looks.here (s:={ s with toks:=s.toks+1 }) (PySem.W.looks_clsIn X hc) ?_))))))
 rw[Ws]
 refine cn (a:=some dx) (bG (cn (bG ?_)))
 refine wpAny_nsSet1 (s:={ s with toks:=s.toks+1 }) I.ns λh' Rm Oz=>?_
 obtain⟨oD,esD,epD,hoD,hdD,hcD⟩:=Rm.count (PySem.Within.cons name v hw)
 refine bG (wpAny_lookBehind hoD (by rw[hdD];exact pastItsLine_dict (cq hcD (by rw[cR];lia))) ?_)
 exact cn (h _ ⟨(Oz.2 _ (lj I.ne)).trans I.obj,Rm,I.ne⟩ Oz)
theorem Eg{R:Result->Shared->Prop}{vs:List Value}{kw:List (Str×Value)}(X:K.In s.heap)(hm:PySem.W.makesIn K C=true)
  (hi:PySem.W.findIn K (.ref C) "__init__" = some (some (.ref f))) (hf:PySem.W.typeIn K (.ref f)=some (.type "function"))
  (h:codeAny (model prog w) (A.under (.builtin "type.__call__" ⟨.ref C::vs,kw⟩)) (.call (.ref f) ⟨.ref (s.heap.objs.size+1)::vs,kw⟩) (PySem.W.InitBack (s.heap.objs.size+1) R)
   { s with heap:=(s.heap.push PySem.W.emptyDict).push (PySem.W.instObj C s.heap.objs.size) }) :
  codeAny (model prog w) A (.call (.ref C) ⟨vs,kw⟩) R s:=by
 obtain⟨hh,g,d,t,os⟩:=s
 exact PySem.W.make_core (PySem.W.makes_of X hm) (PySem.W.looks_findIn X hi) (λself=>PySem.W.bind_fn X self hf) (.inl rfl) h
end
def nq(f:Str)(v:V):List (Str×V)->List (Str×V)
 | []=>[(f,v)]
 | (g,x)::r=>if g=f then (g,v)::r else (g,x)::nq f v r
theorem pU(f g:Str)(v:V):∀fs:List (Str×V),(nq f v fs).lookup g=if g=f then some v else fs.lookup g
 | []=>by
  show List.lookup g [(f,v)]=_
  by_cases h:g=f
  ·have hb:(g==f)=true:=beq_iff_eq.mpr h
   simp only[List.lookup,hb,aR h]
  ·have hb:(g==f)=false:=tD.mpr h
   simp only[List.lookup,hb,aO h]
 | (k,x)::r=>by
  have ih:=pU f g v r
  rw[show nq f v ((k,x)::r)=(if k=f then (k,v)::r else (k,x)::nq f v r) from rfl]
  by_cases hk:k=f
  ·rw[aR hk]
   by_cases h:g=k
   ·have hb:(g==k)=true:=beq_iff_eq.mpr h
    simp only[List.lookup,hb,aR (h.trans hk)]
   ·have hb:(g==k)=false:=tD.mpr h
    simp only[List.lookup,hb,aO (λe:g=f=>h (e.trans hk.symm))]
  ·rw[aO hk]
   by_cases h:g=k
   ·have hb:(g==k)=true:=beq_iff_eq.mpr h
    simp only[List.lookup,hb,aO (λe:g=f=>hk (h.symm.trans e))]
   ·have hb:(g==k)=false:=tD.mpr h
    simp only[List.lookup,hb]
    exact ih
theorem pe(f:Str)(v:V):∀fs:List (Str×V),f∈(nq f v fs).map (·.1)/\∀g,g∈fs.map (·.1)->g∈(nq f v fs).map (·.1)
 | []=>⟨by simp[nq],λg h=>by simp at h⟩
 | (k,x)::r=>by
  obtain⟨i1,i2⟩:=pe f v r
  rw[show nq f v ((k,x)::r)=(if k=f then (k,v)::r else (k,x)::nq f v r) from rfl]
  by_cases hk:k=f
  ·rw[aR hk]
   subst hk
   exact⟨by simp,λg h=>by simpa using h⟩
  ·rw[aO hk]
   refine⟨?_,λg h=>?_⟩
   ·rw[jL]
    exact iF _ i1
   ·rw[jL]at h ⊢
    rcases ft.mp h with e | e
    ·exact ft.mpr (.inl e)
    ·exact iF _ (i2 g e)
theorem pV(f:Str)(v:V):∀fs:List (Str×V),(nq f v fs).length<=fs.length+1
 | []=>by simp[nq]
 | (k,x)::r=>by
  have ih:=pV f v r
  rw[show nq f v ((k,x)::r)=(if k=f then (k,v)::r else (k,x)::nq f v r) from rfl]
  by_cases hk:k=f
  ·rw[aR hk,cR,cR];lia
  ·rw[aO hk,cR,cR];lia
theorem sS.some_of{v:V}{o:Option Value}(r:sS (some v) o):∃u,o=some u/\RelV v u:=by
 cases o with
 | none=>exact(show False from r).elim
 | some u=>exact⟨u,rfl,r⟩
theorem sS.none_of{o:Option Value}(r:sS none o):o=none:=by
 cases o with
 | none=>rfl
 | some u=>exact(show False from r).elim
theorem Bg{v:V}{u:Value}(r:RelV v u):PySem.W.handedIn u=true:=by
 cases v with
 | non=>cases (show u=Value.none from r);rfl
 | bl b=>cases (show u=Value.bool b from r);rfl
 | int i=>obtain⟨t,e⟩:=(show ∃t,u=Value.int i t from r);cases e;rfl
 | str x=>obtain⟨t,e⟩:=(show ∃t,u=Value.str x t from r);cases e;rfl
 | BX b=>obtain⟨t,e⟩:=(show ∃t,u=Value.bytes b t from r);cases e;rfl
 | Mf b=>obtain⟨t,e⟩:=(show ∃t,u=Value.float b t from r);cases e;rfl
 | ref a=>cases (show u=Value.ref a from r);rfl
 | ty n=>cases (show u=Value.type n from r);rfl
section
variable {P:Program}{w:World}{H H':Hp}{h h':Heap}{a C dx:Addr}{fs fs':List (Str×V)}
theorem qF(dN:pL P w H h)(e:H a=some (.ins C dx fs)):∃mA,yR h a dx C mA/\(∀f,sS (fs.lookup f) (mA f))/\PySem.Within mA (fs.map (·.1))/\fs.length<=1000/\H dx=some (.own a):=by
 obtain⟨d,z,ne,ob,mA,n,r,q⟩:=(show fe P w H h a (.ins C dx fs) from dN a _ e)
 exact⟨mA,⟨ob,n,ne⟩,r,q,z,d⟩
end
structure Cls(K:PySem.W.Frag)(C:Addr):Prop where
 pg:PySem.W.plainGet K C Str.empty=true
 hd:PySem.W.hasDictIn K C=true
 po:PySem.W.plainOver K C=true
 sa:PySem.W.findIn K (.ref C) "__setattr__" = some (some (.builtin "object.__setattr__"))
theorem Cls.get{K:PySem.W.Frag}{C:Addr}(c:Cls K C)(f:Str):PySem.W.plainGet K C f=true:=c.pg
def kX(K:PySem.W.Frag)(C:Addr)(f:Str):Prop:=PySem.W.findIn K (.ref C) f=some none
theorem kX.Np{K:PySem.W.Frag}{C:Addr}{f:Str}(n:kX K C f):PySem.W.takerIn K C f=some none:=by
 unfold PySem.W.takerIn
 rw[show PySem.W.findIn K (.ref C) f=some none from n]
 rfl
structure Meth(K:PySem.W.Frag)(C:Addr)(m:Str)(f:Addr):Prop where
 at_:PySem.W.findIn K (.ref C) m=some (some (.ref f))
 fn:PySem.W.isFn K (.ref f)=true
 kp:PySem.W.keepIn K (.ref f)=true
section
variable {X:Cx}{pins:List (Addr×Obj)}{σ:St}{H:Hp}{s:Shared}{a C dx:Addr}{fs:List (Str×V)}{f:Str}{v:V}{A:Around}{E:Value->Shared->Prop}
theorem yx{b:Bool}{Q:Value->Shared->Prop}(I:Inv X pins σ H s)(e:H a=some (.ins C dx fs))(c:Cls X.K C)(n:kX X.K C f)(l:fs.lookup f=some v)
  (h:∀u s',Inv X pins σ H s'->RelV v u->Q u s'):wpAny (model X.prog X.w) A (getAttr (.ref a) f b) Q E s:=by
 obtain⟨mA,O,r,_,_,_⟩:=qF I.dN e
 obtain⟨u,hu,ru⟩:=sS.some_of (v:=v) (o:=mA f) (by rw[<-l];exact r f)
 exact get_map I.qE O (c.get f) c.hd n hu (Bg ru) (h u _ (I.tok _) ru)
theorem rX{m:Str}{g:Addr}{pl:Sem Bool}{Q:Value×List Value->Shared->Prop}(I:Inv X pins σ H s)(e:H a=some (.ins C dx fs))(c:Cls X.K C)(k:Meth X.K C m g)(l:fs.lookup m=none)
  (h:Q (.ref g,[.ref a]) s):wpAny (model X.prog X.w) A (getMethod (.ref a) m pl) Q E s:=by
 obtain⟨mA,O,r,_,_,_⟩:=qF I.dN e
 have hn:mA m=none:=sS.none_of (by rw[<-l];exact r m)
 exact Ez I.qE O (c.get m) k.at_ k.fn hn h
theorem xR{y:V}{u:Value}{Q:Unit->Shared->Prop}(I:Inv X pins σ H s)(e:H a=some (.ins C dx fs))(c:Cls X.K C)(n:kX X.K C f)(hl:fs.length<1000)(ry:RelV y u)
  (h:∀s',Inv X pins σ (upd H a (.ins C dx (nq f y fs))) s'->Q () s'):wpAny (model X.prog X.w) A (setAttr (.ref a) f u) Q E s:=by
 obtain⟨mA,O,r,wi,_,ho⟩:=qF I.dN e
 have hz:(fs.map (·.1)).length<=sizeLine:=by rw[aP,qR];lia
 refine GJ I.qE O c.sa c.po n.Np c.hd wi hz λh' O' sb=>h _ ?_
 have hd:∃o,h'.get? dx=some o:=let ⟨o,_,_,e',_⟩:=O'.ns;⟨o,e'⟩
 refine I.write (x:=a) (e:=dx) (by rw[e];exact True.intro) (.inr ho) (λb q hb z=>(sb.2 b hb).trans z) hd ?_
 refine⟨by rw[aM O.ne];exact ho,?_,O.ne,O'.obj,_,O'.ns,λg=>?_,λg hg=>?_⟩
 ·have:=pV f y fs;lia
 ·show sS ((nq f y fs).lookup g) (if g=f then some u else mA g)
  rw[pU]
  by_cases q:g=f
  ·rw[aR q,aR q];exact ry
  ·rw[aO q,aO q];exact r g
 ·by_cases q:g=f
  ·rw[q];exact(pe f y fs).1
  ·refine(pe f y fs).2 g (wi g λz=>hg ?_)
   show(if g=f then some u else mA g)=none
   rw[aO q];exact z
theorem Inv.made(I:Inv X pins σ H s):Inv X pins σ (upd (upd H s.heap.objs.size (.own (s.heap.objs.size+1))) (s.heap.objs.size+1) (.ins C s.heap.objs.size []))
  { s with heap:=(s.heap.push PySem.W.emptyDict).push (PySem.W.instObj C s.heap.objs.size) }:=by
 have e1:(s.heap.push PySem.W.emptyDict).get? s.heap.objs.size=some PySem.W.emptyDict:=iZ s.heap rfl
 have e2:((s.heap.push PySem.W.emptyDict).push (PySem.W.instObj C s.heap.objs.size)).get? (s.heap.objs.size+1)=some (PySem.W.instObj C s.heap.objs.size):=by
  have:=iZ (s.heap.push PySem.W.emptyDict) (o:=PySem.W.instObj C s.heap.objs.size) rfl
  rwa [qI]at this
 have e3:(s.heap.push PySem.W.emptyDict).Ns s.heap.objs.size (λ_=>none):=⟨PySem.W.emptyDict,#[],_,e1,rfl,(λe he=>absurd he (by simp)),λ_=>rfl⟩
 have I1:=I.laid (a:=s.heap.objs.size) (o:=.own (s.heap.objs.size+1)) (h':=s.heap.push PySem.W.emptyDict) (t':=s.toks) (λb u q=>gI _ q) (cu _) ⟨_,e1⟩
 refine I1.laid (a:=s.heap.objs.size+1) (o:=.ins C s.heap.objs.size []) (t':=s.toks) (λb u q=>gI _ q) (uq (qI _ _)) ?_
 have ne:s.heap.objs.size≠s.heap.objs.size+1:=cZ (vM _)
 refine⟨by rw[aM ne,aj],lq _,ne,e2,λ_=>none,(Heap.Ns1.of_empty e3).at λo q=>gI _ q,λ_=>True.intro,λy hy=>absurd rfl hy⟩
theorem Ip{prog:Program}{w:World}{env:Env}{e:Expr}{f:Str}{pos:Pos}{s:Shared}{Q:Value->Shared->Prop}(hb:attributeBase e f env (eval e env)=eval e env)
  (h:wpAny (model prog w) A (eval e env) (λo s₁=>wpAny (model prog w) A (getAttr o f true) Q E s₁) E s):wpAny (model prog w) A (eval (.Attribute e f pos) env) Q E s:=
 Attribute_any_ h (by rw[arm_eval_Attribute,hb])
end
def Gu(K:PySem.W.Frag)(ta:TE)(f:Str):TE:=λσ H Q=>ta σ H λx H1=>∃a C dx fs v,x=.ref a/\H1 a=some (.ins C dx fs)/\Cls K C/\kX K C f/\fs.lookup f=some v/\Q v H1
def GK(K:PySem.W.Frag)(ta tv:TE)(f:Str):TS:=λD σ H=>tv σ H λy H1=>ta σ H1 λx H2=>∃a C dx fs,x=.ref a/\H2 a=some (.ins C dx fs)/\Cls K C/\kX K C f/\fs.length<1000/\
 D.nx σ (upd H2 a (.ins C dx (nq f y fs)))
section
variable {X:Cx}{o e value:Expr}{f:Str}{pos pos' Gr:Pos}{ta tv:TE}
theorem KN(he:PE X e ta)(hb:attributeBase e f X.env (eval e X.env)=eval e X.env):PE X (.Attribute e f pos) (Gu X.K ta f):=by
 intro pins s σ H Q I h
 refine Ip hb (cV (he pins s σ H _ I h) λu s1 ⟨x,H1,I1,rx,a,C,dx,fs,v,ex,ea,c,n,l,q⟩=>?_)
 subst ex
 obtain rfl:u=Value.ref a:=rx
 exact yx I1 ea c n l λu' s2 I2 ru=>⟨v,H1,I2,ru,q⟩
theorem Ku(ha:PE X o ta)(hv:PE X value tv)(hs:swapsWith value (some (.Attribute o f pos')) pos.line X.env=pure false):PS X (.Assign [.Attribute o f pos'] value pos) (GK X.K ta tv f):=by
 intro pins s σ H D I h
 refine plainObj_wpAny_Assign_Attribute (cV (hv pins s σ H _ I h) λu s1 ⟨y,H1,I1,ry,q⟩=>cV (ha pins s1 σ H1 _ I1 q) λov s2 ⟨x,H2,I2,rx,a,C,dx,fs,ex,ea,c,n,l,q2⟩=>?_) hs
 subst ex
 obtain rfl:ov=Value.ref a:=rx
 exact xR I2 ea c n l ry λs3 I3=>⟨σ,_,I3,q2⟩
theorem Jg{pl:Sem Bool}{m:Str}{apos:Pos}{args:List Expr}{pins:List (Addr×Obj)}{s:Shared}{σ:St}{H:Hp}{Q:Value->Shared->Prop}{te:TE}(he:PE X e te)(I:Inv X pins σ H s)
  (h:te σ H λx H1=>∃a C dx fs g,x=.ref a/\H1 a=some (.ins C dx fs)/\Cls X.K C/\Meth X.K C m g/\fs.lookup m=none/\
   ∀s1,Inv X pins σ H1 s1->wpAny (model X.prog X.w) X.A (callWith pos (.ref g) [.ref a] (backTo pos (starEach args X.env)) (backToKw pos (keywordEach [] X.env))) Q X.xe s1)
  (ht:eval (.Call (.Attribute e m apos) args [] pos) X.env=(do
   let ov <-eval e X.env
   standAt apos.atName
   let (f,first) <-holding [ov] (getMethod ov m pl)
   callWith pos f first (backTo pos (starEach args X.env)) (backToKw pos (keywordEach [] X.env)))) :
  wpAny (model X.prog X.w) X.A (eval (.Call (.Attribute e m apos) args [] pos) X.env) Q X.xe s:=by
 refine PySem.W.methodCall_KW (pl:=pl) (cV (he pins s σ H _ I h) λu s1 ⟨x,H1,I1,rx,a,C,dx,fs,g,ex,ea,c,k,l,q⟩=>?_) ht
 subst ex
 obtain rfl:u=Value.ref a:=rx
 exact rX I1 ea c k l (q s1 I1)
end
section
variable {X:Cx}{pins:List (Addr×Obj)}{σ:St}{H:Hp}{s:Shared}{A:Around}{E:Value->Shared->Prop}{Q:Value->Shared->Prop}{c:Value}{b:Bool}
inductive mY (K:PySem.W.Frag) (H:Hp):V->Value->Prop where
 | non:mY K H .non (.type "NoneType")
 | bl (x:Bool):mY K H (.bl x) (.type "bool")
 | int (i:Int):mY K H (.int i) (.type "int")
 | str (x:Str):mY K H (.str x) (.type "str")
 | Mf (x:UInt64):mY K H (.Mf x) (.type "float")
 | lst {a:Addr} {xs:List V} (e:H a=some (.lst xs)):mY K H (.ref a) (.type "list")
 | zR {a:Addr} {o:Obj} {xs:List V} (e:H a=some (.zR o (.lst xs))):mY K H (.ref a) (.type "list")
 | tup {a:Addr} {xs:List V} (e:H a=some (.tup xs)):mY K H (.ref a) (.type "tuple")
 | dK {a:Addr} {hV:List (Key×V)} (e:H a=some (.dK hV)):mY K H (.ref a) (.type "dict")
 | dT {a:Addr} {hV:List (List Key×V)} (e:H a=some (.dT hV)):mY K H (.ref a) (.type "dict")
 | ins {a C dx:Addr} {fs:List (Str×V)} (e:H a=some (.ins C dx fs)) (cl:Cls K C) (ha:PySem.W.findIn K (.ref C) "__class__" = some (some (.builtin "object.__class__")))
   (hn:PySem.W.specialIn K (.builtin "object.__class__") "__get__" = some (some (.builtin "getset_descriptor.__get__"))) (htk:PySem.W.takesIn K (.builtin "object.__class__")=some true)
   (hm:PySem.W.mroIn K C (.type "object")=some true):mY K H (.ref a) (.ref C)
theorem Bc{x:V}{u t:Value}(I:Inv X pins σ H s)(rx:RelV x u)(ty:mY X.K H x t)(e:PySem.W.kitOne X.K t c=some b)(h:∀tk,Q (.bool b) { s with toks:=tk }) :
  wpAny (model X.prog X.w) A (call (.builtin "isinstance") [u,c]) Q E s:=by
 cases ty with
 | non=>cases (show u=Value.none from rx);exact lP PySem.W.kitx_none I.qE True.intro e (λz=>nomatch z) h
 | bl y=>cases (show u=Value.bool y from rx);exact lP PySem.W.kitx_bool I.qE True.intro e (λz=>nomatch z) h
 | int i=>obtain⟨t,q⟩:=(show ∃t,u=Value.int i t from rx);cases q;exact lP PySem.W.kitx_int I.qE True.intro e (λz=>nomatch z) h
 | str y=>obtain⟨t,q⟩:=(show ∃t,u=Value.str y t from rx);cases q;exact lP PySem.W.kitx_str I.qE True.intro e (λz=>nomatch z) h
 | Mf y=>obtain⟨t,q⟩:=(show ∃t,u=Value.float y t from rx);cases q;exact lP PySem.W.kitx_float I.qE True.intro e (λz=>nomatch z) h
 | @lst a xs ea=>
  cases (show u=Value.ref a from rx)
  obtain⟨_,_,n,_,h1⟩:=(show fe X.prog X.w H s.heap a (.lst xs) from I.dN a _ ea)
  exact lP PySem.W.kitx_list I.qE ⟨_,h1,rfl⟩ e (λz=>nomatch z) h
 | @zR a ob xs ea=>
  cases (show u=Value.ref a from rx)
  obtain⟨_,_,_,n,_,h1⟩:=(show fe X.prog X.w H s.heap a (.zR ob (.lst xs)) from I.dN a _ ea)
  exact lP PySem.W.kitx_list I.qE ⟨_,h1,rfl⟩ e (λz=>nomatch z) h
 | @tup a xs ea=>
  cases (show u=Value.ref a from rx)
  obtain⟨_,_,_,p⟩:=(show fe X.prog X.w H s.heap a (.tup xs) from I.dN a _ ea)
  obtain⟨o,h1,h2,_⟩:=p
  exact lP PySem.W.kitx_tuple I.qE ⟨o,h1,h2⟩ e (λz=>nomatch z) h
 | @dK a hV ea=>
  cases (show u=Value.ref a from rx)
  obtain⟨_,_,vs,_,p⟩:=(show fe X.prog X.w H s.heap a (.dK hV) from I.dN a _ ea)
  obtain⟨o,es,ep,h1,h2,_⟩:=p
  exact lP PySem.W.kitx_dict I.qE ⟨o,h1,h2.1⟩ e (λz=>nomatch z) h
 | @dT a hV ea=>
  cases (show u=Value.ref a from rx)
  obtain⟨_,_,xs,_,o,es,ep,h1,h2,_⟩:=(show fe X.prog X.w H s.heap a (.dT hV) from I.dN a _ ea)
  exact lP PySem.W.kitx_dict I.qE ⟨o,h1,h2.1⟩ e (λz=>nomatch z) h
 | @ins a C dx fs ea cl ha hn htk hm=>
  cases (show u=Value.ref a from rx)
  obtain⟨mA,O,_⟩:=qF I.dN ea
  obtain⟨od,J,_⟩:=O.look
  exact lP (PySem.W.kitx_own (cl.get _) cl.hd ha hn htk hm) I.qE J e (λz=>nomatch z) h
end
end L2
namespace L2
open PySem PySem.Spec PyProof.Rows
structure fo(k:Nat)(A:Around):Prop where
 hd:A.handled=none
 dp:A.depth+3*k+5<recursionLimit
 un:A.units+16*k+200<cLine
theorem fo.mono{j k:Nat}{A:Around}(r:fo k A)(h:j<=k:=by lia):fo j A:=⟨r.hd,by have:=r.dp;lia,by have:=r.un;lia⟩
theorem fo.deeper{k:Nat}{A:Around}(r:fo (k+1) A)(env:Env):fo k (A.deeper env):=
 ⟨r.hd,by have:=r.dp;show A.depth+1+3*k+5<_;lia,by have:=r.un;show A.units+3+16*k+200<_;lia⟩
theorem ym{A:Around}{C:Addr}{us:List Value}{kw:List (Str×Value)}:(A.under (.builtin "type.__call__" ⟨.ref C::us,kw⟩)).depth=A.depth+1:=by
 first | rfl | simp[Around.under,Code.weight,Code.isCreation,Code.isGuard,Code.isCaller,Code.frames,Code.isFrame,guardIds]
theorem yk{A:Around}{C:Addr}{us:List Value}{kw:List (Str×Value)}:(A.under (.builtin "type.__call__" ⟨.ref C::us,kw⟩)).units=A.units+1:=by
 first | rfl | simp[Around.under,Code.cUnits,Code.frames,Code.isFrame]
theorem fo.make{k:Nat}{A:Around}(r:fo (k+1) A)(C:Addr)(us:List Value)(kw:List (Str×Value)):fo k (A.under (.builtin "type.__call__" ⟨.ref C::us,kw⟩)):=
 ⟨r.hd,by have:=r.dp;rw[ym];lia,by have:=r.un;rw[yk];lia⟩
theorem fo.depth{k:Nat}{A:Around}(r:fo k A):A.depth<recursionLimit:=by have:=r.dp;lia
theorem fo.units{k:Nat}{A:Around}(r:fo k A):A.units+64<cLine:=by have:=r.un;lia
theorem fo.eR{k:Nat}{A:Around}(r:fo k A):A.units<cLine:=by have:=r.un;lia
def Ad:TA:=λ_ H Q=>Q [] H
def qW(ta:TE)(tr:TA):TA:=λσ H Q=>ta σ H λx H1=>tr σ H1 λxs H2=>Q (x::xs) H2
section
variable {X:Cx}{e:Expr}{es:List Expr}{te:TE}{t:TA}{pos:Pos}
theorem KR:PA X [] Ad:=λ_ _ _ _ H Q I h=>Calls.spliced_nil ⟨[],H,I,.nil,h⟩
theorem zx(ha:PE X e te)(hr:PA X es t)(hs:starEach (e::es) X.env=(false,eval e X.env)::starEach es X.env:=by rfl):PA X (e::es) (qW te t):=by
 intro pos pins s σ H Q I h
 rw[hs]
 show wpAny _ _ (spliced ((false,eval e X.env)::backTo pos (starEach es X.env))) _ _ s
 refine Calls.spliced_cons (cV (ha pins s σ H _ I h) λu s1 ⟨x,H1,I1,r1,q1⟩=>?_)
 exact cV (hr pos pins s1 σ H1 _ I1 q1) λus s2 ⟨xs,H2,I2,r2,q2⟩=>⟨x::xs,H2,I2,.cons r1 r2,q2⟩
def Cw(t:TA):TE:=λσ H Q=>t σ H λxs H1=>xs.length<=sizeLine/\∀p,H1 p=none->Q (.ref p) (upd H1 p (.tup xs))
def CJ(t:TA):TE:=λσ H Q=>t σ H λxs H1=>xs.length<=sizeLine/\∀p,H1 p=none->Q (.ref p) (upd H1 p (.lst xs))
theorem Kx{x1}(h:PA X es t):PE X (.Tuple es x1 pos) (Cw t):=by
 intro pins s σ H Q I hq
 refine wpAny_Tuple_spliced (cV (h pos pins s σ H _ I hq) λus s1 ⟨xs,H1,I1,r,z,q⟩=>⟨by rw[<-r.length];exact z,?_⟩)
 have hf:H1 s1.heap.objs.size=none:=I1.dN.fresh (cu _)
 refine⟨.ref s1.heap.objs.size,upd H1 s1.heap.objs.size (.tup xs),I1.laid (t':=s1.toks) (λb u e=>gI _ e) (cu _) ?_,rfl,q _ hf⟩
 exact⟨z,us,r,⟨_,iZ _ rfl,rfl,_,rfl⟩⟩
theorem KH(h:PA X es t):PE X (.List es pos) (CJ t):=by
 intro pins s σ H Q I hq
 refine wpAny_List_spliced (cV (h pos pins s σ H _ I hq) λus s1 ⟨xs,H1,I1,r,z,q⟩=>⟨by rw[<-r.length];exact z,?_⟩)
 have hf:H1 s1.heap.objs.size=none:=I1.dN.fresh (cu _)
 refine⟨.ref s1.heap.objs.size,upd H1 s1.heap.objs.size (.lst xs),I1.laid (t':=s1.toks) (λb u e=>gI _ e) (cu _) ?_,rfl,q _ hf⟩
 exact⟨z,us,0,r,iZ _ rfl⟩
end
abbrev Sp:=List V->Hp->VK->XK->Prop
abbrev Ca:=List Env->Hp->Shared->XK->Value->Shared->Prop
structure yU(P:Program)(w:World)(K:PySem.W.Frag)(mg:Str->Option Value)(base:Heap)(A:Around)(outer:List Env)(s:Shared)(H:Hp):Prop where
 frames:A.frames=some outer
 mod:Mod K mg base
 bs:∀b o,base.get? b=some o->s.heap.get? b=some o/\H b=none
 FJ:base.objs.size<=s.heap.objs.size
 qq:s.heap.FunFrames base outer
 Ma:∀b∈E' outer,H b=none
 dN:pL P w H s.heap
 bare:AllBare s.gens
def CE(outer:List Env)(P:Program)(w:World)(H:Hp)(s:Shared)(Q:VK)(u:Value)(s':Shared):Prop:=
 ∃v H',s'.os=s.os/\AllBare s'.gens/\Un (E' outer) [] H H' s.heap s'.heap/\pL P w H' s'.heap/\RelV v u/\Q v H'
def CR(CX:Ca)(outer:List Env)(P:Program)(w:World)(H:Hp)(s:Shared)(Q:VK)(E:XK)(r:Result)(s':Shared):Prop:=
 match r with
 | .ok (.ret u)=>CE outer P w H s Q u s'
 | .ok _=>False
 | .error e=>CX outer H s E e s'
structure cE(P:Program)(w:World)(K:PySem.W.Frag)(mg:Str->Option Value)(base:Heap)(CX:Ca)(k:Nat)(f:Addr)(fd:FuncData)(ps:List Str)(sp:Sp):Prop where
 len:∀vs H Q E,sp vs H Q E->vs.length=ps.length
 run:∀(A:Around) (outer:List Env) (s:Shared) (H:Hp) (args:Args) (us:List Value) (vs:List V) (Q:VK) (E:XK),fo k A->yU P w K mg base A outer s H->BindsTo s fd args (ps.zip us)->Vals vs us->sp vs H Q E->
  codeAny (model P w) A (.call (.ref f) args) (CR CX outer P w H s Q E) s
theorem yU.make{P:Program}{w:World}{K:PySem.W.Frag}{mg:Str->Option Value}{base:Heap}{A:Around}{outer:List Env}{s:Shared}{H:Hp}(e:yU P w K mg base A outer s H)(C:Addr)(us:List Value)(kw:List (Str×Value)) :
  yU P w K mg base (A.under (.builtin "type.__call__" ⟨.ref C::us,kw⟩)) outer s H:=⟨by first | exact e.frames | (simpa [Around.under,Code.envs,Code.isFrame,pushEnvs]using e.frames),e.mod,e.bs,e.FJ,e.qq,e.Ma,e.dN,e.bare⟩
section
variable {X:Cx}{pins:List (Addr×Obj)}{σ:St}{H:Hp}{s s':Shared}
theorem Inv.Qc(I:Inv X pins σ H s):yU X.prog X.w X.K X.mg X.base X.A X.stack s H:=
 ⟨I.ok.frames,I.ok.mod,I.bs,cq I.ok.FJ I.sz,I.stack,I.uE,I.dN,I.bare⟩
theorem Inv.after{Q:VK}{u:Value}(I:Inv X pins σ H s)(h:CE X.stack X.prog X.w H s Q u s'):EP X pins σ Q u s':=by
 obtain⟨v,H',os,bare,un,dN,r,q⟩:=h
 obtain⟨hh,g,d,t,os'⟩:=s'
 obtain rfl:os'=s.os:=os
 exact⟨v,H',I.call (h':=hh) (g':=g) (d':=d) (t':=t) (ch:=[]) un dN bare (λb z=>absurd z (by simp)),r,q⟩
end
def tK(sp:Sp)(pq:List V)(E:XK)(t:TA):TE:=λσ H Q=>t σ H λvs H1=>sp (vs++pq) H1 Q E
def za(C:Addr)(m:Str)(sp:Sp)(pq:List V)(E:XK)(ta:TE)(t:TA):TE:=λσ H Q=>ta σ H λx H1=>∃a dx fs,x=.ref a/\H1 a=some (.ins C dx fs)/\fs.lookup m=none/\
 t σ H1 λvs H2=>sp (x::(vs++pq)) H2 Q E
def zb(C:Addr)(sp:Sp)(pq:List V)(E:XK)(t:TA):TE:=λσ H Q=>t σ H λvs H1=>∀x dx,H1 x=none->H1 dx=none->dx≠x->
 sp (.ref x::(vs++pq)) (upd (upd H1 dx (.own x)) x (.ins C dx [])) (λv H2=>v=.non/\Q (.ref x) H2) E
def Binds(K:PySem.W.Frag)(fd:FuncData)(ps:List Str)(ds:List Value):Prop:=
 ∀(s:Shared) (us:List Value),K.In s.heap->(us++ds).length=ps.length->BindsTo s fd ⟨us,[]⟩ (ps.zip (us++ds))
theorem Binds.all{K:PySem.W.Frag}{fd:FuncData}{ps:List Str}(h:∀us:List Value,us.length=ps.length->bindArgs fd ⟨us,[]⟩=pure (ps.zip us)):Binds K fd ps []:=λs us _ hl=>by
 rw[om]at hl ⊢
 exact .of_eq (h us hl)
def Passes(CX:Ca)(X:Cx)(E:XK):Prop:=∀(pins:List (Addr×Obj)) (σ:St) (H:Hp) (s:Shared) (e:Value) (s':Shared),Inv X pins σ H s->CX X.stack H s E e s'->X.xe e s'
section
variable {X:Cx}{CX:Ca}{k:Nat}{f C:Addr}{fd:FuncData}{ps:List Str}{sp:Sp}{pq:List V}{ds:List Value}{E:XK}{x m:Str}{p pos apos:Pos}{e o:Expr}{es:List Expr}{ta:TE}{t:TA}
theorem CZ{pins:List (Addr×Obj)}{σ:St}{H:Hp}{s:Shared}{Q:VK}{us:List Value}{vs:List V}(F:cE X.prog X.w X.K X.mg X.base CX k f fd ps sp)(hr:fo k X.A)(hb:Binds X.K fd ps ds)(hd:Vals pq ds)(hx:Passes CX X E)
  (I:Inv X pins σ H s) (r:Vals vs us) (h:sp (vs++pq) H Q E):wpAny (model X.prog X.w) X.A (call (.ref f) us) (EP X pins σ Q) X.xe s:=by
 have r2:Vals (vs++pq) (us++ds):=r.append hd
 have hl:(us++ds).length=ps.length:=by rw[<-r2.length];exact F.len _ _ _ _ h
 refine wpAny_call (codeAny_mono (F.run X.A X.stack s H ⟨us,[]⟩ (us++ds) (vs++pq) Q E hr I.Qc (hb s us I.qE hl) r2 h) λr s' hq=>?_)
 cases r with
 | error e=>exact hx pins σ H s e s' I hq
 | ok fl=>
  cases fl with
  | ret u=>exact I.after hq
  | next=>exact False.elim hq
  | brk=>exact False.elim hq
  | cont=>exact False.elim hq
theorem qD(F:cE X.prog X.w X.K X.mg X.base CX k f fd ps sp)(hr:fo k X.A)(hg:Gl X x)(hm:X.mg x=some (.ref f))(hk:PySem.W.keepIn X.K (.ref f)=true)(hb:Binds X.K fd ps ds)(hd:Vals pq ds)(hx:Passes CX X E)
  (ha:PA X (e::es) t) (HS:(x==("__debug__" : Str))=false:=by decide) (he:starEach (e::es) X.env=(false,eval e X.env)::starEach es X.env:=by rfl) (zM:(backTo pos (starEach es X.env)).any (·.1)=false:=by rfl) :
  PE X (.Call (.Name x p) (e::es) [] pos) (tK sp pq E t):=by
 intro pins s σ H Q I h
 refine yW (zH I hg hm ?_ HS)
 refine xu (h₀:=X.base) I.ok.mod.Ov hk (cV (ha pos pins s σ H _ I h) λus s1 ⟨vs,H1,I1,r,q⟩=>⟨I1.qE,?_⟩) he zM
 exact CZ F hr hb hd hx I1 r q
theorem Hg{pl:Sem Bool}(he:PE X o ta)(c:Cls X.K C)(hm:Meth X.K C m f)(F:cE X.prog X.w X.K X.mg X.base CX k f fd ps sp)(hr:fo k X.A)(hb:Binds X.K fd ps ds)(hd:Vals pq ds)(hx:Passes CX X E)(ha:PA X (e::es) t)
  (Oy:starEach (e::es) X.env=(false,eval e X.env)::starEach es X.env:=by rfl) (zM:(backTo pos (starEach es X.env)).any (·.1)=false:=by rfl)
  (ht:eval (.Call (.Attribute o m apos) (e::es) [] pos) X.env=(do
   let ov <-eval o X.env
   standAt apos.atName
   let (f,first) <-holding [ov] (getMethod ov m pl)
   callWith pos f first (backTo pos (starEach (e::es) X.env)) (backToKw pos (keywordEach [] X.env))):=by rfl) :
  PE X (.Call (.Attribute o m apos) (e::es) [] pos) (za C m sp pq E ta t):=by
 intro pins s σ H Q I h
 refine PySem.W.methodCall_KW (pl:=pl) (cV (he pins s σ H _ I h) λu s1 ⟨x,H1,I1,rx,a,dx,fs,ex,ea,l,q⟩=>?_) ht
 subst ex
 obtain rfl:u=Value.ref a:=rx
 refine rX I1 ea c hm l ?_
 refine xu (first:=[.ref a]) (h₀:=X.base) I.ok.mod.Ov hm.kp (cV (ha pos pins s1 σ H1 _ I1 q) λus s2 ⟨vs,H2,I2,r,q2⟩=>⟨I2.qE,?_⟩) Oy zM
 exact CZ (us:=.ref a::us) (vs:=.ref a::vs) F hr hb hd hx I2 (.cons rfl r) q2
structure Mk(K:PySem.W.Frag)(C f:Addr):Prop where
 makes:PySem.W.makesIn K C=true
 init:PySem.W.findIn K (.ref C) "__init__" = some (some (.ref f))
 fn:PySem.W.isFn K (.ref f)=true
 kp:PySem.W.keepIn K (.ref C)=true
theorem CW{pins:List (Addr×Obj)}{σ:St}{H:Hp}{s:Shared}{Q:VK}{us:List Value}{vs:List V}(M:Mk X.K C f)(F:cE X.prog X.w X.K X.mg X.base CX k f fd ps sp)(hr:fo (k+1) X.A)(hb:Binds X.K fd ps ds)(hd:Vals pq ds)
  (hx:Passes CX X E) (I:Inv X pins σ H s) (r:Vals vs us)
  (h:∀x dx,H x=none->H dx=none->dx≠x->sp (.ref x::(vs++pq)) (upd (upd H dx (.own x)) x (.ins C dx [])) (λv H2=>v=.non/\Q (.ref x) H2) E) :
  wpAny (model X.prog X.w) X.A (call (.ref C) us) (EP X pins σ Q) X.xe s:=by
 have hq:=h (s.heap.objs.size+1) s.heap.objs.size (I.dN.fresh (sW _)) (I.dN.fresh (cu _)) (cZ (vM _))
 have I2:=Inv.made (C:=C) I
 have r2:Vals (V.ref (s.heap.objs.size+1)::(vs++pq)) (Value.ref (s.heap.objs.size+1)::(us++ds)):=.cons rfl (r.append hd)
 have hl:(Value.ref (s.heap.objs.size+1)::us++ds).length=ps.length:=by
  have e:=r2.length
  rw[F.len _ _ _ _ hq]at e
  exact e.symm
 refine wpAny_call (Eg (f:=f) I.qE M.makes M.init (beq_iff_eq.mp M.fn) (codeAny_mono (F.run _ X.stack _ _ ⟨Value.ref (s.heap.objs.size+1)::us,[]⟩ (Value.ref (s.heap.objs.size+1)::(us++ds)) _ _ E (hr.make C us [])
  (I2.Qc.make C us []) (hb _ (Value.ref (s.heap.objs.size+1)::us) I2.qE hl) r2 hq) λr s' OD=>?_))
 cases r with
 | error e=>exact hx pins σ _ _ e s' I2 OD
 | ok fl=>
  cases fl with
  | ret u=>
   obtain⟨v,H',I3,rv,ev,q3⟩:=I2.after OD
   subst ev
   exact⟨rv,⟨V.ref (s.heap.objs.size+1),H',I3,rfl,q3⟩⟩
  | next=>exact False.elim OD
  | brk=>exact False.elim OD
  | cont=>exact False.elim OD
theorem Hh(M:Mk X.K C f)(F:cE X.prog X.w X.K X.mg X.base CX k f fd ps sp)(hr:fo (k+1) X.A)(hg:Gl X x)(hm:X.mg x=some (.ref C))(hb:Binds X.K fd ps ds)(hd:Vals pq ds)(hx:Passes CX X E)
  (ha:PA X (e::es) t) (HS:(x==("__debug__" : Str))=false:=by decide) (he:starEach (e::es) X.env=(false,eval e X.env)::starEach es X.env:=by rfl) (zM:(backTo pos (starEach es X.env)).any (·.1)=false:=by rfl) :
  PE X (.Call (.Name x p) (e::es) [] pos) (zb C sp pq E t):=by
 intro pins s σ H Q I h
 refine yW (zH I hg hm ?_ HS)
 refine xu (h₀:=X.base) I.ok.mod.Ov M.kp (cV (ha pos pins s σ H _ I h) λus s1 ⟨vs,H1,I1,r,q⟩=>⟨I1.qE,?_⟩) he zM
 exact CW M F hr hb hd hx I1 r q
end
structure bt(N P:List Str)(sc:Scope):Prop where
 kind:sc.kind=.function
 co:sc.isCoroutine=false
 gen:sc.isGenerator=false
 nd:N.Nodup
 pre:N.take P.length=P
 par:∀x∈P,sc.names.lookup x=some .local\/sc.names.lookup x=some .cell
 K6:∀y∈sc.names,y.2≠.free
theorem uc{kindOf:Str->Option NameKind}{x:Str}:∀{binds:List (Str×Value)} {m:Str->Option Value},(∀v,(x,v)∉binds)->bindL kindOf binds m x=m x
 | [],_,_=>rfl
 | (n,v)::r,m,h=>by
  unfold bindL
  rw[uc λw hw=>h w (iF _ hw)]
  split
  ·have:x≠n:=by rintro rfl;exact h v nC
   simp[this]
  ·rfl
theorem uf{kindOf:Str->Option NameKind}{x:Str}:∀{binds:List (Str×Value)} {m:Str->Option Value},(∀v,(x,v)∉binds)->bindC kindOf binds m x=m x
 | [],_,_=>rfl
 | (n,v)::r,m,h=>by
  unfold bindC
  rw[uf λw hw=>h w (iF _ hw)]
  split
  ·rfl
  ·have:x≠n:=by rintro rfl;exact h v nC
   simp[this]
theorem ud{kindOf:Str->Option NameKind}{x:Str}{v:Value}:∀{P:List Str} {vs:List Value} {i:Nat} {m:Str->Option Value},P.Nodup->P[i]?=some x->vs[i]?=some v->kindOf x=some .local->
  bindL kindOf (P.zip vs) m x=some v
 | [],_,_,_,_,h,_,_=>by simp at h
 | _::_,[],_,_,_,_,h,_=>by simp at h
 | p::P,w::vs,0,m,nd,h1,h2,hk=>by
  simp at h1 h2;subst h1;subst h2
  show bindL kindOf ((p,w)::P.zip vs) m p=_
  unfold bindL
  rw[uc λv hv=>(uy.mp nd).1 (List.of_mem_zip hv).1,aR hk]
  simp
 | p::P,w::vs,i+1,m,nd,h1,h2,hk=>by
  show bindL kindOf ((p,w)::P.zip vs) m x=_
  unfold bindL
  exact ud (i:=i) (uy.mp nd).2 (by simpa using h1) (by simpa using h2) hk
theorem ug{kindOf:Str->Option NameKind}{x:Str}{v:Value}:∀{P:List Str} {vs:List Value} {i:Nat} {m:Str->Option Value},P.Nodup->P[i]?=some x->vs[i]?=some v->kindOf x≠some .local->
  bindC kindOf (P.zip vs) m x=some v
 | [],_,_,_,_,h,_,_=>by simp at h
 | _::_,[],_,_,_,_,h,_=>by simp at h
 | p::P,w::vs,0,m,nd,h1,h2,hk=>by
  simp at h1 h2;subst h1;subst h2
  show bindC kindOf ((p,w)::P.zip vs) m p=_
  unfold bindC
  rw[uf λv hv=>(uy.mp nd).1 (List.of_mem_zip hv).1,aO hk]
  simp
 | p::P,w::vs,i+1,m,nd,h1,h2,hk=>by
  show bindC kindOf ((p,w)::P.zip vs) m x=_
  unfold bindC
  exact ug (i:=i) (uy.mp nd).2 (by simpa using h1) (by simpa using h2) hk
def start(N:List Str)(vs:List V):St:=vs.map some++List.replicate (N.length-vs.length) none
def qt(CX:Ca)(P:Program)(w:World)(K:PySem.W.Frag)(mg:Str->Option Value)(base:Heap)(N:List Str)(qual:Str)(scope:Scope)(f:Addr)(cd:Value)(A:Around)(outer:List Env)(s:Shared)(H:Hp)(E:XK):Cx where
 prog:=P
 w:=w
 K:=K
 mg:=mg
 base:=base
 A:=A.deeper (envOfC qual scope s.heap.objs.size f cd)
 N:=N
 s₀:=s
 H₀:=H
 env:=envOfC qual scope s.heap.objs.size f cd
 outer:=outer
 stack:=envOfC qual scope s.heap.objs.size f cd::outer
 ex:=[]
 calm:=true
 fn:=λ_=>true
 pn:=[]
 xe:=λe s'=>wpAny (model P w) (A.deeper (envOfC qual scope s.heap.objs.size f cd)) (leaving (envOfC qual scope s.heap.objs.size f cd) e) (λ_ NZ=>CX outer H s E e NZ) (λe' NZ=>CX outer H s E e' NZ) s'
theorem wQ{sc:Scope}{n:Nat}{x:Str}(h:sc.names.lookup x=some .cell):∃c,(cellsFrom n sc.names []).lookup x=some c:=by
 have q:=PySem.W.cellsFrom_some sc.names n [] (.inl h)
 exact Option.isSome_iff_exists.mp q
theorem Bd{CX:Ca}{P:Program}{w:World}{K:PySem.W.Frag}{mg:Str->Option Value}{base:Heap}{N ps:List Str}{qual:Str}{scope:Scope}{f:Addr}{cd:Value}{A:Around}{outer:List Env}{s s1:Shared}{H:Hp}{E:XK}{us:List Value}{vs:List V}
  (S:bt N ps scope) (hd:A.handled=none) (e0:yU P w K mg base A outer s H) (hl:vs.length=ps.length) (r:Vals vs us)
  (x:InCallC s s.heap.objs.size (bindL (envOfC qual scope s.heap.objs.size f cd).kindOf (ps.zip us) λ_=>none) (cellsFrom (s.heap.objs.size+1) scope.names []) (bindC (envOfC qual scope s.heap.objs.size f cd).kindOf (ps.zip us) λ_=>none) s1) :
  Inv (qt CX P w K mg base N qual scope f cd A outer s H E) [] (start N vs) H s1:=by
 have zM:ps.length<=N.length:=by have:=iU List.length S.pre;rw[nz]at this;lia
 obtain⟨h1,tk,rfl,hk⟩:=x.done
 have Ol:∀b:Addr,b∉(qt CX P w K mg base N qual scope f cd A outer s H E).ex:=λb z=>absurd (show b∈([]:List Addr) from z) (by simp)
 refine⟨⟨e0.mod,S.kind,rfl,rfl,cu _,λy z c h1 h2=>?_,λy hy=>?_,λy c _ h=>?_,λ_=>hd,Around.frames_deeper e0.frames,.inr ⟨rfl,rfl⟩,λb z=>absurd z (Ol b),e0.bs,e0.FJ,λb _ _=>Ol b,λb z=>absurd z (Ol b),e0.qq,e0.Ma⟩,
  rfl,e0.bare,Un.kept hk,⟨_,x.toInCall.ns,λi y v h1 h2 h3=>?_⟩,λy c h=>⟨_,x.cell y c h⟩,e0.dN.fresh (cu _),λy c h=>?_,λp hp=>absurd (show p∈([]:List (Addr×Obj)) from hp) (by simp),e0.dN.kept hk,?_⟩
 ·exact name_of_addr x.apart (fw h1) (fw h2)
 ·have hy:scope.names.lookup y=some .cell\/scope.names.lookup y=some .free:=hy
  rcases hy with hy | hy
  ·exact wQ hy
  ·exact absurd rfl (S.K6 _ (fw hy))
 ·exact qH (x.above y c (fw h))
 ·have hi:i<vs.length:=by
   unfold start at h2
   by_cases hi:i<vs.length
   ·exact hi
   ·rw[lQ (by simpa using hi)]at h2
    rw[Ce]at h2
    split at h2 <;> cases h2
  have ha:vs[i]?=some v:=by
   unfold start at h2
   rw[ou (by simpa using hi),fO]at h2
   cases e:vs[i]? with
   | none=>rw[e]at h2;cases h2
   | some a=>rw[e]at h2;cases h2;rfl
  obtain⟨u,hu,rv⟩:=r.get ha
  have hp:ps[i]?=some y:=by
   rw[<-S.pre,List.getElem?_take_of_lt (by lia)];exact h1
  have ndP:ps.Nodup:=by rw[<-S.pre];exact S.nd.sublist (List.take_sublist _ _)
  refine⟨u,rv,?_⟩
  rcases S.par y (qO hp) with k | k
  ·exact .inl ⟨k,ud ndP hp hu k⟩
  ·obtain⟨c,e⟩:=wQ (n:=s.heap.objs.size+1) k
   refine .inr ⟨.inl k,c,e,?_⟩
   have q:=x.cell y c e
   rw[ug ndP hp hu (by show scope.names.lookup y≠_;rw[k];decide)]at q
   exact q
 ·exact e0.dN.fresh (qH (x.above y c (fw h)))
 ·unfold start
  show _=N.length
  rw[dR,aP,qP]
  lia
theorem Qa{CX:Ca}{P:Program}{w:World}{K:PySem.W.Frag}{mg:Str->Option Value}{base:Heap}{k:Nat}{f:Addr}{name qual:Str}{params:Arguments}{body:List Stmt}{scope:Scope}{dV kV doc pm eF ct oc:Value}{an od:Option Addr}
  {Jc:Array (Option Value)} {N ps:List Str} {sp:Sp} (lk:K.lookup f=some ⟨oc,od,.func (PySem.W.fnOf name qual params body scope dV kV doc pm an eF ct),Jc⟩) (Eu:PySem.W.codeIn K eF qual=true) (S:bt N ps scope)
  (len:∀vs H Q E,sp vs H Q E->vs.length=ps.length)
  (rW:∀(A:Around) (outer:List Env) (s:Shared) (H:Hp) (vs:List V) (Q:VK) (E:XK),fo k (A.deeper (envOfC qual scope s.heap.objs.size f eF))->sp vs H Q E->
   ∃t,vD (qt CX P w K mg base N qual scope f eF A outer s H E) body t/\t { nx:=λ_ H'=>Q .non H',rt:=Q } (start N vs) H) :
  cE P w K mg base CX (k+1) f (PySem.W.fnOf name qual params body scope dV kV doc pm an eF ct) ps sp:=by
 refine⟨len,λA outer s H args us vs Q E hr e0 hb r Jl=>?_⟩
 have hl:=len _ _ _ _ Jl
 have KX:K.In s.heap:=e0.mod.Ov.keeps λb o e=>(e0.bs b o e).1
 have lim:s.heap.NoLimit:=e0.mod.nolimit.keeps λb o e=>(e0.bs b o e).1
 have O6:∀y∈ps.zip us,scope.names.lookup y.1=some .local\/(scope.names.lookup y.1=some .cell/\((cellsFrom (s.heap.objs.size+1) scope.names []).lookup y.1).isSome=true):=λ⟨n,v⟩ hy=>by
  rcases S.par n (List.of_mem_zip hy).1 with q | q
  ·exact .inl q
  ·exact .inr ⟨q,PySem.W.cellsFrom_some _ _ _ (.inl q)⟩
 refine codeAny_call_function hr.depth (KX _ _ lk) rfl S.co S.gen rfl (PySem.W.codeRec_of KX Eu) (hb _ _ _ _ ?_)
 refine wpAny_newFunctionEnv_cells S.kind O6 λenv he s1 x=>?_
 subst he
 refine⟨lim.keeps x.toInCall.keep,codeAny_func ?_⟩
 obtain⟨t,ht,hq⟩:=rW A outer s H vs Q E (hr.deeper _) Jl
 have I:Inv (qt CX P w K mg base N qual scope f eF A outer s H E) [] (start N vs) H s1:=Bd S hr.hd e0 hl r x
 refine gi (ht [] s1 (start N vs) H _ I hq) (λfl s' hs=>?_) λe s' hs=>hs
 have fin:∀{σ':St} {H':Hp} {v:V} {u:Value},Inv (qt CX P w K mg base N qual scope f eF A outer s H E) [] σ' H' s'->RelV v u->Q v H'->CE outer P w H s Q u s':=
  λ{σ' H' v u} J rv q=>⟨v,H',J.os,J.bare,J.base,J.dN,rv,q⟩
 cases fl with
 | ret u=>
  obtain⟨v,σ',H',J,rv,q⟩:=hs
  exact fin J rv q
 | next=>
  obtain⟨σ',H',J,q⟩:=hs
  exact fin (v:=V.non) (u:=Value.none) J rfl q
 | brk=>
  obtain⟨_,_,_,q⟩:=hs
  exact False.elim q
 | cont=>
  obtain⟨_,_,_,q⟩:=hs
  exact False.elim q
end L2
namespace L2
open PySem PySem.Spec PyProof.Rows
section
variable {X:Cx}{x:Str}{p pos:Pos}{e:Expr}{es:List Expr}{t:TA}{id T:String}{r:List V->Hp->VK->Prop}
def JT(r:List V->Hp->VK->Prop)(t:TA):TE:=λσ H Q=>t σ H λvs H1=>r vs H1 Q
theorem lX(hc:eQ X (.builtin id) r)(hg:Gl X x)(hm:X.mg x=none)(hv:bootBuiltins x=some (.builtin id))(ha:PA X (e::es) t)(hn:x≠"__name__":=by decide)(HS:(x==("__debug__" : Str))=false:=by decide)
  (he:starEach (e::es) X.env=(false,eval e X.env)::starEach es X.env:=by rfl) (zM:(backTo pos (starEach es X.env)).any (·.1)=false:=by rfl):PE X (.Call (.Name x p) (e::es) [] pos) (JT r t):=by
 intro pins s σ H Q I h
 refine yW (rM I hg hm hv ?_ hn HS)
 exact PyProof.Rows.callWith_builtin1 (cV (ha pos pins s σ H _ I h) λus s1 ⟨vs,H1,I1,r1,q1⟩=>hc pins s1 σ H1 vs us Q I1 r1 q1) he zM
theorem jZ(hc:eQ X (.type T) r)(hg:Gl X x)(hm:X.mg x=none)(hv:bootBuiltins x=some (.type T))(ha:PA X (e::es) t)(hn:x≠"__name__":=by decide)(HS:(x==("__debug__" : Str))=false:=by decide)
  (he:starEach (e::es) X.env=(false,eval e X.env)::starEach es X.env:=by rfl) (zM:(backTo pos (starEach es X.env)).any (·.1)=false:=by rfl):PE X (.Call (.Name x p) (e::es) [] pos) (JT r t):=by
 intro pins s σ H Q I h
 refine yW (rM I hg hm hv ?_ hn HS)
 exact Cj (cV (ha pos pins s σ H _ I h) λus s1 ⟨vs,H1,I1,r1,q1⟩=>hc pins s1 σ H1 vs us Q I1 r1 q1) he zM
end
end L2
namespace HT
open PySem PyProof.Rows
def lexLt:List Int->List Int->Bool
 | [],[]=>false
 | [],_::_=>true
 | _::_,[]=>false
 | x::xs,y::ys=>if x=y then lexLt xs ys else decide (x<y)
section
open PySem.SeqAt
open PySem.AutoSeq1 (wpAny_loadPart')
open PySem.MeetsSeq PySem.MeetsSeq2 PySem.MeetsSeq3
end
section
variable {prog:Program}{w:World}{A:Around}{E:Value->Shared->Prop}{s:Shared}
theorem Im{t b:Addr}{vs ws:List Value}{Q:Value->Shared->Prop}(ht:IsTup s.heap t vs.toArray)(hb:IsTup s.heap b ws.toArray)(hv:vs≠[])
  (h1:ws=[]->Q (.ref t) s) (h2:ws≠[]->Q (.ref s.heap.objs.size) { s with heap:=s.heap.push { cls:=.type "tuple",data:=.seq (vs++ws).toArray } })
  (V2:vs.length+ws.length<=sizeLine):wpAny (model prog w) A (binaryOp .Add (.ref t) (.ref b)) Q E s:=by
 obtain⟨⟨cls,dd,data,sl⟩,ho,hc,n,hd⟩:=id ht
 obtain⟨⟨Yr,RQ,data2,MN⟩,Lq,Pl,n2,hd2⟩:=id hb
 simp only at hc hd Pl hd2
 subst hc hd Pl hd2
 have e:vs.toArray++ws.toArray=(vs++ws).toArray:=by simp
 by_cases hw:ws=[]
 ·exact concat_meets ⟨_,ho,rfl⟩ ⟨_,Lq,rfl⟩ noFill_tuple_add seq_tuple_add Cd Cg (Ci _ _)
   (tuple_addW1 t b vs.toArray ws.toArray n n2 dd RQ sl MN (by simpa using hv) (by simp[hw])) ⟨ho,Lq,h1 hw⟩
 ·refine concat_meets ⟨_,ho,rfl⟩ ⟨_,Lq,rfl⟩ noFill_tuple_add seq_tuple_add Cd Cg (Ci _ _)
   (tuple_addW2 t b vs.toArray ws.toArray n n2 dd RQ sl MN (by simpa using hv) (by simpa using hw) (by rw[cT,cT];exact V2)) ⟨ho,Lq,?_⟩
  rw[e]
  exact h2 hw
def dE(n d:Nat):Option Int->Nat
 | none=>d
 | some v=>if v<0 then (v+(n:Int)).toNat else min v.toNat n
theorem Ka(n d:Nat)(hd:d<=n)(o:Option Int):dE n d o<=n:=by
 cases o with
 | none=>exact hd
 | some v=>
  show(if v<0 then (v+(n:Int)).toNat else min v.toNat n)<=n
  by_cases hv:v<0
  ·rw[aR hv];lia
  ·rw[aO hv];exact Nat.min_le_right _ _
theorem zZ(v:Int)(n d:Nat):(if v<0 then max (v+(n:Int)) 0 else min v (n:Int))=((dE n d (some v):Nat):Int):=by
 show(if v<0 then max (v+(n:Int)) 0 else min v (n:Int))=(((if v<0 then (v+(n:Int)).toNat else min v.toNat n):Nat):Int)
 by_cases hv:v<0
 ·simp only[aR hv];lia
 ·simp only[aO hv];lia
theorem yO(lo hi:Option Int)(n:Nat):Builtin.Slice.sliceAdjust lo hi 1 (n:Int)=(((dE n 0 lo:Nat):Int),((dE n n hi:Nat):Int)):=by
 have h1:¬((1:Int)<0):=by lia
 unfold Builtin.Slice.sliceAdjust
 simp only[h1,if_false]
 refine Prod.ext ?_ ?_
 ·cases lo with
  | none=>rfl
  | some v=>exact zZ v n 0
 ·cases hi with
  | none=>rfl
  | some v=>exact zZ v n n
theorem x8(i j:Nat):Builtin.Slice.slicePlaces (i:Int) (j:Int) 1=j-i:=by
 unfold Builtin.Slice.slicePlaces
 have h1:(1:Int) > 0:=by lia
 simp only[h1,lR,Int.ediv_one]
 split <;> lia
theorem rg{v:Value}{o:Option Int}{Q:Option Int->Shared->Prop}(p:IsPart v o)(h:Q o s):wpAny (model prog w) A (Builtin.Slice.slicePartIndex v) Q E s:=by
 cases p with
 | none=>exact slicePart_none h
 | int i t=>exact slicePart_int h
theorem oX{sl:Addr}{vl vu:Value}{lo hi:Option Int}{n:Nat}{Q:Int×Int×Nat->Shared->Prop}(hs:s.heap.IsSliceOf sl vl vu .none)(pl:IsPart vl lo)(pu:IsPart vu hi)
  (h:Q (((dE n 0 lo:Nat):Int),1,dE n n hi-dE n 0 lo) s):wpAny (model prog w) A (Builtin.Slice.sliceApplied (.ref sl) (pure (n:Int))) Q E s:=by
 obtain⟨os,O4,hcs,Rv⟩:=id hs
 unfold Builtin.Slice.sliceApplied Builtin.Slice.sliceFields
 refine bG (bG (wpAny_field O4 Rv (x:=vl) rfl (bG (wpAny_field O4 Rv (x:=vu) rfl (bG (wpAny_field O4 Rv (x:=.none) rfl (cn ?_)))))))
 refine bG (slicePart_none ?_)
 show wpAny _ _ (if ((1:Int)==0)=true then _ else _) _ _ s
 rw[aO (by decide)]
 refine bG (rg pl (bG (rg pu (bG (cn ?_)))))
 show wpAny _ _ (match Builtin.Slice.sliceAdjust lo hi 1 (n:Int) with | (lo,hi)=>pure (lo,(1:Int),Builtin.Slice.slicePlaces lo hi 1)) _ _ s
 rw[yO lo hi n]
 show wpAny _ _ (pure (((dE n 0 lo:Nat):Int),(1:Int),Builtin.Slice.slicePlaces ((dE n 0 lo:Nat):Int) ((dE n n hi:Nat):Int) 1)) _ _ s
 rw[x8]
 exact cn h
theorem DK(xs:Array Value)(i k:Nat):((List.range k).filterMap λ(m:Nat)=>xs[((i:Int)+(m:Int)*1).toNat]?).toArray=((xs.toList.drop i).take k).toArray:=by
 have e:(λ(m:Nat)=>xs[((i:Int)+(m:Int)*1).toNat]?)=λm=>xs[i+m]?:=by
  funext m
  have:((i:Int)+(m:Int)*1).toNat=i+m:=by lia
  rw[this]
 rw[e]
 have:=pick_run xs i k
 rw[List.filterMap_map]at this
 have e2:((λx=>xs[x]?) ∘ λx=>i+x)=λm=>xs[i+m]?:=rfl
 rw[e2]at this
 rw[this]
theorem oH{t sl:Addr}{items:Array Value}{vl vu:Value}{lo hi:Option Int}{Q:Value->Shared->Prop}(ht:IsTup s.heap t items)(hs:s.heap.IsSliceOf sl vl vu .none)(pl:IsPart vl lo)(pu:IsPart vu hi)
  (hw:¬(dE items.size 0 lo=0/\dE items.size items.size hi=items.size))
  (h:Q (.ref s.heap.objs.size) { s with heap:=s.heap.push { cls:=.type "tuple",data:=.seq ((items.toList.drop (dE items.size 0 lo)).take (dE items.size items.size hi-dE items.size 0 lo)).toArray } })
  (V2:items.size<=sizeLine):wpAny (model prog w) A (getItem (.ref t) (.ref sl)) Q E s:=by
 have zL:sizeOk (.seq ((items.toList.drop (dE items.size 0 lo)).take (dE items.size items.size hi-dE items.size 0 lo)).toArray):=by
  show((items.toList.drop (dE items.size 0 lo)).take (dE items.size items.size hi-dE items.size 0 lo)).toArray.size<=sizeLine
  rw[cT,nz,List.length_drop,xA]
  lia
 have hj:dE items.size items.size hi<=items.size:=Ka _ _ (cu _) hi
 obtain⟨os,O4,hcs,Rv⟩:=id hs
 have hTs:s.TypeIs (.ref sl) "slice":=⟨os,O4,hcs⟩
 unfold getItem
 try with_reducible refine um ?_
 first | refine bG (cn ?_) | skip
 refine bG (wpAny_sequenceKey ht.typeIs (by decide) ?_)
 refine bG (wpAny_callSpecial?_slot (name:=Str.ofString "__getitem__") ht.typeIs Cm
  (wpAny_call_entry Cm ht.typeIs entry_tuple_getitem ?_ (args_tuple_getitem _ _)))
 show wpAny _ _ (Builtin.Tuple.tupleItemsOf (.ref t) >>= _) _ _ s
 refine bG (tupleItemsOf_ ht ?_)
 refine bG (wpAny_typeOf hTs ?_)
 rw[aR (by decide)]
 refine bG (oX hs pl pu ?_)
 have nY:¬((((dE items.size 0 lo:Nat):Int)==0&&(1:Int)==1&&(dE items.size items.size hi-dE items.size 0 lo)==items.size)=true):=by
  intro q
  rw[eO,eO]at q
  have q1:((dE items.size 0 lo:Nat):Int)=0:=eq_of_beq q.1.1
  have q2:dE items.size items.size hi-dE items.size 0 lo=items.size:=eq_of_beq q.2
  exact hw ⟨by lia,by lia⟩
 show wpAny _ _ (if (((dE items.size 0 lo:Nat):Int)==0&&(1:Int)==1&&(dE items.size items.size hi-dE items.size 0 lo)==items.size)=true then _ else _) _ _ s
 rw[aO nY,DK]
 first
  | exact bG (m:=Builtin.Tuple.tupleExact _) (sZ (cn ⟨_,rfl,cn h⟩) zL)
  | exact bG (m:=Builtin.Tuple.tupleExact _) (sZ (bG (cn (cn ⟨_,rfl,cn h⟩))) zL)
  | exact bG (bG (m:=Builtin.Tuple.tupleExact _) (sZ (cn (cn ⟨_,rfl,cn h⟩)) zL))
  | exact bG (bG (m:=Builtin.Tuple.tupleExact _) (sZ (cn ⟨_,rfl,cn h⟩) zL))
end
end HT
namespace L2
open PySem PySem.Spec PyProof.Rows
abbrev TO:=St->Hp->(Option Int->Hp->Prop)->Prop
def PO(X:Cx)(e:Option Expr)(t:TO):Prop:=
 ∀(pins:List (Addr×Obj)) (s:Shared) (σ:St) (H:Hp) (Q:Option Int->Hp->Prop),Inv X pins σ H s->t σ H Q->
  wpAny (model X.prog X.w) X.A (evalPart e X.env) (λu s'=>∃o H',Inv X pins σ H' s'/\IsPart u o/\Q o H') X.xe s
def ow:TO:=λ_ H Q=>Q none H
def vT(t:TE):TO:=λσ H Q=>t σ H λx H1=>∃i,x=.int i/\Q (some i) H1
section
variable {X:Cx}{e:Expr}{te:TE}{lo hi:Option Expr}{tl th:TO}{pos p2:Pos}
theorem Hc:PO X none ow:=by
 intro pins s σ H Q I h
 rw[evalPart_none]
 exact cn ⟨none,H,I,.none,h⟩
theorem Hb(h:PE X e te):PO X (some e) (vT te):=by
 intro pins s σ H Q I hw
 rw[evalPart_some]
 refine cV (h pins s σ H _ I hw) λu s1 ⟨x,H1,I1,r1,q1⟩=>?_
 obtain⟨i,rfl,q⟩:=q1
 obtain⟨t,rfl⟩:=r1
 exact⟨some i,H1,I1,.int i t,q⟩
def JF(X:Cx)(r:V->Option Int->Option Int->Hp->VK->Prop):Prop:=
 ∀(pins:List (Addr×Obj)) (s:Shared) (σ:St) (H:Hp) (x:V) (v vl vu:Value) (lo hi:Option Int) (sl:Addr) (Q:VK),Inv X pins σ H s->RelV x v->s.heap.IsSliceOf sl vl vu .none->IsPart vl lo->IsPart vu hi->r x lo hi H Q->
  ∃T id,typeLookup (.type T) "__getitem__" = pure (some (.builtin id))/\s.TypeIs v T/\wpAny (model X.prog X.w) X.A (getItem v (.ref sl)) (EP X pins σ Q) X.xe s
def Nr(r:V->Option Int->Option Int->Hp->VK->Prop)(te:TE)(tl th:TO):TE:=λσ H Q=>te σ H λx H1=>tl σ H1 λl H2=>th σ H2 λu H3=>r x l u H3 Q
theorem DQ{r:V->Option Int->Option Int->Hp->VK->Prop}(hr:JF X r)(he:PE X e te)(hl:PO X lo tl)(hu:PO X hi th):PE X (.Subscript e (.Slice lo hi none p2) pos) (Nr r te tl th):=by
 intro pins s σ H Q I h
 refine Subscript_ (cV (he pins s σ H _ I h) λv s1 ⟨x,H1,I1,r1,q1⟩=>?_)
 refine wpAny_Slice (cV (hl pins s1 σ H1 _ I1 q1) λvl s2 ⟨l,H2,I2,pl,q2⟩=>cV (hu pins s2 σ H2 _ I2 q2) λvu s3 ⟨u,H3,I3,pu,q3⟩=>?_)
 rw[evalPart_none]
 refine cn ?_
 have I4:Inv X pins σ H3 { s3 with heap:=s3.heap.push { cls:=.type "slice",data:=.fields #[vl,vu,.none] } }:=I3.kept (t':=s3.toks) λb ob q=>gI _ q
 obtain⟨T,id,hT,ht,hg⟩:=hr pins { s3 with heap:=s3.heap.push { cls:=.type "slice",data:=.fields #[vl,vu,.none] } } σ H3 x v vl vu l u s3.heap.objs.size Q I4 r1 (Heap.IsSliceOf.new ..) pl pu q3
 show wpAny (model X.prog X.w) X.A (subscriptTail e (.Slice lo hi none p2) v (.ref s3.heap.objs.size)) (EP X pins σ Q) X.xe { s3 with heap:=s3.heap.push { cls:=.type "slice",data:=.fields #[vl,vu,.none] } }
 exact tail_any (ops:=[.ref s3.heap.objs.size,v]) ht hT hg (by with_unfolding_all rfl)
def gY(xs:List V)(lo hi:Option Int):List V:=(xs.drop (HT.dE xs.length 0 lo)).take (HT.dE xs.length xs.length hi-HT.dE xs.length 0 lo)
theorem gO(xs:List V)(lo hi:Option Int):(gY xs lo hi).length<=xs.length:=by
 unfold gY
 rw[nz,List.length_drop]
 lia
def Te(K:PySem.W.Frag):V->Option Int->Option Int->Hp->VK->Prop:=λx lo hi H Q=>∃a xs,x=.ref a/\sQ K H a xs/\
 ¬(HT.dE xs.length 0 lo=0/\HT.dE xs.length xs.length hi=xs.length)/\∀p,H p=none->Q (.ref p) (upd H p (.tup (gY xs lo hi)))
theorem J':JF X (Te X.K):=by
 intro pins s σ H x v vl vu lo hi sl Q I rx hs pl pu h
 obtain⟨a,xs,rfl,hx,hw,q⟩:=h
 cases rx
 obtain⟨its,r,ht,hz⟩:=I.tuple hx
 have hlen:its.toArray.size=xs.length:=by rw[cT];exact r.length.symm
 refine⟨"tuple",_,Cm.lookup,ht.typeIs,?_⟩
 refine HT.oH ht hs pl pu (by rw[hlen];exact hw) ?_ (by rw[hlen];exact hz)
 rw[hlen]
 refine⟨.ref s.heap.objs.size,_,I.laid (t':=s.toks) (o:=.tup (gY xs lo hi)) (λb ob q=>gI _ q) (cu _) ?_,rfl,q _ (I.dN.fresh (cu _))⟩
 exact⟨cq (gO xs lo hi) hz,_,(r.drop (HT.dE xs.length 0 lo)).take (HT.dE xs.length xs.length hi-HT.dE xs.length 0 lo),IsTup.new _ _⟩
def N4(K:PySem.W.Frag):R2:=λx y H Q=>∃a b xs ys,x=.ref a/\y=.ref b/\sQ K H a xs/\sQ K H b ys/\xs≠[]/\xs.length+ys.length<=sizeLine/\
 (ys=[]->Q (.ref a) H)/\(ys≠[]->∀p,H p=none->Q (.ref p) (upd H p (.tup (xs++ys))))
theorem Vals.vh{xs:List V}{us:List Value}(r:Vals xs us):us=[]↔xs=[]:=by
 cases r with
 | nil=>simp
 | cons _ _=>simp
theorem Hl:kc X (binaryOp .Add) (N4 X.K):=by
 intro pins s σ H x y v u Q I rx ry h
 obtain⟨a,b,xs,ys,rfl,rfl,ha,hb,hx,hz,q1,q2⟩:=h
 cases rx
 cases ry
 obtain⟨its,r1,p1,_⟩:=I.tuple ha
 obtain⟨HF,r2,p2,_⟩:=I.tuple hb
 refine HT.Im p1 p2 (λz=>hx (r1.vh.mp z)) (λz=>⟨.ref a,H,I,rfl,q1 (r2.vh.mp z)⟩) (λz=>?_) (by rw[<-r1.length,<-r2.length];exact hz)
 refine⟨.ref s.heap.objs.size,_,I.laid (t':=s.toks) (o:=.tup (xs++ys)) (λb ob q=>gI _ q) (cu _) ?_,rfl,q2 (λw=>z (r2.vh.mpr w)) _ (I.dN.fresh (cu _))⟩
 exact⟨by rw[dR];exact hz,_,r1.append r2,IsTup.new _ _⟩
end
end L2
namespace L2
open PySem PySem.Spec PyProof.Rows
def Bb(n:Nat)(i:Int):Option Nat:=if 0<=i then (if i<n then some i.toNat else none) else if -(n:Int)<=i then some (i+n).toNat else none
def kb{α:Type}(xs:List α)(i:Int):Option α:=(Bb xs.length i).bind λj=>xs[j]?
theorem zJ{n:Nat}{i:Int}{j:Nat}(h:Bb n i=some j):seqIndex? i n=some j/\j<n/\-(n:Int)<=i/\i<n:=by
 unfold Bb at h
 by_cases h0:0<=i
 ·rw[aR h0]at h
  by_cases h1:i<n
  ·rw[aR h1]at h
   have e:i.toNat=j:=dP h
   exact⟨by rw[qQ h0 h1,e],by lia,by lia,h1⟩
  ·rw[aO h1]at h;cases h
 ·rw[aO h0]at h
  by_cases h1 : -(n:Int)<=i
  ·rw[aR h1]at h
   have e:(i+n).toNat=j:=dP h
   exact⟨by rw[seqIndex_neg (by lia) h1,e],by lia,h1,by lia⟩
  ·rw[aO h1]at h;cases h
theorem vC{α:Type}{xs:List α}{i:Int}{v:α}(h:kb xs i=some v):∃j,seqIndex? i xs.length=some j/\xs[j]?=some v/\j<xs.length/\-(xs.length:Int)<=i/\i<xs.length:=by
 unfold kb at h
 cases e:Bb xs.length i with
 | none=>rw[e]at h;cases h
 | some j=>
  rw[e]at h
  obtain⟨h1,h2,h3,h4⟩:=zJ e
  exact⟨j,h1,h,h2,h3,h4⟩
theorem bH{α:Type}{xs:List α}{j:Nat}{v:α}(h:xs[j]?=some v):kb xs (j:Int)=some v:=by
 have hj:j<xs.length:=(fP.mp h).1
 have e:Bb xs.length (j:Int)=some j:=by
  unfold Bb
  rw[aR (by lia),aR (by lia)];simp
 unfold kb;rw[e];exact h
def z8(b:Expr):Prop:=∀o i,subscripted b false o i=operate [o,i] (getItem o i)
def Iw(X:Cx)(r:R2):Prop:=
 ∀(value slice:Expr) (pins:List (Addr×Obj)) (s:Shared) (σ:St) (H:Hp) (x y:V) (v u:Value) (Q:VK),Inv X pins σ H s->RelV x v->RelV y u->r x y H Q->
  subscripted slice false v u=operate [v,u] (getItem v u)->wpAny (model X.prog X.w) X.A (subscriptTail value slice v u) (EP X pins σ Q) X.xe s
def MtR(X:Cx)(id:String)(r:V->List V->Hp->VK->Prop):Prop:=
 ∀(pins:List (Addr×Obj)) (s:Shared) (σ:St) (H:Hp) (x:V) (xs:List V) (v:Value) (us:List Value) (Q:VK),Inv X pins σ H s->RelV x v->Vals xs us->r x xs H Q->
  wpAny (model X.prog X.w) X.A (call (.builtin id) (v::us)) (EP X pins σ Q) X.xe s
section
variable {X:Cx}{a b:Expr}{ta tb:TE}{pos:Pos}
theorem Oc{r:R2}(hr:Iw X r)(ha:PE X a ta)(hb:PE X b tb)(hs:z8 b):PE X (.Subscript a b pos) (BK r ta tb):=by
 intro pins s σ H Q I h
 exact Subscript_ (Mt ha hb I h λv u s2 x y H2 I2 rx ry q=>hr a b pins s2 σ H2 x y v u Q I2 rx ry q (hs _ _))
def Ti(K:PySem.W.Frag):R2:=λx y H Q=>∃p xs i v,x=.ref p/\y=.int i/\og K H p xs/\kb xs i=some v/\Q v H
def Tg(K:PySem.W.Frag):R2:=λx y H Q=>∃p xs i v,x=.ref p/\y=.int i/\sQ K H p xs/\kb xs i=some v/\Q v H
theorem HD:Iw X (Ti X.K):=by
 intro value slice pins s σ H x y v u Q I rx ry h hs
 obtain⟨p,xs,i,z,rfl,rfl,hq,he,q⟩:=h
 cases rx
 obtain⟨t,rfl⟩:=ry
 obtain⟨its,r,pl,hz⟩:=I.list hq
 obtain⟨j,h1,h2,h3,h4,h5⟩:=vC he
 obtain⟨w,ew,Kd⟩:=r.get h2
 have hl:=r.length
 have hn:=rL
 have fin:EP X pins σ Q w s:=⟨z,H,I,Kd,q⟩
 by_cases h0:0<=i
 ·have hj:i.toNat=j:=by
   rw[qQ h0 h5]at h1
   exact dP h1
  exact item_listR pl.isList h0 (by lia) (by rw[hj];simpa using ew) fin hs
 ·have hj:(i+(its.toArray.size:Int)).toNat=j:=by
   rw[seqIndex_neg (by lia) h4]at h1
   rw[cT,<-hl]
   exact dP h1
  exact subscriptTail_builtinR (x:=w) pl.isList.typeIs slot_list_getitem.lookup
   (wpAny_getItem_list_neg (Q:=λr s'=>r=w/\EP X pins σ Q r s') pl.isList (by lia) (by rw[cT] <;> lia) (by lia) (by rw[hj];simpa using ew) ⟨rfl,fin⟩) hs
theorem Lf:Iw X (Tg X.K):=by
 intro value slice pins s σ H x y v u Q I rx ry h hs
 obtain⟨p,xs,i,z,rfl,rfl,hq,he,q⟩:=h
 cases rx
 obtain⟨t,rfl⟩:=ry
 obtain⟨its,r,pl,hz⟩:=I.tuple hq
 obtain⟨j,h1,h2,h3,h4,h5⟩:=vC he
 obtain⟨w,ew,Kd⟩:=r.get h2
 have hl:=r.length
 have hn:=rL
 have fin:EP X pins σ Q w s:=⟨z,H,I,Kd,q⟩
 exact subscriptTail_builtinR (x:=w) pl.typeIs slot_tuple_getitem.lookup
  (getItem_tuple (j:=j) (Q:=λr s'=>r=w/\EP X pins σ Q r s') pl (by lia) (by lia) (by rw[cT,<-hl];exact h1) (by simpa using ew) ⟨rfl,fin⟩) hs
theorem yj(its:List Value)(n j:Nat)(u:Value):Obj.mapSeq (·.setIfInBounds j u) { cls:=.type "list",data:=.seq its.toArray n }={ cls:=.type "list",data:=.seq (its.set j u).toArray n }:=by
 simp[Obj.mapSeq]
theorem Inv.lst{pins:List (Addr×Obj)}{σ:St}{H:Hp}{s:Shared}{p:Addr}{xs:List V}(I:Inv X pins σ H s)(h:H p=some (.lst xs)) :
  ∃(its:List Value) (n:Nat),Vals xs its/\s.heap.get? p=some { cls:=.type "list",data:=.seq its.toArray n }/\xs.length<=sizeLine:=by
 obtain⟨z,its,n,r,e⟩:=I.dN p _ h
 exact⟨its,n,r,e,z⟩
theorem Inv.La{pins:List (Addr×Obj)}{σ:St}{H:Hp}{s:Shared}{p:Addr}{xs ys:List V}{its its':List Value}{n n':Nat}{f:Obj->Obj}(I:Inv X pins σ H s)(h:H p=some (.lst xs))
  (ho:s.heap.get? p=some { cls:=.type "list",data:=.seq its.toArray n }) (hf:f { cls:=.type "list",data:=.seq its.toArray n }={ cls:=.type "list",data:=.seq its'.toArray n' }) (r:Vals ys its') (hz:ys.length<=sizeLine) (t:Nat) :
  Inv X pins σ (upd H p (.lst ys)) { s with heap:=s.heap.update p f,toks:=t }:=by
 have e:(s.heap.update p f).get? p=some { cls:=.type "list",data:=.seq its'.toArray n' }:=by
  rw[Heap.get?_update_self f ho (by rw[hf] <;> rfl),hf]
 refine I.write (x:=p) (e:=p) (by rw[h];trivial) (.inl rfl) (λb u hb q=>(Heap.get?_update_other _ _ (lj hb)).trans q) ⟨_,e⟩ ?_
 exact⟨hz,its',n',r,e⟩
def N3:V->V->V->Hp->(Hp->Prop)->Prop:=λo i v H Q=>∃p xs k j,o=.ref p/\i=.int k/\H p=some (.lst xs)/\Bb xs.length k=some j/\Q (upd H p (.lst (xs.set j v)))
theorem set_list:By X N3:=by
 intro pins s σ H o i v ov iv u Q I ro ri rv h
 obtain⟨p,xs,k,j,rfl,rfl,hp,hj,q⟩:=h
 cases ro
 obtain⟨t,rfl⟩:=ri
 obtain⟨its,n,r,ho,hz⟩:=I.lst hp
 obtain⟨h1,h2,h3,h4⟩:=zJ hj
 have hl:=r.length
 have hn:=rL
 have I':Inv X pins σ (upd H p (.lst (xs.set j v))) { s with heap:=s.heap.update p (Obj.mapSeq (·.setIfInBounds j u)) }:=
  I.La hp ho (yj its n j u) (r.set rv j) (by rw[List.length_set];exact hz) s.toks
 by_cases h0:0<=k
 ·have hk:k.toNat=j:=by
   rw[qQ h0 h4]at h1
   exact dP h1
  exact PySem.W.ki_setAt ho h0 (by lia) (by rw[cT,<-hl];exact h4) (by rw[hk];exact⟨_,I',q⟩)
 ·have hk:(k+(its.toArray.size:Int)).toNat=j:=by
   rw[seqIndex_neg (by lia) h3]at h1
   rw[cT,<-hl]
   exact dP h1
  exact PySem.W.ki_setBack ho (by lia) (by rw[cT,<-hl];exact h3) (by lia) (by rw[hk];exact⟨_,I',q⟩)
theorem uG(lo hi:Option Int)(n:Nat):(sliceBounds lo hi none n).1=((HT.dE n 0 lo:Nat):Int)/\(sliceBounds lo hi none n).2.1=((HT.dE n n hi:Nat):Int)/\(sliceBounds lo hi none n).2.2=1:=by
 refine⟨?_,?_,rfl⟩
 ·cases lo with
  | none=>simp[sliceBounds,HT.dE]
  | some i=>
   simp only[sliceBounds,HT.dE,Option.getD_none,show(1:Int) > 0 by decide,lR]
   by_cases h:i<0
   ·simp only[h,lR] <;> lia
   ·simp only[h,if_false] <;> lia
 ·cases hi with
  | none=>simp[sliceBounds,HT.dE]
  | some i=>
   simp only[sliceBounds,HT.dE,Option.getD_none,show(1:Int) > 0 by decide,lR]
   by_cases h:i<0
   ·simp only[h,lR] <;> lia
   ·simp only[h,if_false] <;> lia
theorem sD(its:List Value)(lo hi:Option Int):slicePick its.toArray lo hi none=((its.drop (HT.dE its.length 0 lo)).take (HT.dE its.length its.length hi-HT.dE its.length 0 lo)).toArray:=by
 obtain⟨h1,h2,h3⟩:=uG lo hi its.toArray.size
 unfold slicePick
 rw[h1,h2,h3]
 simp only[sliceRange_one,pick_run,cT] <;> rfl
def Tf(K:PySem.W.Frag):V->Option Int->Option Int->Hp->VK->Prop:=λx lo hi H Q=>∃a xs,x=.ref a/\og K H a xs/\∀p,H p=none->Q (.ref p) (upd H p (.lst (gY xs lo hi)))
theorem GD:JF X (Tf X.K):=by
 intro pins s σ H x v vl vu lo hi sl Q I rx hs pl pu h
 obtain⟨a,xs,rfl,hx,q⟩:=h
 cases rx
 obtain⟨its,r,ht,hz⟩:=I.list hx
 have hlen:=r.length
 refine⟨"list",_,slot_list_getitem.lookup,ht.isList.typeIs,?_⟩
 refine wpAny_getItem_list_slice ht.isList hs pl pu .none (by simp) ?_ (by rw[cT] <;> lia)
 rw[sD,<-hlen]
 refine⟨.ref s.heap.objs.size,_,I.laid (t':=s.toks) (o:=.lst (gY xs lo hi)) (λb ob q=>gI _ q) (cu _) ?_,rfl,q _ (I.dN.fresh (cu _))⟩
 exact⟨cq (gO xs lo hi) hz,_,0,(r.drop (HT.dE xs.length 0 lo)).take (HT.dE xs.length xs.length hi-HT.dE xs.length 0 lo),iZ _ rfl⟩
def iJ:V->Bool
 | .non=>true
 | .bl _=>true
 | .int _=>true
 | .str _=>true
 | _=>false
def BV:V->V->Bool
 | .non,.non=>true
 | .bl a,.bl b=>a==b
 | .bl a,.int b=>(if a then 1 else 0)==b
 | .int a,.bl b=>a==(if b then 1 else 0)
 | .int a,.int b=>a==b
 | .str a,.str b=>a==b
 | _,_=>false
theorem Fg{A:Around}{s:Shared}{y x:V}{u v:Value}(ry:RelV y u)(rx:RelV x v)(fy:iJ y=true)(fx:iJ x=true):SeqAt.EqAt A s u v (BV y x):=by
 cases y with
 | non=>
  cases ry
  cases x with
  | non=>cases rx;exact SeqAt.EqAt.same _
  | bl b=>cases rx;exact SeqAt.EqAt.none_bool b
  | int b=>obtain⟨t,rfl⟩:=rx;exact SeqAt.EqAt.none_int b t
  | str b=>obtain⟨t,rfl⟩:=rx;exact SeqAt.EqAt.none_str b t
  | _=>exact absurd (show false=true from fx) dQ
 | bl a=>
  cases ry
  cases x with
  | non=>cases rx;exact SeqAt.EqAt.bool_none a
  | bl b=>cases rx;exact SeqAt.EqAt.bool_bool a b
  | int b=>obtain⟨t,rfl⟩:=rx;exact SeqAt.EqAt.bool_int a b t
  | str b=>obtain⟨t,rfl⟩:=rx;exact SeqAt.EqAt.bool_str a b t
  | _=>exact absurd (show false=true from fx) dQ
 | int a=>
  obtain⟨t',rfl⟩:=ry
  cases x with
  | non=>cases rx;exact SeqAt.EqAt.int_none a t'
  | bl b=>cases rx;exact SeqAt.EqAt.int_bool a t' b
  | int b=>obtain⟨t,rfl⟩:=rx;exact SeqAt.EqAt.int_int a t' b t
  | str b=>obtain⟨t,rfl⟩:=rx;exact SeqAt.EqAt.int_str a t' b t
  | _=>exact absurd (show false=true from fx) dQ
 | str a=>
  obtain⟨t',rfl⟩:=ry
  cases x with
  | non=>cases rx;exact SeqAt.EqAt.str_none a t'
  | bl b=>cases rx;exact SeqAt.EqAt.str_bool a t' b
  | int b=>obtain⟨t,rfl⟩:=rx;exact SeqAt.EqAt.str_int a t' b t
  | str b=>obtain⟨t,rfl⟩:=rx;exact SeqAt.EqAt.str_str a t' b t
  | _=>exact absurd (show false=true from fx) dQ
 | _=>exact absurd (show false=true from fy) dQ
def yA(x:V)(u:Value):Bool:=match u with
 | .none=>BV .non x
 | .bool b=>BV (.bl b) x
 | .int i _=>BV (.int i) x
 | .str z _=>BV (.str z) x
 | _=>false
theorem Ff{x y:V}{u:Value}(r:RelV y u)(f:iJ y=true):yA x u=BV y x:=by
 cases y with
 | non=>cases r;rfl
 | bl b=>cases r;rfl
 | int i=>obtain⟨t,rfl⟩:=r;rfl
 | str z=>obtain⟨t,rfl⟩:=r;rfl
 | _=>exact absurd (show false=true from f) dQ
theorem oN{x:V}:∀{xs:List V} {us:List Value},Vals xs us->xs.all iJ=true->us.any (yA x)=xs.any λy=>BV y x
 | _,_,.nil,_=>rfl
 | y::xs,u::us,.cons r t,f=>by
  rw[vJ,eO]at f
  rw[sY,sY,Ff r f.1,oN t f.2]
theorem mj{A:Around}{s:Shared}{x:V}{v:Value}(rx:RelV x v)(fx:iJ x=true):∀{xs:List V} {us:List Value},Vals xs us->xs.all iJ=true->∀u∈us,SeqAt.EqAt A s u v (yA x u)
 | _,_,.nil,_=>λu hu=>by cases hu
 | y::xs,u::us,.cons r t,f=>λu' hu=>by
  rw[vJ,eO]at f
  rcases ft.mp hu with rfl | hu
  ·rw[Ff r f.1];exact Fg r rx f.1 fx
  ·exact mj rx fx t f.2 u' hu
def Jj(x:V)(xs:List V):Bool:=xs.any λy=>BV y x
def rIn(K:PySem.W.Frag)(neg:Bool):R2:=λx y H Q=>∃p xs,y=.ref p/\(og K H p xs\/sQ K H p xs)/\iJ x=true/\xs.all iJ=true/\Q (.bl (if neg then !Jj x xs else Jj x xs)) H
theorem tT:kc X (compareOp .In) (rIn X.K false):=by
 intro pins s σ H x y v u Q I rx ry h
 obtain⟨p,xs,rfl,hq,fx,fs,q⟩:=h
 cases ry
 rcases hq with hq | hq
 ·obtain⟨its,r,pl,hz⟩:=I.list hq
  refine SeqAt.in_listAt (yA x) pl.isList (λw hw=>mj rx fx r fs w (by simpa using hw)) ⟨.bl _,H,I,rfl,?_⟩
  rw[show its.toArray.any (yA x)=its.any (yA x) by simp,oN r fs]
  exact q
 ·obtain⟨its,r,pl,hz⟩:=I.tuple hq
  refine SeqAt.in_tupleAt (yA x) pl (λw hw=>mj rx fx r fs w (by simpa using hw)) ⟨.bl _,H,I,rfl,?_⟩
  rw[show its.toArray.any (yA x)=its.any (yA x) by simp,oN r fs]
  exact q
theorem oB:kc X (compareOp .NotIn) (rIn X.K true):=by
 intro pins s σ H x y v u Q I rx ry h
 obtain⟨p,xs,rfl,hq,fx,fs,q⟩:=h
 cases ry
 rcases hq with hq | hq
 ·obtain⟨its,r,pl,hz⟩:=I.list hq
  refine SeqAt.notIn_listAt (yA x) pl.isList (λw hw=>mj rx fx r fs w (by simpa using hw)) ⟨.bl _,H,I,rfl,?_⟩
  rw[show its.toArray.any (yA x)=its.any (yA x) by simp,oN r fs]
  exact q
 ·obtain⟨its,r,pl,hz⟩:=I.tuple hq
  refine SeqAt.notIn_tupleAt (yA x) pl (λw hw=>mj rx fx r fs w (by simpa using hw)) ⟨.bl _,H,I,rfl,?_⟩
  rw[show its.toArray.any (yA x)=its.any (yA x) by simp,oN r fs]
  exact q
theorem oJ:eQ X (.builtin "len") (λxs H Q=>∃p ys,xs=[.ref p]/\(og X.K H p ys\/sQ X.K H p ys)/\Q (.int ys.length) H):=by
 intro pins s σ H xs us Q I r h
 obtain⟨p,ys,rfl,hq,q⟩:=h
 obtain⟨u,rfl,rx⟩:=vals1 r
 cases rx
 have hn:=rL
 rcases hq with hq | hq
 ·obtain⟨its,r',pl,hz⟩:=I.list hq
  have hlen:=r'.length
  exact Calls.call_len_list pl.isList (by simp only[cT] <;> lia) ⟨.int ys.length,H,I.tok _,⟨s.toks+1,by rw[cT,hlen]⟩,q⟩
 ·obtain⟨its,r',pl,hz⟩:=I.tuple hq
  have hlen:=r'.length
  exact len_tuple pl (by simp only[cT] <;> lia) ⟨.int ys.length,H,I.tok _,⟨s.toks+1,by rw[cT,hlen]⟩,q⟩
theorem oI:eQ X (.type "list") (λxs H Q=>∃p ys,xs=[.ref p]/\(og X.K H p ys\/sQ X.K H p ys)/\∀l,H l=none->Q (.ref l) (upd H l (.lst ys))):=by
 intro pins s σ H xs us Q I r h
 obtain⟨p,ys,rfl,hq,q⟩:=h
 obtain⟨u,rfl,rx⟩:=vals1 r
 cases rx
 have fin:∀(its:List Value),Vals ys its->ys.length<=sizeLine->∀(h':Heap) (c':Nat),(∀b o',s.heap.get? b=some o'->h'.get? b=some o')->
   h'.get? s.heap.objs.size=some { cls:=.type "list",dict:=none,data:=.seq its.toArray c',slots:=#[] }->EP X pins σ Q (.ref s.heap.objs.size) { s with heap:=h' }:=λits r' hz h' c' kp e=>
  ⟨.ref s.heap.objs.size,_,I.laid (t':=s.toks) kp (cu _) (show fe X.prog X.w _ h' _ (.lst ys) from ⟨hz,its,c',r',e⟩),rfl,q _ (I.dN.fresh (cu _))⟩
 rcases hq with hq | hq
 ·obtain⟨its,r',pl,hz⟩:=I.list hq
  have hlen:=r'.length
  obtain⟨o,ho,hc,n,hd⟩:=pl.isList
  exact call_list_seq p (.inl rfl) ho hc hd (λh' c' kp e=>fin its r' hz h' c' kp e) (by simp only[cT] <;> lia)
 ·obtain⟨its,r',pl,hz⟩:=I.tuple hq
  have hlen:=r'.length
  obtain⟨o,ho,hc,n,hd⟩:=pl
  exact call_list_seq p (.inr rfl) ho hc hd (λh' c' kp e=>fin its r' hz h' c' kp e) (by simp only[cT] <;> lia)
theorem sO:eQ X (.type "tuple") (λxs H Q=>∃p ys,xs=[.ref p]/\((og X.K H p ys/\∀l,H l=none->Q (.ref l) (upd H l (.tup ys)))\/(sQ X.K H p ys/\Q (.ref p) H))):=by
 intro pins s σ H xs us Q I r h
 obtain⟨p,ys,rfl,h⟩:=h
 obtain⟨u,rfl,rx⟩:=vals1 r
 cases rx
 rcases h with ⟨hq,q⟩ | ⟨hq,q⟩
 ·obtain⟨its,r',pl,hz⟩:=I.list hq
  have hlen:=r'.length
  refine call_tuple_list pl.isList (λh' kp=>?_) (by simp only[cT] <;> lia)
  have I1:Inv X pins σ H { s with heap:=h' }:=I.kept (t':=s.toks) kp
  have I2:Inv X pins σ (upd H h'.objs.size (.tup ys)) { s with heap:=h'.push { cls:=.type "tuple",data:=.seq its.toArray } }:=
   I1.laid (t':=s.toks) (λb o e=>gI _ e) (cu _) (show fe X.prog X.w _ _ _ (.tup ys) from ⟨hz,its,r',IsTup.new _ _⟩)
  exact⟨.ref h'.objs.size,_,I2,rfl,q _ (I1.dN.fresh (cu _))⟩
 ·obtain⟨its,r',pl,hz⟩:=I.tuple hq
  exact call_tuple_same pl ⟨.ref p,H,I,rfl,q⟩
def QW(K:PySem.W.Frag)(T:String)(x:V)(H:Hp):Prop:=match x with
 | .str _=>T = "str"
 | .int _=>T = "int"
 | .ref p=>(T = "list"/\∃xs,og K H p xs)\/(T = "tuple"/\∃o,K.lookup p=some o/\o.cls=.type "tuple"/\o.dict=none)\/
   (T = "dict"/\((∃hV,H p=some (.dK hV))\/∃hV,H p=some (.dT hV)))\/(T = "set"/\∃S n,H p=some (.set S n))
 | _=>False
theorem JN{pins:List (Addr×Obj)}{σ:St}{H:Hp}{s:Shared}{T:String}{x:V}{v:Value}(I:Inv X pins σ H s)(r:RelV x v)(ty:QW X.K T x H) :
  s.TypeIs v T/\∀a,v=.ref a->∃ob,s.heap.get? a=some ob/\ob.dict=none:=by
 cases x with
 | str z=>
  obtain⟨t,rfl⟩:=r
  cases (show T = "str" from ty)
  exact⟨typeIs_str s z t,λ_ e=>nomatch e⟩
 | int i=>
  obtain⟨t,rfl⟩:=r
  cases (show T = "int" from ty)
  exact⟨typeIs_int s i t,λ_ e=>nomatch e⟩
 | ref p=>
  cases r
  rcases ty with ⟨rfl,xs,hq⟩ | ⟨rfl,o,hk,hc,hd⟩ | ⟨rfl,hk⟩ | ⟨rfl,S,n,hk⟩
  ·obtain⟨its,_,pl,_⟩:=I.list hq
   refine⟨pl.isList.typeIs,λa e=>?_⟩
   cases e
   obtain⟨o,n,e,c,hd,_⟩:=pl
   exact⟨o,e,hd⟩
  ·refine⟨⟨o,I.qE p o hk,hc⟩,λa e=>?_⟩
   cases e
   exact⟨o,I.qE _ o hk,hd⟩
  ·have z:∃o,s.heap.get? p=some o/\o.ExactDict:=by
    rcases hk with ⟨hV,hk⟩ | ⟨hV,hk⟩
    ·obtain⟨_,_,_,_,o,_,_,e,ex,_⟩:=I.dN p _ hk
     exact⟨o,e,ex⟩
    ·obtain⟨_,_,_,_,o,_,_,e,ex,_⟩:=I.dN p _ hk
     exact⟨o,e,ex⟩
   obtain⟨o,e,ex⟩:=z
   refine⟨⟨o,e,ex.1⟩,λa e2=>?_⟩
   cases e2
   exact⟨o,e,ex.2.1⟩
  ·obtain⟨o,_,_,_,e,ex,_⟩:=I.dN p _ hk
   refine⟨⟨o,e,ex.1⟩,λa e2=>?_⟩
   cases e2
   exact⟨o,e,ex.2.1⟩
 | _=>exact False.elim ty
def JV(K:PySem.W.Frag)(T:String)(r:V->List V->Hp->VK->Prop)(to:TE):TE:=λσ H Q=>to σ H λx H1=>QW K T x H1/\r x [] H1 Q
def Nu(K:PySem.W.Frag)(T:String)(r:V->List V->Hp->VK->Prop)(to:TE)(t:TA):TE:=λσ H Q=>to σ H λx H1=>QW K T x H1/\t σ H1 λxs H2=>r x xs H2 Q
variable {o e:Expr}{es:List Expr}{to:TE}{t:TA}{name:Str}{apos pD:Pos}{T id:String}{r:V->List V->Hp->VK->Prop}
theorem tQ(pa:PlainAttrs T)(slot:Slot T name id)(hty:typeOf (.builtin id)=pure (.type "method_descriptor"))(hm:MtR X id r)(ho:PE X o to)(ha:PA X (e::es) t)
  (Pn:attributeBase o name X.env (eval o X.env)=eval o X.env:=by rfl)
  (Wm:((backTo pD (starEach (e::es) X.env)).all (λx=>!x.1)&&(backToKw pD (keywordEach [] X.env)).all (λx=>x.1.isSome)
   && decide ((e::es).length+([]:List Keyword).length+(if ([]:List Keyword).isEmpty then 0 else 1)<30))=true:=by rfl)
  (hline:(apos.endLine==pD.line)=true:=by rfl) (hs:starEach (e::es) X.env=(false,eval e X.env)::starEach es X.env:=by rfl) (Lj:(backTo pD (starEach es X.env)).any (·.1)=false:=by rfl) :
  PE X (.Call (.Attribute o name apos) (e::es) [] pD) (Nu X.K T r to t):=by
 intro pins s σ H Q I h
 refine wpAny_Call_method_late Pn Wm hline rfl (cV (ho pins s σ H _ I h) λv s1 ⟨x,H1,I1,r1,ty,q1⟩=>?_)
 obtain⟨h1,h2⟩:=JN I1 r1 ty
 refine⟨T,id,pa,slot,hty,h1,h2,?_⟩
 have hA:=ha pD pins s1 σ H1 _ I1 q1
 rw[hs]at hA ⊢
 refine Calls.callWith_builtin (by show(false||(backTo pD (starEach es X.env)).any (·.1))=false;rw[Lj] <;> rfl) (Calls.evalArgs_plain ?_)
 exact cV hA λus s2 ⟨vs,H2,I2,r2,q2⟩=>hm pins s2 σ H2 x vs v us Q I2 r1 r2 q2
end
end L2
namespace L2
open PySem PySem.Spec PyProof.Rows
def MtM(X:Cx)(id:String)(r:V->List V->Hp->VK->Prop):Prop:=
 ∀(pins:List (Addr×Obj)) (s:Shared) (σ:St) (H:Hp) (x:V) (xs:List V) (v:Value) (us:List Value) (Q:VK),Inv X pins σ H s->RelV x v->Vals xs us->r x xs H Q->
  wpAny (model X.prog X.w) X.A (call (.builtin id) (v::us)) (EP X pins σ Q) X.xe s
theorem Vals.one:∀{x:V} {us:List Value},Vals [x] us->∃u,us=[u]/\RelV x u
 | _,_,.cons r .nil=>⟨_,rfl,r⟩
theorem Vals.two:∀{x y:V} {us:List Value},Vals [x,y] us->∃u v,us=[u,v]/\RelV x u/\RelV y v
 | _,_,_,.cons r (.cons q .nil)=>⟨_,_,rfl,r,q⟩
theorem Vals.eraseIdx:∀{xs:List V} {us:List Value} (i:Nat),Vals xs us->Vals (xs.eraseIdx i) (us.eraseIdx i)
 | _,_,_,.nil=>.nil
 | _,_,0,.cons _ t=>t
 | _,_,i+1,.cons r t=>.cons r (Vals.eraseIdx i t)
theorem tX{α:Type}:∀(l:List α) (i:Nat),(l.eraseIdx i).length<=l.length
 | [],_=>cu _
 | _::_,0=>sW _
 | _::r,i+1=>Nat.succ_le_succ (tX r i)
section
variable {X:Cx}{pins:List (Addr×Obj)}{σ:St}{H:Hp}{s:Shared}{l b:Addr}{xs ys zs:List V}
theorem Inv.Oq{its its':List Value}{n:Nat}{f:Array Value->Array Value}{t':Nat}(I:Inv X pins σ H s)(hH:H l=some (.lst xs))
  (e:s.heap.get? l=some { cls:=.type "list",data:=.seq its.toArray n }) (hf:f its.toArray=its'.toArray) (hv:Vals ys its') (hz:ys.length<=sizeLine) :
  Inv X pins σ (upd H l (.lst ys)) { s with heap:=s.heap.update l (Obj.mapSeq f),toks:=t' }:=by
 have q:=PySem.IsL.update e f
 rw[hf]at q
 refine I.write (x:=l) (e:=l) (by rw[hH];exact trivial) (.inl rfl) (λb' u hb hu=>(Heap.get?_update_other s.heap (Obj.mapSeq f) (lj hb)).trans hu) ⟨_,q⟩ ?_
 exact⟨hz,its',_,hv,q⟩
theorem Inv.U0{its:List Value}{t':Nat}(I:Inv X pins σ H s)(hv:Vals ys its)(hz:ys.length<=sizeLine) :
  Inv X pins σ (upd H s.heap.objs.size (.lst ys)) { s with heap:=s.heap.push { cls:=.type "list",data:=.seq its.toArray },toks:=t' }:=
 I.laid (λ_ _ q=>gI _ q) (cu _) ⟨hz,its,0,hv,iZ _ rfl⟩
theorem Inv.fresh(I:Inv X pins σ H s):H s.heap.objs.size=none:=I.dN.fresh (cu _)
theorem Inv.Hz(I:Inv X pins σ H s)(hH:H l=some (.lst xs)):xs.length<=sizeLine/\∃(its:List Value) (n:Nat),Vals xs its/\xs.length=its.length/\s.heap.get? l=some { cls:=.type "list",data:=.seq its.toArray n }:=by
 obtain⟨z,its,n,r,e⟩:=I.dN l _ hH
 exact⟨z,its,n,r,r.length,e⟩
end
section
variable {X:Cx}
def qB:V->List V->Hp->VK->Prop:=λx vs H Q=>∃l xs y,x=.ref l/\vs=[y]/\H l=some (.lst xs)/\xs.length<sizeLine/\Q .non (upd H l (.lst (xs++[y])))
theorem cY:MtM X "list.append" qB:=by
 intro pins s σ H x vs v us Q I rx rv h
 obtain⟨l,xs,y,rfl,rfl,hH,hz,q⟩:=h
 cases rx
 obtain⟨u,rfl,ru⟩:=rv.one
 obtain⟨z,its,n,r,hl,e⟩:=I.Hz hH
 refine call_meets F.slot_list_append ⟨_,e,rfl⟩ F.entry_list_append (F.args_list_append_2 _ _) (PySem.list_append l its.toArray n u (by rw[cT];lia)) ⟨e,?_⟩
 refine⟨.non,_,I.Oq (its':=its++[u]) hH e (by simp) (r.append (.cons ru .nil)) ?_,rfl,q⟩
 rw[dR,vO]
 lia
def uM:V->List V->Hp->VK->Prop:=λx vs H Q=>∃l b xs zs,x=.ref l/\vs=[.ref b]/\H l=some (.lst xs)/\H b=some (.lst zs)/\xs.length+zs.length<=sizeLine/\Q .non (upd H l (.lst (xs++zs)))
def nR:V->List V->Hp->VK->Prop:=λx vs H Q=>∃l xs i k y,x=.ref l/\vs=[.int i]/\H l=some (.lst xs)/\-(2 ^ 63)<=i/\i<2 ^ 63/\seqIndex? i xs.length=some k/\xs[k]?=some y/\Q y (upd H l (.lst (xs.eraseIdx k)))
theorem Ef:MtM X "list.pop" nR:=by
 intro pins s σ H x vs v us Q I rx rv h
 obtain⟨l,xs,i,k,y,rfl,rfl,hH,h1,h2,hk,hy,q⟩:=h
 cases rx
 obtain⟨u,rfl,ru⟩:=rv.one
 obtain⟨t,rfl⟩:=ru
 obtain⟨z,its,n,r,hl,e⟩:=I.Hz hH
 obtain⟨w,hw,Kd⟩:=r.get hy
 refine call_meets F.slot_list_pop ⟨_,e,rfl⟩ F.entry_list_pop (F.args_list_pop_2 _ _)
  (MeetsSeq.list_pop_at l its.toArray n i t k w (fitsIndex_both h1 h2) (by rw[cT,<-hl];exact hk) (by rw[<-Array.getElem?_toList];exact hw) (by rw[cT];lia)) ⟨e,?_⟩
 refine⟨y,_,I.Oq (its':=its.eraseIdx k) hH e ?_ (r.eraseIdx k) ?_,Kd,q⟩
 ·show its.toArray.eraseIdxIfInBounds k=(its.eraseIdx k).toArray
  rw[List.eraseIdxIfInBounds_toArray]
 ·have:=tX xs k
  lia
def rA:V->List V->Hp->VK->Prop:=λx vs H Q=>∃l xs,x=.ref l/\vs=[]/\H l=some (.lst xs)/\Q .non (upd H l (.lst xs.reverse))
def xV:V->List V->Hp->VK->Prop:=λx vs H Q=>∃l xs,x=.ref l/\vs=[]/\H l=some (.lst xs)/\Q .non (upd H l (.lst []))
def GL:R2:=λx y H Q=>∃l b xs zs,x=.ref l/\y=.ref b/\H l=some (.lst xs)/\H b=some (.lst zs)/\xs.length+zs.length<=sizeLine/\∀p,H p=none->Q (.ref p) (upd H p (.lst (xs++zs)))
theorem eU:kc X (binaryOp .Add) GL:=by
 intro pins s σ H x y v u Q I rx ry h
 obtain⟨l,b,xs,zs,rfl,rfl,hH,hB,hz,q⟩:=h
 cases rx
 cases ry
 obtain⟨z,its,n,r,hl,e⟩:=I.Hz hH
 obtain⟨z2,HF,n2,r2,Jo,e2⟩:=I.Hz hB
 refine PySem.P.add_list e e2 ?_ (by rw[cT,cT];lia)
 have ea:its.toArray++HF.toArray=(its++HF).toArray:=by simp
 rw[ea]
 exact⟨.ref _,_,I.U0 (t':=s.toks) (r.append r2) (by rw[dR];lia),rfl,q _ I.fresh⟩
end
section
variable {prog:Program}{w:World}{A:Around}{E:Value->Shared->Prop}{s:Shared}
end
end L2
namespace L2
open PySem PySem.Spec PyProof.Rows
section
variable {κ:Type} [DecidableEq κ]
def putK(hV:List (κ×V))(k:κ)(v:V):List (κ×V):=
 if (hV.any λkv=>decide (kv.1=k))=true then hV.map (λkv=>if kv.1=k then (kv.1,v) else kv) else hV++[(k,v)]
end
section
variable {X:Cx}{pins:List (Addr×Obj)}{σ:St}{H:Hp}{s:Shared}{a:Addr}{y v:V}{u r:Value}{o:Option V}{A:Around}{E:Value->Shared->Prop}
theorem Inv.big(I:Inv X pins σ H s):sysModules<s.heap.objs.size:=by
 have h:mainGlobals<s.heap.objs.size:=(I.mod.glob.keeps I.bk).lt
 exact Nat.lt_trans (by decide) h
end
theorem Fh{P:Program}{w:World}{H:Hp}(h:Heap)(hb:sysModules<h.objs.size):fe P w H (h.push { cls:=.type "dict",data:=.dict #[] }) h.objs.size (.dK []):=
 ⟨lq _,tD.mpr (lj (cZ hb)),[],.nil,Heap.DictOf.new h⟩
def qV:TE:=λ_ H Q=>∀p,H p=none->Q (.ref p) (upd H p (.dK []))
def xP:TE:=λ_ H Q=>∀p,H p=none->Q (.ref p) (upd H p (.dT []))
section
variable {X:Cx}{pos:Pos}
theorem DR:PE X (.Dict [] [] pos) qV:=λpins s σ H Q I h=>
 wpAny_Dict_empty ⟨.ref s.heap.objs.size,_,I.laid (a:=s.heap.objs.size) (o:=.dK []) (t':=s.toks) (λ_ _ q=>gI _ q) (cu _) (Fh s.heap I.big),rfl,h _ (I.dN.fresh (cu _))⟩
end
def K9(hV more:List (Key×V)):List (Key×V):=more.foldl (λacc kv=>putK acc kv.1 kv.2) hV
end L2
namespace Att
open PySem PySem.W PySem.Calls PyProof.Rows
theorem qo{P:Params}{h:Heap}:∀(ns:List Int) (vs:List Value),WellAll P h vs (ns.map WData.int)->IntsAre vs ns:=by
 intro ns
 induction ns with
 | nil=>
  intro vs w
  rw[List.map_nil]at w
  cases w
  exact .nil
 | cons n ns ih=>
  intro vs w
  rw[jL]at w
  cases w with
  | cons a b=>
   cases a
   exact .cons _ _ (ih _ b)
theorem Al{l:OpenLaw}{n:Nat}(hn:l.most=some n){P:Params}{h:Heap}{args:List WData}{vals:List Value}
  (HQ:l.row.toRowW.claim.pre args=true) (V0:WellAll P h vals args) :
  ∃a vs ns,vals=[Value.ref a]/\args=[WData.list (ns.map WData.int)]/\h.get? a=some { cls:=.type "list",data:=.seq vs.toArray }/\IntsAre vs ns/\ns.length<=n:=by
 have hsh:WShape.hasAll [] args [.list .int]=true:=(pre_splitW HQ).1
 have hc:l.pre.holds [] { args:=args }=true:=(pre_splitW HQ).2
 obtain⟨d,r,rfl,h1,h2⟩:=hasAllW_cons hsh
 obtain rfl:=hasAllW_nil h2
 obtain⟨xs,rfl,h3⟩:=hasW_list h1
 obtain⟨ns,rfl⟩:=items_int h3
 have hlen:ns.length<=n:=by
  unfold OpenLaw.pre at hc
  have h4:(WTm.not (.lt (.lit (.int (n:Int))) (.len (.arg 0)))).holds [] { args:=[.list (ns.map .int)] }=true:=by
   have h4:=(holds_andW hc).1
   rw[hn]at h4
   exact h4
  have h5:=condW_of h4 (w_not (w_lt w_lit (w_len_list (w_arg rfl))))
  rw[aP]at h5
  refine xm λq=>?_
  have q':(n:Int)<((ns.length:Nat):Int):=by lia
  first
   | (rw[decide_eq_true q']at h5;exact absurd h5 (by decide))
   | (simp at h5;lia)
 cases V0 with
 | cons w1 w2=>
  cases w2
  cases w1 with
  | list ho nZ=>exact⟨_,_,ns,rfl,rfl,ho,qo ns _ nZ,hlen⟩
theorem Ap(l:OpenLaw)(args:List WData):l.row.toRowW.claim.post args (.bool true) args=true:=
 postW_of (r:=l.row.toRowW) (X:=(true==true))
  (show WShape.has [] (.bool true) .bool=true by first | rfl | decide | simp[WShape.has,WShape.arms,WShape.armsAll])
  (show(WTm.eq .res (.lit (.bool true))).value [] { args:=args,res:=some (.bool true),after:=args }=some (.bool (true==true)) from w_eq_bool (w_res rfl) w_lit) rfl
theorem wZ{l:OpenLaw}{n:Nat}{q:Program}{loose:List Str}{XP:(Str->Option Value)->Heap->Prop}{YP:World->Heap->Prop}{d:DefRec}
  (hn:l.most=some n) (Pa:d.params.defaults=[])
  (call:∀(w:World) (s₀ s₁:Shared) (mg mb:Str->Option Value) (fa:Addr) (o:Obj) (pm cd doc:Value) (a:Addr) (vs:List Value) (ns:List Int),
   Ground q loose [] XP w s₀ mg mb s₁.heap->YP w s₁.heap->
   s₁.heap.get? fa=some o->o.data=.func (docDef d.name d.params d.body d.scope pm cd doc)->s₁.heap.CodeRec cd d.name->mg d.name=some (.ref fa)->
   s₁.heap.get? a=some { cls:=.type "list",data:=.seq vs.toArray }->IntsAre vs ns->ns.length<=n->s₁.gens = #[]->
   codeAny (model l.prog w) callerA (.call (.ref fa) ⟨[.ref a],[]⟩) (λr s'=>r=.ok (.ret (.bool true))/\OldK s₁.heap s'.heap/\s'.os=s₁.os/\AllBare s'.gens) s₁) :
  WalkO q loose XP YP l.row.toRowW d [] (λf vs=>PySem.call f vs):=by
 intro w s₀ s₁ mg mb G Y fa o pm cd doc dV kV ho hd Eu hD O5 hg args vals as HQ hlay hrd V0 hlo
 obtain rfl:dV=.none:=Dflts.none hD Pa
 obtain rfl:kV=.none:=Dflts.noKw hD
 obtain⟨a,vs,ns,rfl,rfl,Lp,hints,hlen⟩:=Al hn HQ V0
 refine enter_call (codeAny_mono (call w s₀ s₁ mg mb fa o pm cd doc a vs ns G Y ho (fd_plain hd) Eu O5 Lp hints hlen hg) λr s' hq=>?_)
 obtain⟨rfl,h2,h3,h4⟩:=hq
 exact⟨.inl ⟨.bool true,.bool true,[],rfl,λ_=>rfl,.bool true,Ap l _,λ_=>⟨List.Pairwise.nil,λ_ hm=>(nomatch hm)⟩⟩,h2,h3,h4⟩
end Att
namespace L2
open PySem PySem.Spec PyProof.Rows
theorem oV:∀{vs:List Value} {ns:List Int},IntsAre vs ns->Vals (ns.map V.int) vs
 | _,_,.nil=>.nil
 | _,_,.cons n t h=>.cons ⟨t,rfl⟩ (oV h)
def Only(H:Hp):Prop:=∀b,H b=none\/∃o xs,H b=some (.zR o (.lst xs))
theorem Ei{P:Program}{w:World}{K:PySem.W.Frag}{mg mb:Str->Option Value}{CX:Ca}{k:Nat}{fa a:Addr}{fd:FuncData}{x:Str}{sp:Sp}{s₁:Shared}{vs:List Value}{ns:List Int}
  (KX:K.In s₁.heap) (hns:s₁.heap.Ns mainGlobals mg) (hb:s₁.heap.Ns builtinsNs mb) (hbb:∀x:Str,x≠"__name__"->mb x=bootBuiltins x) (Wg:s₁.heap.NoLimit) (hg:s₁.gens = #[])
  (ha:s₁.heap.get? a=some { cls:=.type "list",data:=.seq vs.toArray }) (hi:IntsAre vs ns) (hl:ns.length<=sizeLine) (hr:fo k callerA)
  (F:∀base:Heap,K.In base->base.Ns mainGlobals mg->cE P w K mg base CX k fa fd [x] sp) (Pm:∀(s:Shared) (u:Value),BindsTo s fd ⟨[u],[]⟩ [(x,u)])
  (Jl:∀H:Hp,Only H->og K H a (ns.map V.int)->sp [.ref a] H (λv _=>v=.bl true) λ_ _ _=>False)
  (W8:∀H e s',CX [] H s₁ (λ_ _ _=>False) e s'->False) :
  codeAny (model P w) callerA (.call (.ref fa) ⟨[.ref a],[]⟩) (λr s'=>r=.ok (.ret (.bool true))/\OldK s₁.heap s'.heap/\s'.os=s₁.os/\AllBare s'.gens) s₁:=by
 have rv:=oV hi
 have U1:=hi.length
 have core:∀H:Hp,Only H->og K H a (ns.map V.int)->pL P w H s₁.heap->(∀b,H b≠none->b=a)->(H a≠none->K.lookup a=none)->
   codeAny (model P w) callerA (.call (.ref fa) ⟨[.ref a],[]⟩) (λr s'=>r=.ok (.ret (.bool true))/\OldK s₁.heap s'.heap/\s'.os=s₁.os/\AllBare s'.gens) s₁:=by
  intro H hO hS dN hA hK
  have z3:∀{b:Addr} {o:Obj},s₁.heap.get? b=some o->H b=none->(vn s₁.heap H).get? b=some o:=λe n=>Er e n
  have Ol:∀{b:Addr} {o:Obj} {es:Array DictEntry} {ep:Nat},s₁.heap.get? b=some o->o.data=.dict es ep->H b=none:=λ{b o es ep} e d=>by
   cases q:H b with
   | none=>rfl
   | some u=>
    have e':b=a:=hA b (by rw[q];simp)
    subst e'
    rw[ha]at e;cases e
    have d':Data.seq vs.toArray _=Data.dict es ep:=d
    cases d'
  have Rg:∀{b:Addr} {m:Str->Option Value},s₁.heap.Ns b m->(vn s₁.heap H).Ns b m:=λ{b m} ⟨o,es,ep,e,d,r⟩=>⟨o,es,ep,z3 e (Ol e d),d,r⟩
  have hKb:K.In (vn s₁.heap H):=λb o e=>z3 (KX b o e) (by
   cases q:H b with
   | none=>rfl
   | some u=>
    have e':b=a:=hA b (by rw[q];simp)
    subst e'
    rw[hK (by rw[q];simp)]at e;cases e)
  have hM:Mod K mg (vn s₁.heap H):=⟨hKb,Rg hns,⟨mb,Rg hb,hbb⟩,let ⟨mc,h1,h2⟩:=Wg;⟨mc,Rg h1,h2⟩⟩
  have e0:yU P w K mg (vn s₁.heap H) callerA [] s₁ H:=⟨rfl,hM,λb o e=>Hw e,uq (Bf _ _),trivial,λb hb=>absurd (show b∈([]:List Addr) from hb) (by simp),dN,.of_eq hg⟩
  refine codeAny_mono ((F _ hKb (Rg hns)).run callerA [] s₁ H ⟨[.ref a],[]⟩ [.ref a] [.ref a] _ _ hr e0 (Pm s₁ (.ref a)) (.cons rfl .nil) (Jl H hO hS)) λr s' h=>?_
  cases r with
  | error e=>exact(W8 H e s' h).elim
  | ok fl=>
   cases fl with
   | next=>exact False.elim h
   | brk=>exact False.elim h
   | cont=>exact False.elim h
   | ret u=>
    obtain⟨v,H',os,bare,un,Wc,r',q⟩:=h
    have q':v=.bl true:=q
    subst q'
    obtain rfl:u=Value.bool true:=r'
    refine⟨rfl,OldK.of_keep λb o e=>?_,os,bare⟩
    cases q:H b with
    | none=>exact un.keep b o e q (by intro z;exact absurd (show b∈([]:List Addr) from z) (by simp)) (by simp)
    | some u=>
     rcases hO b with z | ⟨ob,xs,z⟩
     ·rw[q]at z;cases z
     ·have z2:=un.frzs b ob _ z
      obtain⟨e1,_⟩:=dN b _ z
      obtain⟨e2,_⟩:=Wc b _ z2
      rw[e]at e1;cases e1
      exact e2
 cases hk:K.lookup a with
 | some o=>
  have e:=KX a o hk
  rw[ha]at e
  cases e
  refine core (λ_=>none) (λ_=>.inl rfl) (.inr ⟨_,vs.toArray,_,hk,rfl,rfl,rfl,by rw[cT,U1];exact hl,by simpa using rv⟩) (λb u z=>by have z':(none:Option HO)=some u:=z;cases z') (λb z=>absurd rfl z) λz=>absurd rfl z
 | none=>
  refine core (λb=>if b=a then some (.zR { cls:=.type "list",data:=.seq vs.toArray } (.lst (ns.map V.int))) else none) (λb=>?_) (.inl (.inr ⟨{ cls:=.type "list",data:=.seq vs.toArray },aR rfl⟩)) (λb u z=>?_) (λb z=>?_) λ_=>hk
  ·by_cases hb:b=a
   ·exact .inr ⟨_,_,aR hb⟩
   ·exact .inl (aO hb)
  ·by_cases hb:b=a
   ·have z':=(aR hb).symm.trans z
    cases z'
    subst hb
    exact⟨ha,by rw[aP];exact hl,vs,_,rv,ha⟩
   ·have z':=(aO hb).symm.trans z
    cases z'
  ·by_cases hb:b=a
   ·exact hb
   ·exact absurd (aO hb) z
end L2
namespace L2
open PySem PySem.Spec PyProof.Rows
theorem Gq{l:PySem.W.OpenLaw}{n k:Nat}{q:Program}{loose:List Str}{XP:(Str->Option Value)->Heap->Prop}{YP:World->Heap->Prop}{d:DefRec}{K:Params->PySem.W.Frag}{CX:World->Ca}{sp:World->Sp}{x:Str}
  (hn:l.most=some n) (Rm:n<=sizeLine) (Pa:d.params.defaults=[]) (hr:fo k callerA)
  (hY:∀(w:World) (h:Heap),YP w h->(K w.params).In h)
  (F:∀(w:World) (mg:Str->Option Value) (fa:Addr) (h:Heap),(K w.params).In h->h.Ns mainGlobals mg->mg d.name=some (.ref fa)->
   ∃fd:FuncData,(∀(s:Shared) (u:Value),BindsTo s fd ⟨[u],[]⟩ [(x,u)])/\
    ∀base:Heap,(K w.params).In base->base.Ns mainGlobals mg->cE l.prog w (K w.params) mg base (CX w) k fa fd [x] (sp w))
  (Jl:∀(w:World) (H:Hp) (a:Addr) (ns:List Int),ns.length<=n->Only H->og (K w.params) H a (ns.map V.int)->sp w [.ref a] H (λv _=>v=.bl true) λ_ _ _=>False)
  (W8:∀(w:World) (H:Hp) (s:Shared) (e:Value) (s':Shared),CX w [] H s (λ_ _ _=>False) e s'->False) :
  PySem.W.WalkO q loose XP YP l.row.toRowW d [] (λf vs=>PySem.call f vs):=by
 refine Att.wZ hn Pa λw s₀ s₁ mg mb fa o pm cd doc a vs ns G Y ho hd Eu O5 Lp hints hlen hg=>?_
 have KX:=hY w _ Y
 obtain⟨fd,hb,hF⟩:=F w mg fa _ KX G.T.g O5
 exact Ei KX G.T.g G.T.b G.T.builtins G.T.nolimit hg Lp hints (cq hlen Rm) hr hF hb (λH hO hS=>Jl w H a ns hlen hO hS) λH e s'=>W8 w H s₁ e s'
end L2
namespace L2
open PySem PySem.Spec PyProof.Rows
abbrev jJ:Ca:=λ_ _ _ _ _ _=>False
abbrev E0:XK:=λ_ _ _=>False
theorem aI{X:Cx}:Passes jJ X E0:=λ_ _ _ _ _ _ _ h=>h.elim
structure lM(K:PySem.W.Frag)(x qual:Str)(st:Stmt)(f:Addr)(fd:FuncData):Prop where
 ex:∃(oc:Value) (od:Option Addr) (kV doc pm:Value) (an:Option Addr) (eF ct:Value) (Jc:Array (Option Value)),
  fd=PySem.W.fnOf x qual (bA st) (bf st) (av st) .none kV doc pm an eF ct/\K.lookup f=some ⟨oc,od,.func fd,Jc⟩/\PySem.W.codeIn K eF qual=true
 kp:PySem.W.keepIn K (.ref f)=true
section
variable {P:Program}{w:World}{K:PySem.W.Frag}{mg:Str->Option Value}{base:Heap}
theorem lM.ok{x qual:Str}{st:Stmt}{f:Addr}{fd:FuncData}{N ps:List Str}{k:Nat}{sp:Sp}(F:lM K x qual st f fd)(S:bt N ps (av st))(len:∀vs H Q E,sp vs H Q E->vs.length=ps.length)
  (rW:∀(eF:Value) (A:Around) (outer:List Env) (s:Shared) (H:Hp) (vs:List V) (Q:VK) (E:XK),fo k (A.deeper (envOfC qual (av st) s.heap.objs.size f eF))->sp vs H Q E->
   ∃t,vD (qt jJ P w K mg base N qual (av st) f eF A outer s H E).Ge (bf st) t/\t { nx:=λ_ H'=>Q .non H',rt:=Q } (start N vs) H):cE P w K mg base jJ (k+1) f fd ps sp:=by
 obtain⟨oc,od,kV,doc,pm,an,eF,ct,Jc,rfl,lk,Eu⟩:=F.ex
 refine Qa lk Eu S len λA outer s H vs Q E hr Jl=>?_
 obtain⟨t,h,q⟩:=rW eF A outer s H vs Q E hr Jl
 exact⟨t,h.Ge,q⟩
theorem lM.binds{x qual:Str}{st:Stmt}{f:Addr}{fd:FuncData}{ps:List Str}(F:lM K x qual st f fd)
  (h:∀(kV doc pm:Value) (an:Option Addr) (eF ct:Value) (us:List Value),us.length=ps.length->bindArgs (PySem.W.fnOf x qual (bA st) (bf st) (av st) .none kV doc pm an eF ct) ⟨us,[]⟩=pure (ps.zip us)):Binds K fd ps []:=by
 obtain⟨oc,od,kV,doc,pm,an,eF,ct,Jc,rfl,lk,Eu⟩:=F.ex
 exact .all (h kV doc pm an eF ct)
theorem bT{x qual:Str}{st:Stmt}{f:Addr}{oc:Value}{od an:Option Addr}{Jc:Array (Option Value)}{kV doc pm eF ct:Value}(l:K.lookup f=some ⟨oc,od,.func (PySem.W.fnOf x qual (bA st) (bf st) (av st) .none kV doc pm an eF ct),Jc⟩)
  (c:PySem.W.codeIn K eF qual=true) (k:PySem.W.keepIn K (.ref f)=true):lM K x qual st f (PySem.W.fnOf x qual (bA st) (bf st) (av st) .none kV doc pm an eF ct):=⟨⟨oc,od,kV,doc,pm,an,eF,ct,Jc,rfl,l,c⟩,k⟩
end
theorem ia{A:Around}{k:Nat}(hr:fo k A):A.units+1<cLine:=qL (Nat.add_le_add_left (by decide:1<=64) _) hr.units
theorem aS{n:Nat}(h:n<=1000):n<sizeLine:=qL h (by decide)
section
variable {X:Cx}
theorem pv(i:Nat){x:Str}{pos:Pos}(hN:X.N[i]?=some x:=by rfl)(hv:Mv X.env.scope x:=by first | exact Or.inl rfl | exact Or.inr (Or.inl rfl) | exact Or.inr (Or.inr rfl))(hd:(x==("__debug__" : Str))=false:=by decide)
  (Eu:(x==("__classdict__" : Str))=false:=by decide):PE X (.Name x pos) (uC i):=DP hN hv hd Eu
end
def bF(H H':Hp):Prop:=∀b o,H b=some o->H' b=some o
theorem bF.refl(H:Hp):bF H H:=λ_ _ h=>h
theorem bF.trans{H H1 H2:Hp}(a:bF H H1)(b:bF H1 H2):bF H H2:=λc o h=>b c o (a c o h)
theorem bF.free{H H':Hp}(e:bF H H'){l:Addr}(h:H' l=Option.none):H l=Option.none:=by
 cases q:H l with
 | none=>rfl
 | some o=>
  rw[e l o q]at h
  cases h
end L2
end
section
theorem L2.hide{p:Prop}(h:∀q:Prop,(p->q)->q):p:=h p id
end
section
namespace L2
open PySem PySem.Spec PyProof.Rows
theorem pZ{α β:Type}{f:α->β->Sem (ForInStep β)}(g:α->β->β):∀(l:List α) (b:β),(∀x∈l,∀c,f x c=pure (.yield (g x c)))->forIn l b f=pure (l.foldl (λc x=>g x c) b)
 | [],b,_=>rfl
 | x::l,b,h=>by
  rw[List.forIn_cons,h x nC,pure_bind]
  exact pZ g l (g x b) λy hy=>h y (iF _ hy)
def cC(env:Env)(names:List (Str×NameKind))(cs:List (Str×Addr)):List (Str×Addr):=
 names.foldl (λc y=>if y.2==NameKind.free then (y.1,(env.cells.lookup y.1).getD 0)::c else c) cs
theorem gB{scope:Scope}{env:Env}(h:∀y∈scope.names,y.2=.free->∃c,env.cells.lookup y.1=some c):closureFor scope env=pure (cC env scope.names []):=by
 simp only[closureFor]
 rw[pZ (λy c=>if y.2==NameKind.free then (y.1,(env.cells.lookup y.1).getD 0)::c else c) scope.names [] (λx hx c=>by
  obtain⟨n,kind⟩:=x
  dsimp only
  by_cases hk:kind=.free
  ·subst hk
   obtain⟨a,e⟩:=h (n,.free) hx rfl
   have e':env.cells.lookup n=some a:=e
   have:cellOf env n=pure a:=by unfold cellOf;rw[e']
   rw[this,e']
   rfl
  ·have hb:(kind==NameKind.free)=false:=by simpa using hk
   rw[hb];rfl)]
 simp only[pure_bind]
 rfl
theorem j7{env:Env}:∀(names:List (Str×NameKind)) (cs:List (Str×Addr)),(∀y∈names,y.2=.free->∃c,env.cells.lookup y.1=some c)->(∀p∈cs,env.cells.lookup p.1=some p.2)->
  ∀p∈cC env names cs,env.cells.lookup p.1=some p.2
 | [],cs,_,hc=>hc
 | y::r,cs,h,hc=>by
  unfold cC
  rw[ux]
  refine j7 r _ (λz hz=>h z (iF _ hz)) λp hp=>?_
  by_cases hk:y.2=.free
  ·have hb:(y.2==NameKind.free)=true:=by simpa using hk
   rw[aR hb]at hp
   rcases ft.mp hp with e | hp
   ·obtain⟨c,e1⟩:=h y nC hk
    rw[e];dsimp only;rw[e1];rfl
   ·exact hc p hp
  ·have hb:¬(y.2==NameKind.free)=true:=by simpa using hk
   rw[aO hb]at hp
   exact hc p hp
theorem qa{env:Env}{p:Str×Addr}:∀(names:List (Str×NameKind)) (cs:List (Str×Addr)),p∈cs->p∈cC env names cs
 | [],_,h=>h
 | y::r,cs,h=>by
  unfold cC
  rw[ux]
  refine qa r _ ?_
  split
  ·exact iF _ h
  ·exact h
theorem pE{env:Env}{x:Str}:∀(names:List (Str×NameKind)) (cs:List (Str×Addr)),(x,NameKind.free)∈names->∃c,(x,c)∈cC env names cs
 | y::r,cs,h=>by
  rcases ft.mp h with e | h
  ·subst e
   exact⟨_,by
    unfold cC;rw[ux]
    refine qa r _ ?_
    rw[aR (by rfl)]
    exact nC⟩
  ·obtain⟨c,hc⟩:=pE r (if y.2==NameKind.free then (y.1,(env.cells.lookup y.1).getD 0)::cs else cs) h
   exact⟨c,by unfold cC;rw[ux];exact hc⟩
theorem jE{f:Str->Option Addr}{x:Str}:∀{cs:List (Str×Addr)},(∀p∈cs,f p.1=some p.2)->(∃c,(x,c)∈cs)->cs.lookup x=f x
 | [],_,⟨_,h⟩=>nomatch h
 | (n,a)::r,hc,⟨c,h⟩=>by
  rw[dS]
  by_cases e:x=n
  ·subst e
   rw[iY]
   exact(hc (x,a) nC).symm
  ·have hb:(x==n)=false:=by simpa using e
   rw[hb]
   refine jE (λp hp=>hc p (iF _ hp)) ⟨c,?_⟩
   rcases ft.mp h with q | q
   ·exact absurd (iU Prod.fst q) e
   ·exact q
theorem oz{env : Env}{y : Str} : ∀ {names : List (Str × NameKind)}, (∀ z ∈ names, z.2 ≠ .cell) →
    ((names.map λ(n, k) => if (k==NameKind.free&&env.scope.kind == .function&&env.kindOf n==some .cell) then (n, NameKind.cell) else (n, k)).lookup y=some .cell ∨
     (names.map λ(n, k) => if (k==NameKind.free&&env.scope.kind == .function&&env.kindOf n==some .cell) then (n, NameKind.cell) else (n, k)).lookup y=some .free) → names.lookup y=some .free
  | [], _, h => by rcases h with h | h <;> cases h
  | (n, k)::r, hc, h => by
    have ih := @oz env y r λz hz => hc z (iF _ hz)
    rw[jL]at h
    rw[dS]
    by_cases e : y=n
    · subst e
      rw[iY]
      by_cases hb : (k==NameKind.free&&env.scope.kind == .function&&env.kindOf y==some .cell)=true
      · have hk : k=.free := by
          rw[eO, eO]at hb
          simpa using hb.1.1
        rw[hk]
      · dsimp only at h
        rw[aO hb, dS, iY]at h
        dsimp only at h
        rcases h with h | h
        · exact absurd (dP h) (hc (y, k) nC)
        · exact h
    · have hn : (y==n)=false := by simpa using e
      rw[hn]
      dsimp only at h ⊢
      apply ih
      by_cases hb : (k==NameKind.free&&env.scope.kind == .function&&env.kindOf n==some .cell)=true
      · rw[aR hb, dS, hn]at h
        exact h
      · rw[aO hb, dS, hn]at h
        exact h
structure CB where
 C:Addr
 cl:List (Str×Addr)
 s2:Shared
 H2:Hp
 ex:List Addr
@[reducible] def lD (X:Cx) (scope:Scope) (N:List Str) (c:CB):Cx:=
 { prog:=X.prog,w:=X.w,K:=X.K,mg:=X.mg,base:=X.base,A:=X.A,N:=N,s₀:=c.s2,H₀:=c.H2,env:=compEnvC scope c.cl c.C X.env,outer:=X.stack,stack:=X.stack,ex:=c.ex,fn:=λ_=>false,calm:=X.calm,pn:=[],xe:=λ_ _=>False }
def bL(σ:St)(idx:List Nat):St:=idx.map λi=>(σ[i]?).join
def bz(N:List Str)(idx:List Nat):List Str:=idx.map λi=>N.getD i ""
def qv(X:Cx)(ifs:List Expr)(t:TT):Prop:=
 ∀(pins:List (Addr×Obj)) (s:Shared) (σ:St) (H:Hp) (Q:Bool->Hp->Prop),Inv X pins σ H s->t σ H Q->
  wpAny (model X.prog X.w) X.A (forIn ifs true λc r=>if r=true then do let ok <-isTrue c X.env (eval c X.env);pure (ForInStep.yield ok) else pure (ForInStep.yield r)) (TP X pins σ Q) X.xe s
def Cv:TT:=λ_ H Q=>Q true H
theorem DG{X:Cx}:qv X [] Cv:=λ_ _ _ H _ I h=>wpAny_tests_nil ⟨H,I,h⟩
theorem Dz{X:Cx}{e:Expr}{t:TT}(h:PT X e t):qv X [e] t:=λpins s σ H Q I q=>wpAny_tests_one (h pins s σ H Q I q)
def ox(wi:TI)(k:Nat)(idx:List Nat)(g:CB->TG)(tt:CB->TT)(te:CB->TE):TE:=λσ H Q=>wi σ H λJ H1=>∀D,H1 D=none->∃W:Nat->Nat->List V->Hp->Prop,(∃m,W 0 m [] (upd H1 D (.lst [])))/\
 ∀i m ys H',W i m ys H'->(J.stop i H'/\Q (.ref D) H')\/(J.go i H'/\∃N:List V->Hp->Prop,(∀m7 iT,N m7 iT->∃m',m'<m/\W (i+1) m' m7 iT)/\∀(c:CB) (own:St),own.length=k->∀x H2,J.y9 i H' x H2->g c x (own++bL σ idx) H2 λσ3 H3=>
  (∃dz,dz.length=k/\σ3=dz++bL σ idx)/\tt c σ3 H3 λb H4=>if b=true then te c σ3 H4 λy H5=>H5 D=some (.lst ys)/\ys.length<sizeLine/\N (ys++[y]) (upd H5 D (.lst (ys++[y]))) else N ys H4)
structure sv(X:Cx)(scope:Scope)(xs:List Str)(idx:List Nat):Prop where
 kind:scope.kind=.function
 Ed:∀y∈scope.names,y.2≠.cell
 loc:∀y∈scope.names,y.2=.local->scope.names.lookup y.1=some .local
 free:∀y∈scope.names,y.2=.free->scope.names.lookup y.1=some .free/\(X.env.kindOf y.1=some .cell\/X.env.kindOf y.1=some .free)
 ix:∀i∈idx,∃y,X.N[i]?=some y/\scope.names.lookup y=some .free
section
variable {prog:Program}{w:World}{A:Around}{R:Result->Shared->Prop}{s:Shared}
theorem gP{elt target iter:Expr}{ifs:List Expr}{scope:Scope}{pos:Pos}{it acc:Value}{env:Env}(I:Nat->Shared->Prop)
  (turn:∀n s,I n s->wpAny (model prog w) A (pyNext it) (λr s₁=>match r with
   | none=>R (.ok .next) s₁
   | some v=>wpAny (model prog w) A (letOwnedTupleGo target it v) (λ_ Z4=>wpAny (model prog w) A (assign target env v) (λ_ s₂=>
     wpAny (model prog w) A (forIn ifs true λc r=>if r=true then do let ok <-isTrue c env (eval c env);pure (ForInStep.yield ok) else pure (ForInStep.yield r)) (λok s₃=>
      if ok=true then wpAny (model prog w) A (eval elt env) (λx s₄=>
       wpAny (model prog w) A (call (.builtin "list.append") [acc,x]) (λ_ s₅=>∃m,m<n/\I m s₅) (λ_ _=>False) s₄) (λ_ _=>False) s₃
      else ∃m,m<n/\I m s₃) (λ_ _=>False) s₂) (λ_ _=>False) Z4) (λ_ _=>False) s₁) (λ_ _=>False) s)
  (n:Nat) (h:I n s) :
  codeAny (model prog w) A (.compLoop (.ListComp elt [⟨target,iter,ifs,0⟩] scope pos) 0 it acc env) R s:=by
 refine codeAny_loop rfl I (λn s hI=>?_) n h
 show wpAny _ A ((compTurn (.ListComp elt [⟨target,iter,ifs,0⟩] scope pos) 0 it acc env).onRaise (λx=>do noteFrame x env;theTreesLotGoes x)) _ _ s
 refine wpAny_noted ?_
 rw[compTurn_list]
 refine bG (wpAny_standAt (bG (gi (turn n s hI) (λr s₁ h₁=>?_) λ_ _ h'=>False.elim h')))
 cases r with
 | none=>exact cn h₁
 | some v=>
  refine bG (gi h₁ (λ_ Z4 h₁'=>?_) λ_ _ h'=>False.elim h')
  refine bG (gi h₁' (λ_ s₂ h₂=>bG (gi h₂ (λok s₃ h₃=>?_) λ_ _ h'=>False.elim h')) λ_ _ h'=>False.elim h')
  cases ok with
  | false=>exact cn ⟨rfl,h₃⟩
  | true=>
   exact bG (bG (gi h₃ (λx s₄ h₄=>bG (gi h₄ (λ_ s₅ h₅=>cn (cn ⟨rfl,h₅⟩)) λ_ _ h'=>False.elim h')) λ_ _ h'=>False.elim h'))
end
section
variable {X:Cx}{pins:List (Addr×Obj)}{σ:St}{H:Hp}{s:Shared}
theorem pL.but{P:Program}{w:World}{h h':Heap}{C:Addr}(x:pL P w H h)(hn:H C=none)(hs:Heap.SameBut C h h'):pL P w H h':=λb ob e=>by
 refine(x b ob e).stay (λc w' hc q=>(hs.2 c ?_).trans q) (λ_ q=>q) λ_ _ q=>q
 rintro rfl
 rcases hc with rfl | hc
 ·rw[hn]at e;cases e
 ·rw[hn]at hc;cases hc
theorem Un.but{fs ex:List Addr}{H':Hp}{h h1 h2:Heap}{C:Addr}(u:Un fs ex H H' h h1)(hC:h.get? C=none)(hs:Heap.SameBut C h1 h2):Un fs ex H H' h h2:=by
 have ne:∀b o,h.get? b=some o->b≠C:=λb o e z=>by rw[z,hC]at e;cases e
 exact⟨λb o e n h1 h2=>(hs.2 b (ne b o e)).trans (u.keep b o e n h1 h2),λb o e n h1 h2=>by
   obtain⟨sl,q⟩:=u.slot b o e n h1 h2
   exact⟨sl,(hs.2 b (ne b o e)).trans q⟩,u.free,λb o e h2=>by
   obtain⟨o',q⟩:=u.there b o e h2
   exact⟨o',(hs.2 b (ne b o e)).trans q⟩,u.tups,u.frzs,u.tbls⟩
theorem vY{idx:List Nat}{j:Nat}{v:V}(h:(bL σ idx)[j]?=some (some v)):∃i,idx[j]?=some i/\σ[i]?=some (some v):=by
 unfold bL at h
 rw[fO]at h
 cases e:idx[j]? with
 | none=>rw[e]at h;cases h
 | some i=>
  rw[e]at h
  refine⟨i,rfl,?_⟩
  have h':(σ[i]?).join=some v:=dP h
  cases q:σ[i]? with
  | none=>rw[q]at h';cases h'
  | some o=>rw[q]at h';cases o with
   | none=>cases h'
   | some z=>cases h';rfl
theorem vZ{N:List Str}{idx:List Nat}{j i:Nat}{y:Str}(h:idx[j]?=some i)(e:N[i]?=some y):(bz N idx)[j]?=some y:=by
 unfold bz
 rw[fO,h]
 show some (N.getD i "")=some y
 rw[nI,e];rfl
theorem Inv.block{scope:Scope}{xs:List Str}{idx:List Nat}{fp:List Addr}{C:Addr}{h':Heap}{t':Nat}{H1:Hp}{D:Addr}{m0:Str->Option Value}(I:Inv X pins σ H s)(S:sv X scope xs idx)
  (HR:∀b∈fp,qx X pins H b) (Ru:∀b∈fp,∃o,s.heap.get? b=some o) (hC:s.heap.objs.size<=C) (Jv:D≠C) (hD:s.heap.objs.size<=D) (hn:h'.Ns C m0) (hk:∀b o,s.heap.get? b=some o->h'.get? b=some o)
  (hl:∃n,h'.get? D=some { cls:=.type "list",data:=.seq #[] n }) :
  Inv (lD X scope (xs++bz X.N idx) ⟨C,cC X.env scope.names [],s,H,fp⟩) [] (List.replicate xs.length none++bL σ idx) (upd H D (.lst [])) { s with heap:=h',toks:=t' }:=by
 have pX:∀y∈scope.names,y.2=.free->∃c,X.env.cells.lookup y.1=some c:=λy hy e=>I.ok.has y.1 (S.free y hy e).2
 have nZ:=j7 (env:=X.env) scope.names [] pX (λp hp=>(nomatch hp))
 have nM:∀y c,(cC X.env scope.names []).lookup y=some c->X.env.cells.lookup y=some c:=λy c e=>nZ (y,c) (fw e)
 have Et:∀y,scope.names.lookup y=some .free->(cC X.env scope.names []).lookup y=X.env.cells.lookup y:=λy e=>jE (f:=λn=>X.env.cells.lookup n) nZ (pE scope.names [] (fw e))
 have lt:∀b,(∃o,s.heap.get? b=some o)->b<s.heap.objs.size:=λb ⟨o,e⟩=>bS e
 have W4:H D=none:=I.dN.fresh hD
 refine⟨⟨I.ok.mod,S.kind,I.ok.glob,I.ok.blt,hC,λx y c h1 h2=>I.ok.inj x y c (nM x c h1) (nM y c h2),λy hy=>?_,λ_ _ e=>(nomatch e),I.ok.hd,I.ok.frames,.inl rfl,λb hb=>⟨?_,λx c e=>(HR b hb).2.2.2.2.1 x c (nM x c e)⟩,I.bs,cq I.ok.FJ I.sz,λb o e hb=>?_,λb hb z=>?_,I.stack,I.uE⟩,
  rfl,I.bare,?_,⟨m0,hn,λi y v e1 e2 hv=>?_⟩,λx c e=>?_,?_,λx c e=>?_,λp hp=>(nomatch hp),?_,?_⟩
 ·
  have q:scope.names.lookup y=some .free:=oz S.Ed hy
  have q2:=fw q
  obtain⟨c,e⟩:=pX _ q2 rfl
  exact⟨c,(Et y q).trans e⟩
 ·
  exact cZ (fN (lt b (Ru b hb)) hC)
 ·
  rcases(HR b hb).2.2.2.1 with z | z
  ·exact I.ok.Aw b o e z
  ·exact absurd (fN (bS e) (cq I.ok.FJ z)) (lr _)
 ·
  rcases ft.mp (I.oW b z) with q | q
  ·exact(HR b hb).2.1 q
  ·exact(HR b hb).2.2.1 q
 ·
  exact Un.laid hk hD W4
 ·
  by_cases hi:i<xs.length
  ·rw[ou (by simpa using hi)]at e2
   rw[Ce]at e2
   split at e2 <;> cases e2
  ·have O7:xs.length<=i:=xm hi
   rw[lQ (by simpa using O7),qP]at e2
   obtain⟨i0,ei,es⟩:=vY e2
   obtain⟨y',ey,ef⟩:=S.ix i0 (qO ei)
   have Qe:(xs++bz X.N idx)[i]?=some y:=e1
   rw[lQ O7,vZ ei ey]at Qe
   cases Qe
   obtain⟨m,hm,vm⟩:=I.loc
   have Qd:=S.free (y,.free) (fw ef) rfl
   have Nn:Mv X.env.scope y:=.inr Qd.2
   obtain⟨u,ru,lk⟩:=vm i0 y v ey es Nn
   refine⟨u,ru,?_⟩
   rcases lk with ⟨k1,_⟩ | ⟨_,c,ec,hc⟩
   ·rcases Qd.2 with z | z
    ·have z':X.env.kindOf y=some .cell:=z
     rw[k1]at z';cases z'
    ·have z':X.env.kindOf y=some .free:=z
     rw[k1]at z';cases z'
   ·refine .inr ⟨?_,c,(Et y ef).trans ec,hc.keeps hk⟩
    rcases hv with z | z | z
    ·exfalso
     have z':(relabel scope X.env).names.lookup y=some .local:=z
     have:∀(names:List (Str×NameKind)),names.lookup y=some .free->(names.map λ(n,k)=>if (k==NameKind.free&&X.env.scope.kind == .function&&X.env.kindOf n==some .cell) then (n,NameKind.cell) else (n,k)).lookup y≠some .local:=by
      intro names
      induction names with
      | nil=>intro h;cases h
      | cons p r ih=>
       obtain⟨n,k⟩:=p
       intro h
       rw[jL]
       by_cases e:y=n
       ·subst e
        rw[dS,iY]at h
        cases h
        dsimp only
        split
        ·rw[dS,iY];exact λq=>nomatch q
        ·rw[dS,iY];exact λq=>nomatch q
       ·have hn:(y==n)=false:=by simpa using e
        rw[dS,hn]at h
        dsimp only
        split
        ·rw[dS,hn];exact ih h
        ·rw[dS,hn];exact ih h
     exact this scope.names ef z'
    ·exact .inl z
    ·exact .inr z
 ·
  obtain⟨v,q⟩:=I.cell x c (nM x c e)
  exact⟨v,q.keeps hk⟩
 ·
  show upd H D (.lst []) C=none
  rw[aM (lj Jv)]
  exact I.dN.fresh hC
 ·
  have e':=nM x c e
  obtain⟨v,q⟩:=I.cell x c e'
  rw[aM (cZ (fN q.lt hD))]
  exact I.lC x c e'
 ·
  obtain⟨n,e⟩:=hl
  exact I.dN.laid hk hD ⟨lq _,[],n,.nil,e⟩
 ·show(List.replicate xs.length none++bL σ idx).length=(xs++bz X.N idx).length
  rw[dR,dR,qP]
  unfold bL bz
  rw[aP,aP]
end
section
variable {X:Cx}{elt target iter:Expr}{ifs:List Expr}{scope:Scope}{pos:Pos}{xs:List Str}{idx:List Nat}{wi:TI}{g:CB->TG}{tt:CB->TT}{te:CB->TE}
theorem wN{pins:List (Addr×Obj)}{σ:St}{H2:Hp}{s2:Shared}{fp:List Addr}{it:Addr}{tn:Nat->Heap->Prop}{J:It}{Q:V->Hp->Prop}{RR:Value->Addr->Result->Shared->Prop}{E:Value->Shared->Prop}(hc:X.calm=true)(S:sv X scope xs idx)
  (hg:∀c,PG (lD X scope (xs++bz X.N idx) c) target (g c)) (ht:∀c,qv (lD X scope (xs++bz X.N idx) c) ifs (tt c)) (he:∀c,PE (lD X scope (xs++bz X.N idx) c) elt (te c))
  (I2:Inv X pins σ H2 s2) (T:Turn X.prog X.w X.K target J fp it tn) (v5:tn 0 s2.heap) (f2:∀b∈fp,qx X pins H2 b)
  (h:∀D,H2 D=none->∃W:Nat->Nat->List V->Hp->Prop,(∃m,W 0 m [] (upd H2 D (.lst [])))/\
   ∀i m ys H',W i m ys H'->(J.stop i H'/\Q (.ref D) H')\/(J.go i H'/\∃N:List V->Hp->Prop,(∀m7 iT,N m7 iT->∃m',m'<m/\W (i+1) m' m7 iT)/\∀(c:CB) (own:St),own.length=xs.length->∀x H2,J.y9 i H' x H2->g c x (own++bL σ idx) H2 λσ3 H3=>
    (∃dz,dz.length=xs.length/\σ3=dz++bL σ idx)/\tt c σ3 H3 λb H4=>if b=true then te c σ3 H4 λy H5=>H5 D=some (.lst ys)/\ys.length<sizeLine/\N (ys++[y]) (upd H5 D (.lst (ys++[y]))) else N ys H4))
  (WN:∀D C σ' H' s',s2.heap.objs.size<=C->Inv (lD X scope (xs++bz X.N idx) ⟨C,cC X.env scope.names [],s2,H2,fp⟩) [] σ' H' s'->Q (.ref D) H'->RR (.ref D) C (.ok .next) s') :
  wpAny (model X.prog X.w) X.A (newList []) (λacc s₃=>wpAny (model X.prog X.w) X.A (newFunctionEnv scope X.env.globals (cC X.env scope.names []) [] X.env.qual none .none (some X.env)) (λFv s₄=>
   codeAny (model X.prog X.w) X.A (.compStart (.ListComp elt [⟨target,iter,ifs,0⟩] scope pos) 0 (.ref it) acc { Fv with scope:=relabel scope X.env }) (RR acc Fv.locals) s₄) E s₃) E s2:=by
 refine sZ (wpAny_newFunctionEnv S.Ed (by intro y hy;simp at hy) (λh₁ En HJ=>?_) S.kind)
 dsimp only at En HJ ⊢
 generalize Jt:s2.heap.push { cls:=.type "list",dict:=none,data:=.seq ([]:List Value).toArray }=HH at En HJ ⊢
 have Ng:HH.objs.size=s2.heap.objs.size+1:=by rw[<-Jt,qI]
 have Jv:s2.heap.objs.size≠HH.objs.size:=by rw[Ng];exact cZ (vM _)
 have sM:s2.heap.objs.size<=HH.objs.size:=by rw[Ng];exact sW _
 have old:∀b o,s2.heap.get? b=some o->h₁.get? b=some o:=λb o e=>HJ.extBut b o (by rw[Ng];exact cZ (Nat.lt_succ_of_lt (bS e))) (gI _ (Jt ▸ gI _ e))
 have LC:∃n,h₁.get? s2.heap.objs.size=some { cls:=.type "list",data:=.seq #[] n }:=⟨_,HJ.extBut _ _ Jv (gI _ (Jt ▸ iZ _ rfl))⟩
 have NB:tn 0 h₁:=T.keep _ _ _ v5 λb _ o e=>old b o e
 obtain⟨W,⟨m0,w0⟩,turn⟩:=h s2.heap.objs.size I2.fresh
 have loop:∀s₃:Shared,s₃={ s2 with heap:=h₁,toks:=s2.toks+([]:List (Str×Value)).length }->
   codeAny (model X.prog X.w) X.A (.compLoop (.ListComp elt [⟨target,iter,ifs,0⟩] scope pos) 0 (.ref it) (.ref s2.heap.objs.size) (compEnvC scope (cC X.env scope.names []) HH.objs.size X.env)) (RR (.ref s2.heap.objs.size) HH.objs.size) s₃:=by
  rintro s₃ rfl
  have I3:=I2.block (t':=s2.toks+([]:List (Str×Value)).length) (H1:=H2) S f2 (λb hb=>let ⟨o,e,_⟩:=T.obj _ _ v5 b hb;⟨o,e⟩) sM Jv (cu _) En old LC
  generalize hY:lD X scope (xs++bz X.N idx) ⟨HH.objs.size,cC X.env scope.names [],s2,H2,fp⟩=Y at I3
  have eY:Y=lD X scope (xs++bz X.N idx) ⟨HH.objs.size,cC X.env scope.names [],s2,H2,fp⟩:=hY.symm
  have nof:∀b∈fp,b∉Y.fs:=λb hb z=>by
   rw[eY]at z
   rcases ft.mp (I2.oW b z) with q | q
   ·exact(f2 b hb).2.1 q
   ·exact(f2 b hb).2.2.1 q
  have stat:∀{H':Hp},(∀b∈fp,H' b=none)->∀b∈fp,qx Y [] H' b:=λ{H'} hn b hb=>by
   have lt:b<s2.heap.objs.size:=let ⟨o,e,_⟩:=T.obj _ _ v5 b hb;bS e
   refine⟨hn b hb,?_,nof b hb,.inl (by rw[eY];exact hb),λx c e=>?_,λp hp=>?_⟩
   ·rw[eY];exact cZ (fN lt sM)
   ·rw[eY]at e
    have nZ:=j7 (env:=X.env) scope.names [] (λy hy e=>I2.ok.has y.1 (S.free y hy e).2) (λp hp=>nomatch hp)
    exact(f2 b hb).2.2.2.2.1 x c (nZ (x,c) (fw e))
   ·rw[eY]at hp;exact nomatch hp
  have T':Turn Y.prog Y.w Y.K target J fp it tn:=by rw[eY];exact T
  have Wj:PG Y target (g ⟨HH.objs.size,cC X.env scope.names [],s2,H2,fp⟩):=by rw[eY];exact hg _
  have V1:qv Y ifs (tt ⟨HH.objs.size,cC X.env scope.names [],s2,H2,fp⟩):=by rw[eY];exact ht _
  have Wn:PE Y elt (te ⟨HH.objs.size,cC X.env scope.names [],s2,H2,fp⟩):=by rw[eY];exact he _
  have Pj:Y.calm=true:=by rw[eY];exact hc
  have eA:Y.A=X.A:=by rw[eY]
  have eP:Y.prog=X.prog:=by rw[eY]
  have eW:Y.w=X.w:=by rw[eY]
  have eE:Y.env=compEnvC scope (cC X.env scope.names []) HH.objs.size X.env:=by rw[eY]
  have eX:Y.xe=λ_ _=>False:=by rw[eY]
  have fin:∀σ' H' s',Inv Y [] σ' H' s'->Q (.ref s2.heap.objs.size) H'->RR (.ref s2.heap.objs.size) HH.objs.size (.ok .next) s':=λσ' H' s' I' q=>WN _ _ σ' H' s' sM (by rw[<-eY];exact I') q
  rw[<-eE,<-eA,<-eP,<-eW]
  have Mb:∀b∈fp,(upd H2 s2.heap.objs.size (.lst [])) b=none:=λb hb=>by
   have lt:b<s2.heap.objs.size:=let ⟨o,e,_⟩:=T.obj _ _ v5 b hb;bS e
   rw[aM (cZ lt)];exact(f2 b hb).1
  refine gP (λn s'=>∃i ys own H',own.length=xs.length/\Inv Y [] (own++bL σ idx) H' s'/\tn i s'.heap/\(∀b∈fp,H' b=none)/\W i n ys H') ?_ m0
   ⟨0,[],_,_,qP,I3,NB,Mb,w0⟩
  rintro n s4 ⟨i,ys,own,H4,Ln,I4,Nz,P',w4⟩
  rcases turn i n ys H4 w4 with ⟨stop,qn⟩ | ⟨go,NN,WT,step⟩
  ·exact cV (T'.done Y rfl rfl rfl Pj i [] s4 _ H4 _ I4 (stat P') Nz stop) λr s5 ⟨hr,I5⟩=>by subst hr;exact fin _ _ _ I5 qn
  ·refine cV (T'.item Y rfl rfl rfl Pj i [] s4 _ H4 _ I4 (stat P') Nz go) λr s5 ⟨u,hr,h5⟩=>?_
   subst hr
   refine cV h5 λ_ s6 ⟨x,H6,I6,r6,y6,JW,Xb⟩=>?_
   have ZJ:=I6.pinned (stat Xb) (T'.obj _ _ JW)
   have step':=step ⟨HH.objs.size,cC X.env scope.names [],s2,H2,fp⟩ own Ln x H6 y6
   refine gi (Wj _ s6 _ H6 x u _ ZJ r6 step') (λ_ s7 ⟨σ7,H7,I7,q7⟩=>?_) (λ_ _ z=>by rw[eX]at z;exact z)
   obtain⟨⟨KS,Wf,e7⟩,q7⟩:=q7
   refine gi (V1 _ s7 σ7 H7 _ I7 q7) (λb s8 ⟨H8,I8,q8⟩=>?_) (λ_ _ z=>by rw[eX]at z;exact z)
   have again:∀{H9:Hp} {s9:Shared} {m7:List V},Inv Y ([]++o3 fp s6.heap) σ7 H9 s9->NN m7 H9->∃m,m<n/\∃i ys own H',own.length=xs.length/\Inv Y [] (own++bL σ idx) H' s9/\tn i s9.heap/\(∀b∈fp,H' b=none)/\W i m ys H':=λ{H9 s9 m7} I9 n9=>by
    obtain⟨m',hm,w9⟩:=WT _ _ n9
    rw[e7]at I9
    refine⟨m',hm,i+1,m7,KS,H9,Wf,I9.lV,T'.keep _ _ _ JW λb hb o e=>(I9.pin (b,o) (ja _ (ja _ (gy hb e)))).1,λb hb=>?_,w9⟩
    obtain⟨o,e,d⟩:=T'.obj _ _ JW b hb
    exact(I9.pin (b,o) (ja _ (ja _ (gy hb e)))).2.1
   cases b with
   | false=>exact again I8 q8
   | true=>
    refine gi (Wn _ s8 σ7 H8 _ I8 q8) (λu9 s9 ⟨y,H9,I9,r9,hy,hz,q9⟩=>?_) (λ_ _ z=>by rw[eX]at z;exact z)
    have ap:=cY (X:=Y) _ s9 σ7 H9 (.ref s2.heap.objs.size) [y] (.ref s2.heap.objs.size) [u9] (λ_ lK=>NN (ys++[y]) lK) I9 rfl (.cons r9 .nil) ⟨_,ys,y,rfl,rfl,hy,hz,q9⟩
    refine gi ap (λ_ NX ⟨_,lK,ZK,_,Tj⟩=>again ZK Tj) (λ_ _ z=>by rw[eX]at z;exact z)
 exact codeAny_compStart_list (loop _ rfl) (T.self _ 0 _ _ _ NB (loop _ rfl))
theorem Hi(hc:X.calm=true)(S:sv X scope xs idx)(hi:PI X target iter wi)
  (hg:∀c,PG (lD X scope (xs++bz X.N idx) c) target (g c)) (ht:∀c,qv (lD X scope (xs++bz X.N idx) c) ifs (tt c)) (he:∀c,PE (lD X scope (xs++bz X.N idx) c) elt (te c))
  (hs:∀x,foldedSetIterable iter X.env x=pure x:=by intro _;rfl):PE X (.ListComp elt [⟨target,iter,ifs,0⟩] scope pos) (ox wi xs.length idx g tt te):=by
 intro pins s σ H Q I h
 rw[eval_ListComp]
 have wJ:closureFor scope X.env=pure (cC X.env scope.names []):=gB λy hy e=>I.ok.has y.1 (S.free y hy e).2
 refine xC (use:=none) rfl hs wJ S.kind S.loc (cV (hi pins s σ H _ I h) λxv s₁ h₁=>cV h₁ λOw s₂ h₂=>?_)
 obtain⟨it,fp,tn,J,H2,e,I2,T,v5,f2,hW⟩:=h₂
 subst e
 refine wN (Q:=Q) (RR:=λacc C=>compPost (model X.prog X.w) X.A X.xe none (EP X pins σ Q) acc C) hc S hg ht he I2 T v5 f2 hW ?_
 intro D C σ' H' s' hC I' q
 obtain⟨m',hn,_⟩:=I'.loc
 refine⟨m',hn,λXa Em=>?_⟩
 obtain⟨hh,gg,d,t,os⟩:=s'
 obtain rfl:os=s₂.os:=I'.os
 have Cn:s₂.heap.get? C=none:=yX hC
 refine⟨.ref D,H',I2.call (s:=s₂) (h':=Xa) (g':=gg) (d':=d) (t':=t) (ch:=fp) (I'.base.but Cn Em) (I'.dN.but I'.free Em) I'.bare (λb hb=>?_),rfl,q⟩
 obtain⟨_,f1,_,f3,f4,f5⟩:=f2 b hb
 exact⟨f3,f1,f4,f5⟩
end
theorem yF{lo:Int}{n k:Nat}{idx:List Nat}{g:CB->TG}{tt:CB->TT}{te:CB->TE}{σ:St}{Q:VK}{H1:Hp}{D:Addr}(Pv:Nat->List V->Hp->Prop)(h0:Pv 0 [] (upd H1 D (.lst [])))
  (hs:∀i ys H,i<n->Pv i ys H->∀(c:CB) (own:St),own.length=k->g c (.int (lo+i)) (own++bL σ idx) H λσ3 H3=>
   (∃dz,dz.length=k/\σ3=dz++bL σ idx)/\tt c σ3 H3 λb H4=>if b=true then te c σ3 H4 λy H5=>H5 D=some (.lst ys)/\ys.length<sizeLine/\Pv (i+1) (ys++[y]) (upd H5 D (.lst (ys++[y]))) else Pv (i+1) ys H4)
  (hd:∀ys H,Pv n ys H->Q (.ref D) H) :
  ∃W:Nat->Nat->List V->Hp->Prop,(∃m,W 0 m [] (upd H1 D (.lst [])))/\
   ∀i m ys H',W i m ys H'->((yS lo n).stop i H'/\Q (.ref D) H')\/((yS lo n).go i H'/\∃N:List V->Hp->Prop,(∀m7 iT,N m7 iT->∃m',m'<m/\W (i+1) m' m7 iT)/\∀(c:CB) (own:St),own.length=k->∀x H2,(yS lo n).y9 i H' x H2->g c x (own++bL σ idx) H2 λσ3 H3=>
    (∃dz,dz.length=k/\σ3=dz++bL σ idx)/\tt c σ3 H3 λb H4=>if b=true then te c σ3 H4 λy H5=>H5 D=some (.lst ys)/\ys.length<sizeLine/\N (ys++[y]) (upd H5 D (.lst (ys++[y]))) else N ys H4):=by
 refine⟨λi m ys H=>m=n-i/\i<=n/\Pv i ys H,⟨n,by simp,lq _,h0⟩,?_⟩
 rintro i m ys H ⟨rfl,hi,p⟩
 by_cases rS:i<n
 ·refine .inr ⟨rS,Pv (i+1),λm7 H' p'=>⟨n-(i+1),by omega,rfl,rS,p'⟩,λc own ho x H' y=>?_⟩
  obtain⟨e,y⟩:=y
  subst e y
  exact hs i ys _ rS p c own ho
 ·have e:i=n:=by omega
  subst e
  exact .inl ⟨cu _,hd ys H p⟩
theorem Bp{K:PySem.W.Frag}{a:Addr}{zs:List V}{k:Nat}{idx:List Nat}{g:CB->TG}{tt:CB->TT}{te:CB->TE}{σ:St}{Q:VK}{H1:Hp}{D:Addr}(Pv:Nat->List V->Hp->Prop)(h0:Pv 0 [] (upd H1 D (.lst [])))
  (hl:∀i ys H,i<=zs.length->Pv i ys H->og K H a zs)
  (hs:∀i x ys H,zs[i]?=some x->Pv i ys H->∀(c:CB) (own:St),own.length=k->g c x (own++bL σ idx) H λσ3 H3=>
   (∃dz,dz.length=k/\σ3=dz++bL σ idx)/\tt c σ3 H3 λb H4=>if b=true then te c σ3 H4 λy H5=>H5 D=some (.lst ys)/\ys.length<sizeLine/\Pv (i+1) (ys++[y]) (upd H5 D (.lst (ys++[y]))) else Pv (i+1) ys H4)
  (hd:∀ys H,Pv zs.length ys H->Q (.ref D) H) :
  ∃W:Nat->Nat->List V->Hp->Prop,(∃m,W 0 m [] (upd H1 D (.lst [])))/\
   ∀i m ys H',W i m ys H'->((xj K a).stop i H'/\Q (.ref D) H')\/((xj K a).go i H'/\∃N:List V->Hp->Prop,(∀m7 iT,N m7 iT->∃m',m'<m/\W (i+1) m' m7 iT)/\∀(c:CB) (own:St),own.length=k->∀x H2,(xj K a).y9 i H' x H2->g c x (own++bL σ idx) H2 λσ3 H3=>
    (∃dz,dz.length=k/\σ3=dz++bL σ idx)/\tt c σ3 H3 λb H4=>if b=true then te c σ3 H4 λy H5=>H5 D=some (.lst ys)/\ys.length<sizeLine/\N (ys++[y]) (upd H5 D (.lst (ys++[y]))) else N ys H4):=by
 refine⟨λi m ys H=>m=zs.length-i/\i<=zs.length/\Pv i ys H,⟨zs.length,by simp,lq _,h0⟩,?_⟩
 rintro i m ys H ⟨rfl,hi,p⟩
 have q:=hl i ys H hi p
 by_cases rS:i<zs.length
 ·refine .inr ⟨⟨zs,zs[i],q,by simp[rS]⟩,Pv (i+1),λm7 H' p'=>⟨zs.length-(i+1),by omega,rfl,rS,p'⟩,λc own ho x H' y=>?_⟩
  obtain⟨e,y⟩:=y
  subst e
  exact hs i x ys _ (y zs q) p c own ho
 ·have e:i=zs.length:=by omega
  subst e
  exact .inl ⟨⟨zs,q,cu _⟩,hd ys H p⟩
theorem KY{own:St}{k:St}{x:V}(h:own.length=1):(own++k).set 0 (some x)=[some x]++k:=by
 match own,h with
 | [_],_=>rfl
theorem wO{lo:Int}{n:Nat}{idx:List Nat}{tt:CB->TT}{te:CB->TE}{σ:St}{Q:VK}{H1:Hp}{D:Addr}(Pv:Nat->List V->Hp->Prop)(h0:Pv 0 [] (upd H1 D (.lst [])))
  (hs:∀i ys H,i<n->Pv i ys H->∀(c:CB),tt c (some (.int (lo+i))::bL σ idx) H λb H4=>if b=true then te c (some (.int (lo+i))::bL σ idx) H4 λy H5=>H5 D=some (.lst ys)/\ys.length<sizeLine/\Pv (i+1) (ys++[y]) (upd H5 D (.lst (ys++[y]))) else Pv (i+1) ys H4)
  (hd:∀ys H,Pv n ys H->Q (.ref D) H) :
  ∃W:Nat->Nat->List V->Hp->Prop,(∃m,W 0 m [] (upd H1 D (.lst [])))/\
   ∀i m ys H',W i m ys H'->((yS lo n).stop i H'/\Q (.ref D) H')\/((yS lo n).go i H'/\∃N:List V->Hp->Prop,(∀m7 iT,N m7 iT->∃m',m'<m/\W (i+1) m' m7 iT)/\∀(c:CB) (own:St),own.length=1->∀x H2,(yS lo n).y9 i H' x H2->cL 0 x (own++bL σ idx) H2 λσ3 H3=>
    (∃dz,dz.length=1/\σ3=dz++bL σ idx)/\tt c σ3 H3 λb H4=>if b=true then te c σ3 H4 λy H5=>H5 D=some (.lst ys)/\ys.length<sizeLine/\N (ys++[y]) (upd H5 D (.lst (ys++[y]))) else N ys H4):=
 yF (g:=λ_=>cL 0) Pv h0 (λi ys H hi p c own ho=>by
  show(∃dz,dz.length=1/\(own++bL σ idx).set 0 _=dz++bL σ idx)/\tt c ((own++bL σ idx).set 0 _) H _
  rw[KY ho]
  exact⟨⟨[_],rfl,rfl⟩,hs i ys H hi p c⟩) hd
theorem yG{K:PySem.W.Frag}{a:Addr}{zs:List V}{idx:List Nat}{tt:CB->TT}{te:CB->TE}{σ:St}{Q:VK}{H1:Hp}{D:Addr}(Pv:Nat->List V->Hp->Prop)(h0:Pv 0 [] (upd H1 D (.lst [])))
  (hl:∀i ys H,i<=zs.length->Pv i ys H->og K H a zs)
  (hs:∀i x ys H,zs[i]?=some x->Pv i ys H->∀(c:CB),tt c (some x::bL σ idx) H λb H4=>if b=true then te c (some x::bL σ idx) H4 λy H5=>H5 D=some (.lst ys)/\ys.length<sizeLine/\Pv (i+1) (ys++[y]) (upd H5 D (.lst (ys++[y]))) else Pv (i+1) ys H4)
  (hd:∀ys H,Pv zs.length ys H->Q (.ref D) H) :
  ∃W:Nat->Nat->List V->Hp->Prop,(∃m,W 0 m [] (upd H1 D (.lst [])))/\
   ∀i m ys H',W i m ys H'->((xj K a).stop i H'/\Q (.ref D) H')\/((xj K a).go i H'/\∃N:List V->Hp->Prop,(∀m7 iT,N m7 iT->∃m',m'<m/\W (i+1) m' m7 iT)/\∀(c:CB) (own:St),own.length=1->∀x H2,(xj K a).y9 i H' x H2->cL 0 x (own++bL σ idx) H2 λσ3 H3=>
    (∃dz,dz.length=1/\σ3=dz++bL σ idx)/\tt c σ3 H3 λb H4=>if b=true then te c σ3 H4 λy H5=>H5 D=some (.lst ys)/\ys.length<sizeLine/\N (ys++[y]) (upd H5 D (.lst (ys++[y]))) else N ys H4):=
 Bp (g:=λ_=>cL 0) Pv h0 hl (λi x ys H hi p c own ho=>by
  show(∃dz,dz.length=1/\(own++bL σ idx).set 0 _=dz++bL σ idx)/\tt c ((own++bL σ idx).set 0 _) H _
  rw[KY ho]
  exact⟨⟨[_],rfl,rfl⟩,hs i x ys H hi p c⟩) hd
def X8(z:Str)(lo hi:Option Int):Str:=⟨((z.cps.toList.drop (HT.dE z.length 0 lo)).take (HT.dE z.length z.length hi-HT.dE z.length 0 lo)).toArray⟩
theorem xQ{n:Nat}(h:n<=1000):n<=sizeLine:=qH (qL h (by decide))
section
variable {X:Cx}
def Kg:V->Option Int->Option Int->Hp->VK->Prop:=λx lo hi H Q=>∃z,x=.str z/\z.length<=sizeLine/\Q (.str (X8 z lo hi)) H
def JR(K:PySem.W.Frag)(te ts:TE):TE:=λσ H Q=>te σ H λx H1=>ts σ H1 λy H2=>∃a xs,x=.ref a/\y=.int (-1)/\og K H2 a xs/\∀p,H2 p=none->Q (.ref p) (upd H2 p (.lst xs.reverse))
theorem Fy(c:Value):eQ X (.builtin "isinstance") (λvs H Q=>∃x t b n,vs=[x,.ty n]/\mY X.K H x t/\PySem.W.kitOne X.K t (.type n)=some b/\Q (.bl b) H):=by
 intro pins s σ H vs us Q I rv h
 obtain⟨x,t,b,n,rfl,ty,e,q⟩:=h
 obtain⟨u,v,rfl,ru,rv'⟩:=rv.two
 obtain rfl:v=Value.type n:=rv'
 exact Bc I ru ty e λtk=>⟨.bl b,H,I.tok _,rfl,q⟩
def Qb(xs ys:List V):Bool:=xs.length==ys.length&&(List.range xs.length).all λj=>BV (xs.getD j .non) (ys.getD j .non)
def uN:V->List V->Hp->VK->Prop:=λx vs H Q=>∃a hV,x=.ref a/\vs=[]/\H a=some (.dK hV)/\Q .non (upd H a (.dK []))
end
section
variable {X:Cx}{elt target iter:Expr}{ifs:List Expr}{scope:Scope}{pos spos py:Pos}{xs:List Str}{idx:List Nat}{wi:TI}{g:CB->TG}{tt:CB->TT}{te:CB->TE}
theorem Ha{i:Nat}{y:Str}(hN:X.N.Nodup)(hi0:X.N[i]?=some y)(hy:X.env.scope.names.lookup y=some .local)(hc:X.calm=true)(S:sv X scope xs idx)(hi:PI X target iter wi)
  (hg:∀c,PG (lD X scope (xs++bz X.N idx) c) target (g c)) (ht:∀c,qv (lD X scope (xs++bz X.N idx) c) ifs (tt c)) (he:∀c,PE (lD X scope (xs++bz X.N idx) c) elt (te c))
  (V3:swapsWith (.ListComp elt [⟨target,iter,ifs,0⟩] scope pos) (some (.Name y py)) spos.line X.env=pure true:=by rfl)
  (hs:∀x,foldedSetIterable iter X.env x=pure x:=by intro _;rfl):PS X (.Assign [.Name y py] (.ListComp elt [⟨target,iter,ifs,0⟩] scope pos) spos) (qY (ox wi xs.length idx g tt te) (cL i)):=by
 intro pins s σ H D I h
 have wJ:closureFor scope X.env=pure (cC X.env scope.names []):=gB λy hy e=>I.ok.has y.1 (S.free y hy e).2
 rw[exec_Assign_Name_used _ _ _ _ V3]
 refine bG (wpAny_standAt (bG ?_))
 show wpAny _ X.A (do let _ <-comprehension (.ListComp elt [⟨target,iter,ifs,0⟩] scope pos) scope X.env _ (newList []) false (eval iter X.env) (some (assign (.Name y py) X.env))) _ _ s
 refine bG (gi (xC (use:=some (assign (.Name y py) X.env)) (Q:=λ_ s'=>SP X pins D .next s') rfl hs wJ S.kind S.loc
  (cV (hi pins s σ H _ I h) λxv s₁ h₁=>cV h₁ λOw s₂ h₂=>?_)) (λ_ s' hq=>cn (cn hq)) λ_ _ e=>e)
 obtain⟨it,fp,tn,J,H2,e,I2,T,v5,f2,hW⟩:=h₂
 subst e
 refine wN (Q:=λv H'=>cL i v σ H' D.nx) (RR:=λacc C=>compPost (model X.prog X.w) X.A X.xe (some (assign (.Name y py) X.env)) (λ_ s'=>SP X pins D .next s') acc C) hc S hg ht he I2 T v5 f2 hW ?_
 intro DD C σ' H' s' hC I' q
 show wpAny _ X.A (assign (.Name y py) X.env (.ref DD)) _ _ _
 obtain⟨hh,gg,d,t,os⟩:=s'
 obtain rfl:os=s₂.os:=I'.os
 have Cn:s₂.heap.get? C=none:=yX hC
 have I3:Inv X pins σ H' { s₂ with heap:=hh,gens:=gg,drawn:=d,toks:=t }:=I2.call (s:=s₂) (h':=hh) (g':=gg) (d':=d) (t':=t) (ch:=fp) (I'.base.but Cn (Heap.SameBut.refl _ _)) I'.dN I'.bare (λb hb=>by
  obtain⟨_,f1,_,f3,f4,f5⟩:=f2 b hb
  exact⟨f3,f1,f4,f5⟩)
 obtain⟨m',hn,_⟩:=I'.loc
 have hLC:X.env.locals≠C:=cZ (fN I2.lt hC)
 refine wpAny_assign_Name (tL I3 hN hi0 (.inl hy) (v:=.ref DD) rfl (λNZ I4 ⟨a,hs4,ha⟩=>?_) (.inr hy))
 have haC:C≠a:=by
  rcases ha with e | e
  ·rw[e];exact lj hLC
  ·obtain⟨v,q⟩:=I2.cell y a e
   exact qS (fN q.lt hC)
 refine⟨m',hn.sameBut hs4 haC,λh3 hs3=>?_⟩
 obtain⟨hh4,gg4,d4,t4,os4⟩:=NZ
 have I5:Inv X pins (σ.set i (some (.ref DD))) H' { heap:=h3,gens:=gg4,drawn:=d4,toks:=t4,os:=os4 }:=
  I4.turned (s:={ heap:=hh4,gens:=gg4,drawn:=d4,toks:=t4,os:=os4 }) (h':=h3) (t':=t4) (it:=C) (λb o hb e=>(hs3.2 b hb).trans e) I'.free (lj hLC) (.inr (cq I2.sz hC)) (λx c e z=>by
   obtain⟨v,q⟩:=I2.cell x c e
   exact absurd (fN q.lt hC) (by rw[z];exact lr _)) (λp hp z=>by
   have:=(I2.pin p hp).1
   rw[z,Cn]at this;cases this)
 exact⟨_,H',I5,q⟩
end
def Bn(gh:Scope)(N:List Str)(scope:Scope)(idx:List Nat):Bool:=
 scope.kind == .function&&scope.names.all (λy=>y.2 != .cell)&&scope.names.all (λy=>y.2 != .local||scope.names.lookup y.1==some .local) &&
 scope.names.all (λy=>y.2 != .free||(scope.names.lookup y.1==some .free&&(gh.names.lookup y.1==some .cell||gh.names.lookup y.1==some .free))) &&
 idx.all (λi=>match N[i]? with | some y=>scope.names.lookup y==some .free | none=>false)
theorem tY{X:Cx}{scope:Scope}{xs:List Str}{idx:List Nat}{gh:Scope}{N:List Str}(h:Bn gh N scope idx=true)(e1:X.env.scope=gh:=by rfl)(e2:X.N=N:=by rfl):sv X scope xs idx:=by
 unfold Bn at h
 simp only[eO]at h
 refine hide λgG hG=>?_
 obtain⟨⟨⟨⟨h1,h2⟩,h3⟩,h4⟩,h5⟩:=h
 refine hG ?_
 refine⟨by simpa using h1,λy hy e=>?_,λy hy e=>?_,λy hy e=>?_,λi hi=>?_⟩
 ·have:=iX.mp h2 y hy
  rw[e]at this;exact absurd this (by decide)
 ·have:=iX.mp h3 y hy
  rw[e]at this;simpa using this
 ·have:=iX.mp h4 y hy
  rw[e]at this
  have t:(scope.names.lookup y.1==some NameKind.free&&(gh.names.lookup y.1==some .cell||gh.names.lookup y.1==some .free))=true:=by simpa using this
  rw[eO,uv]at t
  refine⟨by simpa using t.1,?_⟩
  show X.env.scope.names.lookup y.1=_\/X.env.scope.names.lookup y.1=_
  rw[e1]
  exact t.2.imp (by simp) (by simp)
 ·have:=iX.mp h5 i hi
  rw[e2]
  cases e:N[i]? with
  | none=>rw[e]at this;cases this
  | some y=>rw[e]at this;exact⟨y,rfl,by simpa using this⟩
theorem z7{α:Type}(a:α)(xs:List α):kb (a::xs) 0=some a:=bH (j:=0) rfl
theorem z6{α:Type}(a b:α)(xs:List α):kb (a::b::xs) 1=some b:=bH (j:=1) rfl
theorem z5{α:Type}(a b c:α)(xs:List α):kb (a::b::c::xs) 2=some c:=bH (j:=2) rfl
theorem z4{α:Type}(a b c d:α)(xs:List α):kb (a::b::c::d::xs) 3=some d:=bH (j:=3) rfl
theorem FV{α:Type}(a b c d e:α)(xs:List α):kb (a::b::c::d::e::xs) 4=some e:=bH (j:=4) rfl
theorem FT{α:Type}(a b c d e f:α)(xs:List α):kb (a::b::c::d::e::f::xs) 5=some f:=bH (j:=5) rfl
theorem yt:Bb 6 1=some 1:=rfl
theorem yr:Bb 6 2=some 2:=rfl
theorem yq:Bb 6 3=some 3:=rfl
theorem yp:Bb 6 4=some 4:=rfl
theorem yo:Bb 6 5=some 5:=rfl
theorem zX(i:Int):kZ i 48271/\kZ i 40693/\kZ i 3/\kZ i 4294967296:=⟨.inr ⟨by decide,by decide⟩,.inr ⟨by decide,by decide⟩,.inr ⟨by decide,by decide⟩,.inr ⟨by decide,by decide⟩⟩
theorem Fu(i:Int):kZ i 48271:=(zX i).1
theorem Ft(i:Int):kZ i 40693:=(zX i).2.1
theorem Fs(i:Int):kZ i 3:=(zX i).2.2.1
theorem Fq(i:Int):kZ i 4294967296:=(zX i).2.2.2
theorem zY(i:Int):kZ 5 i/\kZ 3 i/\kZ 7 i/\kZ 10 i:=⟨.inl ⟨by decide,by decide⟩,.inl ⟨by decide,by decide⟩,.inl ⟨by decide,by decide⟩,.inl ⟨by decide,by decide⟩⟩
theorem yL(i:Int):kZ 5 i:=(zY i).1
theorem yK(i:Int):kZ 3 i:=(zY i).2.1
theorem yJ(i:Int):kZ 7 i:=(zY i).2.2.1
theorem yI(i:Int):kZ 10 i:=(zY i).2.2.2
theorem yE:yV 10 18:=⟨by decide,by decide,by decide⟩
def Gv(t u:TS):TS:=λD σ H=>∃N:St->Hp->Prop,t { D with nx:=N } σ H/\∀σ' H',N σ' H'->u D σ' H'
theorem G9{X:Cx}{st:Stmt}{rest:List Stmt}{t u:TS}(h1:PS X st t)(h2:vD X rest u):vD X (st::rest) (Gv t u):=by
 intro pins s σ H D I ⟨N,hn,hu⟩
 refine wpAny_execs_cons (cV (h1 pins s σ H { D with nx:=N } I hn) λf s1 q=>?_)
 cases f with
 | next=>
  refine hide λgG hG=>?_
  obtain⟨σ',H',I',q⟩:=q
  refine hG ?_
  exact h2 pins s1 σ' H' D I' (hu σ' H' q)
 | ret v=>exact q
 | brk=>exact q
 | cont=>exact q
theorem FQ{ns:List Int}{k:Int}(h0:0<=k)(h:k<(ns.length:Int)):∃v:Int,kb (ns.map V.int) k=some (.int v):=by
 have hk:k.toNat<ns.length:=by lia
 have ek:k=((k.toNat:Nat):Int):=by lia
 have q:kb (ns.map V.int) ((k.toNat:Nat):Int)=some (.int ns[k.toNat]):=bH (by rw[fO,bw hk] <;> rfl)
 rw[<-ek]at q
 exact⟨_,q⟩
theorem Mu{α:Type}{xs:List α}{k:Int}(h0:0<=k)(h:k<(xs.length:Int)):∃v,kb xs k=some v/\xs[k.toNat]?=some v:=by
 have hk:k.toNat<xs.length:=by lia
 have ek:k=((k.toNat:Nat):Int):=by lia
 have q:kb xs ((k.toNat:Nat):Int)=some xs[k.toNat]:=bH (bw hk)
 rw[<-ek]at q
 exact⟨_,q,bw hk⟩
section
variable {X:Cx}
theorem kc.imp{f:Value->Value->Sem Value}{r r':R2}(h:kc X f r)(i:∀x y H Q,r' x y H Q->r x y H Q):kc X f r':=λpins s σ H x y v u Q I rx ry q=>h pins s σ H x y v u Q I rx ry (i _ _ _ _ q)
theorem Iw.imp{r r':R2}(h:Iw X r)(i:∀x y H Q,r' x y H Q->r x y H Q):Iw X r':=λvalue slice pins s σ H x y v u Q I rx ry q hs=>h value slice pins s σ H x y v u Q I rx ry (i _ _ _ _ q) hs
theorem eQ.imp{f:Value}{r r':List V->Hp->VK->Prop}(h:eQ X f r)(i:∀x H Q,r' x H Q->r x H Q):eQ X f r':=λpins s σ H vs us Q I rv q=>h pins s σ H vs us Q I rv (i _ _ _ q)
theorem JF.imp{r r':V->Option Int->Option Int->Hp->VK->Prop}(h:JF X r)(i:∀x lo hi H Q,r' x lo hi H Q->r x lo hi H Q):JF X r':=λpins s σ H x v vl vu lo hi sl Q I rx hs pl pu q=>h pins s σ H x v vl vu lo hi sl Q I rx hs pl pu (i _ _ _ _ _ q)
theorem bB{K:PySem.W.Frag}{H:Hp}{a:Addr}{xs:List V}(h:H a=some (.lst xs)):og K H a xs:=og.of h
theorem bR{K:PySem.W.Frag}{H:Hp}{a:Addr}{xs:List V}(h:H a=some (.tup xs)):sQ K H a xs:=sQ.of h
def Dl:R2:=λx y H Q=>∃p i,x=.ref p/\y=.int i/\∃xs,H p=some (.lst xs)/\∃v,kb xs i=some v/\Q v H
theorem cP:Iw X Dl:=HD.imp λx y H Q ⟨p,i,e1,e2,xs,h,v,e3,q⟩=>⟨p,xs,i,v,e1,e2,bB h,e3,q⟩
def G0:R2:=λx y H Q=>∃p i,x=.ref p/\y=.int i/\∃xs,H p=some (.tup xs)/\∃v,kb xs i=some v/\Q v H
theorem cx:Iw X G0:=Lf.imp λx y H Q ⟨p,i,e1,e2,xs,h,v,e3,q⟩=>⟨p,xs,i,v,e1,e2,bR h,e3,q⟩
def Kj:R2:=λx y H Q=>∃z i,x=.str z/\y=.int i/\z.length<=sizeLine/\∃c,kb z.cps.toList i=some c/\Q (.str ⟨#[c]⟩) H
def Ki:V->Option Int->Option Int->Hp->VK->Prop:=λx lo hi H Q=>∃a,x=.ref a/\∃xs,H a=some (.lst xs)/\∀p,H p=none->Q (.ref p) (upd H p (.lst (gY xs lo hi)))
def GX:V->Option Int->Option Int->Hp->VK->Prop:=λx lo hi H Q=>∃a,x=.ref a/\∃xs,H a=some (.tup xs)/\¬(HT.dE xs.length 0 lo=0/\HT.dE xs.length xs.length hi=xs.length)/\∀p,H p=none->Q (.ref p) (upd H p (.tup (gY xs lo hi)))
theorem CQ:JF X GX:=J'.imp λx lo hi H Q ⟨a,e,xs,h,n,q⟩=>⟨a,xs,e,bR h,n,q⟩
def zj:List V->Hp->VK->Prop:=λvs H Q=>∃p,vs=[.ref p]/\∃xs,H p=some (.lst xs)/\Q (.int xs.length) H
theorem bh:eQ X (.builtin "len") zj:=oJ.imp λx H Q ⟨p,e,xs,h,q⟩=>⟨p,xs,e,.inl (bB h),q⟩
def zi:List V->Hp->VK->Prop:=λvs H Q=>∃p,vs=[.ref p]/\∃xs,H p=some (.tup xs)/\Q (.int xs.length) H
theorem gC:eQ X (.builtin "len") zi:=oJ.imp λx H Q ⟨p,e,xs,h,q⟩=>⟨p,xs,e,.inr (bR h),q⟩
def uQ:List V->Hp->VK->Prop:=λvs H Q=>∃p,vs=[.ref p]/\∃xs,H p=some (.lst xs)/\∀l,H l=none->Q (.ref l) (upd H l (.lst xs))
theorem iN:eQ X (.type "list") uQ:=oI.imp λx H Q ⟨p,e,xs,h,q⟩=>⟨p,xs,e,.inl (bB h),q⟩
def uP:List V->Hp->VK->Prop:=λvs H Q=>∃p,vs=[.ref p]/\∃xs,H p=some (.tup xs)/\∀l,H l=none->Q (.ref l) (upd H l (.lst xs))
theorem kO:eQ X (.type "list") uP:=oI.imp λx H Q ⟨p,e,xs,h,q⟩=>⟨p,xs,e,.inr (bR h),q⟩
def qC:List V->Hp->VK->Prop:=λvs H Q=>∃p,vs=[.ref p]/\∃xs,H p=some (.lst xs)/\∀l,H l=none->Q (.ref l) (upd H l (.tup xs))
theorem gQ:eQ X (.type "tuple") qC:=sO.imp λx H Q ⟨p,e,xs,h,q⟩=>⟨p,xs,e,.inl ⟨bB h,q⟩⟩
def xY:List V->Hp->VK->Prop:=λvs H Q=>∃a,vs=[.ref a]/\∃hV,H a=some (.dK hV)/\∀p,H p=none->Q (.ref p) (upd H p (.lst (hV.map λkv=>kV kv.1)))
def xZ:List V->Hp->VK->Prop:=λvs H Q=>∃a,vs=[.ref a]/\∃hV,H a=some (.dK hV)/\∀p,H p=none->Q (.ref p) (upd H p (.dK hV))
def uO:List V->Hp->VK->Prop:=λvs H Q=>∃a,vs=[.ref a]/\∃ss:List Str,H a=some (.lst (ss.map V.str))/\ss.length<64/\
 ∀ss':List Str,ss'.Perm ss->sortedS ss'=true->∀p,H p=none->Q (.ref p) (upd H p (.lst (ss'.map V.str)))
def Dk:V->List V->Hp->VK->Prop:=λx vs H Q=>∃sep a,x=.str sep/\vs=[.ref a]/\∃ss:List Str,H a=some (.lst (ss.map V.str))/\JoinOk sep ss=true/\Q (.str (Txt.join sep ss)) H
def Dp(neg:Bool):R2:=λx y H Q=>∃p,y=.ref p/\∃xs,H p=some (.lst xs)/\iJ x=true/\xs.all iJ=true/\Q (.bl (if neg then !Jj x xs else Jj x xs)) H
theorem rF:kc X (compareOp .In) (Dp false):=tT.imp λx y H Q ⟨p,e,xs,h,f1,f2,q⟩=>⟨p,xs,e,.inl (bB h),f1,f2,q⟩
theorem tR:kc X (compareOp .NotIn) (Dp true):=oB.imp λx y H Q ⟨p,e,xs,h,f1,f2,q⟩=>⟨p,xs,e,.inl (bB h),f1,f2,q⟩
def Dn(neg:Bool):R2:=λx y H Q=>∃p,y=.ref p/\∃xs,H p=some (.tup xs)/\iJ x=true/\xs.all iJ=true/\Q (.bl (if neg then !Jj x xs else Jj x xs)) H
theorem DT:kc X (compareOp .In) (Dn false):=tT.imp λx y H Q ⟨p,e,xs,h,f1,f2,q⟩=>⟨p,xs,e,.inr (bR h),f1,f2,q⟩
theorem iC:kc X (compareOp .NotIn) (Dn true):=oB.imp λx y H Q ⟨p,e,xs,h,f1,f2,q⟩=>⟨p,xs,e,.inr (bR h),f1,f2,q⟩
def Kk(neg:Bool):R2:=λx y H Q=>∃a b,x=.ref a/\y=.ref b/\∃xs,H a=some (.lst xs)/\∃ys,H b=some (.lst ys)/\xs.all iJ=true/\ys.all iJ=true/\Q (.bl (if neg then !Qb xs ys else Qb xs ys)) H
def G3(K:PySem.W.Frag):List V->Hp->VK->Prop:=λvs H Q=>∃x n,vs=[x,.ty n]/\∃t,mY K H x t/\∃b,PySem.W.kitOne K t (.type n)=some b/\Q (.bl b) H
theorem cH:eQ X (.builtin "isinstance") (G3 X.K):=(Fy .none).imp λx H Q ⟨y,n,e,t,ty,b,h,q⟩=>⟨y,t,b,n,e,ty,h,q⟩
def GZ:V->V->V->Hp->(Hp->Prop)->Prop:=λo i v H Q=>∃p k,o=.ref p/\i=.int k/\∃xs,H p=some (.lst xs)/\∃j,Bb xs.length k=some j/\Q (upd H p (.lst (xs.set j v)))
theorem oy:By X GZ:=λpins s σ H o i v ov iv u Q I ro ri rv ⟨p,k,e1,e2,xs,h,j,hj,q⟩=>set_list pins s σ H o i v ov iv u Q I ro ri rv ⟨p,xs,k,j,e1,e2,h,hj,q⟩
theorem Jx:Mx X (λo i H Q=>Dl o i H Q):=by
 intro pins s σ H o i ov iv Q I ro ri h
 refine hide λgG hG=>?_
 obtain⟨p,i,rfl,rfl,xs,hp,z,he,q⟩:=h
 refine hG ?_
 cases ro
 refine hide λgG hG=>?_
 obtain⟨t,rfl⟩:=ri
 obtain⟨its,r,pl,hz⟩:=I.list (bB hp)
 obtain⟨j,h1,h2,h3,h4,h5⟩:=vC he
 obtain⟨w,ew,Kd⟩:=r.get h2
 refine hG ?_
 have hl:=r.length
 have hn:=rL
 have fin:EP X pins σ Q w s:=⟨z,H,I,Kd,q⟩
 by_cases h0:0<=i
 ·have hj:i.toNat=j:=by
   rw[qQ h0 h5]at h1
   exact dP h1
  exact wpAny_getItem_list pl.isList h0 (by lia) (by rw[hj];simpa using ew) fin
 ·have hj:(i+(its.toArray.size:Int)).toNat=j:=by
   rw[seqIndex_neg (by lia) h4]at h1
   rw[cT,<-hl]
   exact dP h1
  exact wpAny_getItem_list_neg pl.isList (by lia) (by rw[cT] <;> lia) (by lia) (by rw[hj];simpa using ew) fin
end
end L2
namespace L2
open PySem PySem.Spec PyProof.Rows
theorem Hx{α:Type}{C:List α->Prop}(h:∀a,C [a]):∀us:List α,us.length=1->C us
 | [a],_=>h a
theorem of2{α:Type}{C:List α->Prop}(h:∀a b,C [a,b]):∀us:List α,us.length=2->C us
 | [a,b],_=>h a b
theorem T2{α:Type}{C:List α->Prop}(h:∀a b c,C [a,b,c]):∀us:List α,us.length=3->C us
 | [a,b,c],_=>h a b c
theorem Rf{α:Type}{C:List α->Prop}(h:∀a b c d,C [a,b,c,d]):∀us:List α,us.length=4->C us
 | [a,b,c,d],_=>h a b c d
structure HC(X:Cx)(N:List Str)(sc:Scope):Prop where
 n:X.N=N
 s:X.env.scope=sc
def TY(N:List Str)(sc:Scope)(i:Nat)(x:Str):Bool:=
 N[i]? == some x&&(sc.names.lookup x==some .local||sc.names.lookup x==some .cell||sc.names.lookup x==some .free) && !(x==("__debug__" : Str)) && !(x==("__classdict__" : Str))
def Gd(N:List Str)(sc:Scope)(i:Nat)(x:Str):Bool:=N[i]? == some x&&(sc.names.lookup x==some .local||sc.names.lookup x==some .cell)
def Au(N:List Str)(sc:Scope)(i:Nat)(x:Str):Bool:=N[i]? == some x&&sc.names.lookup x==some .local
def okG(sc:Scope)(x:Str):Bool:=sc.names.lookup x==some .globalImplicit
section
variable {X:Cx}{N:List Str}{sc:Scope}{x:Str}{pos:Pos}
theorem pvk(hc:HC X N sc)(i:Nat)(h:TY N sc i x=true):PE X (.Name x pos) (uC i):=by
 unfold TY at h
 simp only[eO,uv,beq_iff_eq,Bool.not_eq_true']at h
 obtain⟨⟨⟨h1,h2⟩,h3⟩,h4⟩:=h
 refine DP (by rw[hc.n];exact h1) ?_ h3 h4
 unfold Mv
 rw[hc.s]
 rcases h2 with (h2 | h2) | h2
 ·exact .inl h2
 ·exact .inr (.inl h2)
 ·exact .inr (.inr h2)
theorem aX(hc:HC X N sc)(h:okG sc x=true:=by decide +kernel):Gl X x:=by
 show X.env.scope.names.lookup x=some .globalImplicit
 rw[hc.s];simpa [okG]using h
theorem jg(hc:HC X N sc){i:Nat}(h:Gd N sc i x=true):X.N[i]?=some x/\Loc X.env.scope x:=by
 unfold Gd at h
 simp only[eO,uv,beq_iff_eq]at h
 refine⟨by rw[hc.n];exact h.1,?_⟩
 unfold Loc;rw[hc.s];exact h.2
theorem lZ(hc:HC X N sc){i:Nat}(h:Au N sc i x=true):X.N[i]?=some x/\X.env.scope.names.lookup x=some .local:=by
 unfold Au at h
 simp only[eO,beq_iff_eq]at h
 exact⟨by rw[hc.n];exact h.1,by rw[hc.s];exact h.2⟩
theorem pgk(hc:HC X N sc)(nd:N.Nodup)(hf:∀x,X.fn x=true)(i:Nat)(h:Gd N sc i x=true):PG X (.Name x pos) (cL i):=
 uS (by rw[hc.n];exact nd) (jg hc h).1 (jg hc h).2 (.inl (hf x))
theorem pgb(hc:HC X N sc)(nd:N.Nodup)(i:Nat)(h:Au N sc i x=true):PG X (.Name x pos) (cL i):=
 uS (by rw[hc.n];exact nd) (lZ hc h).1 (.inl (lZ hc h).2) (.inr (lZ hc h).2)
theorem zp{e:Expr}{te:TE}{pos':Pos}(hc:HC X N sc)(nd:N.Nodup)(hf:∀x,X.fn x=true)(i:Nat)(h:Gd N sc i x=true)(he:PE X e te)(hs:swapsWith e (some (.Name x pos')) pos.line X.env=pure false:=by rfl) :
  PS X (.Assign [.Name x pos'] e pos) (qY te (cL i)):=
 Kr (by rw[hc.n];exact nd) (jg hc h).1 (jg hc h).2 he hs (.inl (hf x))
theorem G'{e:Expr}{te:TE}{op:Operator}{ti:Iu}{pos':Pos}(hc:HC X N sc)(nd:N.Nodup)(hf:∀x,X.fn x=true)(i:Nat)(h:Gd N sc i x=true)(he:PE X e te)(ho:Mw X op ti):PS X (.AugAssign (.Name x pos') op e pos) (Gw i te ti):=
 Kv (by rw[hc.n];exact nd) (jg hc h).1 (jg hc h).2 he ho (.inl (hf x))
end
def bU(scope gh:Scope):Scope:=
 { scope with names:=scope.names.map λ(n,k)=>if (k == .free&&gh.kind == .function&&gh.names.lookup n==some .cell) then (n,.cell) else (n,k) }
theorem pR{scope gh:Scope}{env:Env}(h:env.scope=gh):relabel scope env=bU scope gh:=by
 subst h;rfl
theorem j5{X:Cx}{N:List Str}{gh scope:Scope}{xs:List Str}{idx:List Nat}(hc:HC X N gh)(c:CB):HC (lD X scope (xs++bz X.N idx) c) (xs++bz N idx) (bU scope gh):=
 ⟨by show xs++bz X.N idx=_;rw[hc.n],pR hc.s⟩
section
variable {X:Cx}{N:List Str}{gh:Scope}{elt target iter:Expr}{ifs:List Expr}{scope:Scope}{pos spos py:Pos}{xs:List Str}{idx:List Nat}{wi:TI}{g:CB->TG}{tt:CB->TT}{te:CB->TE}
theorem wm(hc:HC X N gh)(xs:List Str)(idx:List Nat)(wK:X.calm=true)(S:Bn gh N scope idx=true)(hi:PI X target iter wi)
  (hg:∀c,HC (lD X scope (xs++bz X.N idx) c) (xs++bz N idx) (bU scope gh)->PG (lD X scope (xs++bz X.N idx) c) target (g c))
  (ht:∀c,HC (lD X scope (xs++bz X.N idx) c) (xs++bz N idx) (bU scope gh)->qv (lD X scope (xs++bz X.N idx) c) ifs (tt c))
  (he:∀c,HC (lD X scope (xs++bz X.N idx) c) (xs++bz N idx) (bU scope gh)->PE (lD X scope (xs++bz X.N idx) c) elt (te c))
  (hs:∀x,foldedSetIterable iter X.env x=pure x:=by intro _;rfl):PE X (.ListComp elt [⟨target,iter,ifs,0⟩] scope pos) (ox wi xs.length idx g tt te):=
 Hi wK (tY S hc.s hc.n) hi (λc=>hg c (j5 hc c)) (λc=>ht c (j5 hc c)) (λc=>he c (j5 hc c)) hs
theorem wg{y:Str}(hc:HC X N gh)(nd:N.Nodup)(i:Nat)(h:Au N gh i y=true)(xs:List Str)(idx:List Nat)(wK:X.calm=true)(S:Bn gh N scope idx=true)(hi:PI X target iter wi)
  (hg:∀c,HC (lD X scope (xs++bz X.N idx) c) (xs++bz N idx) (bU scope gh)->PG (lD X scope (xs++bz X.N idx) c) target (g c))
  (ht:∀c,HC (lD X scope (xs++bz X.N idx) c) (xs++bz N idx) (bU scope gh)->qv (lD X scope (xs++bz X.N idx) c) ifs (tt c))
  (he:∀c,HC (lD X scope (xs++bz X.N idx) c) (xs++bz N idx) (bU scope gh)->PE (lD X scope (xs++bz X.N idx) c) elt (te c))
  (V3:swapsWith (.ListComp elt [⟨target,iter,ifs,0⟩] scope pos) (some (.Name y py)) spos.line X.env=pure true)
  (hs:∀x,foldedSetIterable iter X.env x=pure x:=by intro _;rfl):PS X (.Assign [.Name y py] (.ListComp elt [⟨target,iter,ifs,0⟩] scope pos) spos) (qY (ox wi xs.length idx g tt te) (cL i)):=
 Ha (by rw[hc.n];exact nd) (lZ hc h).1 (lZ hc h).2 wK (tY S hc.s hc.n) hi (λc=>hg c (j5 hc c)) (λc=>ht c (j5 hc c)) (λc=>he c (j5 hc c)) V3 hs
end
end L2
namespace L2
open PySem PySem.Spec PyProof.Rows
@[irreducible] def sU (X:Cx) (st:List Stmt) (t:TS):Prop:=vD X st t
theorem sU.to{X:Cx}{st:List Stmt}{t:TS}(h:sU X st t):vD X st t:=by unfold sU at h;exact h
theorem sU.of{X:Cx}{st:List Stmt}{t:TS}(h:vD X st t):sU X st t:=by unfold sU;exact h
section
variable {X:Cx}{st:Stmt}{rest:List Stmt}{t u:TS}{pos:Pos}
theorem GQ:sU X [] tJ:=.of G8
theorem GP(h1:PS X st t):sU X [st] t:=.of (G7 h1)
theorem Dd(h1:PS X st t)(h2:sU X rest u):sU X (st::rest) (tSeq t u):=.of (Dw h1 h2.to)
theorem GR(h1:PS X st t)(h2:sU X rest u):sU X (st::rest) (Gv t u):=.of (G9 h1 h2.to)
theorem N6{c:Expr}{a b:List Stmt}{tc:TT}(hc:PT X c tc)(ha:sU X a t)(hb:sU X b u):PS X (.If c a b pos) (Ae tc t u):=N8 hc ha.to hb.to
theorem De{c:Expr}{body:List Stmt}{tc:TT}{tb:TS}(hp:PassesOwn (model X.prog X.w) X.A X.env X.xe)(hc:PT X c tc)(hb:sU X body tb):PS X (.While c body [] pos) (xK tc tb):=Dx hp hc hb.to
theorem Df{tg iter:Expr}{body:List Stmt}{wi:TI}{g:TG}{tb:TS}(hp:PassesOwn (model X.prog X.w) X.A X.env X.xe)(hc:X.calm=true)(hi:PI X tg iter wi)(hg:PG X tg g)(hb:sU X body tb)
  (hs:∀x,foldedSetIterable iter X.env x=pure x:=by intro _;rfl):PS X (.For tg iter body [] pos) (Gs wi g tb):=Kt hp hc hi hg hb.to hs
end
theorem lM.okK{P:Program}{w:World}{K:PySem.W.Frag}{mg:Str->Option Value}{base:Heap}{x qual:Str}{st:Stmt}{f:Addr}{fd:FuncData}{N ps:List Str}{k:Nat}{sp:Sp}(F:lM K x qual st f fd)(S:bt N ps (av st))(len:∀vs H Q E,sp vs H Q E->vs.length=ps.length)
  (rW:∀(eF:Value) (A:Around) (outer:List Env) (s:Shared) (H:Hp) (vs:List V) (Q:VK) (E:XK),fo k (A.deeper (envOfC qual (av st) s.heap.objs.size f eF))->sp vs H Q E->
   HC (qt jJ P w K mg base N qual (av st) f eF A outer s H E).Ge N (av st)->(∀x,(qt jJ P w K mg base N qual (av st) f eF A outer s H E).Ge.fn x=true)->
   ∃t,sU (qt jJ P w K mg base N qual (av st) f eF A outer s H E).Ge (bf st) t/\t { nx:=λ_ H'=>Q .non H',rt:=Q } (start N vs) H):cE P w K mg base jJ (k+1) f fd ps sp:=
 F.ok S len λeF A outer s H vs Q E hr h=>let ⟨t,h1,h2⟩:=rW eF A outer s H vs Q E hr h ⟨rfl,rfl⟩ λ_=>rfl;⟨t,h1.to,h2⟩
end L2
namespace L2
open PySem PySem.Spec PyProof.Rows
def vG(J:It)(g:TG)(tb:TS)(D:Ends)(σ:St)(H:Hp):Prop:=∃W:Nat->Nat->St->Hp->Prop,(∃m,W 0 m σ H)/\∀i m σ H,W i m σ H->
 (J.stop i H/\D.nx σ H)\/(J.go i H/\∃N:St->Hp->Prop,(∀σ' H',N σ' H'->∃m',m'<m/\W (i+1) m' σ' H')/\∀x H',J.y9 i H x H'->g x σ H' λσ2 H2=>tb { D with nx:=N,ct:=N,bk:=D.nx } σ2 H2)
theorem uD{wi:TI}{g:TG}{tb:TS}{D:Ends}{σ:St}{H:Hp}:Gs wi g tb D σ H=wi σ H (λJ H1=>vG J g tb D σ H1):=rfl
def ip(J:It)(k:Nat)(idx:List Nat)(g:CB->TG)(tt:CB->TT)(te:CB->TE)(σ:St)(Q:VK)(H1:Hp):Prop:=∀D,H1 D=none->∃W:Nat->Nat->List V->Hp->Prop,(∃m,W 0 m [] (upd H1 D (.lst [])))/\
 ∀i m ys H',W i m ys H'->(J.stop i H'/\Q (.ref D) H')\/(J.go i H'/\∃N:List V->Hp->Prop,(∀m7 iT,N m7 iT->∃m',m'<m/\W (i+1) m' m7 iT)/\∀(c:CB) (own:St),own.length=k->∀x H2,J.y9 i H' x H2->g c x (own++bL σ idx) H2 λσ3 H3=>
  (∃dz,dz.length=k/\σ3=dz++bL σ idx)/\tt c σ3 H3 λb H4=>if b=true then te c σ3 H4 λy H5=>H5 D=some (.lst ys)/\ys.length<sizeLine/\N (ys++[y]) (upd H5 D (.lst (ys++[y]))) else N ys H4)
theorem qX{wi:TI}{k:Nat}{idx:List Nat}{g:CB->TG}{tt:CB->TT}{te:CB->TE}{σ:St}{H:Hp}{Q:VK}:ox wi k idx g tt te σ H Q=wi σ H (λJ H1=>ip J k idx g tt te σ Q H1):=rfl
theorem gA{lo:Int}{n:Nat}{g:TG}{tb:TS}{D:Ends}{σ:St}{H:Hp}(Pv:Nat->St->Hp->Prop)(h0:Pv 0 σ H)
  (hs:∀i σ H,i<n->Pv i σ H->g (.int (lo+i)) σ H λσ2 H2=>tb { D with nx:=Pv (i+1),ct:=Pv (i+1),bk:=D.nx } σ2 H2) (hd:∀σ H,Pv n σ H->D.nx σ H):vG (yS lo n) g tb D σ H:=Bk Pv h0 hs hd
theorem wL{K:PySem.W.Frag}{a:Addr}{xs:List V}{g:TG}{tb:TS}{D:Ends}{σ:St}{H:Hp}(Pv:Nat->St->Hp->Prop)(h0:Pv 0 σ H)(hl:∀i σ H,i<=xs.length->Pv i σ H->H a=some (.lst xs))
  (hs:∀i x σ H,xs[i]?=some x->Pv i σ H->g x σ H λσ2 H2=>tb { D with nx:=Pv (i+1),ct:=Pv (i+1),bk:=D.nx } σ2 H2) (hd:∀σ H,Pv xs.length σ H->D.nx σ H):vG (xj K a) g tb D σ H:=
 Fb Pv h0 (λi σ H hi p=>bB (hl i σ H hi p)) hs hd
theorem yz{K:PySem.W.Frag}{a:Addr}{xs:List V}{g:TG}{tb:TS}{D:Ends}{σ:St}{H:Hp}(Pv:Nat->St->Hp->Prop)(h0:Pv 0 σ H)(hl:∀i σ H,i<=xs.length->Pv i σ H->H a=some (.tup xs))
  (hs:∀i x σ H,xs[i]?=some x->Pv i σ H->g x σ H λσ2 H2=>tb { D with nx:=Pv (i+1),ct:=Pv (i+1),bk:=D.nx } σ2 H2) (hd:∀σ H,Pv xs.length σ H->D.nx σ H):vG (Iy K a) g tb D σ H:=
 Ih Pv h0 (λi σ H hi p=>bR (hl i σ H hi p)) hs hd
theorem mK{lo:Int}{n:Nat}{idx:List Nat}{tt:CB->TT}{te:CB->TE}{σ:St}{Q:VK}{H1:Hp}(Pv:Addr->Nat->List V->Hp->Prop)(h0:∀D,H1 D=none->Pv D 0 [] (upd H1 D (.lst [])))
  (hs:∀D,H1 D=none->∀i ys H,i<n->Pv D i ys H->∀(c:CB),tt c (some (.int (lo+i))::bL σ idx) H λb H4=>if b=true then te c (some (.int (lo+i))::bL σ idx) H4 λy H5=>H5 D=some (.lst ys)/\ys.length<sizeLine/\Pv D (i+1) (ys++[y]) (upd H5 D (.lst (ys++[y]))) else Pv D (i+1) ys H4)
  (hd:∀D,H1 D=none->∀ys H,Pv D n ys H->Q (.ref D) H):ip (yS lo n) 1 idx (λ_=>cL 0) tt te σ Q H1:=
 λD hD=>wO (Pv D) (h0 D hD) (hs D hD) (hd D hD)
theorem ik{K:PySem.W.Frag}{a:Addr}{zs:List V}{idx:List Nat}{tt:CB->TT}{te:CB->TE}{σ:St}{Q:VK}{H1:Hp}(Pv:Addr->Nat->List V->Hp->Prop)(h0:∀D,H1 D=none->Pv D 0 [] (upd H1 D (.lst [])))
  (hl:∀D,H1 D=none->∀i ys H,i<=zs.length->Pv D i ys H->H a=some (.lst zs))
  (hs:∀D,H1 D=none->∀i x ys H,zs[i]?=some x->Pv D i ys H->∀(c:CB),tt c (some x::bL σ idx) H λb H4=>if b=true then te c (some x::bL σ idx) H4 λy H5=>H5 D=some (.lst ys)/\ys.length<sizeLine/\Pv D (i+1) (ys++[y]) (upd H5 D (.lst (ys++[y]))) else Pv D (i+1) ys H4)
  (hd:∀D,H1 D=none->∀ys H,Pv D zs.length ys H->Q (.ref D) H):ip (xj K a) 1 idx (λ_=>cL 0) tt te σ Q H1:=
 λD hD=>yG (Pv D) (h0 D hD) (λi ys H hi p=>bB (hl D hD i ys H hi p)) (hs D hD) (hd D hD)
end L2
namespace L2
open PySem PySem.Spec PyProof.Rows
def xM(ss:List Str):TA:=λ_ H Q=>Q (List.map V.str ss) H
structure ZE(X:Cx)(e:Expr)(t:TE):Prop where
 to:PE X e t
structure ZT(X:Cx)(e:Expr)(t:TT):Prop where
 to:PT X e t
structure ZW(X:Cx)(e:Expr)(t:TT):Prop where
 to:PW X e t
structure ZA(X:Cx)(e:List Expr)(t:TA):Prop where
 to:PA X e t
structure ZS(X:Cx)(e:Stmt)(t:TS):Prop where
 to:PS X e t
structure FX(X:Cx)(e:List Stmt)(t:TS):Prop where
 to:vD X e t
structure ZG(X:Cx)(e:Expr)(t:TG):Prop where
 to:PG X e t
structure RZ(X:Cx)(e:List Expr)(t:Gm):Prop where
 to:QL X e t
structure FZ(X:Cx)(e:List Expr)(t:TT):Prop where
 to:qv X e t
structure ZO(X:Cx)(e:Option Expr)(t:TO):Prop where
 to:PO X e t
structure ZI(X:Cx)(tg iter:Expr)(t:TI):Prop where
 to:PI X tg iter t
theorem cy{X:Cx}{b:Bool}{j:Nat}{pos:Pos}:ZE X (Expr.Constant (Const.bool b) j pos) (tC (V.bl b)):=⟨Od⟩
theorem ah{X:Cx}{i:Int}{j:Nat}{pos:Pos}:ZE X (Expr.Constant (Const.int i) j pos) (tC (V.int i)):=⟨KJ⟩
theorem aZ{X:Cx}{x:Str}{j:Nat}{pos:Pos}:ZE X (Expr.Constant (Const.str x) j pos) (tC (V.str x)):=⟨Ky⟩
theorem qy{X:Cx}{j:Nat}{pos:Pos}:ZE X (Expr.Constant Const.none j pos) (tC V.non):=⟨KD⟩
theorem ai{X:Cx}{N:List Str}{sc:Scope}{x:Str}{pos:Pos}(h1:HC X N sc)(i:Nat)(h2:TY N sc i x=true:=by decide +kernel):ZE X (Expr.Name x pos) (uC i):=⟨pvk h1 i h2⟩
theorem dw{X:Cx}{x:Str}{v:V}{u:Value}{pos:Pos}(h1:Gl X x)(h2:Cx.mg X x=none)(h3:bootBuiltins x=some u)(h4:RelV v u)(h5:autoParam (x≠Str.ofString "__name__") uT._auto_1)(h6:autoParam ((x==Str.ofString "__debug__")=false) uT._auto_2):ZE X (Expr.Name x pos) (tC v):=⟨uT h1 h2 h3 h4 h5 h6⟩
theorem aV{X:Cx}{es:List Expr}{t:TA}{pos:Pos}(h1:ZA X es t):ZE X (Expr.List es pos) (CJ t):=⟨KH h1.to⟩
theorem aY{X:Cx}{es:List Expr}{t:TA}{pos:Pos}{x1:Nat}(h1:ZA X es t):ZE X (Expr.Tuple es x1 pos) (Cw t):=⟨Kx h1.to⟩
theorem z9{X:Cx}{pos:Pos}:ZE X (Expr.Dict [] [] pos) qV:=⟨DR⟩
theorem aF{X:Cx}{a b:Expr}{ta tb:TE}{pos:Pos}{op:Operator}{r:R2}(h1:kc X (binaryOp op) r)(h2:ZE X a ta)(h3:ZE X b tb):ZE X (Expr.BinOp a op b pos) (BK r ta tb):=⟨Ob h1 h2.to h3.to⟩
theorem y8{X:Cx}{a:Expr}{ta:TE}{pos:Pos}(h1:ZE X a ta):ZE X (Expr.UnaryOp UnaryOp.Not a pos) (vU ta):=⟨KC h1.to⟩
theorem JH{X:Cx}{a:Expr}{ta:TE}{pos:Pos}{op:UnaryOp}{r:V->Hp->VK->Prop}(h1:R0 X (unaryOp op) r)(h2:ZE X a ta):ZE X (Expr.UnaryOp op a pos) (Nq r ta):=⟨Oa h1 h2.to⟩
theorem bP{X:Cx}{a b:Expr}{ta tb:TE}{pos:Pos}{op:CmpOp}{r:R2}(h1:kc X (compareOp op) r)(h2:ZE X a ta)(h3:ZE X b tb)(h4:behindInMarks op b=false):ZE X (Expr.Compare a [op] [b] pos) (BK r ta tb):=⟨Hj h1 h2.to h3.to h4⟩
theorem gE{X:Cx}{a:Expr}{pos:Pos}{op:BoolOp}{t:TE}(h1:ZE X a t):ZE X (Expr.BoolOp op [a] pos) t:=⟨Kz h1.to⟩
theorem df{X:Cx}{a b:Expr}{ta tb:TE}{pos:Pos}{rest:List Expr}(h1:ZE X a ta)(h2:ZE X (Expr.BoolOp BoolOp.And (b::rest) pos) tb):ZE X (Expr.BoolOp BoolOp.And (a::b::rest) pos) (vX ta tb):=⟨KQ h1.to h2.to⟩
theorem jO{X:Cx}:ZO X none ow:=⟨Hc⟩
theorem jN{X:Cx}{e:Expr}{te:TE}(h1:ZE X e te):ZO X (some e) (vT te):=⟨Hb h1.to⟩
theorem iu{X:Cx}{e:Expr}{te:TE}{lo hi:Option Expr}{tl th:TO}{pos p2:Pos}{r:V->Option Int->Option Int->Hp->VK->Prop}(h1:JF X r)(h2:ZE X e te)(h3:ZO X lo tl)(h4:ZO X hi th):ZE X (Expr.Subscript e (Expr.Slice lo hi none p2) pos) (Nr r te tl th):=⟨DQ h1 h2.to h3.to h4.to⟩
theorem aB{X:Cx}{a b:Expr}{ta tb:TE}{pos:Pos}{r:R2}(h1:Iw X r)(h2:ZE X a ta)(h3:ZE X b tb)(h4:z8 b):ZE X (Expr.Subscript a b pos) (BK r ta tb):=⟨Oc h1 h2.to h3.to h4⟩
theorem bI{X : Cx}{N : List Str}{gh : Scope}{elt target iter : Expr}{ifs : List Expr}{scope : Scope}{pos : Pos}{wi : TI}{g : CB → TG}{tt : CB → TT}{te : CB → TE}(h1 : HC X N gh)(xs : List Str)(idx : List Nat)(h2 : Cx.calm X=true)(h3 : Bn gh N scope idx=true)(h4 : ZI X target iter wi)(h5 : (∀ (c : CB),
                HC (lD X scope (xs++bz (Cx.N X) idx) c) (xs++bz N idx) (bU scope gh) →
                  ZG (lD X scope (xs++bz (Cx.N X) idx) c) target (g c))) (h6 : (∀ (c : CB),
                  HC (lD X scope (xs++bz (Cx.N X) idx) c) (xs++bz N idx) (bU scope gh) →
                    FZ (lD X scope (xs++bz (Cx.N X) idx) c) ifs (tt c))) (h7 : (∀ (c : CB),
                    HC (lD X scope (xs++bz (Cx.N X) idx) c) (xs++bz N idx) (bU scope gh) →
                      ZE (lD X scope (xs++bz (Cx.N X) idx) c) elt (te c))) (h8 : autoParam (∀ (x : Value), foldedSetIterable iter (Cx.env X) x=pure x) wm._auto_1) : ZE X (Expr.ListComp elt [{ target := target, iter := iter, ifs := ifs, is_async := 0 }] scope pos)
                      (ox wi (List.length xs) idx g tt te) := ⟨wm h1 xs idx h2 h3 h4.to (λc z => (h5 c z).to) (λc z => (h6 c z).to) (λc z => (h7 c z).to) h8⟩
theorem ag{X:Cx}:ZA X [] Ad:=⟨KR⟩
theorem ae{X:Cx}{e:Expr}{es:List Expr}{te:TE}{t:TA}(h1:ZE X e te)(h2:ZA X es t)(h3:autoParam (starEach (e::es) (Cx.env X)=(false,eval e (Cx.env X))::starEach es (Cx.env X)) zx._auto_1):ZA X (e::es) (qW te t):=⟨zx h1.to h2.to h3⟩
theorem Gp{X : Cx}{pos : Pos}{es : List Expr}{k : Nat}{t : Gm}{n : Nat}(h1 : Cx.calm X=true)(h2 : RZ X es t)(h3 : autoParam (List.length (assignEach es (Cx.env X))=n) yb._auto_1)(h4 : autoParam (List.findIdx? (λ(x : Bool × (Value → Sem Unit)) => Prod.fst x) (assignEach es (Cx.env X))=none)
            yb._auto_2) : ZG X (Expr.Tuple es k pos) (Ie (Cx.K X) n t) := ⟨yb h1 h2.to h3 h4⟩
theorem ic{X:Cx}{N:List Str}{sc:Scope}{x:Str}{pos:Pos}(h1:HC X N sc)(h2:List.Nodup N)(i:Nat)(h3:Au N sc i x=true):ZG X (Expr.Name x pos) (cL i):=⟨pgb h1 h2 i h3⟩
theorem bV{X:Cx}:FZ X [] Cv:=⟨DG⟩
theorem dB{X:Cx}{e:Expr}{t:TT}(h1:ZT X e t):FZ X [e] t:=⟨Dz h1.to⟩
theorem Cq{X:Cx}:RZ X [] Ig:=⟨Hf⟩
theorem tF{X : Cx}{e : Expr}{es : List Expr}{t : TG}{u : Gm}(h1 : ZG X e t)(h2 : RZ X es u)(h3 : autoParam
          (List.map (λ(x : Bool × (Value → Sem Unit)) => Prod.snd x) (assignEach (e::es) (Cx.env X)) =
            assign e (Cx.env X) ::
              List.map (λ(x : Bool × (Value → Sem Unit)) => Prod.snd x) (assignEach es (Cx.env X)))
          wk._auto_1) : RZ X (e::es) (zQ t u) := ⟨wk h1.to h2.to h3⟩
theorem dU{X:Cx}{tg a:Expr}{ta:TA}{p pos:Pos}(h1:Gl X (Str.ofString "range"))(h2:Cx.mg X (Str.ofString "range")=none)(h3:ZA X [a] ta)(h4:autoParam (starEach [a] (Cx.env X)=[(false,eval a (Cx.env X))]) tP._auto_1):ZI X tg (Expr.Call (Expr.Name (Str.ofString "range") p) [a] [] pos) (wG ta):=⟨tP h1 h2 h3.to h4⟩
theorem xD{X : Cx}{tg a b : Expr}{ta : TA}{p pos : Pos}(h1 : Gl X (Str.ofString "range"))(h2 : Cx.mg X (Str.ofString "range")=none)(h3 : ZA X [a, b] ta)(h4 : autoParam (starEach [a, b] (Cx.env X)=[(false, eval a (Cx.env X)), (false, eval b (Cx.env X))])
            o4._auto_1) (h5 : autoParam (starEach [b] (Cx.env X)=[(false, eval b (Cx.env X))]) o4._auto_2) : ZI X tg (Expr.Call (Expr.Name (Str.ofString "range") p) [a, b] [] pos) (wF ta) := ⟨o4 h1 h2 h3.to h4 h5⟩
theorem dv{X:Cx}{tg l:Expr}{tl:TE}(h1:ZE X l tl):ZI X tg l (wH (Cx.K X) tl):=⟨He h1.to⟩
theorem fh{X:Cx}{tg l:Expr}{tl:TE}(h1:ZE X l tl):ZI X tg l (Ek (Cx.K X) tl):=⟨Kw h1.to⟩
theorem aE{X:Cx}{a b:Expr}{ta tb:TE}{pos:Pos}{op:CmpOp}{r:R2}(h1:kc X (compareOp op) r)(h2:ZE X a ta)(h3:ZE X b tb)(h4:behindInMarks op b=false):ZT X (Expr.Compare a [op] [b] pos) (tI (BK r ta tb)):=⟨G6 h1 h2.to h3.to h4⟩
theorem cU{X:Cx}{a:Expr}{pos:Pos}{tA:TT}(h1:ZT X a tA):ZT X (Expr.UnaryOp UnaryOp.Not a pos) (CG tA):=⟨Kq h1.to⟩
theorem gj{X:Cx}{e:Expr}{t:TT}(h1:ZW X e t):ZT X e t:=⟨PW.pt h1.to⟩
theorem bX{X:Cx}{e:Expr}{t:TE}(h1:ZE X e t)(h2:autoParam
    (∀(whole:Sem Value),
     PySem.isTrue e (Cx.env X) whole=do
      let v <-whole
      standAt (Expr.pos e)
      holding [v] (truthy v))
    Dv._auto_1):ZT X e (tB t):=⟨Dv h1.to h2⟩
theorem gK{X:Cx}{a:Expr}{pos:Pos}{tA:TT}(h1:ZT X a tA):ZW X (Expr.BoolOp BoolOp.And [a] pos) tA:=⟨G5 h1.to⟩
theorem gD{X:Cx}{a:Expr}{pos:Pos}{tA:TT}(h1:ZT X a tA):ZW X (Expr.BoolOp BoolOp.Or [a] pos) tA:=⟨Km h1.to⟩
theorem jc{X:Cx}{a b:Expr}{pos:Pos}{tA Gb:TT}{rest:List Expr}(h1:ZT X a tA)(h2:ZW X (Expr.BoolOp BoolOp.And (b::rest) pos) Gb):ZW X (Expr.BoolOp BoolOp.And (a::b::rest) pos) (CK tA Gb):=⟨Kn h1.to h2.to⟩
theorem fQ{X:Cx}{a b:Expr}{pos:Pos}{tA Gb:TT}{rest:List Expr}(h1:ZT X a tA)(h2:ZW X (Expr.BoolOp BoolOp.Or (b::rest) pos) Gb):ZW X (Expr.BoolOp BoolOp.Or (a::b::rest) pos) (Nt tA Gb):=⟨N7 h1.to h2.to⟩
theorem aq{X : Cx}{CX : Ca}{k : Nat}{f : Addr}{fd : FuncData}{ps : List Str}{sp : Sp}{pq : List V}{ds : List Value}{E : XK}{x : Str}{p pos : Pos}{e : Expr}{es : List Expr}{t : TA}(h1 : cE (Cx.prog X) (Cx.w X) (Cx.K X) (Cx.mg X) (Cx.base X) CX k f fd ps sp)(h2 : fo k (Cx.A X))(h3 : Gl X x)(h4 : Cx.mg X x=some (Value.ref f))(h5 : W.keepIn (Cx.K X) (Value.ref f)=true)(h6 : Binds (Cx.K X) fd ps ds)(h7 : Vals pq ds)(h8 : Passes CX X E)(h9 : ZA X (e::es) t)(L8 : autoParam ((x==Str.ofString "__debug__")=false) qD._auto_1)(L7 : autoParam (starEach (e::es) (Cx.env X)=(false, eval e (Cx.env X))::starEach es (Cx.env X))
                          qD._auto_2) (L5 : autoParam
                            ((List.any (backTo pos (starEach es (Cx.env X))) λ(x : Bool × Sem Value) => Prod.fst x) =
                              false)
                            qD._auto_3) : ZE X (Expr.Call (Expr.Name x p) (e::es) [] pos) (tK sp pq E t) := ⟨qD h1 h2 h3 h4 h5 h6 h7 h8 h9.to L8 L7 L5⟩
theorem bQ{X : Cx}{x : Str}{p pos : Pos}{e : Expr}{es : List Expr}{t : TA}{T : String}{r : List V → Hp → VK → Prop}(h1 : eQ X (Value.type T) r)(h2 : Gl X x)(h3 : Cx.mg X x=none)(h4 : bootBuiltins x=some (Value.type T))(h5 : ZA X (e::es) t)(h6 : autoParam (x ≠ Str.ofString "__name__") jZ._auto_1)(h7 : autoParam ((x==Str.ofString "__debug__")=false) jZ._auto_2)(h8 : autoParam (starEach (e::es) (Cx.env X)=(false, eval e (Cx.env X))::starEach es (Cx.env X))
                    jZ._auto_3) (h9 : autoParam
                      ((List.any (backTo pos (starEach es (Cx.env X))) λ(x : Bool × Sem Value) => Prod.fst x) =
                        false)
                      jZ._auto_4) : ZE X (Expr.Call (Expr.Name x p) (e::es) [] pos) (JT r t) := ⟨jZ h1 h2 h3 h4 h5.to h6 h7 h8 h9⟩
theorem az{X : Cx}{x : Str}{p pos : Pos}{e : Expr}{es : List Expr}{t : TA}{id : String}{r : List V → Hp → VK → Prop}(h1 : eQ X (Value.builtin id) r)(h2 : Gl X x)(h3 : Cx.mg X x=none)(h4 : bootBuiltins x=some (Value.builtin id))(h5 : ZA X (e::es) t)(h6 : autoParam (x ≠ Str.ofString "__name__") lX._auto_1)(h7 : autoParam ((x==Str.ofString "__debug__")=false) lX._auto_2)(h8 : autoParam (starEach (e::es) (Cx.env X)=(false, eval e (Cx.env X))::starEach es (Cx.env X))
                    lX._auto_3) (h9 : autoParam
                      ((List.any (backTo pos (starEach es (Cx.env X))) λ(x : Bool × Sem Value) => Prod.fst x) =
                        false)
                      lX._auto_4) : ZE X (Expr.Call (Expr.Name x p) (e::es) [] pos) (JT r t) := ⟨lX h1 h2 h3 h4 h5.to h6 h7 h8 h9⟩
theorem js{X : Cx}{o e : Expr}{es : List Expr}{to : TE}{t : TA}{name : Str}{apos pD : Pos}{T id : String}{r : V → List V → Hp → VK → Prop}(h1 : PlainAttrs T)(h2 : Slot T name id)(h3 : typeOf (Value.builtin id)=pure (Value.type "method_descriptor"))(h4 : MtR X id r)(h5 : ZE X o to)(h6 : ZA X (e::es) t)(h7 : autoParam (attributeBase o name (Cx.env X) (eval o (Cx.env X))=eval o (Cx.env X)) tQ._auto_1)(h8 : autoParam
                    ((((List.all (backTo pD (starEach (e::es) (Cx.env X))) λ(x : Bool × Sem Value) =>
                            !Prod.fst x) &&
                          List.all (backToKw pD (keywordEach [] (Cx.env X))) λ(x : Option Str × Sem Value) =>
                            Option.isSome (Prod.fst x)) &&
                        decide
                          ((List.length (e::es)+List.length ([] : List Keyword)+if List.isEmpty ([] : List Keyword)=true then 0 else 1)<30)) =
                      true)
                    tQ._auto_2) (h9 : autoParam ((Pos.endLine apos==Pos.line pD)=true) tQ._auto_3) (L8 : autoParam (starEach (e::es) (Cx.env X)=(false, eval e (Cx.env X))::starEach es (Cx.env X))
                        tQ._auto_4) (L7 : autoParam
                          ((List.any (backTo pD (starEach es (Cx.env X))) λ(x : Bool × Sem Value) => Prod.fst x) =
                            false)
                          tQ._auto_5) : ZE X (Expr.Call (Expr.Attribute o name apos) (e::es) [] pD) (Nu (Cx.K X) T r to t) := ⟨tQ h1 h2 h3 h4 h5.to h6.to h7 h8 h9 L8 L7⟩
theorem aG{X:Cx}{e:Expr}{te:TE}{pos:Pos}(h1:ZE X e te):ZS X (Stmt.Return (some e) pos) (Cz te):=⟨Ks h1.to⟩
theorem cI{X:Cx}{e:Expr}{te:TE}{pos:Pos}(h1:ZE X e te)(h2:autoParam (swapsWith e none (Pos.line pos) (Cx.env X)=pure false) zq._auto_1):ZS X (Stmt.Expr e pos) (vV te):=⟨zq h1.to h2⟩
theorem iq{X : Cx}{N : List Str}{gh : Scope}{elt target iter : Expr}{ifs : List Expr}{scope : Scope}{pos spos py : Pos}{wi : TI}{g : CB → TG}{tt : CB → TT}{te : CB → TE}{y : Str}(h1 : HC X N gh)(h2 : List.Nodup N)(i : Nat)(h3 : Au N gh i y=true)(xs : List Str)(idx : List Nat)(h4 : Cx.calm X=true)(h5 : Bn gh N scope idx=true)(h6 : ZI X target iter wi)(h7 : (∀ (c : CB),
                      HC (lD X scope (xs++bz (Cx.N X) idx) c) (xs++bz N idx) (bU scope gh) →
                        ZG (lD X scope (xs++bz (Cx.N X) idx) c) target (g c))) (h8 : (∀ (c : CB),
                        HC (lD X scope (xs++bz (Cx.N X) idx) c) (xs++bz N idx) (bU scope gh) →
                          FZ (lD X scope (xs++bz (Cx.N X) idx) c) ifs (tt c))) (h9 : (∀ (c : CB),
                          HC (lD X scope (xs++bz (Cx.N X) idx) c) (xs++bz N idx) (bU scope gh) →
                            ZE (lD X scope (xs++bz (Cx.N X) idx) c) elt (te c))) (L8 : swapsWith
                              (Expr.ListComp elt [{ target := target, iter := iter, ifs := ifs, is_async := 0 }] scope
                                pos)
                              (some (Expr.Name y py)) (Pos.line spos) (Cx.env X) =
                            pure true) (L7 : autoParam (∀ (x : Value), foldedSetIterable iter (Cx.env X) x=pure x) wg._auto_1) : ZS X
                              (Stmt.Assign [Expr.Name y py]
                                (Expr.ListComp elt [{ target := target, iter := iter, ifs := ifs, is_async := 0 }] scope
                                  pos)
                                spos)
                              (qY (ox wi (List.length xs) idx g tt te) (cL i)) := ⟨wg h1 h2 i h3 xs idx h4 h5 h6.to (λc z => (h7 c z).to) (λc z => (h8 c z).to) (λc z => (h9 c z).to) L8 L7⟩
theorem aH{X:Cx}{N:List Str}{sc:Scope}{x:Str}{pos:Pos}{e:Expr}{te:TE}{pos':Pos}(h1:HC X N sc)(h2:List.Nodup N)(h3:(∀(x:Str),Cx.fn X x=true))(i:Nat)(h4:Gd N sc i x=true)(h5:ZE X e te)(h6:autoParam (swapsWith e (some (Expr.Name x pos')) (Pos.line pos) (Cx.env X)=pure false) zp._auto_1):ZS X (Stmt.Assign [Expr.Name x pos'] e pos) (qY te (cL i)):=⟨zp h1 h2 h3 i h4 h5.to h6⟩
theorem jd{X : Cx}{pos : Pos}{tg e : Expr}{te : TE}{g : TG}(h1 : ZE X e te)(h2 : ZG X tg g)(h3 : autoParam (swapsWithSole [tg] e (Pos.line pos) (Cx.env X)=pure false) uR._auto_1)(h4 : autoParam (swappedStores [tg] e (Cx.env X)=pure none) uR._auto_2)(h5 : autoParam
              (List.map (λ(x : Bool × (Value → Sem Unit)) => Prod.snd x) (assignEach [tg] (Cx.env X)) =
                [assign tg (Cx.env X)])
              uR._auto_3) : ZS X (Stmt.Assign [tg] e pos) (qY te g) := ⟨uR h1.to h2.to h3 h4 h5⟩
theorem ke{X : Cx}{pos : Pos}{o i : Expr}{to ti : TE}{t : yP}(h1 : ZE X o to)(h2 : ZE X i ti)(h3 : By X t)(h4 : autoParam
            (∀ (v : Value),
              assign (Expr.Subscript o i pos) (Cx.env X) v=do
                let ov ← holding [v] (eval o (Cx.env X))
                let iv ← holding [v, ov] (eval i (Cx.env X))
                standAt pos
                holding [v, ov, iv] (setItem ov iv v)
                release [v, ov, iv] [])
            DN._auto_1) : ZG X (Expr.Subscript o i pos) (EY to ti t) := ⟨DN h1.to h2.to h3 h4⟩
theorem vP{X : Cx}{pos : Pos}{o i e : Expr}{to ti te : TE}{xJ : V → V → Hp → VK → Prop}{JP : Iu}{xI : yP}{op : Operator}{Gr : Pos}(h1 : ZE X o to)(h2 : ZE X i ti)(h3 : Mx X xJ)(h4 : ZE X e te)(h5 : Mw X op JP)(h6 : By X xI)(h7 : autoParam
                  (∀ (ov iv new : Value),
                    augStore i ov iv new=do
                      holding [new, ov, iv] (setItem ov iv new)
                      release [new, ov, iv] []
                      pure Flow.next)
                  zr._auto_1) : ZS X (Stmt.AugAssign (Expr.Subscript o i Gr) op e pos) (vW to ti te xJ JP xI) := ⟨zr h1.to h2.to h3 h4.to h5 h6 h7⟩
theorem Cp{X:Cx}{N:List Str}{sc:Scope}{x:Str}{pos:Pos}{e:Expr}{te:TE}{op:Operator}{ti:Iu}{pos':Pos}(h1:HC X N sc)(h2:List.Nodup N)(h3:(∀(x:Str),Cx.fn X x=true))(i:Nat)(h4:Gd N sc i x=true)(h5:ZE X e te)(h6:Mw X op ti):ZS X (Stmt.AugAssign (Expr.Name x pos') op e pos) (Gw i te ti):=⟨G' h1 h2 h3 i h4 h5.to h6⟩
theorem aW{X:Cx}{t u:TS}{pos:Pos}{c:Expr}{a b:List Stmt}{tc:TT}(h1:ZT X c tc)(h2:FX X a t)(h3:FX X b u):ZS X (Stmt.If c a b pos) (Ae tc t u):=⟨N6 h1.to (.of h2.to) (.of h3.to)⟩
theorem tE{X:Cx}{pos:Pos}{c:Expr}{body:List Stmt}{tc:TT}{tb:TS}(h1:PassesOwn (model (Cx.prog X) (Cx.w X)) (Cx.A X) (Cx.env X) (Cx.xe X))(h2:ZT X c tc)(h3:FX X body tb):ZS X (Stmt.While c body [] pos) (xK tc tb):=⟨De h1 h2.to (.of h3.to)⟩
theorem sC{X:Cx}{N:List Str}{sc:Scope}{x:Str}{pos:Pos}(h1:HC X N sc)(h2:List.Nodup N)(h3:(∀(x:Str),Cx.fn X x=true))(i:Nat)(h4:Gd N sc i x=true):ZG X (Expr.Name x pos) (cL i):=⟨pgk h1 h2 h3 i h4⟩
theorem jb{X:Cx}{pos:Pos}{tg iter:Expr}{body:List Stmt}{wi:TI}{g:TG}{tb:TS}(h1:PassesOwn (model (Cx.prog X) (Cx.w X)) (Cx.A X) (Cx.env X) (Cx.xe X))(h2:Cx.calm X=true)(h3:ZI X tg iter wi)(h4:ZG X tg g)(h5:FX X body tb)(h6:autoParam (∀(x:Value),foldedSetIterable iter (Cx.env X) x=pure x) Df._auto_1):ZS X (Stmt.For tg iter body [] pos) (Gs wi g tb):=⟨Df h1 h2 h3.to h4.to (.of h5.to) h6⟩
theorem aJ{X:Cx}:FX X [] tJ:=⟨sU.to GQ⟩
theorem au{X:Cx}{st:Stmt}{t:TS}(h1:ZS X st t):FX X [st] t:=⟨sU.to (GP h1.to)⟩
theorem ak{X:Cx}{st:Stmt}{rest:List Stmt}{t u:TS}(h1:ZS X st t)(h2:FX X rest u):FX X (st::rest) (tSeq t u):=⟨sU.to (Dd h1.to (.of h2.to))⟩
theorem gJ{X:Cx}{st:Stmt}{rest:List Stmt}{t u:TS}(h1:ZS X st t)(h2:FX X rest u):FX X (st::rest) (Gv t u):=⟨sU.to (GR h1.to (.of h2.to))⟩
theorem lM.nL{P:Program}{w:World}{K:PySem.W.Frag}{mg:Str->Option Value}{base:Heap}{x qual:Str}{st:Stmt}{f:Addr}{fd:FuncData}{N ps:List Str}{k:Nat}{sp:Sp}(F:lM K x qual st f fd)(S:bt N ps (av st))(len:∀vs H Q E,sp vs H Q E->vs.length=ps.length)
  (rW:∀(eF:Value) (A:Around) (outer:List Env) (s:Shared) (H:Hp) (vs:List V) (Q:VK) (E:XK),fo k (A.deeper (envOfC qual (av st) s.heap.objs.size f eF))->sp vs H Q E->
   HC (qt jJ P w K mg base N qual (av st) f eF A outer s H E).Ge N (av st)->(∀x,(qt jJ P w K mg base N qual (av st) f eF A outer s H E).Ge.fn x=true)->
   ∃t,FX (qt jJ P w K mg base N qual (av st) f eF A outer s H E).Ge (bf st) t/\t { nx:=λ_ H'=>Q .non H',rt:=Q } (start N vs) H):cE P w K mg base jJ (k+1) f fd ps sp:=
 F.okK S len λeF A outer s H vs Q E hr h hc hf=>let ⟨t,h1,h2⟩:=rW eF A outer s H vs Q E hr h hc hf;⟨t,.of h1.to,h2⟩
def byT(w:World):Bool:=w.params.followText "set-order"
def Xx(w:World)(p:Str×Tok):Int×Value:=(hashStr w p.1,.str p.1 p.2)
def NT(es:Array (Int×Value))(ep:Nat)(t:SetTable):Obj:={ cls:=.type "set",dict:=none,data:=.set es ep t }
structure Zy(w:World)(h:Heap)(a:Addr)(l:List (Str×Tok)):Prop where
 ex:∃es ep t,h.get? a=some (NT es ep t)/\es.toList=l.map (Xx w)/\t.fits es.size=true/\t.led = !byT w/\(l≠[]->t.plain=false)
 nd:(l.map (·.1)).Nodup
 sz:l.length<scanBound
theorem rY{α:Type}:∀(l:List α) (i:Nat) (x:α),l[i]?=some x->(x::l.eraseIdx i).Perm l
 | [],i,x,h=>by cases i <;> cases h
 | y::l,0,x,h=>by cases h;exact List.Perm.refl _
 | y::l,i+1,x,h=>by
  rw[List.getElem?_cons_succ]at h
  rw[List.eraseIdx_cons_succ]
  exact(List.Perm.swap y x _).trans ((rY l i x h).cons y)
section
variable {P:Program}{w:World}{A:Around}{E:Value->Shared->Prop}{s:Shared}{a:Addr}{l:List (Str×Tok)}
end
theorem Inv.same{X:Cx}{pins:List (Addr×Obj)}{σ:List (Option V)}{H:Hp}{s s':Shared}(I:Inv X pins σ H s)(hh:s'.heap=s.heap)(hg:s'.gens=s.gens)(ho:s'.os=s.os):Inv X pins σ H s':=
 ⟨I.ok,by rw[ho];exact I.os,by rw[hg];exact I.bare,by rw[hh];exact I.base,by rw[hh];exact I.loc,by rw[hh];exact I.cell,I.free,I.lC,by rw[hh];exact I.pin,by rw[hh];exact I.dN,I.len⟩
def TxS(w:World)(p:Addr)(ss:List Str):HO:=.ext λh=>∃l,Zy w h p l/\∀z,z∈l.map (·.1)↔z∈ss
theorem uB(K:PySem.W.Frag)(z:Str)(H:Hp):QW K "str" (.str z) H=True:=eq_true rfl
section
variable {X:Cx}
def Dh(w:World):List V->Hp->VK->Prop:=λvs H Q=>∃a,vs=[.ref a]/\∃ss:List Str,H a=some (.lst (ss.map V.str))/\ss.length<4000/\∀p,H p=none->Q (.ref p) (upd H p (TxS w p ss))
def rB(w:World):List V->Hp->VK->Prop:=λvs H Q=>∃a,vs=[.ref a]/\∃ss:List Str,H a=some (TxS w a ss)/\ss.length<64/\
 ∀ss':List Str,(∀z,z∈ss'↔z∈ss)->ss'.Nodup->sortedS ss'=true->∀p,H p=none->Q (.ref p) (upd H p (.lst (ss'.map V.str)))
def zm:List V->Hp->VK->Prop:=λvs H Q=>∃a,vs=[.ref a]/\∃bs:List Bool,H a=some (.lst (bs.map V.bl))/\Q (.bl (bs.all id)) H
theorem FK:∀{bs:List Bool} {us:List Value},Vals (bs.map V.bl) us->∀(i:Nat) (v:Value),us[i]?=some v->v=.bool (bs.getD i true):=by
 intro bs
 induction bs with
 | nil=>intro us r i v h;cases r;cases i <;> cases h
 | cons b bs ih=>
  intro us r i v h
  rw[jL]at r
  cases r with
  | cons r1 r2=>
   cases r1
   cases i with
   | zero=>cases h;rfl
   | succ i=>exact ih r2 i v (by simpa using h)
theorem all_range:∀(bs:List Bool),((List.range bs.length).all λi=>bs.getD i true)=bs.all id
 | []=>rfl
 | b::bs=>by
  rw[cR,List.range_succ_eq_map,vJ,sX,vJ,<-all_range bs]
  rfl
theorem fL(hh:X.A.handled=none):eQ X (.builtin "all") zm:=by
 intro pins s σ H vs us Q I rv h
 obtain⟨a,rfl,bs,hq,q⟩:=h
 obtain⟨u,rfl,ru⟩:=vals1 rv
 cases ru
 obtain⟨its,r,pl,hz⟩:=I.list (bB hq)
 have hl:=r.length
 rw[aP]at hl
 have lt:a<s.heap.objs.size:=let ⟨_,e,_⟩:=pl.isList;bS e
 refine call_all_walkS (wpAny_pyIter_list pl.isList ⟨s.heap.objs.size,_,_,_,its.toArray.size,_,_,λi=>bs.getD i true,rfl,(Walks.list (A:=X.A.in1) hh _ a (cZ lt) its.toArray).toS,⟨⟨_,iZ _ rfl,rfl,rfl⟩,(pl.isList).push _⟩,?_,λs' mv=>?_⟩)
 ·intro i v s1 Q1 E1 hv HN
  have:v=.bool (bs.getD i true):=FK r i v (by simpa using hv)
  subst this
  exact cn HN
 ·rw[cT,<-hl,all_range]
  have k:∀b o,s.heap.get? b=some o->s'.heap.get? b=some o:=λb o e=>mv.heap b o (λz=>absurd (bS e) (by rw[nE.mp z];exact lr _)) (gI _ e)
  have I1:Inv X pins σ H { s with heap:=s'.heap,toks:=s.toks }:=I.un (Un.kept k) (I.dN.kept k)
  exact⟨.bl (bs.all id),H,I1.same rfl mv.gens mv.os,rfl,q⟩
def Kl(neg:Bool):R2:=λx y H Q=>∃a b,x=.ref a/\y=.ref b/\∃hV,H a=some (.dK hV)/\H b=some (.dK hV)/\(∀kv∈hV,∃c,kv.2=.bl c)/\Q (.bl (!neg)) H
def rz:V->List V->Hp->VK->Prop:=λx vs H Q=>∃a b,x=.ref a/\vs=[.ref b]/\a≠b/\∃hV,H a=some (.dK hV)/\∃more,H b=some (.dK more)/\hV.length+more.length<=sizeLine/\Q .non (upd H a (.dK (K9 hV more)))
end
section
variable {X:Cx}{pins:List (Addr×Obj)}{s:Shared}{σ:St}{H:Hp}{A:Around}
theorem je{xs:List V}{us:List Value}{j:Nat}{x:V}(r:Vals xs us)(h:j<us.toArray.size)(e:xs[j]?=some x):RelV x us.toArray[j]:=by
 have h':j<us.length:=by simpa using h
 obtain⟨u,eu,ru⟩:=r.get e
 have:=bw h'
 rw[eu]at this
 have e1:us.toArray[j]=u:=by simpa using (dP this).symm
 rw[e1];exact ru
end
theorem jl{K:PySem.W.Frag}{a:Addr}{zs:List V}{idx:List Nat}{tt:CB->TT}{te:CB->TE}{σ:St}{Q:VK}{H1:Hp}(Pv:Addr->Nat->List V->Hp->Prop)(h0:∀D,H1 D=none->Pv D 0 [] (upd H1 D (.lst [])))
  (hl:∀D,H1 D=none->∀i ys H,i<=zs.length->Pv D i ys H->H a=some (.tup zs))
  (hs:∀D,H1 D=none->∀i x ys H,zs[i]?=some x->Pv D i ys H->∀(c:CB),tt c (some x::bL σ idx) H λb H4=>if b=true then te c (some x::bL σ idx) H4 λy H5=>H5 D=some (.lst ys)/\ys.length<sizeLine/\Pv D (i+1) (ys++[y]) (upd H5 D (.lst (ys++[y]))) else Pv D (i+1) ys H4)
  (hd:∀D,H1 D=none->∀ys H,Pv D zs.length ys H->Q (.ref D) H):ip (Iy K a) 1 idx (λ_=>cL 0) tt te σ Q H1:=by
 intro D hD
 refine⟨λi m ys H=>m=zs.length-i/\i<=zs.length/\Pv D i ys H,⟨zs.length,by simp,lq _,h0 D hD⟩,?_⟩
 rintro i m ys H ⟨rfl,hi,p⟩
 by_cases rS:i<zs.length
 ·refine .inr ⟨⟨zs,zs[i],bR (hl D hD i ys H hi p),bw rS⟩,Pv D (i+1),λm7 H' p'=>⟨zs.length-(i+1),by omega,rfl,rS,p'⟩,λc own ho y H' yl=>?_⟩
  obtain⟨e,hy⟩:=yl
  subst e
  have ey:=hy zs (bR (hl D hD i ys H' hi p))
  show(∃dz,dz.length=1/\(own++bL σ idx).set 0 _=dz++bL σ idx)/\tt c ((own++bL σ idx).set 0 _) H' _
  rw[KY ho]
  exact⟨⟨[_],rfl,rfl⟩,hs D hD i y ys H' ey p c⟩
 ·have e:i=zs.length:=by omega
  subst e
  exact .inl ⟨⟨zs,bR (hl D hD _ ys H hi p),cu _⟩,hd D hD ys H p⟩
section
variable {X:Cx}
def Dm(neg:Bool):R2:=λx y H Q=>∃c d,x=.bl c/\y=.bl d/\Q (.bl (if neg then c != d else c==d)) H
theorem K0:kc X (compareOp .Is) (Dm false):=by
 intro pins s σ H x y v u Q I rx ry h
 obtain⟨c,d,rfl,rfl,q⟩:=h
 cases rx;cases ry
 exact is_bool ⟨.bl _,H,I,rfl,q⟩
theorem zy:kc X (compareOp .IsNot) (Dm true):=by
 intro pins s σ H x y v u Q I rx ry h
 obtain⟨c,d,rfl,rfl,q⟩:=h
 cases rx;cases ry
 exact isnot_bool ⟨.bl _,H,I,rfl,q⟩
theorem Fx{prog:Program}{w:World}{A:Around}{E:Value->Shared->Prop}{s:Shared}{t b:Addr}{ws:List Value}{Q:Value->Shared->Prop}(ht:IsTup s.heap t (([]:List Value)).toArray)(hb:IsTup s.heap b ws.toArray)
  (h1:Q (.ref b) s):wpAny (model prog w) A (binaryOp .Add (.ref t) (.ref b)) Q E s:=by
 obtain⟨⟨cls,dd,data,sl⟩,ho,hc,n,hd⟩:=id ht
 obtain⟨⟨Yr,RQ,data2,MN⟩,Lq,Pl,n2,hd2⟩:=id hb
 simp only at hc hd Pl hd2
 subst hc hd Pl hd2
 exact concat_meets ⟨_,ho,rfl⟩ ⟨_,Lq,rfl⟩ noFill_tuple_add seq_tuple_add Cd Cg (Ci _ _)
   (tuple_addW0 t b _ ws.toArray n n2 dd RQ sl MN rfl) ⟨ho,Lq,h1⟩
def zk:R2:=λx y H Q=>∃a b,x=.ref a/\y=.ref b/\∃xs,H a=some (.tup xs)/\∃ys,H b=some (.tup ys)/\xs.length+ys.length<=sizeLine/\
 ∀p H',bF H H'->(∀c,c≠p->H' c=H c)->H' p=some (.tup (xs++ys))->Q (.ref p) H'
theorem gN:kc X (binaryOp .Add) zk:=by
 intro pins s σ H x y v u Q I rx ry h
 obtain⟨a,b,rfl,rfl,xs,ha,ys,hb,hz,q⟩:=h
 by_cases hx:xs=[]
 ·subst hx
  cases rx;cases ry
  obtain⟨its,r1,p1,_⟩:=I.tuple (bR ha)
  obtain⟨HF,r2,p2,_⟩:=I.tuple (bR hb)
  cases r1
  exact Fx p1 p2 ⟨.ref b,H,I,rfl,q b H (bF.refl H) (λ_ _=>rfl) hb⟩
 ·exact Hl pins s σ H _ _ v u Q I rx ry ⟨a,b,xs,ys,rfl,rfl,bR ha,bR hb,hx,hz,λe=>q a H (bF.refl H) (λ_ _=>rfl) (by rw[e,om];exact ha),λ_ p hp=>q p _ (λb u e=>by rw[aM (aQ e hp)];exact e) (λc hc=>aM hc) aj⟩
def ZC(lo st:Int)(n:Nat):It:=⟨λi _=>i<n,λi H x H'=>H'=H/\x=.int (lo+i*st),λi _=>n<=i⟩
def El(ta:TA):TI:=λσ H R=>ta σ H λvs H1=>∃i j:Int,vs=[.int i,.int j,.int 2]/\(0<=i/\i<=1000/\-1<=j/\j<=1000)/\R (ZC i 2 ((j-i+1) / 2).toNat) H1
end
end L2
end
section
namespace L2
open PySem PySem.Spec PyProof.Rows Builtin Builtin.Str
end L2
end
section
namespace L2
open PySem PySem.W PyProof.Rows
abbrev YW(p:Array Nat)(i:Nat):Nat:=p.getD i 0
def Zx(r:Keyed->Int)(l:List Keyed):Prop:=l.Pairwise λx y=>r x<=r y
section
variable {r:Keyed->Int}{a b o:Array Keyed}{x y k:Nat}
abbrev tot(a b:Array Keyed):List Keyed:=a.toList++b.toList
def Good(r:Keyed->Int)(a b R:Array Keyed):Prop:=R.toList.Perm (tot a b)/\Zx r R.toList
end
end L2
end
section
namespace L2
open PySem PySem.Spec PySem.W PyProof.Rows Builtin
def NP(x y:List Int):Bool:=decide (x.length<y.length)||(decide (x.length=y.length)&&HT.lexLt x y)
section
variable {X:Cx}{pins:List (Addr×Obj)}{σ:St}{H:Hp}{s:Shared}
structure Bz(X:Cx)(H:Hp)(s:Shared)(D S:Addr)(e1:Nat)(H':Hp)(s':Shared)(kA:Array Value):Prop where
 os:s'.os=s.os
 bare:AllBare s'.gens
 un:Un (E' X.stack) [] H H' s.heap s'.heap
 dN:pL X.prog X.w H' s'.heap
 same:bF H H'
 nD:H' D=none
 nS:H' S=none
 oD:s'.heap.get? D=some (seqObj "list" #[] e1)
 oS:∃e,s'.heap.get? S=some (seqObj "list" kA e)
end
def bD(H:Hp)(bs:List Addr)(ts:List (List Int)):Prop:=bs.length=ts.length/\∀(i:Nat) b t,bs[i]?=some b->ts[i]?=some t->H b=some (.tup (List.map V.int t))
def Kh(x:V)(H:Hp)(Q:VK):Prop:=∃d,x=.ref d/\∃hV ss,H d=some (.dT hV)/\hV.map (·.1)=ss.map (List.map Sum.inl)/\ss.length<100000/\
 ∀D H' bs ts,bF H H'->H D=none->H' D=some (.lst (List.map V.ref bs))->bD H' bs ts->ts.Perm ss->ts.Pairwise (λa b=>NP a b=true)->Q (.ref D) H'
def xN(te:TE):TE:=λσ H Q=>te σ H λx H1=>Kh x H1 Q
section
variable {X:Cx}
def QT(i j:Int):Prop:=0<j/\j<2 ^ 300
theorem wo:kc X (binaryOp .FloorDiv) (rI QT λi j=>.int (i / j)):=M0 λi j _ _ _ _ _ hc q=>by
 have h1:(0:Int)<j:=hc.1
 have h2:j<2 ^ 300:=hc.2
 refine floordiv_int (by omega) (by rw[Int.fdiv_eq_ediv_of_nonneg i (by omega)];exact q) (.inl (PyProof.noPylong_of_log2 ?_))
 have h3:j.natAbs<2 ^ 300:=by omega
 have h4:j.natAbs≠0:=by omega
 have:=(Nat.log2_lt h4).mpr h3
 omega
def zl:List V->Hp->VK->Prop:=λvs H Q=>∃a,vs=[.ref a]/\∃bs:List Bool,H a=some (.lst (bs.map V.bl))/\Q (.bl (bs.any id)) H
theorem Bu:∀{bs:List Bool} {us:List Value},Vals (bs.map V.bl) us->∀(i:Nat) (v:Value),us[i]?=some v->v=.bool (bs.getD i false):=by
 intro bs
 induction bs with
 | nil=>intro us r i v h;cases r;cases i <;> cases h
 | cons b bs ih=>
  intro us r i v h
  rw[jL]at r
  cases r with
  | cons r1 r2=>
   cases r1
   cases i with
   | zero=>cases h;rfl
   | succ i=>exact ih r2 i v (by simpa using h)
theorem any_range:∀(bs:List Bool),((List.range bs.length).any λi=>bs.getD i false)=bs.any id
 | []=>rfl
 | b::bs=>by
  rw[cR,List.range_succ_eq_map,sY,uo,sY,<-any_range bs]
  rfl
theorem pF(hh:X.A.handled=none):eQ X (.builtin "any") zl:=by
 intro pins s σ H vs us Q I rv h
 obtain⟨a,rfl,bs,hq,q⟩:=h
 obtain⟨u,rfl,ru⟩:=vals1 rv
 cases ru
 obtain⟨its,r,pl,hz⟩:=I.list (bB hq)
 have hl:=r.length
 rw[aP]at hl
 have lt:a<s.heap.objs.size:=let ⟨_,e,_⟩:=pl.isList;bS e
 refine call_any_walk (wpAny_pyIter_list pl.isList ⟨s.heap.objs.size,_,_,its.toArray.size,_,_,λi=>bs.getD i false,rfl,Walks.list (A:=X.A.in1) hh _ a (cZ lt) its.toArray,⟨⟨_,iZ _ rfl,rfl,rfl⟩,(pl.isList).push _⟩,?_,λh' tk mv=>?_⟩)
 ·intro i v s1 Q1 E1 hv HN
  have:v=.bool (bs.getD i false):=Bu r i v (by simpa using hv)
  subst this
  exact cn HN
 ·rw[cT,<-hl,any_range]
  have k:∀b o,s.heap.get? b=some o->h'.get? b=some o:=λb o e=>mv b o (λz=>absurd (bS e) (by rw[nE.mp z];exact lr _)) (gI _ e)
  exact⟨.bl (bs.any id),H,I.un (t':=tk) (Un.kept k) (I.dN.kept k),rfl,q⟩
variable {k:Nat}{f:Addr}{fd:FuncData}{pm g:Str}{e:Expr}{te:TE}{p kp aAg pos:Pos}
def uL:V->List V->Hp->VK->Prop:=λx vs H Q=>∃l i y,x=.ref l/\vs=[.int i,y]/\∃xs,H l=some (.lst xs)/\0<=i/\i<=xs.length/\xs.length<100000/\Q .non (upd H l (.lst (xs.take i.toNat++y::xs.drop i.toNat)))
end
end L2
namespace L2
open PySem PySem.Spec PySem.W PyProof.Rows Builtin
end L2
end
section
namespace L2
open PySem PySem.Spec PyProof.Rows
def ZD(K:PySem.W.Frag)(a:Addr)(n:Nat):It:=
 ⟨λi H=>i<n/\∃xs,og K H a xs/\xs.length=n,λi H x H'=>H'=H/\∀xs,og K H a xs->xs[n-1-i]?=some x,λi _=>i=n⟩
section
variable {X:Cx}{tg:Expr}
def Lh(K:PySem.W.Frag)(ta:TA):TI:=λσ H R=>ta σ H λvs H1=>∃a,vs=[.ref a]/\∃xs,og K H1 a xs/\R (ZD K a xs.length) H1
end
theorem sf{α:Type} [DecidableEq α] {cl dl:List α}:((List.range (min cl.length dl.length)).all (λj=>decide (cl[j]?=dl[j]?))&&cl.length==dl.length)=decide (cl=dl):=by
 rw[iV,eO,iX,tu,beq_iff_eq]
 constructor
 ·rintro⟨h,l⟩
  apply List.ext_getElem?
  intro i
  by_cases hi:i<cl.length
  ·exact of_decide_eq_true (h i (vK.mpr (by lia)))
  ·rw[y4 (by lia),y4 (by lia)]
 ·rintro rfl
  exact⟨λj _=>decide_eq_true rfl,rfl⟩
theorem oF:∀{x y:List Int},List.map V.int x=List.map V.int y->x=y
 | [],[],_=>rfl
 | [],_::_,h=>by cases h
 | _::_,[],h=>by cases h
 | a::x,b::y,h=>by
  rw[jL,jL]at h
  injection h with h1 h2
  rw[V.int.inj h1,oF h2]
section
variable {X:Cx}{pins:List (Addr×Obj)}{s:Shared}{σ:St}{H:Hp}{A:Around}
theorem vw{x y:List Int}{us ws:List Value}(r1:Vals (List.map V.int x) us)(r2:Vals (List.map V.int y) ws)(j:Nat)(h1:j<us.toArray.size)(h2:j<ws.toArray.size) :
  SeqAt.EqAt A s us.toArray[j] ws.toArray[j] (decide (x[j]?=y[j]?)):=by
 have l1:=r1.length
 have l2:=r2.length
 rw[aP]at l1 l2
 have j1:j<x.length:=by rw[l1];simpa using h1
 have j2:j<y.length:=by rw[l2];simpa using h2
 have e1:x[j]?=some x[j]:=bw j1
 have e2:y[j]?=some y[j]:=bw j2
 have h:=Fg (A:=A) (s:=s) (je (x:=.int x[j]) r1 h1 (by rw[fO,e1];rfl)) (je (x:=.int y[j]) r2 h2 (by rw[fO,e2];rfl)) rfl rfl
 have e3:BV (.int x[j]) (.int y[j])=decide (x[j]?=y[j]?):=by
  rw[e1,e2,iV,tu,tq]
  show(x[j]==y[j])=true↔_
  rw[beq_iff_eq]
 rw[e3]at h
 exact h
theorem Fe{p q:Addr}{x y:List Int}(I:Inv X pins σ H s)(hp:H p=some (.tup (List.map V.int x)))(hq:H q=some (.tup (List.map V.int y)))(hu:A.units<cLine):SeqAt.EqAt A s (.ref p) (.ref q) (decide (x=y)):=by
 by_cases e:p=q
 ·subst e
  have:x=y:=by
   have h:=hp.symm.trans hq
   simp only[tq,HO.tup.injEq]at h
   exact oF h
  rw[decide_eq_true this]
  exact SeqAt.EqAt.same _
 ·obtain⟨us,r1,t1,_⟩:=I.tuple (bR hp)
  obtain⟨ws,r2,t2,_⟩:=I.tuple (bR hq)
  have l1:=r1.length
  have l2:=r2.length
  rw[aP]at l1 l2
  have h:=SeqAt.RcAt.tuples (A:=A) (e:=λj=>decide (x[j]?=y[j]?)) t1 t2 hu λj h1 h2=>vw r1 r2 j h1 h2
  rw[cT,cT,<-l1,<-l2,sf]at h
  exact .of_refs e h
theorem vv{ps qs:List Addr}{us ws:List Value}{cl dl:List (List Int)}(I:Inv X pins σ H s)(r1:Vals (List.map V.ref ps) us)(r2:Vals (List.map V.ref qs) ws)(a:bD H ps cl)(b:bD H qs dl)(hu:A.units<cLine)(j:Nat)(h1:j<us.toArray.size)(h2:j<ws.toArray.size) :
  SeqAt.EqAt A s us.toArray[j] ws.toArray[j] (decide (cl[j]?=dl[j]?)):=by
 have l1:=r1.length
 have l2:=r2.length
 rw[aP]at l1 l2
 have j1:j<ps.length:=by rw[l1];simpa using h1
 have j2:j<qs.length:=by rw[l2];simpa using h2
 have e1:ps[j]?=some ps[j]:=bw j1
 have e2:qs[j]?=some qs[j]:=bw j2
 have k1:j<cl.length:=by rw[<-a.1];exact j1
 have k2:j<dl.length:=by rw[<-b.1];exact j2
 have c1:cl[j]?=some cl[j]:=bw k1
 have c2:dl[j]?=some dl[j]:=bw k2
 have v1:us.toArray[j]=.ref ps[j]:=je (x:=.ref ps[j]) r1 h1 (by rw[fO,e1];rfl)
 have v2:ws.toArray[j]=.ref qs[j]:=je (x:=.ref qs[j]) r2 h2 (by rw[fO,e2];rfl)
 have:=Fe (A:=A) I (a.2 j _ _ e1 c1) (b.2 j _ _ e2 c2) hu
 rw[v1,v2,c1,c2]
 have e3:decide ((some cl[j]:Option (List Int))=some dl[j])=decide (cl[j]=dl[j]):=by simp only[tq]
 rw[e3];exact this
def Dq(neg:Bool):R2:=λx y H Q=>∃a b,x=.ref a/\y=.ref b/\∃u v:List Int,H a=some (.tup (List.map V.int u))/\H b=some (.tup (List.map V.int v))/\Q (.bl (if neg then !decide (u=v) else decide (u=v))) H
def Ds(neg:Bool):R2:=λx y H Q=>∃a b,x=.ref a/\y=.ref b/\∃ps qs cl dl,H a=some (.lst (List.map V.ref ps))/\H b=some (.lst (List.map V.ref qs))/\bD H ps cl/\bD H qs dl/\Q (.bl (if neg then !decide (cl=dl) else decide (cl=dl))) H
end
theorem gH{n:Str}{c:Addr}:∀(names:List (Str×NameKind)) (k:Nat) (acc:List (Str×Addr)),(n,c)∈cellsFrom k names acc->(n,c)∈acc\/((n,NameKind.cell)∈names/\k<=c)
 | [],_,_,h=>.inl h
 | (m,kd)::r,k,acc,h=>by
  unfold cellsFrom at h
  by_cases hk:(kd==NameKind.cell)=true
  ·rw[aR hk]at h
   have ek:kd=.cell:=by simpa using hk
   rcases gH r (k+1) _ h with q | ⟨q1,q2⟩
   ·rcases ft.mp q with e | q
    ·cases e;exact .inr ⟨by rw[ek];exact nC,cu _⟩
    ·exact .inl q
   ·exact .inr ⟨iF _ q1,by lia⟩
  ·rw[aO hk]at h
   rcases gH r k _ h with q | ⟨q1,q2⟩
   ·exact .inl q
   ·exact .inr ⟨iF _ q1,q2⟩
theorem fi{y:Str}:∀(names:List (Str×NameKind)) (k:Nat) (acc:List (Str×Addr)),(y,NameKind.cell)∉names->(cellsFrom k names acc).lookup y=acc.lookup y
 | [],_,_,_=>rfl
 | (m,kd)::r,k,acc,h=>by
  unfold cellsFrom
  by_cases hk:(kd==NameKind.cell)=true
  ·have ek:kd=.cell:=by simpa using hk
   have hn:(y==m)=false:=by
    rw[tD]
    rintro rfl
    exact h (by rw[ek];exact nC)
   rw[aR hk,fi r _ _ (λz=>h (iF _ z)),dS,hn]
  ·rw[aO hk];exact fi r k acc (λz=>h (iF _ z))
theorem gF{y:Str}:∀(names:List (Str×NameKind)) (k:Nat) (acc:List (Str×Addr)),(y,NameKind.cell)∈names->∃c,(cellsFrom k names acc).lookup y=some c/\k<=c
 | (m,kd)::r,k,acc,h=>by
  unfold cellsFrom
  by_cases hr:(y,NameKind.cell)∈r
  ·split
   ·obtain⟨c,e,hc⟩:=gF r (k+1) ((m,k)::acc) hr
    exact⟨c,e,by lia⟩
   ·exact gF r k acc hr
  ·rcases ft.mp h with e | h
   ·cases e
    rw[aR (by rfl),fi r _ _ hr,dS,iY]
    exact⟨k,rfl,cu _⟩
   ·exact absurd h hr
def Mz(cs:List (Str×Addr)):Prop:=∀n n' c,(n,c)∈cs->(n',c)∈cs->n=n'
theorem jH:∀(names:List (Str×NameKind)) (k:Nat) (acc:List (Str×Addr)),Mz acc->(∀p∈acc,p.2<k)->Mz (cellsFrom k names acc)
 | [],_,_,h,_=>h
 | (m,kd)::r,k,acc,h,hl=>by
  unfold cellsFrom
  split
  ·refine jH r (k+1) _ (λn n' c h1 h2=>?_) (λp hp=>?_)
   ·rcases ft.mp h1 with e | h1 <;> rcases ft.mp h2 with e' | h2
    ·cases e;cases e';rfl
    ·cases e;exact absurd (hl _ h2) (lr _)
    ·cases e';exact absurd (hl _ h1) (lr _)
    ·exact h n n' c h1 h2
   ·rcases ft.mp hp with e | hp
    ·rw[e];exact vM _
    ·exact Nat.lt_succ_of_lt (hl p hp)
  ·exact jH r k acc h hl
theorem iM:∀(names:List (Str×NameKind)) (h:Heap) (acc:List (Str×Addr)),(∀p∈acc,∃v,h.IsCell p.2 v)->∀p∈cellsFrom h.objs.size names acc,∃v,(pushCells h names).IsCell p.2 v
 | [],_,_,h=>h
 | (m,kd)::r,hp,acc,h=>by
  unfold cellsFrom pushCells
  split
  ·have:=iM r (hp.push { cls:=.type "cell",data:=.cell none }) ((m,hp.objs.size)::acc) (λp q=>by
    rcases ft.mp q with e | q
    ·rw[e];exact⟨none,_,iZ _ rfl,rfl⟩
    ·obtain⟨v,z⟩:=h p q
     exact⟨v,z.keeps λb o e=>gI _ e⟩)
   rwa [qI]at this
  ·exact iM r hp acc h
theorem nW{M:Model}{A:Around}{E:Value->Shared->Prop}{s:Shared}{scope:Scope}{globals:Addr}{closure:List (Str×Addr)}{qual:Str}{func:Option Addr}{code:Value}{outer:Env}{builtins:Addr}{Q:Env->Shared->Prop}
  (hQ:Q (newEnv scope s.heap.objs.size globals (cellsFrom (s.heap.objs.size+1) scope.names closure) qual func code (some outer) builtins) { s with heap:=pushCells (s.heap.push { cls:=.type "dict",data:=.dict #[] }) scope.names }) :
  wpAny M A (newFunctionEnv scope globals closure [] qual func code (some outer) builtins) Q E s:=by
 simp only[newFunctionEnv,Option.isSome_some,lR]
 refine bG (wpAny_alloc ?_)
 refine bG (wpAny_layCells _ (λname kind cells=>by cases hkc:kind==NameKind.cell <;> simp[hkc]) _ _ _ _ ?_)
 rw[show({ s with heap:=s.heap.push { cls:=.type "dict",data:=.dict #[] } }:Shared).heap.objs.size=s.heap.objs.size+1 from qI ..]
 rw[List.forIn_nil]
 exact bG (cn (cn hQ))
theorem pQ{env : Env}{y : Str} : ∀ {names : List (Str × NameKind)},
    ((names.map λ(n, k) => if (k==NameKind.free&&env.scope.kind == .function&&env.kindOf n==some .cell) then (n, NameKind.cell) else (n, k)).lookup y=some .cell ∨
     (names.map λ(n, k) => if (k==NameKind.free&&env.scope.kind == .function&&env.kindOf n==some .cell) then (n, NameKind.cell) else (n, k)).lookup y=some .free) → names.lookup y=some .free ∨ names.lookup y=some .cell
  | [], h => by rcases h with h | h <;> cases h
  | (n, k)::r, h => by
    have ih := @pQ env y r
    rw[jL]at h
    rw[dS]
    by_cases e : y=n
    · subst e
      rw[iY]
      by_cases hb : (k==NameKind.free&&env.scope.kind == .function&&env.kindOf y==some .cell)=true
      · have hk : k=.free := by
          rw[eO, eO]at hb
          simpa using hb.1.1
        rw[hk]; exact .inl rfl
      · dsimp only at h
        rw[aO hb, dS, iY]at h
        dsimp only at h
        exact h.symm
    · have hn : (y==n)=false := by simpa using e
      rw[hn]
      dsimp only at h ⊢
      apply ih
      by_cases hb : (k==NameKind.free&&env.scope.kind == .function&&env.kindOf n==some .cell)=true
      · rw[aR hb, dS, hn]at h
        exact h
      · rw[aO hb, dS, hn]at h
        exact h
theorem gw{env:Env}{y:Str}:∀{names:List (Str×NameKind)},names.lookup y=some .free->(names.map λ(n,k)=>if (k==NameKind.free&&env.scope.kind == .function&&env.kindOf n==some .cell) then (n,NameKind.cell) else (n,k)).lookup y≠some .local
 | [],h=>by cases h
 | (n,k)::r,h=>by
  rw[jL]
  by_cases e:y=n
  ·subst e
   rw[dS,iY]at h
   cases h
   dsimp only
   split
   ·rw[dS,iY];exact λq=>nomatch q
   ·rw[dS,iY];exact λq=>nomatch q
  ·have hn:(y==n)=false:=by simpa using e
   rw[dS,hn]at h
   dsimp only
   split
   ·rw[dS,hn];exact gw h
   ·rw[dS,hn];exact gw h
@[reducible] def sN (X:Cx) (scope:Scope) (cs N:List Str) (c:CB):Cx:=
 { prog:=X.prog,w:=X.w,K:=X.K,mg:=X.mg,base:=X.base,A:=X.A,N:=N,s₀:=c.s2,H₀:=c.H2,env:=compEnvC scope c.cl c.C X.env,outer:=X.stack,stack:=X.stack,ex:=c.ex,fn:=λx=>cs.contains x,calm:=X.calm,pn:=[],xe:=λ_ _=>False }
structure qG(X:Cx)(scope:Scope)(cs xs:List Str)(idx:List Nat):Prop where
 kind:scope.kind=.function
 loc:∀y∈scope.names,y.2=.local->scope.names.lookup y.1=some .local
 own:∀y∈scope.names,y.2=.cell->scope.names.lookup y.1=some .cell
 fn:∀x,cs.contains x=true->(x,NameKind.cell)∈scope.names
 free:∀y∈scope.names,y.2=.free->scope.names.lookup y.1=some .free/\(X.env.kindOf y.1=some .cell\/X.env.kindOf y.1=some .free)
 ix:∀i∈idx,∃y,X.N[i]?=some y/\scope.names.lookup y=some .free
section
variable {X:Cx}{pins:List (Addr×Obj)}{σ:St}{H:Hp}{s:Shared}
theorem Inv.Mr{scope:Scope}{cs xs:List Str}{idx:List Nat}{fp:List Addr}{C k:Addr}{h':Heap}{t':Nat}{D:Addr}{m0:Str->Option Value}{cl:List (Str×Addr)}(I:Inv X pins σ H s)(S:qG X scope cs xs idx)
  (HR:∀b∈fp,qx X pins H b) (Ru:∀b∈fp,∃o,s.heap.get? b=some o) (hC:s.heap.objs.size<=C) (Jv:D≠C) (hD:s.heap.objs.size<=D) (hn:h'.Ns C m0) (hk:∀b o,s.heap.get? b=some o->h'.get? b=some o)
  (hl:∃n,h'.get? D=some { cls:=.type "list",data:=.seq #[] n }) (HW:cl=cellsFrom k scope.names (cC X.env scope.names [])) (Rq:s.heap.objs.size<=k) (hDk:D<k) (yv:∀p∈cl,∃v,h'.IsCell p.2 v) :
  Inv (sN X scope cs (xs++bz X.N idx) ⟨C,cl,s,H,fp⟩) [] (List.replicate xs.length none++bL σ idx) (upd H D (.lst [])) { s with heap:=h',toks:=t' }:=by
 have pX:∀y∈scope.names,y.2=.free->∃c,X.env.cells.lookup y.1=some c:=λy hy e=>I.ok.has y.1 (S.free y hy e).2
 have nZ:=j7 (env:=X.env) scope.names [] pX (λp hp=>(nomatch hp))
 have lt:∀b,(∃o,s.heap.get? b=some o)->b<s.heap.objs.size:=λb ⟨o,e⟩=>bS e
 have Fw:∀x c,X.env.cells.lookup x=some c->c<s.heap.objs.size:=λx c e=>let ⟨_,q⟩:=I.cell x c e;q.lt
 have hor:∀y c,cl.lookup y=some c->X.env.cells.lookup y=some c\/k<=c:=λy c e=>by
  rw[HW]at e
  rcases gH _ _ _ (fw e) with q | q
  ·exact .inl (nZ (y,c) q)
  ·exact .inr q.2
 have Et:∀y,scope.names.lookup y=some .free->cl.lookup y=X.env.cells.lookup y:=λy e=>by
  rw[HW,fi]
  ·exact jE (f:=λn=>X.env.cells.lookup n) nZ (pE scope.names [] (fw e))
  ·intro z
   have:=S.own _ z rfl
   rw[e]at this;cases this
 have hinj:Mz cl:=by
  rw[HW]
  exact jH _ _ _ (λn n' c h1 h2=>I.ok.inj n n' c (nZ _ h1) (nZ _ h2)) (λp hp=>fN (Fw _ _ (nZ p hp)) Rq)
 have W4:H D=none:=I.dN.fresh hD
 refine⟨⟨I.ok.mod,S.kind,I.ok.glob,I.ok.blt,hC,λx y c h1 h2=>hinj x y c (fw h1) (fw h2),λy hy=>?_,λx c hf e=>?_,I.ok.hd,I.ok.frames,.inl rfl,λb hb=>⟨?_,λx c e=>?_⟩,I.bs,cq I.ok.FJ I.sz,λb o e hb=>?_,λb hb z=>?_,I.stack,I.uE⟩,
  rfl,I.bare,?_,⟨m0,hn,λi y v e1 e2 hv=>?_⟩,λx c e=>?_,?_,λx c e=>?_,λp hp=>(nomatch hp),?_,?_⟩
 ·
  rcases pQ hy with q | q
  ·have q2:=fw q
   obtain⟨c,e⟩:=pX _ q2 rfl
   exact⟨c,(Et y q).trans e⟩
  ·obtain⟨c,e,_⟩:=gF (y:=y) scope.names k (cC X.env scope.names []) (fw q)
   exact⟨c,by show cl.lookup y=some c;rw[HW];exact e⟩
 ·
  obtain⟨c',e',M8⟩:=gF (y:=x) scope.names k (cC X.env scope.names []) (S.fn x hf)
  have e2:cl.lookup x=some c:=e
  rw[HW,e']at e2
  cases e2
  exact cq Rq M8
 ·
  exact cZ (fN (lt b (Ru b hb)) hC)
 ·rcases hor x c e with q | q
  ·exact(HR b hb).2.2.2.2.1 x c q
  ·exact qS (fN (lt b (Ru b hb)) (cq Rq q))
 ·
  rcases(HR b hb).2.2.2.1 with z | z
  ·exact I.ok.Aw b o e z
  ·exact absurd (fN (bS e) (cq I.ok.FJ z)) (lr _)
 ·
  rcases ft.mp (I.oW b z) with q | q
  ·exact(HR b hb).2.1 q
  ·exact(HR b hb).2.2.1 q
 ·
  exact Un.laid hk hD W4
 ·
  by_cases hi:i<xs.length
  ·rw[ou (by simpa using hi)]at e2
   rw[Ce]at e2
   split at e2 <;> cases e2
  ·have O7:xs.length<=i:=xm hi
   rw[lQ (by simpa using O7),qP]at e2
   obtain⟨i0,ei,es⟩:=vY e2
   obtain⟨y',ey,ef⟩:=S.ix i0 (qO ei)
   have Qe:(xs++bz X.N idx)[i]?=some y:=e1
   rw[lQ O7,vZ ei ey]at Qe
   cases Qe
   obtain⟨m,hm,vm⟩:=I.loc
   have Qd:=S.free (y,.free) (fw ef) rfl
   have Nn:Mv X.env.scope y:=.inr Qd.2
   obtain⟨u,ru,lk⟩:=vm i0 y v ey es Nn
   refine⟨u,ru,?_⟩
   rcases lk with ⟨k1,_⟩ | ⟨_,c,ec,hc⟩
   ·rcases Qd.2 with z | z
    ·have z':X.env.kindOf y=some .cell:=z
     rw[k1]at z';cases z'
    ·have z':X.env.kindOf y=some .free:=z
     rw[k1]at z';cases z'
   ·refine .inr ⟨?_,c,(Et y ef).trans ec,hc.keeps hk⟩
    rcases hv with z | z | z
    ·exact absurd (show(relabel scope X.env).names.lookup y=some .local from z) (gw ef)
    ·exact .inl z
    ·exact .inr z
 ·
  exact yv (x,c) (fw e)
 ·
  show upd H D (.lst []) C=none
  rw[aM (lj Jv)]
  exact I.dN.fresh hC
 ·
  rcases hor x c e with q | q
  ·rw[aM (cZ (fN (Fw x c q) hD))]
   exact I.lC x c q
  ·rw[aM (qS (fN hDk q))]
   exact I.dN.fresh (cq Rq q)
 ·
  obtain⟨n,e⟩:=hl
  exact I.dN.laid hk hD ⟨lq _,[],n,.nil,e⟩
 ·show(List.replicate xs.length none++bL σ idx).length=(xs++bz X.N idx).length
  rw[dR,dR,qP]
  unfold bL bz
  rw[aP,aP]
end
section
variable {X:Cx}{elt target iter:Expr}{ifs:List Expr}{scope:Scope}{pos:Pos}{cs xs:List Str}{idx:List Nat}{wi:TI}{g:CB->TG}{tt:CB->TT}{te:CB->TE}
theorem Bo{pins:List (Addr×Obj)}{σ:St}{H2:Hp}{s2:Shared}{fp:List Addr}{it:Addr}{tn:Nat->Heap->Prop}{J:It}{Q:V->Hp->Prop}{RR:Value->Addr->Result->Shared->Prop}{E:Value->Shared->Prop}(hc:X.calm=true)(S:qG X scope cs xs idx)
  (hg:∀c,PG (sN X scope cs (xs++bz X.N idx) c) target (g c)) (ht:∀c,qv (sN X scope cs (xs++bz X.N idx) c) ifs (tt c)) (he:∀c,PE (sN X scope cs (xs++bz X.N idx) c) elt (te c))
  (I2:Inv X pins σ H2 s2) (T:Turn X.prog X.w X.K target J fp it tn) (v5:tn 0 s2.heap) (f2:∀b∈fp,qx X pins H2 b)
  (h:∀D,H2 D=none->∃W:Nat->Nat->List V->Hp->Prop,(∃m,W 0 m [] (upd H2 D (.lst [])))/\
   ∀i m ys H',W i m ys H'->(J.stop i H'/\Q (.ref D) H')\/(J.go i H'/\∃N:List V->Hp->Prop,(∀m7 iT,N m7 iT->∃m',m'<m/\W (i+1) m' m7 iT)/\∀(c:CB) (own:St),own.length=xs.length->∀x H2,J.y9 i H' x H2->g c x (own++bL σ idx) H2 λσ3 H3=>
    (∃dz,dz.length=xs.length/\σ3=dz++bL σ idx)/\tt c σ3 H3 λb H4=>if b=true then te c σ3 H4 λy H5=>H5 D=some (.lst ys)/\ys.length<sizeLine/\N (ys++[y]) (upd H5 D (.lst (ys++[y]))) else N ys H4))
  (WN:∀D C cl σ' H' s',s2.heap.objs.size<=C->Inv (sN X scope cs (xs++bz X.N idx) ⟨C,cl,s2,H2,fp⟩) [] σ' H' s'->Q (.ref D) H'->RR (.ref D) C (.ok .next) s') :
  wpAny (model X.prog X.w) X.A (newList []) (λacc s₃=>wpAny (model X.prog X.w) X.A (newFunctionEnv scope X.env.globals (cC X.env scope.names []) [] X.env.qual none .none (some X.env)) (λFv s₄=>
   codeAny (model X.prog X.w) X.A (.compStart (.ListComp elt [⟨target,iter,ifs,0⟩] scope pos) 0 (.ref it) acc { Fv with scope:=relabel scope X.env }) (RR acc Fv.locals) s₄) E s₃) E s2:=by
 refine sZ (nW ?_)
 dsimp only
 generalize Jt:s2.heap.push { cls:=.type "list",dict:=none,data:=.seq ([]:List Value).toArray }=HH
 have Ng:HH.objs.size=s2.heap.objs.size+1:=by rw[<-Jt,qI]
 have Jv:s2.heap.objs.size≠HH.objs.size:=by rw[Ng];exact cZ (vM _)
 have sM:s2.heap.objs.size<=HH.objs.size:=by rw[Ng];exact sW _
 generalize HW:cellsFrom (HH.objs.size+1) scope.names (cC X.env scope.names [])=cl
 generalize O9:pushCells (HH.push { cls:=.type "dict",data:=.dict #[] }) scope.names=h₁
 have up:∀b o,HH.get? b=some o->h₁.get? b=some o:=λb o e=>by rw[<-O9];exact pushCells_keeps _ _ _ _ (gI _ e)
 have old:∀b o,s2.heap.get? b=some o->h₁.get? b=some o:=λb o e=>up b o (Jt ▸ gI _ e)
 have En:h₁.Ns HH.objs.size (λ_=>none):=by rw[<-O9];exact(Heap.Ns.new HH (.type "dict")).keeps (pushCells_keeps scope.names _)
 have LC:∃n,h₁.get? s2.heap.objs.size=some { cls:=.type "list",data:=.seq #[] n }:=⟨_,up _ _ (Jt ▸ iZ _ rfl)⟩
 have nZ:=j7 (env:=X.env) scope.names [] (λy hy e=>I2.ok.has y.1 (S.free y hy e).2) (λp hp=>nomatch hp)
 have yv:∀p∈cl,∃v,h₁.IsCell p.2 v:=by
  rw[<-HW,<-O9]
  have:=iM scope.names (HH.push { cls:=.type "dict",data:=.dict #[] }) (cC X.env scope.names []) (λp hp=>by
   obtain⟨v,q⟩:=I2.cell p.1 p.2 (nZ p hp)
   exact⟨v,q.keeps λb o e=>gI _ (Jt ▸ gI _ e)⟩)
  rwa [qI]at this
 have NB:tn 0 h₁:=T.keep _ _ _ v5 λb _ o e=>old b o e
 obtain⟨W,⟨m0,w0⟩,turn⟩:=h s2.heap.objs.size I2.fresh
 have loop:∀s₃:Shared,s₃={ s2 with heap:=h₁ }->
   codeAny (model X.prog X.w) X.A (.compLoop (.ListComp elt [⟨target,iter,ifs,0⟩] scope pos) 0 (.ref it) (.ref s2.heap.objs.size) (compEnvC scope cl HH.objs.size X.env)) (RR (.ref s2.heap.objs.size) HH.objs.size) s₃:=by
  rintro s₃ rfl
  have I3:=I2.Mr (t':=s2.toks) (cs:=cs) (xs:=xs) (k:=HH.objs.size+1) S f2 (λb hb=>let ⟨o,e,_⟩:=T.obj _ _ v5 b hb;⟨o,e⟩) sM Jv (cu _) En old LC HW.symm (Nat.le_succ_of_le sM) (Nat.lt_succ_of_le sM) yv
  generalize hY:sN X scope cs (xs++bz X.N idx) ⟨HH.objs.size,cl,s2,H2,fp⟩=Y at I3
  have eY:Y=sN X scope cs (xs++bz X.N idx) ⟨HH.objs.size,cl,s2,H2,fp⟩:=hY.symm
  have nof:∀b∈fp,b∉Y.fs:=λb hb z=>by
   rw[eY]at z
   rcases ft.mp (I2.oW b z) with q | q
   ·exact(f2 b hb).2.1 q
   ·exact(f2 b hb).2.2.1 q
  have stat:∀{H':Hp},(∀b∈fp,H' b=none)->∀b∈fp,qx Y [] H' b:=λ{H'} hn b hb=>by
   have lt:b<s2.heap.objs.size:=let ⟨o,e,_⟩:=T.obj _ _ v5 b hb;bS e
   refine⟨hn b hb,?_,nof b hb,.inl (by rw[eY];exact hb),λx c e=>?_,λp hp=>?_⟩
   ·rw[eY];exact cZ (fN lt sM)
   ·rw[eY]at e
    have e':cl.lookup x=some c:=e
    rw[<-HW]at e'
    rcases gH _ _ _ (fw e') with q | q
    ·exact(f2 b hb).2.2.2.2.1 x c (nZ (x,c) q)
    ·exact qS (fN lt (cq (Nat.le_succ_of_le sM) q.2))
   ·rw[eY]at hp;exact nomatch hp
  have T':Turn Y.prog Y.w Y.K target J fp it tn:=by rw[eY];exact T
  have Wj:PG Y target (g ⟨HH.objs.size,cl,s2,H2,fp⟩):=by rw[eY];exact hg _
  have V1:qv Y ifs (tt ⟨HH.objs.size,cl,s2,H2,fp⟩):=by rw[eY];exact ht _
  have Wn:PE Y elt (te ⟨HH.objs.size,cl,s2,H2,fp⟩):=by rw[eY];exact he _
  have Pj:Y.calm=true:=by rw[eY];exact hc
  have eA:Y.A=X.A:=by rw[eY]
  have eP:Y.prog=X.prog:=by rw[eY]
  have eW:Y.w=X.w:=by rw[eY]
  have eE:Y.env=compEnvC scope cl HH.objs.size X.env:=by rw[eY]
  have eX:Y.xe=λ_ _=>False:=by rw[eY]
  have fin:∀σ' H' s',Inv Y [] σ' H' s'->Q (.ref s2.heap.objs.size) H'->RR (.ref s2.heap.objs.size) HH.objs.size (.ok .next) s':=λσ' H' s' I' q=>WN _ _ cl σ' H' s' sM (by rw[<-eY];exact I') q
  rw[<-eE,<-eA,<-eP,<-eW]
  have Mb:∀b∈fp,(upd H2 s2.heap.objs.size (.lst [])) b=none:=λb hb=>by
   have lt:b<s2.heap.objs.size:=let ⟨o,e,_⟩:=T.obj _ _ v5 b hb;bS e
   rw[aM (cZ lt)];exact(f2 b hb).1
  refine gP (λn s'=>∃i ys own H',own.length=xs.length/\Inv Y [] (own++bL σ idx) H' s'/\tn i s'.heap/\(∀b∈fp,H' b=none)/\W i n ys H') ?_ m0
   ⟨0,[],_,_,qP,I3,NB,Mb,w0⟩
  rintro n s4 ⟨i,ys,own,H4,Ln,I4,Nz,P',w4⟩
  rcases turn i n ys H4 w4 with ⟨stop,qn⟩ | ⟨go,NN,WT,step⟩
  ·exact cV (T'.done Y rfl rfl rfl Pj i [] s4 _ H4 _ I4 (stat P') Nz stop) λr s5 ⟨hr,I5⟩=>by subst hr;exact fin _ _ _ I5 qn
  ·refine cV (T'.item Y rfl rfl rfl Pj i [] s4 _ H4 _ I4 (stat P') Nz go) λr s5 ⟨u,hr,h5⟩=>?_
   subst hr
   refine cV h5 λ_ s6 ⟨x,H6,I6,r6,y6,JW,Xb⟩=>?_
   have ZJ:=I6.pinned (stat Xb) (T'.obj _ _ JW)
   have step':=step ⟨HH.objs.size,cl,s2,H2,fp⟩ own Ln x H6 y6
   refine gi (Wj _ s6 _ H6 x u _ ZJ r6 step') (λ_ s7 ⟨σ7,H7,I7,q7⟩=>?_) (λ_ _ z=>by rw[eX]at z;exact z)
   obtain⟨⟨KS,Wf,e7⟩,q7⟩:=q7
   refine gi (V1 _ s7 σ7 H7 _ I7 q7) (λb s8 ⟨H8,I8,q8⟩=>?_) (λ_ _ z=>by rw[eX]at z;exact z)
   have again:∀{H9:Hp} {s9:Shared} {m7:List V},Inv Y ([]++o3 fp s6.heap) σ7 H9 s9->NN m7 H9->∃m,m<n/\∃i ys own H',own.length=xs.length/\Inv Y [] (own++bL σ idx) H' s9/\tn i s9.heap/\(∀b∈fp,H' b=none)/\W i m ys H':=λ{H9 s9 m7} I9 n9=>by
    obtain⟨m',hm,w9⟩:=WT _ _ n9
    rw[e7]at I9
    refine⟨m',hm,i+1,m7,KS,H9,Wf,I9.lV,T'.keep _ _ _ JW λb hb o e=>(I9.pin (b,o) (ja _ (ja _ (gy hb e)))).1,λb hb=>?_,w9⟩
    obtain⟨o,e,d⟩:=T'.obj _ _ JW b hb
    exact(I9.pin (b,o) (ja _ (ja _ (gy hb e)))).2.1
   cases b with
   | false=>exact again I8 q8
   | true=>
    refine gi (Wn _ s8 σ7 H8 _ I8 q8) (λu9 s9 ⟨y,H9,I9,r9,hy,hz,q9⟩=>?_) (λ_ _ z=>by rw[eX]at z;exact z)
    have ap:=cY (X:=Y) _ s9 σ7 H9 (.ref s2.heap.objs.size) [y] (.ref s2.heap.objs.size) [u9] (λ_ lK=>NN (ys++[y]) lK) I9 rfl (.cons r9 .nil) ⟨_,ys,y,rfl,rfl,hy,hz,q9⟩
    refine gi ap (λ_ NX ⟨_,lK,ZK,_,Tj⟩=>again ZK Tj) (λ_ _ z=>by rw[eX]at z;exact z)
 exact codeAny_compStart_list (loop _ rfl) (T.self _ 0 _ _ _ NB (loop _ rfl))
theorem DS(hc:X.calm=true)(S:qG X scope cs xs idx)(hi:PI X target iter wi)
  (hg:∀c,PG (sN X scope cs (xs++bz X.N idx) c) target (g c)) (ht:∀c,qv (sN X scope cs (xs++bz X.N idx) c) ifs (tt c)) (he:∀c,PE (sN X scope cs (xs++bz X.N idx) c) elt (te c))
  (hs:∀x,foldedSetIterable iter X.env x=pure x:=by intro _;rfl):PE X (.ListComp elt [⟨target,iter,ifs,0⟩] scope pos) (ox wi xs.length idx g tt te):=by
 intro pins s σ H Q I h
 rw[eval_ListComp]
 have wJ:closureFor scope X.env=pure (cC X.env scope.names []):=gB λy hy e=>I.ok.has y.1 (S.free y hy e).2
 refine xC (use:=none) rfl hs wJ S.kind S.loc (cV (hi pins s σ H _ I h) λxv s₁ h₁=>cV h₁ λOw s₂ h₂=>?_)
 obtain⟨it,fp,tn,J,H2,e,I2,T,v5,f2,hW⟩:=h₂
 subst e
 refine Bo (Q:=Q) (RR:=λacc C=>compPost (model X.prog X.w) X.A X.xe none (EP X pins σ Q) acc C) hc S hg ht he I2 T v5 f2 hW ?_
 intro D C cl σ' H' s' hC I' q
 obtain⟨m',hn,_⟩:=I'.loc
 refine⟨m',hn,λXa Em=>?_⟩
 obtain⟨hh,gg,d,t,os⟩:=s'
 obtain rfl:os=s₂.os:=I'.os
 have Cn:s₂.heap.get? C=none:=yX hC
 refine⟨.ref D,H',I2.call (s:=s₂) (h':=Xa) (g':=gg) (d':=d) (t':=t) (ch:=fp) (I'.base.but Cn Em) (I'.dN.but I'.free Em) I'.bare (λb hb=>?_),rfl,q⟩
 obtain⟨_,f1,_,f3,f4,f5⟩:=f2 b hb
 exact⟨f3,f1,f4,f5⟩
end
def Fo(gh:Scope)(N:List Str)(scope:Scope)(cs:List Str)(idx:List Nat):Bool:=
 scope.kind == .function&&scope.names.all (λy=>y.2 != .cell||scope.names.lookup y.1==some .cell)&&scope.names.all (λy=>y.2 != .local||scope.names.lookup y.1==some .local) &&
 scope.names.all (λy=>y.2 != .free||(scope.names.lookup y.1==some .free&&(gh.names.lookup y.1==some .cell||gh.names.lookup y.1==some .free))) &&
 idx.all (λi=>match N[i]? with | some y=>scope.names.lookup y==some .free | none=>false)&&cs.all (λx=>scope.names.lookup x==some .cell)
theorem yD{X:Cx}{scope:Scope}{cs xs:List Str}{idx:List Nat}{gh:Scope}{N:List Str}(h:Fo gh N scope cs idx=true)(e1:X.env.scope=gh)(e2:X.N=N):qG X scope cs xs idx:=by
 unfold Fo at h
 simp only[eO]at h
 obtain⟨⟨⟨⟨⟨h1,h2⟩,h3⟩,h4⟩,h5⟩,h6⟩:=h
 refine⟨by simpa using h1,λy hy e=>?_,λy hy e=>?_,λx hx=>?_,λy hy e=>?_,λi hi=>?_⟩
 ·have:=iX.mp h3 y hy
  rw[e]at this;simpa using this
 ·have:=iX.mp h2 y hy
  rw[e]at this;simpa using this
 ·have:=iX.mp h6 x (List.contains_iff_mem.mp hx)
  exact fw (by simpa using this)
 ·have:=iX.mp h4 y hy
  rw[e]at this
  have t:(scope.names.lookup y.1==some NameKind.free&&(gh.names.lookup y.1==some .cell||gh.names.lookup y.1==some .free))=true:=by simpa using this
  rw[eO,uv]at t
  refine⟨by simpa using t.1,?_⟩
  show X.env.scope.names.lookup y.1=_\/X.env.scope.names.lookup y.1=_
  rw[e1]
  exact t.2.imp (by simp) (by simp)
 ·have:=iX.mp h5 i hi
  rw[e2]
  cases e:N[i]? with
  | none=>rw[e]at this;cases this
  | some y=>rw[e]at this;exact⟨y,rfl,by simpa using this⟩
theorem ph{X:Cx}{N:List Str}{gh scope:Scope}{cs xs:List Str}{idx:List Nat}(hc:HC X N gh)(c:CB):HC (sN X scope cs (xs++bz X.N idx) c) (xs++bz N idx) (bU scope gh):=
 ⟨by show xs++bz X.N idx=_;rw[hc.n],pR hc.s⟩
theorem pgd{X:Cx}{N:List Str}{sc scope:Scope}{cs:List Str}{x:Str}{pos:Pos}{M:List Str}{c:CB}(hc:HC (sN X scope cs M c) N sc)(nd:N.Nodup)(i:Nat)(h:Gd N sc i x=true)(hx:cs.contains x=true):PG (sN X scope cs M c) (.Name x pos) (cL i):=
 uS (by rw[hc.n];exact nd) (jg hc h).1 (jg hc h).2 (.inl hx)
section
variable {X:Cx}{N:List Str}{gh:Scope}{elt target iter:Expr}{ifs:List Expr}{scope:Scope}{pos:Pos}{wi:TI}{g:CB->TG}{tt:CB->TT}{te:CB->TE}
theorem xE(hc:HC X N gh)(cs xs:List Str)(idx:List Nat)(wK:X.calm=true)(S:Fo gh N scope cs idx=true)(hi:ZI X target iter wi)
  (hg:∀c,HC (sN X scope cs (xs++bz X.N idx) c) (xs++bz N idx) (bU scope gh)->ZG (sN X scope cs (xs++bz X.N idx) c) target (g c))
  (ht:∀c,HC (sN X scope cs (xs++bz X.N idx) c) (xs++bz N idx) (bU scope gh)->FZ (sN X scope cs (xs++bz X.N idx) c) ifs (tt c))
  (he:∀c,HC (sN X scope cs (xs++bz X.N idx) c) (xs++bz N idx) (bU scope gh)->ZE (sN X scope cs (xs++bz X.N idx) c) elt (te c))
  (hs:∀x,foldedSetIterable iter X.env x=pure x:=by intro _;rfl):ZE X (.ListComp elt [⟨target,iter,ifs,0⟩] scope pos) (ox wi xs.length idx g tt te):=
 ⟨DS wK (yD S hc.s hc.n) hi.to (λc=>(hg c (ph hc c)).to) (λc=>(ht c (ph hc c)).to) (λc=>(he c (ph hc c)).to) hs⟩
theorem R4{X:Cx}{N:List Str}{sc scope:Scope}{cs:List Str}{x:Str}{pos:Pos}{M:List Str}{c:CB}(hc:HC (sN X scope cs M c) N sc)(nd:N.Nodup)(i:Nat)(h:Gd N sc i x=true)(hx:cs.contains x=true):ZG (sN X scope cs M c) (.Name x pos) (cL i):=⟨pgd hc nd i h hx⟩
end
def Up(xs:Array Nat):Prop:=xs.toList.Pairwise (· < ·)
def Xy(p:Int×Tok):Int×Value:=(hashInt p.1,.int p.1 p.2)
structure Zz(w:World)(h:Heap)(a:Addr)(l:List (Int×Tok)):Prop where
 ex:∃es ep t,h.get? a=some (NT es ep t)/\es.toList=l.map (Xy)/\t.fits es.size=true/\t.led = !byT w/\Up t.place
 nd:(l.map (·.1)).Nodup
 sz:l.length<scanBound
section
variable {P:Program}{w:World}{A:Around}{E:Value->Shared->Prop}{s:Shared}{a:Addr}{l:List (Int×Tok)}
end
def ZF(w:World)(p:Addr)(ss:List Int):HO:=.ext λh=>∃l,Zz w h p l/\∀z,z∈l.map (·.1)↔z∈ss
section
variable {X:Cx}
def Di(w:World):List V->Hp->VK->Prop:=λvs H Q=>∃a,vs=[.ref a]/\∃ss:List Int,H a=some (.lst (ss.map V.int))/\ss.length<4000/\∀p,H p=none->Q (.ref p) (upd H p (ZF w p ss))
def o2(w:World):List V->Hp->VK->Prop:=λvs H Q=>∃a,vs=[.ref a]/\∃ss:List Int,H a=some (ZF w a ss)/\ss.length<64/\
 ∀ss':List Int,(∀z,z∈ss'↔z∈ss)->ss'.Pairwise (· < ·)->∀p,H p=none->Q (.ref p) (upd H p (.lst (ss'.map V.int)))
end
end L2
end
section
namespace HT
open PySem PyProof.Rows L2
end HT
namespace L2
open PySem PySem.Spec PyProof.Rows
section
variable {X:Cx}
def Dg:V->Option Int->Option Int->Hp->VK->Prop:=λx lo hi H Q=>∃a,x=.ref a/\∃xs,H a=some (.tup xs)/\
 ((HT.dE xs.length 0 lo=0/\HT.dE xs.length xs.length hi=xs.length)->Q (.ref a) H)/\(¬(HT.dE xs.length 0 lo=0/\HT.dE xs.length xs.length hi=xs.length)->∀p,H p=none->Q (.ref p) (upd H p (.tup (gY xs lo hi))))
end
section
variable {X:Cx}{pins:List (Addr×Obj)}{s:Shared}{σ:St}{H:Hp}
def pW(bs:List Addr)(ts:List (List Int))(x:List Int):Value->Bool
 | .ref p=>(bs.zip ts).any λq=>decide (q.1=p)&&decide (q.2=x)
 | _=>false
theorem wD{bs:List Addr}{ts:List (List Int)}{x:List Int}(a:bD H bs ts){i:Nat}{p:Addr}{t:List Int}(h1:bs[i]?=some p)(h2:ts[i]?=some t):pW bs ts x (.ref p)=decide (t=x):=by
 unfold pW
 rw[iV,tj,tu]
 constructor
 ·rintro⟨⟨p',t'⟩,hm,e⟩
  simp only[eO,nB]at e
  obtain⟨rfl,rfl⟩:=e
  obtain⟨j,hj,ej⟩:=qN.mp hm
  rw[List.length_zip]at hj
  rw[xl]at ej
  injection ej with e1 e2
  have g1:=a.2 j _ _ (bw (by omega)) (bw (by omega))
  rw[e1,e2]at g1
  have g2:=a.2 i _ _ h1 h2
  rw[g1]at g2
  injection g2 with g2
  injection g2 with g2
  exact(oF g2).symm
 ·rintro rfl
  refine⟨(p,t),?_,by simp⟩
  have i1:=fP.mp h1
  have i2:=fP.mp h2
  refine qN.mpr ⟨i,by rw[List.length_zip];have:=i1.1;have:=i2.1;omega,?_⟩
  rw[xl,i1.2,i2.2]
theorem Bw{bs:List Addr}{ts:List (List Int)}{x:List Int}(a:bD H bs ts){us:List Value}(r:Vals (List.map V.ref bs) us):us.any (pW bs ts x)=decide (x∈ts):=by
 have l:=r.length
 rw[aP]at l
 have lt:=a.1
 have at_:∀i (hi:i<us.length),pW bs ts x us[i]=decide (ts[i]'(by omega)=x):=λi hi=>by
  have e1:bs[i]?=some (bs[i]'(by omega)):=bw (by omega)
  have v:us[i]=.ref (bs[i]'(by omega)):=by
   have:=je (x:=.ref (bs[i]'(by omega))) r (j:=i) (by simpa using hi) (by rw[fO,e1];rfl)
   simpa [RelV]using this
  rw[v]
  exact wD a e1 (bw (by omega))
 rw[iV,tj,tu]
 constructor
 ·rintro⟨u,hu,e⟩
  obtain⟨i,hi,rfl⟩:=qN.mp hu
  rw[at_ i hi,tu]at e
  rw[<-e];exact ny _
 ·intro h
  obtain⟨i,hi,rfl⟩:=qN.mp h
  exact⟨us[i]'(by omega),ny _,by rw[at_ i (by omega),tu]⟩
def G4(neg:Bool):R2:=λx y H Q=>∃a L,x=.ref a/\y=.ref L/\∃u bs ts,H a=some (.tup (List.map V.int u))/\H L=some (.lst (List.map V.ref bs))/\bD H bs ts/\Q (.bl (if neg then !decide (u∈ts) else decide (u∈ts))) H
theorem Hy{A:Around}{a:Addr}{u:List Int}{bs:List Addr}{ts:List (List Int)}(I:Inv X pins σ H s)(ha:H a=some (.tup (List.map V.int u)))(sa:bD H bs ts)(hu:A.units<cLine){us:List Value}(r:Vals (List.map V.ref bs) us):∀z∈us,SeqAt.EqAt A s z (.ref a) (pW bs ts u z):=λz hz=>by
 obtain⟨i,hi,rfl⟩:=qN.mp hz
 have l:=r.length
 rw[aP]at l
 have lt:=sa.1
 have e1:bs[i]?=some (bs[i]'(by omega)):=bw (by omega)
 have e2:ts[i]?=some (ts[i]'(by omega)):=bw (by omega)
 have v:us[i]=.ref (bs[i]'(by omega)):=by
  have:=je (x:=.ref (bs[i]'(by omega))) r (j:=i) (by simpa using hi) (by rw[fO,e1];rfl)
  simpa [RelV]using this
 rw[v,wD sa e1 e2]
 exact Fe I (sa.2 i _ _ e1 e2) ha hu
theorem uV(hu:X.A.units+1<cLine):kc X (compareOp .In) (G4 false):=by
 intro pins s σ H x y v u Q I rx ry h
 obtain⟨a,L,rfl,rfl,w,bs,ts,ha,hL,sa,q⟩:=h
 cases rx;cases ry
 obtain⟨its,r,pl,hz⟩:=I.list (bB hL)
 refine SeqAt.in_listAt (pW bs ts w) pl.isList (λz hz=>Hy I ha sa (by first | (rw[Around.in1_units];omega) | omega) r z (by simpa using hz)) ⟨.bl _,H,I,rfl,?_⟩
 rw[show its.toArray.any (pW bs ts w)=its.any (pW bs ts w) by simp,Bw sa r]
 exact q
end
def g7{δ:Type}(Rep:Hp->V->δ->Prop)(H:Hp)(vs:List V)(ds:List δ):Prop:=vs.length=ds.length/\∀(i:Nat) v d,vs[i]?=some v->ds[i]?=some d->Rep H v d
theorem g7.nil{δ:Type}{Rep:Hp->V->δ->Prop}{H:Hp}:g7 Rep H [] []:=⟨rfl,λi v d h=>by simp at h⟩
theorem g7.snoc{δ:Type}{Rep:Hp->V->δ->Prop}{H:Hp}{vs:List V}{ds:List δ}{v:V}{d:δ}(h:g7 Rep H vs ds)(hv:Rep H v d):g7 Rep H (vs++[v]) (ds++[d]):=by
 refine⟨by rw[dR,dR,h.1];rfl,λi u e hu he=>?_⟩
 have hl:=h.1
 by_cases hi:i<vs.length
 ·rw[ou hi]at hu
  rw[ou (by lia)]at he
  exact h.2 i u e hu he
 ·rw[lQ (by lia)]at hu
  rw[lQ (by lia),<-hl]at he
  have h0:i-vs.length=0:=by
   cases z:i-vs.length with
   | zero=>rfl
   | succ n=>rw[z]at hu;simp at hu
  rw[h0]at hu he
  cases hu;cases he
  exact hv
theorem g7.mono{δ:Type}{Rep:Hp->V->δ->Prop}{H H':Hp}{vs:List V}{ds:List δ}(k:∀v d,Rep H v d->Rep H' v d)(h:g7 Rep H vs ds):g7 Rep H' vs ds:=⟨h.1,λi v d a b=>k v d (h.2 i v d a b)⟩
def nu(H:Hp)(v:V)(x:List Int):Prop:=∃b,v=.ref b/\H b=some (.tup (List.map V.int x))
theorem GF{H:Hp}{vs:List V}{ts:List (List Int)}(h:g7 nu H vs ts):∃bs,vs=List.map V.ref bs/\bD H bs ts:=by
 induction vs generalizing ts with
 | nil=>
  have:ts=[]:=List.length_eq_zero_iff.mp h.1.symm
  subst this
  exact⟨[],rfl,rfl,λi b t e=>by simp at e⟩
 | cons v vs ih=>
  cases ts with
  | nil=>exact absurd h.1 (by simp)
  | cons t ts=>
   obtain⟨bs,e1,s1⟩:=ih (ts:=ts) ⟨by have:=h.1;simpa using this,λi v d a b=>h.2 (i+1) v d (by simpa using a) (by simpa using b)⟩
   obtain⟨b,rfl,hb⟩:=h.2 0 v t rfl rfl
   refine⟨b::bs,by rw[e1];rfl,by rw[cR,cR,s1.1],λi c u hc hu=>?_⟩
   cases i with
   | zero=>cases hc;cases hu;exact hb
   | succ n=>exact s1.2 n c u (by simpa using hc) (by simpa using hu)
theorem m9{δ:Type}(f:Nat->Option δ)(i:Nat):(List.range (i+1)).filterMap f=(List.range i).filterMap f++(f i).toList:=by
 rw[List.range_succ,List.filterMap_append]
 cases e:f i <;> simp[e]
theorem Fc{δ:Type}(f:Nat->Option δ)(i:Nat):((List.range i).filterMap f).length<=i:=cq (List.length_filterMap_le _ _) (by rw[xr];exact cu _)
theorem yH{K:PySem.W.Frag}{a:Addr}{zs:List V}{idx:List Nat}{tt:CB->TT}{te:CB->TE}{σ:St}{Q:VK}{H1:Hp}{δ:Type}(S:Hp->Hp->Prop)(f:Nat->Option δ)(Rep:Addr->Hp->V->δ->Prop)(sr:S H1 H1)(st:∀H H',S H1 H->S H H'->S H1 H')
  (sp:∀D H o,H1 D=none->S H1 H->S H1 (upd H D o)) (sk:∀D H H' o,H1 D=none->S H1 H->S H H'->H D=some o->H' D=some o)
  (mono:∀D H H' v d,S H1 H->S H H'->Rep D H v d->Rep D H' v d) (yi:∀D H o v d,H1 D=none->S H1 H->(∃xs,H D=some (.lst xs))->Rep D H v d->Rep D (upd H D o) v d)
  (hL:∀H,S H1 H->H a=some (.lst zs)) (l9:zs.length<=900000)
  (hs:∀(D:Addr) (c:CB) (H:Hp) (i:Nat) (z:V) (yes:V->Hp->Prop) (no:Hp->Prop),zs[i]?=some z->S H1 H->H1 D=none->(∃xs,H D=some (.lst xs))->(∀d,f i=some d->∀v H',S H H'->Rep D H' v d->yes v H')->(f i=none->∀H',S H H'->no H')->tt c (some (z)::bL σ idx) H λb H4=>if b=true then te c (some (z)::bL σ idx) H4 yes else no H4)
  (q:∀D H' vs,S H1 H'->H1 D=none->H' D=some (.lst vs)->g7 (Rep D) H' vs ((List.range (zs.length)).filterMap f)->Q (.ref D) H'):ip (xj K a) 1 idx (λ_=>cL 0) tt te σ Q H1:=by
 obtain⟨Pc,ig⟩:∃Pc:Addr->Nat->List V->Hp->Prop,∀Z i ys H',Pc Z i ys H'↔S H1 H'/\H' Z=some (.lst ys)/\g7 (Rep Z) H' ys ((List.range i).filterMap f):=⟨_,λ_ _ _ _=>du⟩
 refine ik Pc (λZ hZ=>(ig _ _ _ _).mpr ⟨sp Z _ _ hZ sr,aj,.nil⟩) (λZ hZ i ys H' _ pv=>hL H' ((ig _ _ _ _).mp pv).1) (λZ hZ i z ys H' hz pv cb=>?_) (λZ hZ ys H' pv=>?_)
 ·obtain⟨s1,kG,rl⟩:=(ig _ _ _ _).mp pv
  have hi:i<zs.length:=(fP.mp hz).1
  refine hs Z cb H' i z _ _ hz s1 hZ ⟨_,kG⟩ (λd hd v H2 s2 hv=>?_) (λhn H2 s2=>?_)
  ·refine⟨sk Z _ _ _ hZ s1 s2 kG,?_,(ig _ _ _ _).mpr ⟨sp Z _ _ hZ (st _ _ s1 s2),aj,?_⟩⟩
   ·rw[rl.1]
    have:=Fc f i
    exact qL (by lia:((List.range i).filterMap f).length<=1000000) (by decide)
   ·rw[m9,hd]
    exact(((rl.mono λv d=>mono Z _ _ v d s1 s2)).snoc hv).mono λv d=>yi Z H2 _ v d hZ (st _ _ s1 s2) ⟨_,sk Z _ _ _ hZ s1 s2 kG⟩
  ·refine(ig _ _ _ _).mpr ⟨st _ _ s1 s2,sk Z _ _ _ hZ s1 s2 kG,?_⟩
   rw[m9,hn,Option.toList_none,om]
   exact rl.mono λv d=>mono Z _ _ v d s1 s2
 ·obtain⟨s1,kG,rl⟩:=(ig _ _ _ _).mp pv
  exact q Z H' ys s1 hZ kG rl
theorem Bq{K:PySem.W.Frag}{a:Addr}{zs:List V}{idx:List Nat}{tt:CB->TT}{te:CB->TE}{σ:St}{Q:VK}{H1:Hp}{δ:Type}(S:Hp->Hp->Prop)(f:Nat->Option δ)(Rep:Addr->Hp->V->δ->Prop)(sr:S H1 H1)(st:∀H H',S H1 H->S H H'->S H1 H')
  (sp:∀D H o,H1 D=none->S H1 H->S H1 (upd H D o)) (sk:∀D H H' o,H1 D=none->S H1 H->S H H'->H D=some o->H' D=some o)
  (mono:∀D H H' v d,S H1 H->S H H'->Rep D H v d->Rep D H' v d) (yi:∀D H o v d,H1 D=none->S H1 H->(∃xs,H D=some (.lst xs))->Rep D H v d->Rep D (upd H D o) v d)
  (hL:∀H,S H1 H->H a=some (.tup zs)) (l9:zs.length<=900000)
  (hs:∀(D:Addr) (c:CB) (H:Hp) (i:Nat) (z:V) (yes:V->Hp->Prop) (no:Hp->Prop),zs[i]?=some z->S H1 H->H1 D=none->(∃xs,H D=some (.lst xs))->(∀d,f i=some d->∀v H',S H H'->Rep D H' v d->yes v H')->(f i=none->∀H',S H H'->no H')->tt c (some (z)::bL σ idx) H λb H4=>if b=true then te c (some (z)::bL σ idx) H4 yes else no H4)
  (q:∀D H' vs,S H1 H'->H1 D=none->H' D=some (.lst vs)->g7 (Rep D) H' vs ((List.range (zs.length)).filterMap f)->Q (.ref D) H'):ip (Iy K a) 1 idx (λ_=>cL 0) tt te σ Q H1:=by
 obtain⟨Pc,ig⟩:∃Pc:Addr->Nat->List V->Hp->Prop,∀Z i ys H',Pc Z i ys H'↔S H1 H'/\H' Z=some (.lst ys)/\g7 (Rep Z) H' ys ((List.range i).filterMap f):=⟨_,λ_ _ _ _=>du⟩
 refine jl Pc (λZ hZ=>(ig _ _ _ _).mpr ⟨sp Z _ _ hZ sr,aj,.nil⟩) (λZ hZ i ys H' _ pv=>hL H' ((ig _ _ _ _).mp pv).1) (λZ hZ i z ys H' hz pv cb=>?_) (λZ hZ ys H' pv=>?_)
 ·obtain⟨s1,kG,rl⟩:=(ig _ _ _ _).mp pv
  have hi:i<zs.length:=(fP.mp hz).1
  refine hs Z cb H' i z _ _ hz s1 hZ ⟨_,kG⟩ (λd hd v H2 s2 hv=>?_) (λhn H2 s2=>?_)
  ·refine⟨sk Z _ _ _ hZ s1 s2 kG,?_,(ig _ _ _ _).mpr ⟨sp Z _ _ hZ (st _ _ s1 s2),aj,?_⟩⟩
   ·rw[rl.1]
    have:=Fc f i
    exact qL (by lia:((List.range i).filterMap f).length<=1000000) (by decide)
   ·rw[m9,hd]
    exact(((rl.mono λv d=>mono Z _ _ v d s1 s2)).snoc hv).mono λv d=>yi Z H2 _ v d hZ (st _ _ s1 s2) ⟨_,sk Z _ _ _ hZ s1 s2 kG⟩
  ·refine(ig _ _ _ _).mpr ⟨st _ _ s1 s2,sk Z _ _ _ hZ s1 s2 kG,?_⟩
   rw[m9,hn,Option.toList_none,om]
   exact rl.mono λv d=>mono Z _ _ v d s1 s2
 ·obtain⟨s1,kG,rl⟩:=(ig _ _ _ _).mp pv
  exact q Z H' ys s1 hZ kG rl
theorem fk{K:PySem.W.Frag}{a:Addr}{zs:List V}{idx:List Nat}{tt:CB->TT}{te:CB->TE}{σ:St}{Q:VK}{H1:Hp}{δ:Type}(f:Nat->Option δ)(Rep:Addr->Hp->V->δ->Prop)(mono:∀D H H' v d,bF H H'->Rep D H v d->Rep D H' v d)(yi:∀D H o v d,(∃xs,H D=some (.lst xs))->H1 D=none->Rep D H v d->Rep D (upd H D o) v d)
  (hL:H1 a=some (.lst zs)) (l9:zs.length<=900000)
  (hs:∀(D:Addr) (c:CB) (H:Hp) (i:Nat) (z:V) (yes:V->Hp->Prop) (no:Hp->Prop),zs[i]?=some z->bF H1 H->H1 D=none->(∃xs,H D=some (.lst xs))->(∀d,f i=some d->∀v H',bF H H'->Rep D H' v d->yes v H')->(f i=none->∀H',bF H H'->no H')->tt c (some (z)::bL σ idx) H λb H4=>if b=true then te c (some (z)::bL σ idx) H4 yes else no H4)
  (q:∀D H' vs,bF H1 H'->H1 D=none->H' D=some (.lst vs)->g7 (Rep D) H' vs ((List.range (zs.length)).filterMap f)->Q (.ref D) H'):ip (xj K a) 1 idx (λ_=>cL 0) tt te σ Q H1:=
 yH bF f Rep (λ_ _ e=>e) (λ_ _ a b=>a.trans b) (λD H o hD s b u e=>by rw[aM (aQ e hD)];exact s b u e) (λD H H' o _ _ s e=>s D o e) (λD H H' v d _ s r=>mono D H H' v d s r) (λD H o v d hD _ hl r=>yi D H o v d hl hD r) (λH s=>s _ _ hL) l9 hs q
theorem fK{K:PySem.W.Frag}{a:Addr}{zs:List V}{idx:List Nat}{tt:CB->TT}{te:CB->TE}{σ:St}{Q:VK}{H1:Hp}{δ:Type}(f:Nat->Option δ)(Rep:Addr->Hp->V->δ->Prop)(mono:∀D H H' v d,bF H H'->Rep D H v d->Rep D H' v d)(yi:∀D H o v d,(∃xs,H D=some (.lst xs))->H1 D=none->Rep D H v d->Rep D (upd H D o) v d)
  (hL:H1 a=some (.tup zs)) (l9:zs.length<=900000)
  (hs:∀(D:Addr) (c:CB) (H:Hp) (i:Nat) (z:V) (yes:V->Hp->Prop) (no:Hp->Prop),zs[i]?=some z->bF H1 H->H1 D=none->(∃xs,H D=some (.lst xs))->(∀d,f i=some d->∀v H',bF H H'->Rep D H' v d->yes v H')->(f i=none->∀H',bF H H'->no H')->tt c (some (z)::bL σ idx) H λb H4=>if b=true then te c (some (z)::bL σ idx) H4 yes else no H4)
  (q:∀D H' vs,bF H1 H'->H1 D=none->H' D=some (.lst vs)->g7 (Rep D) H' vs ((List.range (zs.length)).filterMap f)->Q (.ref D) H'):ip (Iy K a) 1 idx (λ_=>cL 0) tt te σ Q H1:=
 Bq bF f Rep (λ_ _ e=>e) (λ_ _ a b=>a.trans b) (λD H o hD s b u e=>by rw[aM (aQ e hD)];exact s b u e) (λD H H' o _ _ s e=>s D o e) (λD H H' v d _ s r=>mono D H H' v d s r) (λD H o v d hD _ hl r=>yi D H o v d hl hD r) (λH s=>s _ _ hL) l9 hs q
theorem nu.mono{H H':Hp}{v:V}{d:List Int}(k:∀b xs,H b=some (.tup xs)->H' b=some (.tup xs))(r:nu H v d):nu H' v d:=let ⟨b,e,h⟩:=r;⟨b,e,k _ _ h⟩
theorem nu.put{H:Hp}{v:V}{d:List Int}{D:Addr}{o:HO}(hl:∃xs,H D=some (.lst xs))(r:nu H v d):nu (upd H D o) v d:=by
 obtain⟨b,rfl,h⟩:=r
 obtain⟨xs,hx⟩:=hl
 exact⟨b,rfl,by rw[aM (Jf h hx (by intro z;cases z))];exact h⟩
theorem nu.same:∀(D:Addr) (H H':Hp) (v:V) (d:List Int),bF H H'->(λ_=>nu) D H v d->(λ_=>nu) D H' v d:=λ_ _ _ _ _ s r=>r.mono λb xs e=>s _ _ e
theorem nu.puts{H1:Hp}:∀(D:Addr) (H:Hp) (o:HO) (v:V) (d:List Int),(∃xs,H D=some (.lst xs))->H1 D=none->(λ_=>nu) D H v d->(λ_=>nu) D (upd H D o) v d:=λ_ _ _ _ _ hl _ r=>r.put hl
def yQ(H:Hp)(v d:V):Prop:=v=d
theorem m8{H:Hp}{vs ds:List V}(h:g7 yQ H vs ds):vs=ds:=List.ext_getElem? λi=>by
 by_cases hi:i<vs.length
 ·have hj:i<ds.length:=by have:=h.1;lia
  rw[bw hi,bw hj]
  exact iU some (h.2 i _ _ (bw hi) (bw hj))
 ·rw[y4 (by lia),y4 (by have:=h.1;lia)]
theorem Ii{δ:Type}{f:Nat->Option δ}{l:List δ}(h:∀i,i<l.length->f i=l[i]?):(List.range l.length).filterMap f=l:=by
 have:∀n,n<=l.length->(List.range n).filterMap f=l.take n:=λn=>by
  induction n with
  | zero=>intro _;rfl
  | succ n ih=>
   intro hn
   rw[m9,ih (by lia),h n (by lia),nA]
 rw[this _ (cu _),oo]
theorem nc{δ:Type}{l:List δ}{p:δ->Bool}{f:Nat->Option δ}(h:∀i (hi:i<l.length),f i=if p l[i] then some l[i] else none):(List.range l.length).filterMap f=l.filter p:=by
 have:∀n,n<=l.length->(List.range n).filterMap f=(l.take n).filter p:=λn=>by
  induction n with
  | zero=>intro _;rfl
  | succ n ih=>
   intro hn
   rw[m9,ih (by lia),h n (by lia),nA,yZ,bw (by lia)]
   cases e:p l[n] <;> simp[e]
 rw[this _ (cu _),oo]
theorem jF{α δ:Type}{l:List α}{g:α->δ}{f:Nat->Option δ}(h:∀i (hi:i<l.length),f i=some (g l[i])):(List.range l.length).filterMap f=l.map g:=by
 have:=Ii (f:=f) (l:=l.map g) λi hi=>by
  rw[aP]at hi
  rw[h i hi,fO,bw hi];rfl
 rwa [aP]at this
end L2
end
section
namespace L2
open PySem
theorem bD.mono{H H':Hp}{bs:List Addr}{ts:List (List Int)}(k:∀b xs,H b=some (.tup xs)->H' b=some (.tup xs))(s:bD H bs ts):bD H' bs ts:=⟨s.1,λi b t hb ht=>k _ _ (s.2 i b t hb ht)⟩
theorem bD.snoc{H:Hp}{bs:List Addr}{ts:List (List Int)}{b:Addr}{t:List Int}(s:bD H bs ts)(hb:H b=some (.tup (List.map V.int t))):bD H (bs++[b]) (ts++[t]):=by
 refine⟨by rw[dR,dR,s.1];rfl,λi c u hc hu=>?_⟩
 by_cases hi:i<bs.length
 ·rw[ou hi]at hc
  rw[ou (by rw[<-s.1];exact hi)]at hu
  exact s.2 i c u hc hu
 ·rw[lQ (by lia)]at hc
  rw[lQ (by rw[<-s.1];lia),<-s.1]at hu
  have h0:i-bs.length=0:=by
   cases z:i-bs.length with
   | zero=>rfl
   | succ n=>rw[z]at hc;simp at hc
  rw[h0]at hc hu
  cases hc;cases hu
  exact hb
theorem dA(K:PySem.W.Frag)(T:String):PySem.W.kitOne K (.type T) (.type T)=some true:=by
 unfold PySem.W.kitOne
 rw[aR (by simp)]
theorem dk{K:PySem.W.Frag}{A B:String}(h:(Value.type A==Value.type B)=false)(e:PySem.W.kitCls K (.type A) (.type B)=some false):PySem.W.kitOne K (.type A) (.type B)=some false:=by
 unfold PySem.W.kitOne
 rw[aO (by rw[h];exact dQ)]
 exact e
theorem zI{K:PySem.W.Frag}{A B:String}(h:(Value.type A==Value.type B)=false)(e:PySem.W.kitCls K (.type A) (.type B)=some true):PySem.W.kitOne K (.type A) (.type B)=some true:=by
 unfold PySem.W.kitOne
 rw[aO (by rw[h];exact dQ)]
 exact e
end L2
end
section
namespace L2
open PySem PySem.Spec PyProof.Rows
section
variable {X:Cx}
def xX(w:World):List V->Hp->VK->Prop:=λvs H Q=>∃a,vs=[.ref a]/\∃ss:List Int,H a=some (.tup (ss.map V.int))/\ss.length<4000/\∀p,H p=none->Q (.ref p) (upd H p (ZF w p ss))
end
end L2
end
section
namespace L2
open PySem
theorem eK{H H1:Hp}{p:Addr}{o:HO}(a:bF H H1)(hn:H p=none):bF H (upd H1 p o):=λb u e=>by rw[aM (aQ e hn)];exact a b u e
theorem rq{qs:List Addr}{i:Nat}{x:V}(h:(List.map V.ref qs)[i]?=some x):∃q,qs[i]?=some q/\x=.ref q:=by
 rw[fO]at h
 cases e:qs[i]? with
 | none=>rw[e]at h;cases h
 | some q=>rw[e]at h;exact⟨q,rfl,(dP h).symm⟩
theorem ao{H:Hp}{p:Addr}(h:H p=none)(o:HO):bF H (upd H p o):=λb u q=>by rw[aM (aQ q h)];exact q
def dm(x y:List Int):Bool:=x.all λm=>decide (m∈y)
theorem cz(m:Int)(y:List Int):Jj (.int m) (List.map V.int y)=decide (m∈y):=by
 unfold Jj
 rw[uo,iV,tj,nB]
 constructor
 ·rintro⟨z,hz,e⟩
  have:z=m:=by simpa [BV]using e
  rw[<-this];exact hz
 ·intro h
  exact⟨m,h,by simp[BV]⟩
theorem bW(y:List Int):(List.map V.int y).all iJ=true:=by
 rw[sX,iX]
 intro _ _
 rfl
theorem int_at{ns:List Int}{i:Nat}{x:V}(h:(List.map V.int ns)[i]?=some x):∃n,ns[i]?=some n/\x=.int n:=by
 rw[fO]at h
 cases e:ns[i]? with
 | none=>rw[e]at h;cases h
 | some q=>rw[e]at h;exact⟨q,rfl,(dP h).symm⟩
def J2:Sp:=λvs H Q _=>∃a b,vs=[.ref a,.ref b]/\∃x y:List Int,H a=some (.tup (List.map V.int x))/\H b=some (.tup (List.map V.int y))/\Q (.bl (dm x y)) H
def hv(l:Addr)(a b c d e:Int):HO:=.lst [.ref l,.int a,.int b,.int c,.int d,.int e]
def QM(l:Addr)(o:HO):Prop:=∃a b c d e,o=hv l a b c d e/\0<=a
def uF:Sp:=λvs H Q _=>∃h,vs=[.ref h]/\∃l a b c d e,H h=some (hv l a b c d e)/\Q (.int (d*48271%2147483647+e*40693%2147483399)) (upd H h (hv l a b c (d*48271%2147483647) (e*40693%2147483399)))
def JZ:Sp:=λvs H Q _=>∃h,vs=[.ref h]/\∃l ns o,H h=some o/\QM l o/\H l=some (.lst (List.map V.int ns))/\∀o',QM l o'->Q .non (upd H h o')
def q0:Sp:=λvs H Q _=>∃h m,vs=[.ref h,.int m]/\1<=m/\m<2 ^ 300/\∃l ns o,H h=some o/\QM l o/\H l=some (.lst (List.map V.int ns))/\∀r o',0<=r->r<m->QM l o'->Q (.int r) (upd H h o')
def Hd(H:Hp)(h l:Addr):Prop:=∃ns o,H h=some o/\QM l o/\H l=some (.lst (List.map V.int ns))
def cj(H:Hp)(h:Addr):Prop:=∃l,Hd H h l
structure Dr(h:Addr)(H H':Hp):Prop where
 keep:∀b o,b≠h->H b=some o->H' b=some o
 hand:∀l,Hd H h l->Hd H' h l
theorem Dr.refl{h:Addr}{H:Hp}:Dr h H H:=⟨λ_ _ _ e=>e,λ_ x=>x⟩
theorem Dr.trans{h:Addr}{H H1 H2:Hp}(a:Dr h H H1)(b:Dr h H1 H2):Dr h H H2:=⟨λc o hc e=>b.keep c o hc (a.keep c o hc e),λl x=>b.hand l (a.hand l x)⟩
theorem Dr.aK{h:Addr}{H H1:Hp}(a:Dr h H H1)(x:cj H h):cj H1 h:=let ⟨l,y⟩:=x;⟨l,a.hand l y⟩
theorem Hd.apart{H:Hp}{h l:Addr}(x:Hd H h l):l≠h:=by
 obtain⟨ns,o,e1,⟨a,b,c,d,e,rfl,_⟩,e3⟩:=x
 intro z
 rw[z,e1]at e3
 have q:=dP e3
 unfold hv at q
 injection q with q
 match ns,q with
 | [],q=>cases q
 | n::_,q=>injection q with q1 _;cases q1
theorem Dr.new{h p:Addr}{H H1:Hp}{o:HO}(a:Dr h H H1)(hp:H1 p=none):Dr h H (upd H1 p o):=by
 refine⟨λc o' hc e=>?_,λl x=>?_⟩
 ·rw[aM (aQ (a.keep c o' hc e) hp)];exact a.keep c o' hc e
 ·obtain⟨ns,oh,e1,e2,e3⟩:=a.hand l x
  exact⟨ns,oh,by rw[aM (aQ e1 hp)];exact e1,e2,by rw[aM (aQ e3 hp)];exact e3⟩
theorem Dr.put{h p:Addr}{H H1:Hp}{o':HO}(a:Dr h H H1)(hn:H p=none):Dr h H (upd H1 p o'):=by
 refine⟨λc o' hc e=>?_,λl x=>?_⟩
 ·rw[aM (aQ e hn)];exact a.keep c o' hc e
 ·obtain⟨ns,oh,e1,e2,e3⟩:=a.hand l x
  obtain⟨_,_,f1,_,f3⟩:=x
  exact⟨ns,oh,by rw[aM (aQ f1 hn)];exact e1,e2,by rw[aM (aQ f3 hn)];exact e3⟩
theorem cj.ne{h p:Addr}{H:Hp}(x:cj H h)(hp:H p=none):p≠h:=by
 obtain⟨l,ns,oh,e1,_,_⟩:=x
 exact(aQ e1 hp).symm
theorem Dr.free{h p:Addr}{H H1:Hp}(a:Dr h H H1)(x:cj H h)(hp:H1 p=none):H p=none:=by
 cases e:H p with
 | none=>rfl
 | some o=>
  have n:=(a.aK x).ne hp
  have:=a.keep p o n e
  rw[hp]at this;cases this
theorem aU{h:Addr}{m:Int}{H0 H:Hp}{Q:VK}{E:XK}(hd:cj H0 h)(d:Dr h H0 H)(h1:1<=m)(h2:m<2 ^ 300)(q:∀r H',0<=r->r<m->Dr h H0 H'->(∀b,b≠h->H' b=H b)->Q (.int r) H'):q0 [.ref h,.int m] H Q E:=by
 obtain⟨l,x⟩:=hd
 have x':=d.hand l x
 have ap:=x'.apart
 obtain⟨ns,oh,e1,e2,e3⟩:=x'
 refine⟨h,m,rfl,h1,h2,l,ns,oh,e1,e2,e3,λr o' r0 r1 ho=>q r _ r0 r1 ⟨λc o hc e=>?_,λl' x'=>?_⟩ (λb hb=>aM hb)⟩
 ·rw[aM hc];exact d.keep c o hc e
 ·have y:=d.hand l' x'
  have ap':=y.apart
  obtain⟨ns',oh',f1,f2,f3⟩:=y
  have el:l'=l:=by
   obtain⟨a,b,c,d,e,rfl,_⟩:=e2
   obtain⟨a',b',c',d',e',rfl,_⟩:=f2
   rw[e1]at f1
   have:=dP f1
   unfold hv at this
   injection this with this
   injection this with this _
   exact(V.ref.inj this).symm
  subst el
  exact⟨ns,o',aj,ho,by rw[aM ap];exact e3⟩
theorem Fn{α:Type}(f:α->V)(xs:List α)(lo hi:Option Int):gY (xs.map f) lo hi=((xs.drop (HT.dE xs.length 0 lo)).take (HT.dE xs.length xs.length hi-HT.dE xs.length 0 lo)).map f:=by
 unfold gY;rw[aP,List.map_take,List.map_drop]
def J7(K:PySem.W.Frag):Sp:=λvs H Q _=>∃a ns,vs=[.ref a]/\og K H a (List.map V.int ns)/\∀h H',bF H H'->H h=none->cj H' h->Q (.ref h) H'
def fq(x:List Int):Prop:=x.Pairwise (· < ·)
theorem fj{x y:List Int}:dm x y=true↔∀m∈x,m∈y:=by
 unfold dm
 rw[iX]
 exact⟨λh m hm=>of_decide_eq_true (h m hm),λh m hm=>decide_eq_true (h m hm)⟩
def gk(x y:List Int):List Int:=x.filter λm=>decide (m∉y)
def J0:Sp:=λvs H Q _=>∃a b,vs=[.ref a,.ref b]/\∃x y:List Int,H a=some (.tup (List.map V.int x))/\H b=some (.tup (List.map V.int y))/\x.length<=900/\∀p H',bF H H'->H p=none->H' p=some (.tup (List.map V.int (gk x y)))->Q (.ref p) H'
theorem all_true:∀(n:Nat),(List.replicate n true).all id=true
 | 0=>rfl
 | n+1=>by rw[List.replicate_succ,vJ,all_true n];rfl
def Bt(ms:List Int)(k:Nat):Nat->List Int
 | 0=>[]
 | n+1=>Bt ms k n++(if k.testBit n then [ms.getD n 0] else [])
def xh(ms:List Int)(k:Nat):List Int:=Bt ms k ms.length
theorem oK{ms:List Int}{k:Nat}{x:Int}:∀{n:Nat},x∈Bt ms k n↔∃j,j<n/\k.testBit j=true/\x=ms.getD j 0
 | 0=>by simp[Bt]
 | n+1=>by
  rw[Bt,fu,oK]
  constructor
  ·rintro(⟨j,h1,h2,h3⟩ | h)
   ·exact⟨j,by lia,h2,h3⟩
   ·split at h
    ·rename_i hb
     exact⟨n,by lia,hb,by simpa using h⟩
    ·cases h
  ·rintro⟨j,h1,h2,h3⟩
   by_cases e:j=n
   ·subst e
    right
    rw[aR h2,h3];simp
   ·exact .inl ⟨j,by lia,h2,h3⟩
theorem vy{ms:List Int}{k:Nat}:∀{n:Nat},(Bt ms k n).length<=n
 | 0=>by simp[Bt]
 | n+1=>by
  have:=vy (ms:=ms) (k:=k) (n:=n)
  rw[Bt,dR]
  split <;> simp <;> lia
theorem Dc{ms:List Int}(r:fq ms){i j:Nat}(h:i<j)(hj:j<ms.length):ms.getD i 0<ms.getD j 0:=by
 have:=(List.pairwise_iff_getElem.mp r) i j (by lia) hj h
 rw[nI,nI,bw hj,bw (by lia:i<ms.length)]
 exact this
theorem wR{ms:List Int}{k:Nat}(r:fq ms):∀{n:Nat},n<=ms.length->fq (Bt ms k n)
 | 0,_=>List.Pairwise.nil
 | n+1,h=>by
  unfold fq
  rw[Bt,List.pairwise_append]
  refine⟨wR r (by lia),by split <;> simp,λa ha b hb=>?_⟩
  split at hb
  ·have eb:b=ms.getD n 0:=by simpa using hb
   obtain⟨j,h1,_,h3⟩:=oK.mp ha
   rw[eb,h3]
   exact Dc r h1 (by lia)
  ·cases hb
theorem FG{ms:List Int}{k:Nat}(r:fq ms):fq (xh ms k):=wR r (cu _)
theorem Io{ms:List Int}{k:Nat}:(xh ms k).length<=ms.length:=vy
theorem iO(a b:Nat):Builtin.bitAnd (a:Int) (b:Int)=((a &&& b:Nat):Int):=by
 unfold Builtin.bitAnd
 rw[decide_eq_true (by lia:(0:Int)<=(a:Int)),decide_eq_true (by lia:(0:Int)<=(b:Int))]
 simp
theorem Ms(k n:Nat):Builtin.bitAnd ((k:Int) / 2 ^ ((n:Int)).toNat) 1=if k.testBit n then 1 else 0:=by
 rw[PyProof.Rows.bitAnd_m1,qK]
 have e:((k:Int) / 2 ^ n)%2=((k / 2 ^ n%2:Nat):Int):=by
  rw[Int.natCast_emod,Int.natCast_ediv,uw];rfl
 rw[e,Nat.testBit_eq_decide_div_mod_eq]
 have:k / 2 ^ n%2=0\/k / 2 ^ n%2=1:=by lia
 rcases this with z | z <;> simp[z]
def Ss:Sp:=λvs H Q _=>∃M k,vs=[.ref M,.int k]/\∃(ms:List Int) (m:Nat),k=(m:Int)/\H M=some (.lst (List.map V.int ms))/\ms.length<=900/\∀p H',bF H H'->H p=none->H' p=some (.tup (List.map V.int (xh ms m)))->Q (.ref p) H'
theorem ua(a b:Nat):Builtin.bitOr (a:Int) (b:Int)=((a ||| b:Nat):Int):=by
 unfold Builtin.bitOr Builtin.bitAnd
 have n:∀x:Nat,Builtin.bitNot (x:Int)=-(x:Int)-1:=λx=>by unfold Builtin.bitNot;lia
 rw[n,n,decide_eq_false (by lia),decide_eq_false (by lia)]
 show Builtin.bitNot (Builtin.bitNot _)=_
 have nn:∀x:Int,Builtin.bitNot x=-x-1:=λx=>by unfold Builtin.bitNot;lia
 simp only[nn]
 have e:∀x:Nat,(-(-(x:Int)-1)-1).toNat=x:=λx=>by lia
 rw[e,e]
 lia
def dZ(k:Nat):V:=.int (k:Int)
theorem o9{r:Int}{b:Nat}(h0:0<=r)(h1:r<(b:Int)):∃k:Nat,r=(k:Int)/\k<b:=⟨r.toNat,by lia,by lia⟩
theorem zS{a b c d r:Int}(h0:0<=r)(h1:r<4):∃v,kb [V.int a,V.int b,V.int c,V.int d] r=some (.int v)/\(v=a\/v=b\/v=c\/v=d):=by
 have:r=0\/r=1\/r=2\/r=3:=by lia
 rcases this with e | e | e | e <;> subst e
 ·exact⟨a,z7 ..,by simp⟩
 ·exact⟨b,z6 ..,by simp⟩
 ·exact⟨c,z5 ..,by simp⟩
 ·exact⟨d,z4 ..,by simp⟩
theorem rJ{ks:List Nat}{i:Nat}{x:V}(h:(List.map dZ ks)[i]?=some x):∃k,ks[i]?=some k/\x=.int (k:Int):=by
 rw[fO]at h
 cases e:ks[i]? with
 | none=>rw[e]at h;cases h
 | some k=>rw[e]at h;exact⟨k,rfl,(dP h).symm⟩
def pS(g:Nat->Nat->Nat)(ks:List Nat)(a:Nat):Bool:=!(ks.any λb=>decide (b≠a)&&decide (b &&& a=g b a))
def wj(g:Nat->Nat->Nat)(ks:List Nat):List Nat:=ks.filter (pS g ks)
theorem Iq(ks:List Nat)(f:Nat->Bool):(ks.map f).any id=ks.any f:=by
 induction ks with
 | nil=>rfl
 | cons a r ih=>rw[jL,sY,sY,ih];rfl
theorem vS{α:Type}{p:α->Bool}{xs:List α}{i:Nat}{x:α}(h:xs[i]?=some x):(xs.take (i+1)).filter p=(xs.take i).filter p++(if p x then [x] else []):=by
 rw[nA,h,yZ]
 by_cases c:p x=true <;> simp[c]
theorem Dr.on{h:Addr}{H H1 H2:Hp}(a:Dr h H H1)(s:bF H1 H2):Dr h H H2:=⟨λc o hc e=>s _ _ (a.keep c o hc e),λl x=>by
 obtain⟨ns,oh,e1,e2,e3⟩:=a.hand l x
 exact⟨ns,oh,s _ _ e1,e2,s _ _ e3⟩⟩
theorem cj.md{h b:Addr}{H:Hp}{xs:List V}(x:cj H h)(e:H b=some (.tup xs)):b≠h:=by
 obtain⟨l,ns,o,e1,⟨_,_,_,_,_,rfl,_⟩,_⟩:=x
 exact Jf e e1 (by intro z;cases z)
theorem Dy{n:Nat}(h:n<=10):2 ^ n<=1024:=cq (y3 (by decide) h) (by decide)
theorem Dr.sets{h:Addr}{H H':Hp}{bs:List Addr}{ts:List (List Int)}(hd:cj H h)(d:Dr h H H')(s:bD H bs ts):bD H' bs ts:=s.mono λb xs e=>d.keep _ _ (hd.md e) e
theorem nO{α β:Type}(f:α->β):∀(l:List α) (k:Nat),(l.map f).eraseIdx k=(l.eraseIdx k).map f
 | [],_=>rfl
 | _::_,0=>rfl
 | x::l,k+1=>by
  show f x::(l.map f).eraseIdx k=f x::(l.eraseIdx k).map f
  rw[nO f l k]
abbrev cut(n:Int)(s:List Int):List Int:=s.filter λm=>decide (m≠n)
theorem zG{ms:List Int}(p:Nat->Bool):∀n:Nat,∃m,m<2 ^ n/\∀j,m.testBit j=(p j&&decide (j<n))
 | 0=>⟨0,by simp,λj=>by simp⟩
 | n+1=>by
  obtain⟨m,h1,h2⟩:=zG (ms:=ms) p n
  have h3:m<2 ^ (n+1):=fN h1 (y3 (by decide) (by omega))
  cases e:p n with
  | false=>
   refine⟨m,h3,λj=>?_⟩
   rw[h2]
   by_cases c:j=n
   ·subst c;simp[e]
   ·have:decide (j<n)=decide (j<n+1):=by rw[iV,nB,nB];omega
    rw[this]
  | true=>
   refine⟨m ||| 2 ^ n,xt h3 (Nat.pow_lt_pow_right (by decide) (by omega)),λj=>?_⟩
   rw[Nat.testBit_or,Nat.testBit_two_pow,h2]
   by_cases c:j=n
   ·subst c;simp[e]
   ·have:decide (j<n)=decide (j<n+1):=by rw[iV,nB,nB];omega
    rw[this]
    have c':¬n=j:=λz=>c z.symm
    simp[c']
end L2
end
section
namespace L2
structure Nx(P R:St->Hp->Prop):Prop where
 to:∀σ H,P σ H->R σ H
theorem dX{t u:TS}{D:Ends}{σ:St}{H:Hp}(h:∀R:St->Hp->Prop,Nx (u D) R->t { D with nx:=R } σ H):tSeq t u D σ H:=h (u D) ⟨λ_ _ z=>z⟩
end L2
end
section
namespace L2
open PySem PySem.Spec PyProof.Rows
section
variable {X:Cx}{o e value:Expr}{f:Str}{pos pos':Pos}{ta tv:TE}
theorem qz(he:ZE X e ta)(hb:attributeBase e f X.env (eval e X.env)=eval e X.env):ZE X (.Attribute e f pos) (Gu X.K ta f):=⟨KN he.to hb⟩
theorem uz(ha:ZE X o ta)(hv:ZE X value tv)(hs:swapsWith value (some (.Attribute o f pos')) pos.line X.env=pure false):ZS X (.Assign [.Attribute o f pos'] value pos) (GK X.K ta tv f):=⟨Ku ha.to hv.to hs⟩
end
section
variable {X:Cx}{CX:Ca}{k:Nat}{f C:Addr}{fd:FuncData}{ps:List Str}{sp:Sp}{pq:List V}{ds:List Value}{E:XK}{x m:Str}{p pos apos:Pos}{e o:Expr}{es:List Expr}{ta:TE}{t:TA}
theorem qT{pl:Sem Bool}(he:ZE X o ta)(c:Cls X.K C)(hm:Meth X.K C m f)(F:cE X.prog X.w X.K X.mg X.base CX k f fd ps sp)(hr:fo k X.A)(hb:Binds X.K fd ps ds)(hd:Vals pq ds)(hx:Passes CX X E)(ha:ZA X (e::es) t)
  (Oy:starEach (e::es) X.env=(false,eval e X.env)::starEach es X.env:=by rfl) (zM:(backTo pos (starEach es X.env)).any (·.1)=false:=by rfl)
  (ht:eval (.Call (.Attribute o m apos) (e::es) [] pos) X.env=(do
   let ov <-eval o X.env
   standAt apos.atName
   let (f,first) <-holding [ov] (getMethod ov m pl)
   callWith pos f first (backTo pos (starEach (e::es) X.env)) (backToKw pos (keywordEach [] X.env))):=by rfl) :
  ZE X (.Call (.Attribute o m apos) (e::es) [] pos) (za C m sp pq E ta t):=⟨Hg he.to c hm F hr hb hd hx ha.to Oy zM ht⟩
theorem Cr(M:Mk X.K C f)(F:cE X.prog X.w X.K X.mg X.base CX k f fd ps sp)(hr:fo (k+1) X.A)(hg:Gl X x)(hm:X.mg x=some (.ref C))(hb:Binds X.K fd ps ds)(hd:Vals pq ds)(hx:Passes CX X E)
  (ha:ZA X (e::es) t) (HS:(x==("__debug__" : Str))=false:=by decide) (he:starEach (e::es) X.env=(false,eval e X.env)::starEach es X.env:=by rfl) (zM:(backTo pos (starEach es X.env)).any (·.1)=false:=by rfl) :
  ZE X (.Call (.Name x p) (e::es) [] pos) (zb C sp pq E t):=⟨Hh M F hr hg hm hb hd hx ha.to HS he zM⟩
end
def sm(H:Hp)(ps:List Addr)(fs:List (List (List Int))):Prop:=ps.length=fs.length/\∀(i:Nat) p f,ps[i]?=some p->fs[i]?=some f->∃bs,H p=some (.lst (List.map V.ref bs))/\bD H bs f
section
variable {X:Cx}{pins:List (Addr×Obj)}{s:Shared}{σ:St}{H:Hp}{A:Around}
theorem Mh{p q:Addr}{ps qs:List Addr}{cl dl:List (List Int)}(I:Inv X pins σ H s)(h1:H p=some (.lst (List.map V.ref ps)))(h2:H q=some (.lst (List.map V.ref qs)))(a1:bD H ps cl)(a2:bD H qs dl)(hu:A.units+1<cLine):SeqAt.EqAt A s (.ref p) (.ref q) (decide (cl=dl)):=by
 by_cases e:p=q
 ·subst e
  have hp:ps=qs:=by
   have h:=h1.symm.trans h2
   simp only[tq,HO.lst.injEq]at h
   exact(List.map_inj_right λ_ _ z=>by cases z;rfl).mp h
  subst hp
  have:cl=dl:=by
   apply List.ext_getElem (by rw[<-a1.1,<-a2.1])
   intro i k1 k2
   have j1:i<ps.length:=by rw[a1.1];exact k1
   have x1:=a1.2 i _ _ (bw j1) (bw k1)
   have x2:=a2.2 i _ _ (bw j1) (bw k2)
   have h:=x1.symm.trans x2
   simp only[tq,HO.tup.injEq]at h
   exact oF h
  rw[decide_eq_true this]
  exact SeqAt.EqAt.same _
 ·obtain⟨us,r1,t1,_⟩:=I.list (bB h1)
  obtain⟨ws,r2,t2,_⟩:=I.list (bB h2)
  have l1:=r1.length
  have l2:=r2.length
  rw[aP]at l1 l2
  by_cases hl:cl.length=dl.length
  ·have h:=SeqAt.RcAt.lists (A:=A) (e:=λj=>decide (cl[j]?=dl[j]?)) t1.isList t2.isList (by rw[cT,cT,<-l1,<-l2,a1.1,a2.1,hl]) (by omega) (λj h1 h2=>vv I r1 r2 a1 a2 (by rw[Around.in1_units];omega) j h1 h2)
   have e2:=sf (cl:=cl) (dl:=dl)
   rw[hl,Nat.min_self,iY,Bool.and_true]at e2
   rw[cT,<-l1,a1.1,hl,e2]at h
   exact .of_refs e h
  ·have h:=SeqAt.RcAt.lists_lengths (A:=A) t1.isList t2.isList (by rw[cT,cT,<-l1,<-l2,a1.1,a2.1];simpa using hl) (by omega)
   rw[decide_eq_false λz=>hl (by rw[z])]
   exact .of_refs e h
theorem vx{ps qs:List Addr}{us ws:List Value}{cl dl:List (List (List Int))}(I:Inv X pins σ H s)(r1:Vals (List.map V.ref ps) us)(r2:Vals (List.map V.ref qs) ws)(a:sm H ps cl)(b:sm H qs dl)(hu:A.units+1<cLine)(j:Nat)(h1:j<us.toArray.size)(h2:j<ws.toArray.size) :
  SeqAt.EqAt A s us.toArray[j] ws.toArray[j] (decide (cl[j]?=dl[j]?)):=by
 have l1:=r1.length
 have l2:=r2.length
 rw[aP]at l1 l2
 have j1:j<ps.length:=by rw[l1];simpa using h1
 have j2:j<qs.length:=by rw[l2];simpa using h2
 have e1:ps[j]?=some ps[j]:=bw j1
 have e2:qs[j]?=some qs[j]:=bw j2
 have k1:j<cl.length:=by rw[<-a.1];exact j1
 have k2:j<dl.length:=by rw[<-b.1];exact j2
 have c1:cl[j]?=some cl[j]:=bw k1
 have c2:dl[j]?=some dl[j]:=bw k2
 have v1:us.toArray[j]=.ref ps[j]:=je (x:=.ref ps[j]) r1 h1 (by rw[fO,e1];rfl)
 have v2:ws.toArray[j]=.ref qs[j]:=je (x:=.ref qs[j]) r2 h2 (by rw[fO,e2];rfl)
 obtain⟨x1,y1,z1⟩:=a.2 j _ _ e1 c1
 obtain⟨x2,y2,z2⟩:=b.2 j _ _ e2 c2
 have:=Mh (A:=A) I y1 y2 z1 z2 hu
 rw[v1,v2,c1,c2]
 have e3:decide ((some cl[j]:Option (List (List Int)))=some dl[j])=decide (cl[j]=dl[j]):=by simp only[tq]
 rw[e3];exact this
def Du(neg:Bool):R2:=λx y H Q=>∃a b,x=.ref a/\y=.ref b/\∃ps qs cl dl,H a=some (.lst (List.map V.ref ps))/\H b=some (.lst (List.map V.ref qs))/\sm H ps cl/\sm H qs dl/\Q (.bl (if neg then !decide (cl=dl) else decide (cl=dl))) H
end
def Dj:List V->Hp->VK->Prop:=λvs H Q=>∃a,vs=[.ref a]/\∃ns:List Int,H a=some (.lst (List.map V.int ns))/\0<ns.length/\∀n,n∈ns->Q (.int n) H
def xW:List V->Hp->VK->Prop:=λvs H Q=>∃a,vs=[.ref a]/\∃ns:List Int,H a=some (.lst (List.map V.int ns))/\ns.length<64/\
 ∀ms:List Int,ms.Perm ns->ms.Pairwise (·<=·)->∀p,H p=none->Q (.ref p) (upd H p (.lst (List.map V.int ms)))
theorem Li:∀{ns:List Int} {its:List Value},Vals (List.map V.int ns) its->IntsAre its ns
 | [],[],_=>.nil
 | n::ns,u::its,.cons r rs=>by
  obtain⟨t,rfl⟩:=(r:∃t,u=.int n t)
  exact .cons n t (Li rs)
section
variable {X:Cx}
theorem Bs(hh:X.A.handled=none):eQ X (.builtin "max") Dj:=by
 intro pins s σ H vs us Q I rv h
 obtain⟨a,rfl,ns,hq,l0,q⟩:=h
 obtain⟨u,rfl,ru⟩:=vals1 rv
 cases ru
 obtain⟨its,r,pl,hz⟩:=I.list (bB hq)
 have hi:=Li r
 obtain⟨xs,hx⟩:=hi.allInts.items
 have vm:s.heap.IsList a (intItems xs):=hx ▸ pl.isList
 have hl:=r.length
 rw[aP]at hl
 have e0:its.toArray.size=(intItems xs).size:=iU Array.size hx
 have sz:0<xs.size:=by
  have:(intItems xs).size=xs.size:=by simp[intItems]
  have:its.toArray.size=its.length:=cT ..
  omega
 refine max_intList hh vm sz λv h' tk hv hk=>?_
 have M5:its[argBest (λi j=>decide (numAt xs i > numAt xs j)) (xs.size-1)]?=some v:=by
  rw[<-hx]at hv
  simpa using hv
 have rS:=(fP.mp M5).1
 obtain⟨n,en⟩:∃n,ns[argBest (λi j=>decide (numAt xs i > numAt xs j)) (xs.size-1)]?=some n:=⟨_,bw (by omega)⟩
 obtain⟨u,eu,ru⟩:=r.get (x:=.int n) (by rw[fO,en];rfl)
 rw[M5]at eu
 cases eu
 exact⟨.int n,H,I.kept hk,ru,q n (qO en)⟩
theorem yM:eQ X (.builtin "sorted") xW:=by
 intro pins s σ H vs us Q I rv h
 obtain⟨a,rfl,ns,hq,h64,q⟩:=h
 obtain⟨u,rfl,ru⟩:=vals1 rv
 cases ru
 obtain⟨its,r,pl,hz⟩:=I.list (bB hq)
 have hl:=r.length
 rw[aP]at hl
 refine sorted_ints pl.isList (Li r) (by omega) λout ms h1 h2 h3=>?_
 obtain⟨c,hc⟩:=sortedAll_at s.heap its out
 have M8:(sortedAll s.heap its out).get? (s.heap.objs.size+1)=some { cls:=.type "list",data:=.seq out.toList.toArray c }:=hc
 have hn:H (s.heap.objs.size+1)=none:=I.dN.fresh (sW _)
 refine⟨.ref (s.heap.objs.size+1),_,I.laid (t':=s.toks) (o:=.lst (List.map V.int ms)) (λb ob e=>sortedAll_old e) (sW _) ?_,rfl,q ms h2 h3 _ hn⟩
 have hlen:ms.length=ns.length:=h2.length_eq
 exact⟨by rw[aP,hlen];exact xQ (by omega),out.toList,c,oV h1,M8⟩
theorem Hk(hu:X.A.units+64<cLine):kc X (compareOp .Eq) (Du false):=by
 intro pins s σ H x y v u Q I rx ry h
 obtain⟨a,b,rfl,rfl,ps,qs,cl,dl,h1,h2,a1,a2,q⟩:=h
 cases rx;cases ry
 obtain⟨us,r1,t1,_⟩:=I.list (bB h1)
 obtain⟨ws,r2,t2,_⟩:=I.list (bB h2)
 have l1:=r1.length
 have l2:=r2.length
 rw[aP]at l1 l2
 by_cases hl:cl.length=dl.length
 ·refine SeqAt.eq_listAt (e:=λj=>decide (cl[j]?=dl[j]?)) t1.isList t2.isList (by rw[cT,cT,<-l1,<-l2,a1.1,a2.1,hl]) (by omega) (λj h1 h2=>vx I r1 r2 a1 a2 (by rw[Around.in1_units];omega) j h1 h2) ⟨.bl _,H,I,rfl,?_⟩
  have e:=sf (cl:=cl) (dl:=dl)
  rw[hl,Nat.min_self,iY,Bool.and_true]at e
  rw[cT,<-l1,a1.1,hl,e]
  exact q
 ·refine SeqAt.eq_list_lengthsAt t1.isList t2.isList (by rw[cT,cT,<-l1,<-l2,a1.1,a2.1];simpa using hl) (by omega) ⟨.bl _,H,I,rfl,?_⟩
  have e:decide (cl=dl)=false:=decide_eq_false λz=>hl (by rw[z])
  have q':Q (.bl (decide (cl=dl))) H:=q
  rw[e]at q'
  exact q'
end
end L2
end
namespace My
open PySem L2
abbrev nU:List Str:=["thing"]
abbrev uW:List Str:=["thing","word","many"]
abbrev Ax:List Str:=["thing"]
abbrev yg:List Str:=["one","other","member"]
abbrev ye:List Str:=["whole","part"]
abbrev yf:List Str:=["whole","clashes","peaces","thing"]
abbrev vb:List Str:=["_law_script"]
abbrev u0:List Str:=["_law_hand_here"]
abbrev uY:List Str:=["_law_hand_here","_law_cell"]
abbrev vg:List Str:=["_law_hand_here","_law_many","_law_got","_law_value","_law_size"]
abbrev o7:List Str:=["_law_thing"]
abbrev rH:List Str:=["_law_thing"]
abbrev qj:List Str:=["_law_hand_here","_law_many","_law_size","_law_step","_law_at","_law_row","_law_k"]
abbrev yh:List Str:=["_law_members_here","_law_mask"]
abbrev sG:List Str:=["_law_hand_here","_law_many","_law_most","_law_masks_here","_law_k","_law_way","_law_mask"]
abbrev o8:List Str:=["_law_masks_here"]
abbrev uZ:List Str:=["_law_hand_here","_law_many","_law_worlds","_law_peaces","_law_clashes","_law_mask"]
abbrev sH:List Str:=["_law_hand_here","_law_members_here","_law_masks_here","_law_sets","_law_mixed"]
abbrev vd:List Str:=["_law_whole","_law_clashes","_law_peaces","_law_thing","_law_held","_law_lacked","_law_out"]
abbrev va:List Str:=["_law_hand_here","_law_masks_here","_law_many","_law_under","_law_k","_law_one"]
abbrev vf:List Str:=["_law_whole","_law_clashes","_law_peaces","_law_held","_law_lacked","_law_ends_here","_law_one"]
abbrev uX:List Str:=["_law_hand_here","_law_whole","_law_clashes","_law_peaces","_law_held","_law_lacked","_law_ends_here","_law_left","_law_member","_law_one"]
abbrev sF:List Str:=["_law_hand_here","_law_whole","_law_clashes","_law_peaces","_law_node","_law_held","_law_lacked","_law_way","_law_far_here","_law_ends_here","_law_some"]
abbrev ql:List Str:=["_law_hand_here","_law_whole","_law_clashes","_law_peaces","_law_node","_law_held","_law_lacked","_law_one"]
abbrev wx:List Str:=["_law_hand_here","_law_whole","_law_deep","_law_k"]
abbrev K7:List Str:=["_law_script","_law_hand_here","_law_members_here","_law_some","_law_others","_law_clashes","_law_peaces","_law_whole","_law_handed","_law_k","_law_tree_here","_law_fewer","_law_less","_law_told","_law_thing","_law_due"]
abbrev kF:List Str:=["self","whole","clashes","peaces"]
abbrev lH:List Str:=["self","thing","held","lacked","member"]
structure Adr where
 fW:Addr
 fV:FuncData
 mN:Addr
 mw:FuncData
 sg:Addr
 rZ:FuncData
 pJ:Addr
 pB:FuncData
 pH:Addr
 px:FuncData
 pI:Addr
 pA:FuncData
 mU:Addr
 mG:FuncData
 mR:Addr
 mE:FuncData
 mP:Addr
 mC:FuncData
 mX:Addr
 mJ:FuncData
 gZ:Addr
 gW:FuncData
 jI:Addr
 jG:FuncData
 iQ:Addr
 iK:FuncData
 pK:Addr
 pC:FuncData
 kR:Addr
 kL:FuncData
 g5:Addr
 gX:FuncData
 mQ:Addr
 mD:FuncData
 kS:Addr
 kM:FuncData
 mV:Addr
 mH:FuncData
 mS:Addr
 mF:FuncData
 mW:Addr
 mI:FuncData
 mO:Addr
 mB:FuncData
 kQ:Addr
 kK:FuncData
 iR:Addr
 iL:FuncData
 n8:Addr
 n6:FuncData
 FW:Addr
 Fl:FuncData
 aL:Addr
 bj:Addr
 dO:FuncData
 bC:Addr
 eB:FuncData
structure Txt(K:PySem.W.Frag)(mg:Str->Option Value)(t:Adr):Prop where
 gd:lM K "is_whole_number" "is_whole_number" bZ t.fW t.fV
 jm:Binds K t.fV ["thing"] []
 jh:mg "is_whole_number" = some (.ref t.fW)
 jr:lM K "is_worded" "is_worded" fA t.mN t.mw
 mL:Binds K t.mw ["thing","word","many"] []
 ml:mg "is_worded" = some (.ref t.mN)
 sq:lM K "is_set" "is_set" jX t.sg t.rZ
 wU:Binds K t.rZ ["thing"] []
 wy:mg "is_set" = some (.ref t.sg)
 pM:lM K "is_part" "is_part" iz t.pJ t.pB
 uh:Binds K t.pB ["one","other"] []
 tW:mg "is_part" = some (.ref t.pJ)
 uj:lM K "rest_of" "rest_of" iw t.pH t.px
 Bv:Binds K t.px ["whole","part"] []
 Ay:mg "rest_of" = some (.ref t.pH)
 iE:lM K "is_tree" "is_tree" iy t.pI t.pA
 j8:Binds K t.pA ["whole","clashes","peaces","thing"] []
 j3:mg "is_tree" = some (.ref t.pI)
 qh:lM K "_law_hand" "_law_hand" fG t.mU t.mG
 wX:Binds K t.mG ["_law_script"] []
 wB:mg "_law_hand" = some (.ref t.mU)
 gU:lM K "_law_next" "_law_next" fE t.mR t.mE
 jn:Binds K t.mE ["_law_hand_here"] []
 ji:mg "_law_next" = some (.ref t.mR)
 qf:lM K "_law_take" "_law_take" fC t.mP t.mC
 wV:Binds K t.mC ["_law_hand_here"] []
 wz:mg "_law_take" = some (.ref t.mP)
 aA:lM K "_law_draw" "_law_draw" fJ t.mX t.mJ
 aD:Binds K t.mJ ["_law_hand_here","_law_many"] []
 aC:mg "_law_draw" = some (.ref t.mX)
 hJ:lM K "_law_is_whole" "_law_is_whole" cF t.gZ t.gW
 lF:Binds K t.gW ["_law_thing"] []
 lB:mg "_law_is_whole" = some (.ref t.gZ)
 nP:lM K "_law_is_set" "_law_is_set" dD t.jI t.jG
 sP:Binds K t.jG ["_law_thing"] []
 sJ:mg "_law_is_set" = some (.ref t.jI)
 m6:lM K "_law_members" "_law_members" cW t.iQ t.iK
 sd:Binds K t.iK ["_law_hand_here","_law_many"] []
 rK:mg "_law_members" = some (.ref t.iQ)
 nj:lM K "_law_by" "_law_by" iA t.pK t.pC
 pG:Binds K t.pC ["_law_members_here","_law_mask"] []
 pd:mg "_law_by" = some (.ref t.pK)
 oR:lM K "_law_masks" "_law_masks" eM t.kR t.kL
 vB:Binds K t.kL ["_law_hand_here","_law_many","_law_most"] []
 vj:mg "_law_masks" = some (.ref t.kR)
 lG:lM K "_law_greatest" "_law_greatest" cG t.g5 t.gX
 qu:Binds K t.gX ["_law_masks_here"] []
 qm:mg "_law_greatest" = some (.ref t.g5)
 qg:lM K "_law_pair" "_law_pair" fD t.mQ t.mD
 wW:Binds K t.mD ["_law_hand_here","_law_many"] []
 wA:mg "_law_pair" = some (.ref t.mQ)
 kY:lM K "_law_lists" "_law_lists" eN t.kS t.kM
 oM:Binds K t.kM ["_law_hand_here","_law_members_here","_law_masks_here"] []
 oC:mg "_law_lists" = some (.ref t.kS)
 fM:lM K "_law_good" "_law_good" fH t.mV t.mH
 jo:Binds K t.mH ["_law_whole","_law_clashes","_law_peaces","_law_thing","_law_held","_law_lacked"] []
 jj:mg "_law_good" = some (.ref t.mV)
 m5:lM K "_law_more" "_law_more" fF t.mS t.mF
 qc:Binds K t.mF ["_law_hand_here","_law_masks_here","_law_many","_law_under"] []
 pT:mg "_law_more" = some (.ref t.mS)
 qi:lM K "_law_ends" "_law_ends" fI t.mW t.mI
 wY:Binds K t.mI ["_law_whole","_law_clashes","_law_peaces","_law_held","_law_lacked"] []
 wC:mg "_law_ends" = some (.ref t.mW)
 gT:lM K "_law_tree" "_law_tree" fB t.mO t.mB
 mM:Binds K t.mB ["_law_hand_here","_law_whole","_law_clashes","_law_peaces","_law_held","_law_lacked"] []
 mn:mg "_law_tree" = some (.ref t.mO)
 oQ:lM K "_law_other" "_law_other" eL t.kQ t.kK
 vA:Binds K t.kK ["_law_hand_here","_law_whole","_law_clashes","_law_peaces","_law_node","_law_held","_law_lacked"] []
 vi:mg "_law_other" = some (.ref t.kQ)
 eD:lM K "_law_changed" "_law_changed" cX t.iR t.iL
 iP:Binds K t.iL ["_law_hand_here","_law_whole","_law_clashes","_law_peaces","_law_node","_law_held","_law_lacked"] []
 iH:mg "_law_changed" = some (.ref t.iR)
 su:lM K "_law_far" "_law_far" gu t.n8 t.n6
 yN:Binds K t.n6 ["_law_hand_here","_law_whole"] []
 yn:mg "_law_far" = some (.ref t.n8)
 QS:lM K "law" "law" tM t.FW t.Fl
 aAc:Binds K t.Fl ["_law_script"] []
 aAa:mg "law" = some (.ref t.FW)
 vR:mg "abs" = none
 lu:mg "all" = none
 qU:mg "any" = none
 lT:mg "bool" = none
 tH:mg "int" = none
 bq:mg "isinstance" = none
 bY:mg "len" = none
 gq:mg "list" = none
 vQ:mg "max" = none
 eH:mg "range" = none
 lS:mg "sorted" = none
 tG:mg "str" = none
 eG:mg "tuple" = none
 vk:mg "TreeReader" = some (.ref t.aL)
 bO:Cls K t.aL
 eV:kX K t.aL "whole"
 fc:kX K t.aL "clash_list"
 e8:kX K t.aL "peace_list"
 sI:Mk K t.aL t.bj
 lO:lM K "__init__" "TreeReader.__init__" bJ t.bj t.dO
 lI:Binds K t.dO ["self","whole","clashes","peaces"] []
 gV:lM K "lets_by" "TreeReader.lets_by" bM t.bC t.eB
 eC:Binds K t.eB ["self","thing","held","lacked"] []
 dM:Meth K t.aL "lets_by" t.bC
local macro_rules | `(tactic| walk_at "r") => `(tactic| repeat (walk_at "rl"))
local macro_rules | `(tactic| walk_at "s") => `(tactic| exact ⟨rfl,rfl,rfl,by decide +kernel,rfl,by decide +kernel,by decide +kernel⟩)
theorem kE:bt kF ["self","whole","clashes","peaces"] (av bJ):=by walk_at "s"
theorem dF:bt lH ["self","thing","held","lacked"] (av bM):=by walk_at "s"
theorem nQ:bt nU ["thing"] (av bZ):=by walk_at "s"
theorem uH:bt uW ["thing","word","many"] (av fA):=by walk_at "s"
theorem Am:bt Ax ["thing"] (av jX):=by walk_at "s"
theorem rh:bt yg ["one","other"] (av iz):=by walk_at "s"
theorem xS:bt ye ["whole","part"] (av iw):=by walk_at "s"
theorem xT:bt yf ["whole","clashes","peaces","thing"] (av iy):=by walk_at "s"
theorem uJ:bt vb ["_law_script"] (av fG):=by walk_at "s"
theorem uI:bt u0 ["_law_hand_here"] (av fE):=by walk_at "s"
theorem kx:bt uY ["_law_hand_here"] (av fC):=by walk_at "s"
theorem eJ:bt vg ["_law_hand_here","_law_many"] (av fJ):=by walk_at "s"
theorem oZ:bt o7 ["_law_thing"] (av cF):=by walk_at "s"
theorem rj:bt rH ["_law_thing"] (av dD):=by walk_at "s"
theorem cg:bt qj ["_law_hand_here","_law_many"] (av cW):=by walk_at "s"
theorem xU:bt yh ["_law_members_here","_law_mask"] (av iA):=by walk_at "s"
theorem cw:bt sG ["_law_hand_here","_law_many","_law_most"] (av eM):=by walk_at "s"
theorem o1:bt o8 ["_law_masks_here"] (av cG):=by walk_at "s"
theorem fT:bt uZ ["_law_hand_here","_law_many"] (av fD):=by walk_at "s"
theorem jt:bt sH ["_law_hand_here","_law_members_here","_law_masks_here"] (av eN):=by walk_at "s"
theorem kz:bt vd ["_law_whole","_law_clashes","_law_peaces","_law_thing","_law_held","_law_lacked"] (av fH):=by walk_at "s"
theorem ky:bt va ["_law_hand_here","_law_masks_here","_law_many","_law_under"] (av fF):=by walk_at "s"
theorem kB:bt vf ["_law_whole","_law_clashes","_law_peaces","_law_held","_law_lacked"] (av fI):=by walk_at "s"
theorem eI:bt uX ["_law_hand_here","_law_whole","_law_clashes","_law_peaces","_law_held","_law_lacked"] (av fB):=by walk_at "s"
theorem dC:bt sF ["_law_hand_here","_law_whole","_law_clashes","_law_peaces","_law_node","_law_held","_law_lacked"] (av eL):=by walk_at "s"
theorem dy:bt ql ["_law_hand_here","_law_whole","_law_clashes","_law_peaces","_law_node","_law_held","_law_lacked"] (av cX):=by walk_at "s"
theorem jf:bt wx ["_law_hand_here","_law_whole"] (av gu):=by walk_at "s"
theorem dY:bt K7 ["_law_script"] (av tM):=by walk_at "s"
theorem QJ:bootBuiltins "abs" = some (.builtin "abs"):=by decide +kernel
theorem qb:bootBuiltins "all" = some (.builtin "all"):=by decide +kernel
theorem FP:bootBuiltins "any" = some (.builtin "any"):=by decide +kernel
theorem vz:bootBuiltins "bool" = some (.type "bool"):=by decide +kernel
theorem JD:bootBuiltins "int" = some (.type "int"):=by decide +kernel
theorem bK:bootBuiltins "isinstance" = some (.builtin "isinstance"):=by decide +kernel
theorem cA:bootBuiltins "len" = some (.builtin "len"):=by decide +kernel
theorem kP:bootBuiltins "list" = some (.type "list"):=by decide +kernel
theorem QH:bootBuiltins "max" = some (.builtin "max"):=by decide +kernel
theorem FN:bootBuiltins "sorted" = some (.builtin "sorted"):=by decide +kernel
theorem JC:bootBuiltins "str" = some (.type "str"):=by decide +kernel
theorem il:bootBuiltins "tuple" = some (.type "tuple"):=by decide +kernel
local macro_rules | `(tactic| walk_at "rd") => `(tactic| walk_at "rc")
local macro_rules | `(tactic| walk_at "rl") => `(tactic| first | (refine dX fun R hR => ?_) | walk_at "ry" | (refine Nx.to (by assumption) _ _ ?_))
local macro_rules | `(tactic| walk_at "rc") => do
  let ids := ("L2.start tSeq tJ Ae tI tB BK Nq uC tC qY cL Ie zQ Ig Du EY Cz Cy vV tK qW Ad JT xM qV CJ Cw Ao rI rU Q8 Q7 CV vW M4 Dl G0 Kj Ki GX Dg zj zi uQ uP qC xY xZ uO Dh rB zm Kl rz xO Dk Dp Dn G4 Kk G3 GZ Nr vT ow Kg Nu JV qB uM rA xV uN nR GL JR CK Nt CG vX JS vU Se List.map_cons List.map_nil List.cons_append List.nil_append List.append_nil List.length_cons List.length_nil List.replicate List.getElem?_cons_zero List.getElem?_cons_succ List.set_cons_zero List.set_cons_succ Nat.reduceAdd Nat.reduceSub Nat.reduceLeDiff Option.some.injEq V.int.injEq V.ref.injEq V.str.injEq V.bl.injEq V.ty.injEq List.cons.injEq HO.lst.injEq HO.tup.injEq HO.dK.injEq exists_eq_left exists_eq_left' exists_and_left and_true true_and and_assoc exists_const reduceCtorEq aj uA decide_eq_true_eq List.length_map ite_true ite_false Bool.false_eq_true Bool.true_and Bool.and_true z7 z6 z5 z4 FV FT yt yr yq yp yo Fu Ft Fs Fq yL yK yJ yI yE bL Option.join_some Option.join_none qX uD wG wF El zk xP xN zl Dq Ds uL Dm nR Di xX o2 Dj xW wH Lh Ek uB Cv Int.zero_add Int.reduceMul Int.reduceAdd Int.reduceSub Int.reduceLT Int.reduceLE Int.reducePow Int.reduceToNat Int.reduceNeg gt_iff_lt ge_iff_le uF hv Gu GK za zb".splitOn " ").toArray.map fun x => Lean.mkIdent x.toName
  `(tactic| simp only [$[$ids:ident],*])
local macro_rules | `(tactic| walk_at "ry") => do
  let ids := ("L2.start tJ Ae tI tB BK Nq uC tC qY cL Ie zQ Ig Du EY Cz Cy vV tK qW Ad JT xM qV CJ Cw Ao rI rU Q8 Q7 CV vW M4 Dl G0 Kj Ki GX Dg zj zi uQ uP qC xY xZ uO Dh rB zm Kl rz xO Dk Dp Dn G4 Kk G3 GZ Nr vT ow Kg Nu JV qB uM rA xV uN nR GL JR CK Nt CG vX JS vU Se List.map_cons List.map_nil List.cons_append List.nil_append List.append_nil List.length_cons List.length_nil List.replicate List.getElem?_cons_zero List.getElem?_cons_succ List.set_cons_zero List.set_cons_succ Nat.reduceAdd Nat.reduceSub Nat.reduceLeDiff Option.some.injEq V.int.injEq V.ref.injEq V.str.injEq V.bl.injEq V.ty.injEq List.cons.injEq HO.lst.injEq HO.tup.injEq HO.dK.injEq exists_eq_left exists_eq_left' exists_and_left and_true true_and and_assoc exists_const reduceCtorEq aj uA decide_eq_true_eq List.length_map ite_true ite_false Bool.false_eq_true Bool.true_and Bool.and_true z7 z6 z5 z4 FV FT yt yr yq yp yo Fu Ft Fs Fq yL yK yJ yI yE bL Option.join_some Option.join_none qX uD wG wF El zk xP xN zl Dq Ds uL Dm nR Di xX o2 Dj xW wH Lh Ek uB Cv Int.zero_add Int.reduceMul Int.reduceAdd Int.reduceSub Int.reduceLT Int.reduceLE Int.reducePow Int.reduceToNat Int.reduceNeg gt_iff_lt ge_iff_le uF hv Gu GK za zb".splitOn " ").toArray.map fun x => Lean.mkIdent x.toName
  `(tactic| simp only [$[$ids:ident],*])
section
variable {P:Program}{w:World}{K:PySem.W.Frag}{mg:Str->Option Value}{base:Heap}{t:Adr}
theorem yd(T:Txt K mg t):cE P w K mg base jJ 1 t.pJ t.pB ["one","other"] J2:=by
 refine T.pM.nL rh (λvs H Q E h=>?_) (λeF A outer s H vs Q E hr h hc hf=>?_)
 ·obtain⟨a,b,rfl,_⟩:=h;rfl
 obtain⟨a,b,rfl,x,y,ha,hb,q⟩:=h
 have hu:=ia hr
 have yu:=hr.eR
 refine⟨_,(by apply ak;exact(jb nv rfl (fh (ai hc 0)) (sC hc rh.nd hf 2 (by decide +kernel)) (by exact au (aW (aE iC (ai hc 2) (ai hc 1) (by with_unfolding_all rfl)) (by exact au (aG cy)) aJ)));exact au (aG cy)),?_⟩
 repeat (walk_at "rd")
 refine⟨⟨_,bR ha⟩,?_⟩
 obtain⟨Pv,iI⟩:∃Pv:Nat->St->Hp->Prop,∀i σ' H',Pv i σ' H'↔∃z:Option V,σ'=[some (.ref a),some (.ref b),z]/\H'=H/\(x.take i).all (λm=>decide (m∈y))=true:=⟨_,λ_ _ _=>du⟩
 refine yz (xs:=List.map V.int x) Pv ((iI _ _ _).mpr ⟨none,rfl,rfl,rfl⟩) (λi σ' H1 _ pv=>?_) (λi z σ' H1 hz pv=>?_) (λσ' H1 pv=>?_)
 ·obtain⟨_,_,rfl,_⟩:=(iI _ _ _).mp pv
  exact ha
 ·obtain⟨z',rfl,rfl,al⟩:=(iI _ _ _).mp pv
  obtain⟨n,en,rfl⟩:=int_at hz
  repeat (first | walk_at "rd" | simp only[hb])
  refine⟨rfl,bW y,?_⟩
  rw[cz]
  by_cases hm:n∈y
  ·rw[aO (by simp[hm])]
   refine(iI _ _ _).mpr ⟨_,rfl,rfl,?_⟩
   rw[nA,en,List.all_append,al]
   simp[hm]
  ·rw[aR (by simp[hm])]
   have e:dm x y=false:=by
    unfold dm
    rw[List.all_eq_false]
    exact⟨n,qO en,by simp[hm]⟩
   rw[<-e]
   exact q
 ·obtain⟨z',rfl,rfl,al⟩:=(iI _ _ _).mp pv
  rw[aP,oo]at al
  repeat (walk_at "rd")
  have e:dm x y=true:=al
  rw[<-e]
  exact q
theorem Hq(T:Txt K mg t):cE P w K mg base jJ 1 t.pH t.px ["whole","part"] J0:=by
 refine T.uj.nL xS (λvs H Q E h=>?_) (λeF A outer s H vs Q E hr h hc hf=>?_)
 ·obtain⟨a,b,rfl,_⟩:=h;rfl
 obtain⟨a,b,rfl,x,y,ha,hb,lx,q⟩:=h
 have hu:=ia hr
 have yu:=hr.eR
 refine⟨_,(by exact au (aG (bQ gQ (aX hc) T.eG il (ae (bI hc ["member"] [1] rfl (by decide +kernel) (fh (ai hc 0)) (λ_ hc=>ic hc (by decide +kernel) 0 (by decide +kernel)) (λ_ hc=>dB (aE iC (ai hc 0) (ai hc 1) (by with_unfolding_all rfl))) (λ_ hc=>(ai hc 0))) ag)))),?_⟩
 repeat (walk_at "rd")
 refine⟨⟨_,bR ha⟩,?_⟩
 obtain⟨Pc,ig⟩:∃Pc:Addr->Nat->List V->Hp->Prop,∀Z i ys H',Pc Z i ys H'↔ys=List.map V.int (gk (x.take i) y)/\bF H H'/\H' Z=some (.lst ys):=⟨_,λ_ _ _ _=>du⟩
 refine jl (zs:=List.map V.int x) Pc (λZ hZ=>(ig _ _ _ _).mpr ⟨rfl,ao hZ _,aj⟩) (λZ hZ i ys H' _ pv=>?_) (λZ hZ i z ys H' hz pv cb=>?_) (λZ hZ ys H' pv=>?_)
 ·obtain⟨_,s,_⟩:=(ig _ _ _ _).mp pv
  exact s _ _ ha
 ·obtain⟨rfl,s1,kG⟩:=(ig _ _ _ _).mp pv
  obtain⟨n,en,rfl⟩:=int_at hz
  have hi:i<x.length:=(fP.mp en).1
  have Lz:=s1 _ _ hb
  have ef:gk (x.take (i+1)) y=gk (x.take i) y++(if n∈y then [] else [n]):=by
   unfold gk
   rw[nA,en,yZ]
   by_cases hm:n∈y <;> simp[hm]
  walk_at "rc"
  repeat (first | walk_at "rd" | simp only[Lz])
  refine⟨rfl,bW y,?_⟩
  rw[cz]
  by_cases hm:n∈y
  ·rw[aO (by simp[hm])]
   refine(ig _ _ _ _).mpr ⟨?_,s1,kG⟩
   rw[ef,aR hm,om]
  ·rw[aR (by simp[hm])]
   have ll:(gk (x.take i) y).length<=900:=cq (nF _ _) (by rw[nz];omega)
   refine⟨kG,aS (by omega),(ig _ _ _ _).mpr ⟨?_,eK s1 hZ,aj⟩⟩
   rw[ef,aO hm,dc]
   rfl
 ·obtain⟨rfl,s1,kG⟩:=(ig _ _ _ _).mp pv
  rw[aP,oo]at kG
  refine⟨Z,rfl,_,kG,λp hp=>q p _ (s1.trans (ao hp _)) (s1.free hp) ?_⟩
  exact aj
local macro_rules | `(tactic| walk_at "rd") => `(tactic| walk_at "rc")
local macro_rules | `(tactic| walk_at "rc") => do
  let ids := ("L2.start tSeq tJ Ae tI tB BK Nq uC tC qY cL EY Cz Cy vV tK qW Ad JT xM qV CJ Cw Ao rI rU Q8 Q7 CV vW M4 Dl G0 Kj Ki GX Dg zj zi uQ uP qC xY xZ uO Dh rB zm Kl rz xO Dk Dp Dn G4 Kk G3 GZ Nr vT ow Kg Nu JV qB uM rA xV uN nR GL JR CK Nt CG vX JS vU Se List.map_cons List.map_nil List.cons_append List.nil_append List.append_nil List.length_cons List.length_nil List.replicate List.getElem?_cons_zero List.getElem?_cons_succ List.set_cons_zero List.set_cons_succ Nat.reduceAdd Nat.reduceSub Nat.reduceLeDiff Option.some.injEq V.int.injEq V.ref.injEq V.str.injEq V.bl.injEq V.ty.injEq List.cons.injEq HO.lst.injEq HO.tup.injEq HO.dK.injEq exists_eq_left exists_eq_left' exists_and_left and_true true_and and_assoc exists_const reduceCtorEq aj uA decide_eq_true_eq List.length_map ite_true ite_false Bool.false_eq_true Bool.true_and Bool.and_true z7 z6 z5 z4 FV FT yt yr yq yp yo Fu Ft Fs Fq yL yK yJ yI yE bL Option.join_some Option.join_none qX uD wG wF El zk xP xN zl Dq Ds uL Dm nR Di xX o2 wH Lh Ek uB Cv Int.zero_add Int.reduceMul Int.reduceAdd Int.reduceSub Int.reduceLT Int.reduceLE Int.reducePow Int.reduceToNat Int.reduceNeg gt_iff_lt ge_iff_le uF hv".splitOn " ").toArray.map fun x => Lean.mkIdent x.toName
  `(tactic| simp only [$[$ids:ident],*])
theorem zB(T:Txt K mg t):cE P w K mg base jJ 1 t.mR t.mE ["_law_hand_here"] uF:=by
 refine T.gU.nL uI (λvs H Q E h=>?_) (λeF A outer s H vs Q E hr h hc hf=>?_)
 ·obtain⟨h,rfl,_⟩:=h;rfl
 obtain⟨h,rfl,l,a,b,c,d,e,hh,q⟩:=h
 refine⟨_,(by apply ak;exact(jd (aF lY (aF o5 (aB cP (ai hc 0) ah (λ_ _=>rfl)) ah) ah) (ke (ai hc 0) ah oy));apply ak;exact(jd (aF lY (aF o5 (aB cP (ai hc 0) ah (λ_ _=>rfl)) ah) ah) (ke (ai hc 0) ah oy));exact au (aG (aF gx (aB cP (ai hc 0) ah (λ_ _=>rfl)) (aB cP (ai hc 0) ah (λ_ _=>rfl))))),?_⟩
 unfold hv at *
 walk_at "rd"
 simp only[hh]
 walk_at "rd"
 exact q
theorem Hn(T:Txt K mg t):cE P w K mg base jJ 2 t.mP t.mC ["_law_hand_here"] JZ:=by
 have gR:=zB (P:=P) (w:=w) (base:=base) T
 refine T.qf.nL kx (λvs H Q E h=>?_) (λeF A outer s H vs Q E hr h hc hf=>?_)
 ·obtain⟨h,rfl,_⟩:=h;rfl
 obtain⟨h,rfl,l,ns,o,hh,⟨a,b,c,d,e,rfl,ha⟩,hl,q⟩:=h
 refine⟨_,(by apply ak;exact(aH hc kx.nd hf 1 (by decide +kernel) ah);apply gJ;exact(aW (aE rE (aB cP (ai hc 0) ah (λ_ _=>rfl)) (az bh (aX hc) T.bY cA (ae (aB cP (ai hc 0) ah (λ_ _=>rfl)) ag)) (aN _)) (by exact au (aH hc kx.nd hf 1 (by decide +kernel) (az Fz (aX hc) T.vR QJ (ae (aB cP (aB cP (ai hc 0) ah (λ_ _=>rfl)) (aB cP (ai hc 0) ah (λ_ _=>rfl)) (λ_ _=>rfl)) ag)))) aJ);apply ak;exact(vP (ai hc 0) ah Jx ah Ej oy);apply gJ;exact(aW (aE Oi (ai hc 1) (aF rD ah ah) (aN _)) (by exact au (jd (ai hc 1) (ke (ai hc 0) ah oy))) (by exact au (jd ah (ke (ai hc 0) ah oy))));apply ak;exact(jd (aF gx (aF lY (aF gx (aB cP (ai hc 0) ah (λ_ _=>rfl)) (aF lY (ai hc 1) ah)) ah) ah) (ke (ai hc 0) ah oy));apply ak;exact(jd (aF gx (aF lY (aF gx (aF o5 (aB cP (ai hc 0) ah (λ_ _=>rfl)) ah) (aF lY (ai hc 1) ah)) ah) ah) (ke (ai hc 0) ah oy));apply ak;exact(cI (aq gR hr.mono (aX hc) T.ji T.gU.kp T.jn .nil aI (ae (ai hc 0) ag)));exact au (cI (aq gR hr.mono (aX hc) T.ji T.gU.kp T.jn .nil aI (ae (ai hc 0) ag)))),?_⟩
 unfold hv at *
 walk_at "rd"
 refine⟨λσ' H'=>∃z,σ'=[some (.ref h),some (.int z)]/\H'=H,?_,?_⟩
 ·repeat (first | walk_at "rd" | simp only[hh,hl])
  split
  ·rename_i rS
   obtain⟨v,M5⟩:=FQ ha rS
   rw[M5]
   walk_at "rd"
   exact⟨_,rfl⟩
  ·exact⟨_,rfl⟩
 ·rintro σ' H' ⟨z,e1,e2⟩
  subst e1 e2
  repeat (first | walk_at "rd" | simp only[hh,hl])
  refine⟨λσ' iT=>∃b' c',σ'=[some (.ref h),some (.int z)]/\iT=upd H' h (.lst [.ref l,.int (a+1),.int b',.int c',.int d,.int e]),?_,?_⟩
  ·repeat (first | walk_at "rd" | simp only[hh,hl])
   split
   ·exact⟨_,_,rfl⟩
   ·exact⟨_,_,rfl⟩
  ·rintro σ' iT ⟨b',c',e1,e2⟩
   subst e1 e2
   repeat (first | walk_at "rd" | simp only[hh,hl])
   exact q _ ⟨_,_,_,_,_,rfl,by omega⟩
theorem ie(T:Txt K mg t):cE P w K mg base jJ 3 t.mX t.mJ ["_law_hand_here","_law_many"] q0:=by
 have gR:=zB (P:=P) (w:=w) (base:=base) T
 have w6:=Hn (P:=P) (w:=w) (base:=base) T
 refine T.aA.nL eJ (λvs H Q E h=>?_) (λeF A outer s H vs Q E hr h hc hf=>?_)
 ·obtain⟨h,m,rfl,_⟩:=h;rfl
 obtain⟨h,m,rfl,hm,hm2,l,ns,o,hh,⟨a,b,c,d,e,rfl,ha⟩,hl,q⟩:=h
 refine⟨_,(by apply gJ;exact(aW (gj (jc (aE cS (aB cP (ai hc 0) ah (λ_ _=>rfl)) ah (aN _)) (gK (aE cS (aB cP (ai hc 0) ah (λ_ _=>rfl)) ah (aN _))))) (by exact au (cI (aq w6 hr.mono (aX hc) T.wz T.qf.kp T.wV .nil aI (ae (ai hc 0) ag)))) aJ);apply ak;exact(aW (aE lA (aB cP (ai hc 0) ah (λ_ _=>rfl)) ah (aN _)) (by apply ak;exact(aH hc eJ.nd hf 2 (by decide +kernel) (aF lY (aB cP (ai hc 0) ah (λ_ _=>rfl)) (ai hc 1)));apply ak;exact(jd (aF wo (aB cP (ai hc 0) ah (λ_ _=>rfl)) (ai hc 1)) (ke (ai hc 0) ah oy));exact au (aG (ai hc 2))) aJ);apply ak;exact(vP (ai hc 0) ah Jx ah Lg oy);apply ak;exact(aH hc eJ.nd hf 3 (by decide +kernel) (aq gR hr.mono (aX hc) T.ji T.gU.kp T.jn .nil aI (ae (ai hc 0) ag)));apply ak;exact(aH hc eJ.nd hf 4 (by decide +kernel) ah);apply ak;exact(tE nv (aE rE (ai hc 4) (ai hc 1) (aN _)) (by apply ak;exact(aH hc eJ.nd hf 3 (by decide +kernel) (aF gx (aF o5 (ai hc 3) ah) (aq gR hr.mono (aX hc) T.ji T.gU.kp T.jn .nil aI (ae (ai hc 0) ag))));exact au (aH hc eJ.nd hf 4 (by decide +kernel) (aF o5 (ai hc 4) ah))));exact au (aG (aF lY (ai hc 3) (ai hc 1)))),?_⟩
 unfold hv at *
 walk_at "rd"
 refine⟨λσ' H'=>∃a b c d e,σ'=[some (.ref h),some (.int m),none,none,none]/\H'=upd H h (hv l a b c d e)/\0<=a,?_,?_⟩
 ·have same:H=upd H h (hv l a b c d e):=by
   funext x;unfold upd;split
   ·rename_i e;rw[e,hh];rfl
   ·rfl
  repeat (first | walk_at "rd" | simp only[hh,hl])
  by_cases hb:b=0
  ·by_cases hc:c=0
   ·simp only[hb,hc,lR]
    repeat (first | walk_at "rd" | simp only[hh,hl])
    refine⟨h,rfl,l,ns,_,hh,⟨a,b,c,d,e,by rw[hb,hc];rfl,ha⟩,hl,?_⟩
    rintro o' ⟨a',b',c',d',e',rfl,ha'⟩
    exact⟨a',b',c',d',e',rfl,ha'⟩
   ·simp only[hb,hc,lR,if_false,Bool.false_eq_true]
    exact⟨a,b,c,d,e,same,ha⟩
  ·simp only[hb,if_false,Bool.false_eq_true]
   exact⟨a,b,c,d,e,same,ha⟩
 ·rintro σ' H' ⟨a,b,c,d,e,e1,e2,ha⟩
  subst e1 e2
  repeat (first | walk_at "rd" | simp only[hh,hl])
  split
  ·rename_i hb
   refine⟨by omega,⟨by omega,hm2⟩,q _ _ (Int.emod_nonneg _ (by omega)) (Int.emod_lt_of_pos _ (by omega)) ⟨_,_,_,_,_,rfl,ha⟩⟩
  ·rename_i hb
   obtain⟨W,hW⟩:∃W:Nat->St->Hp->Prop,∀μ σ' H',W μ σ' H'↔∃v z a b c d e:Int,μ=(m-z).toNat/\σ'=[some (.ref h),some (.int m),none,some (.int v),some (.int z)]/\H'=upd H h (hv l a b c d e)/\0<=a/\1<=z:=⟨_,λ_ _ _=>du⟩
   refine⟨W,⟨_,(hW _ _ _).mpr ⟨_,_,_,_,_,_,_,rfl,rfl,rfl,ha,by omega⟩⟩,?_⟩
   intro μ σ' H' hw'
   obtain⟨v,z,a,b,c,d,e,rfl,e1,e2,ha,hz⟩:=(hW _ _ _).mp hw'
   subst e1 e2
   walk_at "rd"
   split
   ·rename_i rS
    obtain⟨N,hN⟩:∃N:St->Hp->Prop,∀σ' H',N σ' H'↔∃v z' a b c d e:Int,σ'=[some (.ref h),some (.int m),none,some (.int v),some (.int z')]/\H'=upd H h (hv l a b c d e)/\0<=a/\z'=z*4294967296:=⟨_,λ_ _=>du⟩
    refine⟨N,λσ' H' hn=>?_,?_⟩
    ·obtain⟨v,z',a,b,c,d,e,e1,e2,ha,e3⟩:=(hN _ _).mp hn
     exact⟨(m-z').toNat,by omega,(hW _ _ _).mpr ⟨v,z',a,b,c,d,e,rfl,e1,e2,ha,by omega⟩⟩
    ·repeat (first | walk_at "rd" | simp only[hh,hl])
     exact(hN _ _).mpr ⟨_,_,_,_,_,_,_,rfl,rfl,ha,rfl⟩
   ·refine⟨by omega,q _ _ (Int.emod_nonneg _ (by omega)) (Int.emod_lt_of_pos _ (by omega)) ⟨_,_,_,_,_,rfl,ha⟩⟩
theorem Hu(T:Txt K mg t):cE P w K mg base jJ 1 t.mU t.mG ["_law_script"] (J7 K):=by
 refine T.qh.nL uJ (λvs H Q E h=>?_) (λeF A outer s H vs Q E hr h hc hf=>?_)
 ·obtain⟨a,ns,rfl,_⟩:=h;rfl
 obtain⟨a,ns,rfl,hS,q⟩:=h
 refine⟨_,(by exact au (aG (aV (ae (bQ iN (aX hc) T.gq kP (ae (iu GD (ai hc 0) jO (jN ah)) ag)) (ae ah (ae ah (ae ah (ae ah (ae ah ag))))))))),?_⟩
 walk_at "rd"
 refine⟨a,List.map V.int ns,rfl,hS,λp hp=>?_⟩
 rw[Fn]
 walk_at "rd"
 refine λl hl=>⟨by decide,λh hh=>?_⟩
 have s1:=ao hp (.lst (List.map V.int ((ns.drop (HT.dE ns.length 0 none)).take (HT.dE ns.length ns.length (some 63)-HT.dE ns.length 0 none))))
 have s2:=ao hl (.lst (List.map V.int ((ns.drop (HT.dE ns.length 0 none)).take (HT.dE ns.length ns.length (some 63)-HT.dE ns.length 0 none))))
 have s3:=ao hh (hv l 0 0 0 20011 40009)
 exact q h _ (s1.trans (s2.trans s3)) ((s1.trans s2).free hh) ⟨l,_,_,aj,⟨_,_,_,_,_,rfl,Int.le_refl 0⟩,s3 _ _ aj⟩
local macro_rules | `(tactic| walk_at "rd") => `(tactic| walk_at "rc")
local macro_rules | `(tactic| walk_at "rl") => `(tactic| first | (refine dX fun R hR => ?_) | walk_at "ry" | (refine Nx.to (by assumption) _ _ ?_))
theorem Je(T:Txt K mg t):cE P w K mg base jJ 1 t.pK t.pC ["_law_members_here","_law_mask"] Ss:=by
 refine T.nj.nL xU (λvs H Q E h=>?_) (λeF A outer s H vs Q E hr h hc hf=>?_)
 ·obtain⟨a,b,rfl,_⟩:=h;rfl
 obtain⟨M,k,rfl,ms,m,rfl,hM,lm,q⟩:=h
 refine⟨_,(by exact au (aG (bQ gQ (aX hc) T.eG il (ae (bI hc ["_law_k"] [0,1] rfl (by decide +kernel) (dU (aX hc) T.eH (ae (az bh (aX hc) T.bY cA (ae (ai hc 0) ag)) ag)) (λ_ hc=>ic hc (by decide +kernel) 0 (by decide +kernel)) (λ_ hc=>dB (aE cS (aF o6 (aF KZ (ai hc 2) (ai hc 0)) ah) ah (aN _))) (λ_ hc=>(aB cP (ai hc 1) (ai hc 0) (λ_ _=>rfl)))) ag)))),?_⟩
 repeat (first | walk_at "rd" | simp only[hM])
 refine⟨by omega,by omega,?_⟩
 obtain⟨Pd,sA⟩:∃Pd:Addr->Nat->List V->Hp->Prop,∀Z2 i ys iT,Pd Z2 i ys iT↔ys=List.map V.int (Bt ms m i)/\bF H iT/\iT Z2=some (.lst ys):=⟨_,λ_ _ _ _=>du⟩
 refine mK Pd (λZ2 qp=>(sA _ _ _ _).mpr ⟨rfl,ao qp _,aj⟩) (λZ2 qp i ys H2 hi pv cb=>?_) (λZ2 qp ys H2 pv=>?_)
 ·obtain⟨rfl,s2,vo⟩:=(sA _ _ _ _).mp pv
  have hM2:=s2 _ _ hM
  have j1:i<ms.length:=by omega
  have e1:kb (List.map V.int ms) (i:Int)=some (.int (ms.getD i 0)):=bH (by rw[fO,bw j1,nI,bw j1];rfl)
  walk_at "rc"
  repeat (first | walk_at "rd" | simp only[hM2,e1])
  refine⟨by omega,?_⟩
  rw[Ms]
  have l:=vy (ms:=ms) (k:=m) (n:=i)
  by_cases c:m.testBit i=true
  ·rw[aR (by simp[c])]
   refine⟨vo,aS (by omega),(sA _ _ _ _).mpr ⟨?_,eK s2 qp,aj⟩⟩
   rw[Bt,aR c,dc];rfl
  ·rw[aO (by simp[c])]
   refine(sA _ _ _ _).mpr ⟨?_,s2,vo⟩
   rw[Bt,aO c,om]
 ·obtain⟨rfl,s2,vo⟩:=(sA _ _ _ _).mp pv
  have e0:((ms.length:Int)).toNat=ms.length:=by simp
  rw[e0]at vo
  refine⟨Z2,rfl,_,vo,λp hp=>q p _ (s2.trans (ao hp _)) (s2.free hp) ?_⟩
  exact aj
def Aj:Sp:=λvs H Q _=>∃h many,vs=[.ref h,.int many]/\∃n:Nat,many=(n:Int)/\n<=11/\cj H h/\∀R ms H',Dr h H H'->H R=none->H' R=some (.lst (List.map V.int ms))->ms.length=n->fq ms->Q (.ref R) H'
theorem yc(T:Txt K mg t):cE P w K mg base jJ 4 t.iQ t.iK ["_law_hand_here","_law_many"] Aj:=by
 have ay:=ie (P:=P) (w:=w) (base:=base) T
 refine T.m6.nL cg (λvs H Q E h=>?_) (λeF A outer s H vs Q E hr h hc hf=>?_)
 ·obtain⟨h,m,rfl,_⟩:=h;rfl
 obtain⟨h,_,rfl,n,rfl,hn,hd,q⟩:=h
 refine⟨_,(by apply ak;exact(aH hc cg.nd hf 2 (by decide +kernel) (aB cP (aV (ae ah (ae ah (ae (aF rD ah ah) (ae (aF rD ah ah) ag))))) (aq ay hr.mono (aX hc) T.aC T.aA.kp T.aD .nil aI (ae (ai hc 0) (ae ah ag))) (λ_ _=>rfl)));apply ak;exact(aH hc cg.nd hf 3 (by decide +kernel) (aB cP (aV (ae ah (ae ah (ae (aF rD ah ah) (ae (aF rD ah ah) ag))))) (aq ay hr.mono (aX hc) T.aC T.aA.kp T.aD .nil aI (ae (ai hc 0) (ae ah ag))) (λ_ _=>rfl)));apply ak;exact(aH hc cg.nd hf 4 (by decide +kernel) (aF uU (aq ay hr.mono (aX hc) T.aC T.aA.kp T.aD .nil aI (ae (ai hc 0) (ae (aF gx (aF o5 ah (ai hc 2)) ah) ag))) (ai hc 2)));apply ak;exact(aH hc cg.nd hf 5 (by decide +kernel) (aV ag));apply ak;exact(jb nv rfl (dU (aX hc) T.eH (ae (ai hc 1) ag)) (sC hc cg.nd hf 6 (by decide +kernel)) (by apply ak;exact(cI (js nH oq ot cY (ai hc 5) (ae (ai hc 4) ag)));exact au (Cp hc cg.nd hf 4 (by decide +kernel) (aF gx ah (aq ay hr.mono (aX hc) T.aC T.aA.kp T.aD .nil aI (ae (ai hc 0) (ae (ai hc 3) ag)))) Ej)));exact au (aG (ai hc 5))),?_⟩
 repeat (walk_at "rd")
 refine⟨⟨by decide,by decide,by decide⟩,by decide,λp hp=>?_⟩
 have d0:=(Dr.refl (h:=h) (H:=H)).new (o:=.lst [V.int 1,V.int 12,V.int 1000000000000000000,V.int 1000000000000000000000000000000000000000000000000000000000000]) hp
 have hph:p≠h:=hd.ne hp
 refine aU hd d0 (by decide) (by decide) λr H1 r0 r1 d1 k1=>?_
 obtain⟨z,ez,hz⟩:=zS (a:=1) (b:=12) (c:=1000000000000000000) (d:=1000000000000000000000000000000000000000000000000000000000000) r0 r1
 refine⟨_,rfl,_,by rw[k1 p hph];exact aj,_,ez,⟨by decide,by decide,by decide⟩,⟨by decide,by decide,by decide⟩,by decide,λp2 ka=>?_⟩
 have d2:=d1.new (o:=.lst [V.int 1,V.int 3,V.int 1000000000,V.int 10000000000000000000000000000000000000000000000000000000000]) ka
 have V5:p2≠h:=(d1.aK hd).ne ka
 refine aU hd d2 (by decide) (by decide) λr' H2 r0' N5 d3 k3=>?_
 obtain⟨st,es,hs⟩:=zS (a:=1) (b:=3) (c:=1000000000) (d:=10000000000000000000000000000000000000000000000000000000000) r0' N5
 have hz1:1<=z/\z<=1000000000000000000000000000000000000000000000000000000000000:=by omega
 have hs1:1<=st/\st<=10000000000000000000000000000000000000000000000000000000000:=by omega
 refine⟨_,rfl,_,by rw[k3 p2 V5];exact aj,_,es,?_⟩
 repeat (walk_at "rd")
 refine⟨.inl (by decide),aU hd d3 (by omega) (by omega) λYW H3 a0 a1 d4 k4=>⟨_,rfl,by decide,λR BR=>?_⟩⟩
 have hR:H R=none:=d4.free hd BR
 have Gh:R≠h:=hd.ne hR
 refine⟨by omega,by omega,?_⟩
 obtain⟨Pv,iI⟩:∃Pv:Nat->St->Hp->Prop,∀i σ' H',Pv i σ' H'↔∃(v:Int) (y:Option V) (ms:List Int),σ'=[some (.ref h),some (.int (n:Int)),some (.int z),some (.int st),some (.int v),some (.ref R),y]/\Dr h H H'/\H' R=some (.lst (List.map V.int ms))/\ms.length=i/\fq ms/\∀m∈ms,m<v:=⟨_,λ_ _ _=>du⟩
 refine gA Pv ((iI _ _ _).mpr ⟨_,none,[],rfl,d4.new BR,aj,rfl,List.Pairwise.nil,λk hk=>by cases hk⟩) (λi σ' H4 hi pv=>?_) (λσ' H4 pv=>?_)
 ·obtain⟨v,y,ms,rfl,d5,Jr,lm,rise,below⟩:=(iI _ _ _).mp pv
  repeat (first | walk_at "rd" | simp only[Jr])
  refine⟨.inl ⟨rfl,_,bB Jr⟩,aS (by omega),?_⟩
  simp only[Gw,M4]
  repeat (walk_at "rd")
  refine aU hd (d5.put hR) (by omega) (by omega) λr H6 r0 r1 d6 k6=>?_
  refine⟨_,rfl,(iI _ _ _).mpr ⟨_,_,ms++[v],rfl,d6,by rw[k6 R Gh,aj,dc];rfl,by rw[dR];simp;omega,?_,λm hm=>?_⟩⟩
  ·unfold fq
   rw[List.pairwise_append]
   exact⟨rise,by simp,λa ha b hb=>by rw[show b=v by simpa using hb];exact below a ha⟩
  ·rcases fu.mp hm with u | u
   ·have:=below m u;omega
   ·have:m=v:=by simpa using u
    omega
 ·obtain⟨v,y,ms,rfl,d5,Jr,lm,rise,below⟩:=(iI _ _ _).mp pv
  repeat (walk_at "rd")
  exact q R ms H4 d5 hR Jr (by omega) rise
def Gz:Sp:=λvs H Q _=>∃h many most,vs=[.ref h,.int many,.int most]/\∃n mo:Nat,many=(n:Int)/\most=(mo:Int)/\n<=10/\mo<=20/\cj H h/\∀R ks H',Dr h H H'->H R=none->H' R=some (.lst (List.map dZ ks))->ks.length<=mo->(∀k∈ks,k<2 ^ n)->Q (.ref R) H'
theorem DY(T:Txt K mg t):cE P w K mg base jJ 4 t.kR t.kL ["_law_hand_here","_law_many","_law_most"] Gz:=by
 have ay:=ie (P:=P) (w:=w) (base:=base) T
 refine T.oR.nL cw (λvs H Q E h=>?_) (λeF A outer s H vs Q E hr h hc hf=>?_)
 ·obtain⟨h,m,mo,rfl,_⟩:=h;rfl
 obtain⟨h,_,_,rfl,n,mo,rfl,rfl,hn,hmo,hd,q⟩:=h
 have p8:=Dy hn
 refine⟨_,(by apply ak;exact(aH hc cw.nd hf 3 (by decide +kernel) (aV ag));apply ak;exact(jb nv rfl (dU (aX hc) T.eH (ae (aq ay hr.mono (aX hc) T.aC T.aA.kp T.aD .nil aI (ae (ai hc 0) (ae (aF gx (ai hc 2) ah) ag))) ag)) (sC hc cw.nd hf 4 (by decide +kernel)) (by apply ak;exact(aH hc cw.nd hf 5 (by decide +kernel) (aq ay hr.mono (aX hc) T.aC T.aA.kp T.aD .nil aI (ae (ai hc 0) (ae ah ag))));apply ak;exact(aH hc cw.nd hf 6 (by decide +kernel) (aq ay hr.mono (aX hc) T.aC T.aA.kp T.aD .nil aI (ae (ai hc 0) (ae (aF nT ah (ai hc 1)) ag))));apply gJ;exact(aW (aE rE (ai hc 5) ah (aN _)) (by exact au (aH hc cw.nd hf 6 (by decide +kernel) (aF o6 (ai hc 6) (aq ay hr.mono (aX hc) T.aC T.aA.kp T.aD .nil aI (ae (ai hc 0) (ae (aF nT ah (ai hc 1)) ag)))))) aJ);apply gJ;exact(aW (gj (jc (aE cS (ai hc 5) ah (aN _)) (gK (aE lA (az bh (aX hc) T.bY cA (ae (ai hc 3) ag)) ah (aN _))))) (by exact au (aH hc cw.nd hf 6 (by decide +kernel) (aF Jd (ai hc 6) (aB cP (ai hc 3) (aq ay hr.mono (aX hc) T.aC T.aA.kp T.aD .nil aI (ae (ai hc 0) (ae (az bh (aX hc) T.bY cA (ae (ai hc 3) ag)) ag))) (λ_ _=>rfl))))) aJ);apply gJ;exact(aW (gj (jc (aE cS (ai hc 5) ah (aN _)) (gK (aE lA (az bh (aX hc) T.bY cA (ae (ai hc 3) ag)) ah (aN _))))) (by exact au (aH hc cw.nd hf 6 (by decide +kernel) (aB cP (ai hc 3) (aq ay hr.mono (aX hc) T.aC T.aA.kp T.aD .nil aI (ae (ai hc 0) (ae (az bh (aX hc) T.bY cA (ae (ai hc 3) ag)) ag))) (λ_ _=>rfl)))) aJ);exact au (cI (js nH oq ot cY (ai hc 3) (ae (ai hc 6) ag)))));exact au (aG (ai hc 3))),?_⟩
 repeat (walk_at "rd")
 refine⟨by decide,λR hR=>?_⟩
 have d0:Dr h H (upd H R (.lst [])):=Dr.refl.new hR
 have Gh:R≠h:=hd.ne hR
 refine aU hd d0 (by omega) (by omega) λc H1 c0 c1 d1 k1=>?_
 have PJ:H1 R=some (.lst []):=by rw[k1 R Gh];exact aj
 repeat (walk_at "rd")
 refine⟨by omega,by omega,?_⟩
 obtain⟨Pv,iI⟩:∃Pv:Nat->St->Hp->Prop,∀i σ' H',Pv i σ' H'↔∃(x y z:Option V) (ks:List Nat),σ'=[some (.ref h),some (.int (n:Int)),some (.int (mo:Int)),some (.ref R),x,y,z]/\Dr h H H'/\H' R=some (.lst (List.map dZ ks))/\ks.length=i/\∀k∈ks,k<2 ^ n:=⟨_,λ_ _ _=>du⟩
 refine gA Pv ((iI _ _ _).mpr ⟨none,none,none,[],rfl,d1,PJ,rfl,λk hk=>by cases hk⟩) (λi σ' H2 hi pv=>?_) (λσ' H2 pv=>?_)
 ·obtain⟨x,y,z,ks,rfl,d2,Rz,lk,bk⟩:=(iI _ _ _).mp pv
  repeat (walk_at "rd")
  refine aU hd d2 (by decide) (by decide) λway H3 w0 w1 d3 k3=>?_
  have BR:H3 R=some (.lst (List.map dZ ks)):=by rw[k3 R Gh];exact Rz
  repeat (walk_at "rd")
  have Ko:((1:Int)*2 ^ ((n:Int)).toNat)=((2 ^ n:Nat):Int):=by rw[qK,uk,uw];rfl
  have pp:1<=2 ^ n:=Nat.one_le_two_pow
  have cp:yV 1 (n:Int):=⟨by omega,by omega,by decide⟩
  refine⟨cp,?_⟩
  rw[Ko]
  refine aU hd d3 (by omega) (by omega) λr H4 r0 r1 d4 k4=>?_
  have Ex:H4 R=some (.lst (List.map dZ ks)):=by rw[k4 R Gh];exact BR
  obtain⟨m,rfl,hm⟩:=o9 r0 r1
  obtain⟨Bz,oG⟩:∃Bz:St->Hp->Prop,∀σ' H',Bz σ' H'↔∃m:Nat,σ'=[some (.ref h),some (.int (n:Int)),some (.int (mo:Int)),some (.ref R),some (.int (i:Int)),some (.int way),some (.int (m:Int))]/\Dr h H H'/\H' R=some (.lst (List.map dZ ks))/\m<2 ^ n:=⟨_,λ_ _=>du⟩
  have pick:∀(H5:Hp) (r:Int),0<=r->r<(ks.length:Int)->∃m:Nat,kb (List.map dZ ks) r=some (.int (m:Int))/\m<2 ^ n:=λH5 r r0 r1=>by
   obtain⟨j,rfl,hj⟩:=o9 r0 r1
   exact⟨ks[j],bH (by rw[fO,bw hj];rfl),bk _ (ny hj)⟩
  refine⟨Bz,?_,λσ' H5 hm5=>?_⟩
  ·repeat (walk_at "rd")
   split
   ·refine⟨cp,?_⟩
    rw[Ko]
    refine aU hd d4 (by omega) (by omega) λr H5 r0 r1 d5 k5=>?_
    obtain⟨m',rfl,Ro⟩:=o9 r0 r1
    repeat (walk_at "rd")
    rw[iO]
    exact(oG _ _).mpr ⟨_,rfl,d5,by rw[k5 R Gh];exact Ex,qL Nat.and_le_left hm⟩
   ·exact(oG _ _).mpr ⟨m,rfl,d4,Ex,hm⟩
  ·obtain⟨m,rfl,d5,Jr,hm⟩:=(oG _ _).mp hm5
   refine⟨Bz,?_,λσ' H6 hm6=>?_⟩
   ·repeat (first | walk_at "rd" | simp only[Jr])
    have no:Bz [some (.ref h),some (.int (n:Int)),some (.int (mo:Int)),some (.ref R),some (.int (i:Int)),some (.int way),some (.int (m:Int))] H5:=(oG _ _).mpr ⟨m,rfl,d5,Jr,hm⟩
    split
    ·split
     ·rename_i hl
      refine aU hd d5 (by omega) (by omega) λr H6 r0 r1 d6 k6=>?_
      have M':H6 R=some (.lst (List.map dZ ks)):=by rw[k6 R Gh];exact Jr
      obtain⟨m',e',Ro⟩:=pick H6 r r0 r1
      refine⟨_,rfl,_,M',_,e',_,rfl,?_⟩
      rw[ua]
      exact(oG _ _).mpr ⟨_,rfl,d6,M',xt hm Ro⟩
     ·exact no
    ·exact no
   ·obtain⟨m,rfl,d6,M',hm⟩:=(oG _ _).mp hm6
    refine⟨Bz,?_,λσ' H7 hm7=>?_⟩
    ·repeat (first | walk_at "rd" | simp only[M'])
     have no:Bz [some (.ref h),some (.int (n:Int)),some (.int (mo:Int)),some (.ref R),some (.int (i:Int)),some (.int way),some (.int (m:Int))] H6:=(oG _ _).mpr ⟨m,rfl,d6,M',hm⟩
     split
     ·split
      ·rename_i hl
       refine aU hd d6 (by omega) (by omega) λr H7 r0 r1 d7 k7=>?_
       have PB:H7 R=some (.lst (List.map dZ ks)):=by rw[k7 R Gh];exact M'
       obtain⟨m',e',Ro⟩:=pick H7 r r0 r1
       exact⟨_,rfl,_,PB,_,e',(oG _ _).mpr ⟨m',rfl,d7,PB,Ro⟩⟩
      ·exact no
     ·exact no
    ·obtain⟨m,rfl,d7,PB,hm⟩:=(oG _ _).mp hm7
     repeat (first | walk_at "rd" | simp only[PB])
     refine⟨.inl ⟨rfl,_,bB PB⟩,aS (by omega),(iI _ _ _).mpr ⟨_,_,_,ks++[m],rfl,d7.put hR,by rw[aj,dc];rfl,by rw[dR];simp;omega,λk hk=>?_⟩⟩
     rcases fu.mp hk with z | z
     ·exact bk k z
     ·rw[show k=m by simpa using z];exact hm
 ·obtain⟨x,y,z,ks,rfl,d2,Rz,lk,bk⟩:=(iI _ _ _).mp pv
  repeat (walk_at "rd")
  exact q R ks H2 d2 hR Rz (by omega) bk
local macro_rules | `(tactic| walk_at "rd") => `(tactic| walk_at "rc")
local macro_rules | `(tactic| walk_at "rl") => `(tactic| first | (refine dX fun R hR => ?_) | walk_at "ry" | (refine Nx.to (by assumption) _ _ ?_))
def J1(g:Nat->Nat->Nat):Sp:=λvs H Q _=>∃L,vs=[.ref L]/\∃ks:List Nat,H L=some (.lst (List.map dZ ks))/\ks.length<=900/\∀p H',bF H H'->H p=none->H' p=some (.lst (List.map dZ (wj g ks)))->Q (.ref p) H'
theorem DW(T:Txt K mg t):cE P w K mg base jJ 1 t.g5 t.gX ["_law_masks_here"] (J1 λ_ a=>a):=by
 refine T.lG.nL o1 (λvs H Q E h=>?_) (λeF A outer s H vs Q E hr h hc hf=>?_)
 ·obtain⟨a,rfl,_⟩:=h;rfl
 obtain⟨L,rfl,ks,hL,lk,q⟩:=h
 refine⟨_,(by exact au (aG (xE hc ["_law_one"] ["_law_one"] [0] rfl (by decide +kernel) (dv (ai hc 0)) (λ_ hc=>R4 hc (by decide +kernel) 0 (by decide +kernel) (by decide +kernel)) (λ_ hc=>dB (cU (bX (az (pF hr.hd) (aX hc) T.qU FP (ae (bI hc ["_law_two"] [0] rfl (by decide +kernel) (dv (ai hc 1)) (λ_ hc=>ic hc (by decide +kernel) 0 (by decide +kernel)) (λ_ _=>bV) (λ_ hc=>(df (bP tS (ai hc 0) (ai hc 1) (aN _)) (gE (bP cS (aF o6 (ai hc 0) (ai hc 1)) (ai hc 1) (aN _)))))) ag))))) (λ_ hc=>(ai hc 0))))),?_⟩
 repeat (walk_at "rd")
 refine⟨⟨_,bB hL⟩,?_⟩
 obtain⟨Pc,ig⟩:∃Pc:Addr->Nat->List V->Hp->Prop,∀Z i ys H',Pc Z i ys H'↔ys=List.map dZ ((ks.take i).filter (pS (λ_ a=>a) ks))/\bF H H'/\H' Z=some (.lst ys):=⟨_,λ_ _ _ _=>du⟩
 refine ik (zs:=List.map dZ ks) Pc (λZ hZ=>(ig _ _ _ _).mpr ⟨rfl,ao hZ _,aj⟩) (λZ hZ i ys H' _ pv=>?_) (λZ hZ i z ys H' hz pv cb=>?_) (λZ hZ ys H' pv=>?_)
 ·obtain⟨_,s,_⟩:=(ig _ _ _ _).mp pv
  exact s _ _ hL
 ·obtain⟨rfl,s1,kG⟩:=(ig _ _ _ _).mp pv
  obtain⟨k,ek,rfl⟩:=rJ hz
  have hi:i<ks.length:=(fP.mp ek).1
  have hL1:=s1 _ _ hL
  have tf:=vS (p:=pS (λ_ a=>a) ks) ek
  have ll:((ks.take i).filter (pS (λ_ a=>a) ks)).length<=i:=cq (nF _ _) (by rw[nz];omega)
  walk_at "rc"
  repeat (walk_at "rd")
  refine⟨⟨_,bB hL1⟩,?_⟩
  obtain⟨Pd,sA⟩:∃Pd:Addr->Nat->List V->Hp->Prop,∀Z2 j ys iT,Pd Z2 j ys iT↔ys=List.map V.bl ((ks.take j).map λb=>decide (b≠k)&&decide (b &&& k=k))/\bF H' iT/\iT Z2=some (.lst ys):=⟨_,λ_ _ _ _=>du⟩
  refine ik (zs:=List.map dZ ks) Pd (λZ2 qp=>(sA _ _ _ _).mpr ⟨rfl,ao qp _,aj⟩) (λZ2 qp j ys H2 _ pv=>?_) (λZ2 qp j z ys H2 hz pv cb=>?_) (λZ2 qp ys H2 pv=>?_)
  ·obtain⟨_,s,_⟩:=(sA _ _ _ _).mp pv
   exact s _ _ hL1
  ·obtain⟨rfl,s2,vo⟩:=(sA _ _ _ _).mp pv
   obtain⟨b,eb,rfl⟩:=rJ hz
   have hj:j<ks.length:=(fP.mp eb).1
   have ls:((ks.take j).map λb=>decide (b≠k)&&decide (b &&& k=k)).length<1000:=by rw[aP,nz];omega
   walk_at "rc"
   repeat (walk_at "rd")
   have lz:(ks.take j).length<sizeLine:=aS (by rw[nz];omega)
   by_cases c:b=k
   ·rw[aO (by simp[c])]
    refine⟨vo,lz,(sA _ _ _ _).mpr ⟨?_,eK s2 qp,aj⟩⟩
    rw[nA,eb,dc,dc]
    simp[c]
   ·rw[aR (by simp;omega),iO]
    have e:decide (((b &&& k:Nat):Int)=(k:Int))=(decide (b≠k)&&decide (b &&& k=k)):=by
     rw[decide_eq_true (show b≠k from c),jK];exact xq.mpr (by omega)
    rw[e]
    refine⟨vo,lz,(sA _ _ _ _).mpr ⟨?_,eK s2 qp,aj⟩⟩
    rw[nA,eb,dc,dc]
    rfl
  ·obtain⟨rfl,s2,vo⟩:=(sA _ _ _ _).mp pv
   rw[aP,oo]at vo
   refine⟨Z2,rfl,_,vo,?_⟩
   rw[Iq]
   repeat (walk_at "rd")
   by_cases c:(!(ks.any λb=>decide (b≠k)&&decide (b &&& k=k)))=true
   ·rw[aR c]
    rw[aR (show pS (λ_ a=>a) ks k=true from c)]at tf
    refine⟨s2 _ _ kG,aS (by omega),(ig _ _ _ _).mpr ⟨?_,eK (s1.trans s2) hZ,aj⟩⟩
    rw[tf,dc];rfl
   ·rw[aO c]
    rw[aO (show ¬pS (λ_ a=>a) ks k=true from c),om]at tf
    refine(ig _ _ _ _).mpr ⟨?_,s1.trans s2,s2 _ _ kG⟩
    rw[tf]
 ·obtain⟨rfl,s1,kG⟩:=(ig _ _ _ _).mp pv
  rw[aP,oo]at kG
  repeat (walk_at "rd")
  exact q Z H' s1 hZ kG
theorem rC{ks:List Nat}{N:Nat}(bk:∀k∈ks,k<N):∀(d a:Nat),a∈ks->N-a<=d->∃g∈wj (λ_ a=>a) ks,a &&& g=a
 | 0,a,ha,h=>by have:=bk a ha;omega
 | d+1,a,ha,h=>by
  by_cases c:pS (λ_ a=>a) ks a=true
  ·exact⟨a,iW.mpr ⟨ha,c⟩,Nat.and_self a⟩
  ·unfold pS at c
   rw[xk,Bool.not_eq_false',tj]at c
   obtain⟨b,hb,e⟩:=c
   rw[eO,nB,nB]at e
   have le:a<=b:=by have:=@Nat.and_le_left b a;rw[e.2]at this;exact this
   have hb':=bk b hb
   obtain⟨g,hg,eg⟩:=rC bk d b hb (by have:=e.1;omega)
   refine⟨g,hg,?_⟩
   have:a &&& b=a:=by rw[Nat.and_comm];exact e.2
   calc a &&& g=(a &&& b) &&& g:=by rw[this]
    _=a &&& (b &&& g):=Nat.and_assoc _ _ _
    _=a:=by rw[eg,this]
def pN(n:Nat)(cs ps:List Nat):Prop:=∀k,k<2 ^ n->(∃c∈cs,c &&& k=c)\/∃p∈ps,k &&& p=k
def J3:Sp:=λvs H Q _=>∃h many,vs=[.ref h,.int many]/\∃n:Nat,many=(n:Int)/\n<=7/\cj H h/\∀p C Pc cs ps H',Dr h H H'->H' p=some (.tup [.ref C,.ref Pc])->H C=none->H Pc=none->C≠Pc->H' C=some (.lst (List.map dZ cs))->H' Pc=some (.lst (List.map dZ ps))->cs.length<=128->ps.length<=6->(∀k∈cs,k<2 ^ n)->(∀k∈ps,k<2 ^ n)->pN n cs ps->Q (.ref p) H'
theorem Hr(T:Txt K mg t):cE P w K mg base jJ 5 t.mQ t.mD ["_law_hand_here","_law_many"] J3:=by
 have vF:=DY (P:=P) (w:=w) (base:=base) T
 have qw:=DW (P:=P) (w:=w) (base:=base) T
 refine T.qg.nL fT (λvs H Q E h=>?_) (λeF A outer s H vs Q E hr h hc hf=>?_)
 ·obtain⟨h,m,rfl,_⟩:=h;rfl
 obtain⟨h,_,rfl,n,rfl,hn,hd,q⟩:=h
 have p7:2 ^ n<=128:=cq (y3 (by decide) hn) (by decide)
 have hu:=ia hr
 have yu:=hr.eR
 refine⟨_,(by apply ak;exact(aH hc fT.nd hf 2 (by decide +kernel) (aq vF hr.mono (aX hc) T.vj T.oR.kp T.vB .nil aI (ae (ai hc 0) (ae (ai hc 1) (ae ah ag)))));apply ak;exact(aH hc fT.nd hf 3 (by decide +kernel) (aq qw hr.mono (aX hc) T.qm T.lG.kp T.qu .nil aI (ae (ai hc 2) ag)));apply ak;exact(aH hc fT.nd hf 4 (by decide +kernel) (aV ag));apply ak;exact(jb nv rfl (dU (aX hc) T.eH (ae (aF nT ah (ai hc 1)) ag)) (sC hc fT.nd hf 5 (by decide +kernel)) (by exact au (aW (cU (bX (az (pF hr.hd) (aX hc) T.qU FP (ae (bI hc ["_law_one"] [5] rfl (by decide +kernel) (dv (ai hc 2)) (λ_ hc=>ic hc (by decide +kernel) 0 (by decide +kernel)) (λ_ _=>bV) (λ_ hc=>(bP cS (aF o6 (ai hc 1) (ai hc 0)) (ai hc 1) (aN _)))) ag)))) (by exact au (aW (cU (bX (az (pF hr.hd) (aX hc) T.qU FP (ae (bI hc ["_law_one"] [5] rfl (by decide +kernel) (dv (ai hc 4)) (λ_ hc=>ic hc (by decide +kernel) 0 (by decide +kernel)) (λ_ _=>bV) (λ_ hc=>(bP cS (aF o6 (ai hc 0) (ai hc 1)) (ai hc 0) (aN _)))) ag)))) (by exact au (cI (js nH oq ot cY (ai hc 4) (ae (ai hc 5) ag)))) aJ)) aJ)));exact au (aG (aY (ae (ai hc 4) (ae (ai hc 3) ag))))),?_⟩
 walk_at "r"
 refine⟨h,_,_,rfl,n,6,rfl,rfl,by omega,by decide,hd,λR ks H1 d1 hR PJ lk bk=>?_⟩
 walk_at "r"
 refine⟨R,rfl,ks,PJ,by omega,λG H2 s2 hG hG2=>?_⟩
 walk_at "r"
 refine⟨by decide,λC hC=>?_⟩
 have d2:Dr h H H2:=d1.on s2
 have d3:Dr h H (upd H2 C (.lst [])):=d2.new hC
 have hCR:C≠R:=λe=>by rw[e,s2 _ _ PJ]at hC;cases hC
 have W9:C≠G:=λe=>by rw[e,hG2]at hC;cases hC
 have BR:upd H2 C (.lst []) R=some (.lst (List.map dZ ks)):=by rw[aM hCR.symm];exact s2 _ _ PJ
 have hG3:upd H2 C (.lst []) G=some (.lst (List.map dZ (wj (λ_ a=>a) ks))):=by rw[aM W9.symm];exact hG2
 have hC3:upd H2 C (.lst []) C=some (.lst []):=aj
 have hC0:H C=none:=d2.free hd hC
 generalize upd H2 C (.lst [])=H3 at d3 BR hG3 hC3 ⊢
 walk_at "r"
 have Ko:((1:Int)*2 ^ ((n:Int)).toNat)=((2 ^ n:Nat):Int):=by rw[qK,uk,uw];rfl
 have cp:yV 1 (n:Int):=⟨by omega,by omega,by decide⟩
 refine⟨cp,?_⟩
 rw[Ko]
 generalize hN:2 ^ n=N at p7 bk ⊢
 refine⟨by omega,by omega,?_⟩
 obtain⟨Pv,iI⟩:∃Pv:Nat->St->Hp->Prop,∀i σ' H',Pv i σ' H'↔∃(x:Option V) (cs:List Nat),σ'=[some (.ref h),some (.int (n:Int)),some (.ref R),some (.ref G),some (.ref C),x]/\Dr h H H'/\H' R=some (.lst (List.map dZ ks))/\H' G=some (.lst (List.map dZ (wj (λ_ a=>a) ks)))/\H' C=some (.lst (List.map dZ cs))/\cs.length<=i/\(∀k∈cs,k<N)/\∀k,k<i->(∃c∈cs,c &&& k=c)\/∃p∈ks,k &&& p=k:=⟨_,λ_ _ _=>du⟩
 refine gA Pv ((iI _ _ _).mpr ⟨none,[],rfl,d3,BR,hG3,hC3,cu _,λ_ z=>(nomatch z),λ_ z=>absurd z (Nat.not_lt_zero _)⟩) (λi σ' H4 hi pv=>?_) (λσ' H4 pv=>?_)
 ·obtain⟨x,cs,rfl,d4,Ex,P1,L1,lc,bc,cov⟩:=(iI _ _ _).mp pv
  rw[qK]at hi
  walk_at "r"
  refine⟨⟨_,bB Ex⟩,?_⟩
  refine fk (zs:=List.map dZ ks) (λj=>ks[j]?.map λk=>V.bl (decide (i &&& k=i))) (λ_=>yQ) (λ_ _ _ _ _ _ r=>r) (λ_ _ _ _ _ _ _ r=>r) Ex (by rw[aP];omega) (λDD c H5 j z yes no hj s5 zP zO cD nY=>?_) (λD H5 vs s5 hD P8 rl=>?_)
  ·obtain⟨k,ek,rfl⟩:=rJ hj
   rw[ek]at cD
   walk_at "rc"
   walk_at "r"
   rw[iO,show decide (((i &&& k:Nat):Int)=(i:Int))=decide (i &&& k=i) from xq.mpr (by omega)]
   exact cD _ rfl _ _ (λ_ _ e=>e) rfl
  ·have ev:=m8 rl
   rw[aP,jF (l:=ks) (g:=λk=>V.bl (decide (i &&& k=i))) λk hk=>by rw[bw hk];rfl]at ev
   subst ev
   walk_at "r"
   refine⟨ks.map λk=>decide (i &&& k=i),by rw[P8,pO];rfl,?_⟩
   have d5:=d4.on s5
   have RL:=s5 _ _ L1
   rw[uo]
   by_cases e:(ks.any (id ∘ λk=>decide (i &&& k=i)))=true
   ·rw[e]
    refine(iI _ _ _).mpr ⟨_,cs,rfl,d5,s5 _ _ Ex,s5 _ _ P1,RL,by omega,bc,λk hk=>?_⟩
    by_cases ki:k=i
    ·obtain⟨b,hb,eb⟩:=tj.mp e
     rw[ki];exact .inr ⟨b,hb,of_decide_eq_true eb⟩
    ·exact cov k (by omega)
   rw[xk]at e
   rw[e]
   refine⟨⟨_,bB RL⟩,?_⟩
   refine fk (zs:=List.map dZ cs) (λj=>cs[j]?.map λk=>V.bl (decide (k &&& i=k))) (λ_=>yQ) (λ_ _ _ _ _ _ r=>r) (λ_ _ _ _ _ _ _ r=>r) RL (by rw[aP];omega) (λDD c H6 j z yes no hj s6 zP zO cD nY=>?_) (λD6 H6 vs s6 hD6 Ib rl=>?_)
   ·obtain⟨k,ek,rfl⟩:=rJ hj
    rw[ek]at cD
    walk_at "rc"
    walk_at "r"
    rw[iO,show decide (((k &&& i:Nat):Int)=(k:Int))=decide (k &&& i=k) from xq.mpr (by omega)]
    exact cD _ rfl _ _ (λ_ _ e=>e) rfl
   have ev:=m8 rl
   rw[aP,jF (l:=cs) (g:=λk=>V.bl (decide (k &&& i=k))) λk hk=>by rw[bw hk];rfl]at ev
   subst ev
   refine⟨D6,rfl,cs.map λk=>decide (k &&& i=k),by rw[Ib,pO];rfl,?_⟩
   have d6:=d5.on s6
   have P9:=s6 _ _ RL
   have IW:=s5.trans s6
   rw[uo]
   by_cases e2:(cs.any (id ∘ λk=>decide (k &&& i=k)))=true
   ·rw[e2]
    refine(iI _ _ _).mpr ⟨_,cs,rfl,d6,IW _ _ Ex,IW _ _ P1,P9,by omega,bc,λk hk=>?_⟩
    by_cases ki:k=i
    ·obtain⟨b,hb,eb⟩:=tj.mp e2
     rw[ki];exact .inl ⟨b,hb,of_decide_eq_true eb⟩
    ·exact cov k (by omega)
   rw[xk]at e2
   rw[e2]
   refine⟨.inl ⟨rfl,_,bB P9⟩,_,P9,aS (by rw[aP];omega),(iI _ _ _).mpr ⟨_,cs++[i],rfl,d6.put hC0,by rw[aM hCR.symm];exact IW _ _ Ex,by rw[aM W9.symm];exact IW _ _ P1,by rw[aj,dc];rfl,by simp;omega,λk hk=>?_,λk hk=>?_⟩⟩
   ·rcases fu.mp hk with z | z
    ·exact bc k z
    ·rw[nE.mp z];exact hi
   ·by_cases ki:k=i
    ·rw[ki];exact .inl ⟨i,by simp,Nat.and_self i⟩
    ·rcases cov k (by omega) with ⟨c,hc,ec⟩ | z
     ·exact .inl ⟨c,qM _ hc,ec⟩
     ·exact .inr z
 obtain⟨x,cs,rfl,d4,Ex,P1,L1,lc,bc,cov⟩:=(iI _ _ _).mp pv
 rw[qK]at lc cov
 clear iI pv Pv
 walk_at "r"
 subst hN
 have lg:(wj (λ_ a=>a) ks).length<=6:=cq (nF _ _) lk
 refine⟨by decide,λp hp=>q p C G cs _ _ (d4.new hp) aj hC0 ?_ W9 (ao hp _ _ _ L1) (ao hp _ _ _ P1) (by omega) lg bc (λk hk=>bk k (iW.mp hk).1) λk hk=>?_⟩
 ·exact d1.free hd hG
 ·rcases cov k hk with a | ⟨p,hp,e⟩
  ·exact .inl a
  ·obtain⟨g,hg,eg⟩:=rC bk _ p hp (cu _)
   refine .inr ⟨g,hg,?_⟩
   calc k &&& g=(k &&& p) &&& g:=by rw[e]
    _=k &&& (p &&& g):=Nat.and_assoc _ _ _
    _=k:=by rw[eg,e]
local macro_rules | `(tactic| walk_at "rd") => `(tactic| walk_at "rc")
local macro_rules | `(tactic| walk_at "rl") => `(tactic| first | (refine dX fun R hR => ?_) | walk_at "ry" | (refine Nx.to (by assumption) _ _ ?_))
def Ga(H:Hp)(zs:List (Addr×List Int)):Prop:=∀z∈zs,H z.1=some (.tup (List.map V.int z.2))
def refOf(z:Addr×List Int):V:=.ref z.1
theorem Ga.sets{H:Hp}{zs:List (Addr×List Int)}(p:Ga H zs):bD H (zs.map Prod.fst) (zs.map Prod.snd):=by
 refine⟨by simp,λi b t hb ht=>?_⟩
 rw[fO]at hb ht
 cases e:zs[i]? with
 | none=>rw[e]at hb;cases hb
 | some z=>
  rw[e]at hb ht
  cases hb;cases ht
  exact p z (qO e)
theorem N9{H:Hp}{bs:List Addr}{ts:List (List Int)}(s:bD H bs ts):∃zs:List (Addr×List Int),bs=zs.map Prod.fst/\ts=zs.map Prod.snd/\Ga H zs:=by
 refine⟨bs.zip ts,(List.map_fst_zip (uq s.1)).symm,(List.map_snd_zip (uq s.1.symm)).symm,λz hz=>?_⟩
 obtain⟨i,hi,rfl⟩:=qN.mp hz
 rw[List.length_zip]at hi
 rw[xl]
 exact s.2 i _ _ (bw (by omega)) (bw (by omega))
def GC:Sp:=λvs H Q _=>∃h M L,vs=[.ref h,.ref M,.ref L]/\cj H h/\M≠h/\L≠h/\∃(ms:List Int) (ks:List Nat),H M=some (.lst (List.map V.int ms))/\ms.length<=100/\H L=some (.lst (List.map dZ ks))/\ks.length<=200/\
 ∀R bs ts H',Dr h H H'->H R=none->H' R=some (.lst (List.map V.ref bs))->bD H' bs ts->ts.length<=200->(∀x,x∈ts↔∃k∈ks,x=xh ms k)->Q (.ref R) H'
theorem D'(T:Txt K mg t):cE P w K mg base jJ 4 t.kS t.kM ["_law_hand_here","_law_members_here","_law_masks_here"] GC:=by
 have ay:=ie (P:=P) (w:=w) (base:=base) T
 have ni:=Je (P:=P) (w:=w) (base:=base) T
 refine T.kY.nL jt (λvs H Q E h=>?_) (λeF A outer s H vs Q E hr h hc hf=>?_)
 ·obtain⟨h,m,l,rfl,_⟩:=h;rfl
 obtain⟨h,M,L,rfl,hd,yw,Gi,ms,ks,hM,lm,hL,lk,q⟩:=h
 have hu:=ia hr
 have yu:=hr.eR
 refine⟨_,(by apply ak;exact(iq hc jt.nd 3 (by decide +kernel) ["_law_mask"] [1] rfl (by decide +kernel) (dv (ai hc 2)) (λ_ hc=>ic hc (by decide +kernel) 0 (by decide +kernel)) (λ_ _=>bV) (λ_ hc=>(aq ni hr.mono (aX hc) T.pd T.nj.kp T.pG .nil aI (ae (ai hc 1) (ae (ai hc 0) ag)))) (by rfl));apply ak;exact(aH hc jt.nd hf 4 (by decide +kernel) (aV ag));apply ak;exact(tE nv (aE lA (az bh (aX hc) T.bY cA (ae (ai hc 3) ag)) ah (aN _)) (by exact au (cI (js nH oq ot cY (ai hc 4) (ae (js nH PySem.F.slot_list_pop PySem.F.type_list_pop Ef (ai hc 3) (ae (aq ay hr.mono (aX hc) T.aC T.aA.kp T.aD .nil aI (ae (ai hc 0) (ae (az bh (aX hc) T.bY cA (ae (ai hc 3) ag)) ag))) ag)) ag)))));exact au (aG (ai hc 4))),?_⟩
 walk_at "r"
 refine⟨⟨_,bB hL⟩,?_⟩
 refine fk (zs:=List.map dZ ks) (λj=>ks[j]?.map (xh ms)) (λ_=>nu) nu.same nu.puts hL (by rw[aP];omega) (λDD c H6 j z yes no hj s6 zP zO cD nY=>?_) (λN H1 vs s1 hN WW rl=>?_)
 ·obtain⟨k,ek,rfl⟩:=rJ hj
  rw[ek]at cD
  walk_at "rc"
  walk_at "r"
  refine⟨M,_,rfl,ms,k,rfl,s6 _ _ hM,by omega,λp H7 s7 hp V8=>?_⟩
  walk_at "r"
  exact cD _ rfl _ _ s7 ⟨p,rfl,V8⟩
 obtain⟨bs,rfl,sb⟩:=GF rl
 rw[aP,jF (l:=ks) (g:=xh ms) λk hk=>by rw[bw hk];rfl]at sb
 obtain⟨zs,rfl,ez,pz⟩:=N9 sb
 have mz:∀x,x∈zs.map Prod.snd↔∃k∈ks,x=xh ms k:=λx=>by
  rw[<-ez,oi]
  exact⟨λ⟨k,a,b⟩=>⟨k,a,b.symm⟩,λ⟨k,a,b⟩=>⟨k,a,b.symm⟩⟩
 have lz:zs.length<=200:=by
  have:=iU List.length ez
  rw[aP,aP]at this;omega
 rw[pO]at WW
 have d1:Dr h H H1:=Dr.refl.on s1
 have hNh:N≠h:=hd.ne hN
 walk_at "r"
 refine⟨by decide,λR hR=>?_⟩
 have WQ:N≠R:=aQ WW hR
 have hR0:H R=none:=d1.free hd hR
 have Gh:R≠h:=(d1.aK hd).ne hR
 walk_at "r"
 obtain⟨W,hW⟩:∃W:Nat->St->Hp->Prop,∀μ σ' H',W μ σ' H'↔∃as bs:List (Addr×List Int),as.length=μ/\σ'=[some (.ref h),some (.ref M),some (.ref L),some (.ref N),some (.ref R)]/\Dr h H H'/\H' N=some (.lst (List.map refOf as))/\H' R=some (.lst (List.map refOf bs))/\as.length+bs.length<=200/\Ga H' as/\Ga H' bs/\∀x,(x∈as\/x∈bs)↔x∈zs:=⟨_,λ_ _ _=>du⟩
 refine⟨W,⟨_,(hW _ _ _).mpr ⟨zs,[],rfl,rfl,d1.new hR,by rw[aM WQ];exact WW,aj,by simp;omega,λz hz=>by rw[aM (aQ (pz z hz) hR)];exact pz z hz,λz hz=>(nomatch hz),λx=>by simp⟩⟩,λμ σ' H3 hw=>?_⟩
 obtain⟨as,bs,rfl,rfl,d3,RD,BR,lab,pa,pb,mm⟩:=(hW _ _ _).mp hw
 repeat (first | walk_at "rl" | simp only[RD])
 by_cases z:0<as.length
 ·rw[aR (by omega)]
  refine⟨W (as.length-1),λ_ _ h=>⟨_,by omega,h⟩,?_⟩
  refine⟨.inl ⟨rfl,_,bB BR⟩,.inl ⟨rfl,_,bB RD⟩,aU hd d3 (by omega) (by omega) λr H4 r0 r1 d4 k4=>?_⟩
  have hN4:H4 N=some (.lst (List.map refOf as)):=by rw[k4 N hNh];exact RD
  have Ex:H4 R=some (.lst (List.map refOf bs)):=by rw[k4 R Gh];exact BR
  have hd3:=d3.aK hd
  have kp:∀z:Addr×List Int,H3 z.1=some (.tup (List.map V.int z.2))->∀o o',upd (upd H4 N (.lst o)) R (.lst o') z.1=some (.tup (List.map V.int z.2)):=λz hz o o'=>by
   have n1:z.1≠R:=λe=>by rw[e,BR]at hz;cases hz
   have n2:z.1≠N:=λe=>by rw[e,RD]at hz;cases hz
   rw[aM n1,aM n2,k4 _ (hd3.md hz)];exact hz
  have Rk:r.toNat<as.length:=by omega
  have er:as[r.toNat]?=some as[r.toNat]:=bw Rk
  refine⟨List.map refOf as,r,rfl,hN4,by omega,by omega,r.toNat,qQ r0 (by rw[aP];exact r1),refOf as[r.toNat],by rw[fO,er];rfl,List.map refOf bs,by rw[aM WQ.symm];exact Ex,by rw[aP];exact aS (by omega),(hW _ _ _).mpr ⟨as.eraseIdx r.toNat,bs++[as[r.toNat]],by rw[List.length_eraseIdx_of_lt Rk],rfl,(d4.put hN).put hR0,by rw[aM WQ,aj,nO],by rw[aj,dc];rfl,by rw[List.length_eraseIdx_of_lt Rk,dR];simp;omega,λz hz=>kp z (pa z (List.mem_of_mem_eraseIdx hz)) _ _,λz hz=>kp z ?_ _ _,λx=>?_⟩⟩
  ·rcases fu.mp hz with hz | hz
   ·exact pb z hz
   ·rw[nE.mp hz];exact pa _ (ny Rk)
  rw[<-mm x,<-(rY as r.toNat _ er).mem_iff,fu,nE,ft]
  exact⟨λh=>h.elim (λa=>.inl (.inr a)) λb=>b.elim .inr λc=>.inl (.inl c),λh=>h.elim (λa=>a.elim (λc=>.inr (.inr c)) .inl) λb=>.inr (.inl b)⟩
 ·rw[aO (by omega)]
  have e:as=[]:=Ck (by omega)
  subst e
  walk_at "r"
  refine q R (bs.map Prod.fst) (bs.map Prod.snd) H3 d3 hR0 (by rw[pO];exact BR) pb.sets (by simpa using lab) λx=>?_
  rw[<-mz x,oi,oi]
  exact⟨λ⟨z,a,b⟩=>⟨z,(mm z).mp (.inr a),b⟩,λ⟨z,a,b⟩=>⟨z,((mm z).mpr a).elim (λc=>(nomatch c)) id,b⟩⟩
theorem Oh{a b n:Nat}(ha:a<2 ^ n)(hb:b<2 ^ n):a ||| b<2 ^ n:=xt ha hb
def J5:Sp:=λvs H Q _=>∃h L many u,vs=[.ref h,.ref L,.int many,.bl u]/\∃(H0:Hp) (n:Nat) (ks:List Nat),many=(n:Int)/\n<=7/\cj H0 h/\Dr h H0 H/\H0 L=none/\H L=some (.lst (List.map dZ ks))/\ks.length<=150/\(∀k∈ks,k<2 ^ n)/\
 ∀H' ys,Dr h H0 H'->(∀a,a≠h->a≠L->∀o,H a=some o->H' a=some o)->H' L=some (.lst (List.map dZ (ks++ys)))->ys.length<=4->(∀y∈ys,y<2 ^ n)->Q .non H'
theorem Ht(T:Txt K mg t):cE P w K mg base jJ 4 t.mS t.mF ["_law_hand_here","_law_masks_here","_law_many","_law_under"] J5:=by
 have ay:=ie (P:=P) (w:=w) (base:=base) T
 refine T.m5.nL ky (λvs H Q E h=>?_) (λeF A outer s H vs Q E hr h hc hf=>?_)
 ·obtain⟨h,m,l,u,rfl,_⟩:=h;rfl
 obtain⟨h,L,_,u,rfl,H0,n,ks,rfl,hn,hd,d0,hL0,hL,lk,bk,q⟩:=h
 have hu:=ia hr
 have yu:=hr.eR
 have p7:2 ^ n<=128:=cq (y3 (by decide) hn) (by decide)
 refine⟨_,(by exact au (jb nv rfl (dU (aX hc) T.eH (ae (aq ay hr.mono (aX hc) T.aC T.aA.kp T.aD .nil aI (ae (ai hc 0) (ae ah ag))) ag)) (sC hc ky.nd hf 4 (by decide +kernel)) (by exact au (aW (aE lA (az bh (aX hc) T.bY cA (ae (ai hc 1) ag)) ah (aN _)) (by apply ak;exact(aH hc ky.nd hf 5 (by decide +kernel) (aB cP (ai hc 1) (aq ay hr.mono (aX hc) T.aC T.aA.kp T.aD .nil aI (ae (ai hc 0) (ae (az bh (aX hc) T.bY cA (ae (ai hc 1) ag)) ag))) (λ_ _=>rfl)));exact au (aW (bX (ai hc 3)) (by exact au (cI (js nH oq ot cY (ai hc 1) (ae (aF o6 (ai hc 5) (aq ay hr.mono (aX hc) T.aC T.aA.kp T.aD .nil aI (ae (ai hc 0) (ae (aF nT ah (ai hc 2)) ag)))) ag)))) (by exact au (cI (js nH oq ot cY (ai hc 1) (ae (aF Jd (ai hc 5) (aq ay hr.mono (aX hc) T.aC T.aA.kp T.aD .nil aI (ae (ai hc 0) (ae (aF nT ah (ai hc 2)) ag)))) ag)))))) aJ)))),?_⟩
 walk_at "r"
 have Gi:L≠h:=hd.ne hL0
 have Ko:((1:Int)*2 ^ ((n:Int)).toNat)=((2 ^ n:Nat):Int):=by rw[qK,uk,uw];rfl
 have pp:1<=2 ^ n:=Nat.one_le_two_pow
 have cp:yV 1 (n:Int):=⟨by omega,by omega,by decide⟩
 refine aU hd d0 (by decide) (by decide) λc H1 c0 c1 d1 k1=>⟨_,rfl,by omega,by omega,?_⟩
 obtain⟨Pv,iI⟩:∃Pv:Nat->St->Hp->Prop,∀i σ' H',Pv i σ' H'↔∃(x y:Option V) (ys:List Nat),σ'=[some (.ref h),some (.ref L),some (.int (n:Int)),some (.bl u),x,y]/\Dr h H0 H'/\(∀a,a≠h->a≠L->∀o,H a=some o->H' a=some o)/\H' L=some (.lst (List.map dZ (ks++ys)))/\ys.length<=i/\∀k∈ys,k<2 ^ n:=⟨_,λ_ _ _=>du⟩
 refine gA Pv ((iI _ _ _).mpr ⟨none,none,[],rfl,d1,λa h1 _ o e=>by rw[k1 a h1];exact e,by rw[k1 L Gi,om];exact hL,cu _,λ_ z=>(nomatch z)⟩) (λi σ' H2 hi pv=>?_) (λσ' H2 pv=>?_)
 ·obtain⟨x,y,ys,rfl,d2,Rj,Gj,ly,by'⟩:=(iI _ _ _).mp pv
  have YT:∀k∈ks++ys,k<2 ^ n:=λk hk=>(fu.mp hk).elim (bk k) (by' k)
  have aAf:(ks++ys).length<=160:=by rw[dR];omega
  have ap:∀v:Nat,List.map dZ (ks++ys)++[V.int (v:Int)]=List.map dZ (ks++(ys++[v])):=λv=>by rw[<-List.append_assoc,dc (l₁:=ks++ys)];rfl
  repeat (first | walk_at "rl" | simp only[Gj])
  by_cases z:0<(ks++ys).length
  ·rw[aR (by omega)]
   repeat (first | walk_at "rl" | simp only[Gj])
   refine aU hd d2 (by omega) (by omega) λr H3 r0 r1 d3 k3=>?_
   obtain⟨j,rfl,hj⟩:=o9 r0 r1
   have Js:H3 L=some (.lst (List.map dZ (ks++ys))):=by rw[k3 L Gi];exact Gj
   have hb:=YT _ (ny hj)
   have ea:kb (List.map dZ (ks++ys)) (j:Int)=some (.int (((ks++ys)[j]:Nat):Int)):=bH (by rw[fO,bw hj];rfl)
   generalize (ks++ys)[j]=b at hb ea
   walk_at "r"
   refine⟨_,Js,_,ea,?_⟩
   walk_at "r"
   have fin:∀(H4:Hp) (v:Nat),Dr h H0 H4->(∀b,b≠h->H4 b=H3 b)->v<2 ^ n->Pv (i+1) [some (.ref h),some (.ref L),some (.int (n:Int)),some (.bl u),some (.int (i:Int)),some (.int (b:Int))] (upd H4 L (.lst (List.map dZ (ks++ys)++[V.int (v:Int)]))):=λH4 v d4 k4 hv=>by
    refine(iI _ _ _).mpr ⟨_,_,ys++[v],rfl,d4.put hL0,λa h1 h2 o e=>by rw[aM h2,k4 a h1,k3 a h1];exact Rj a h1 h2 o e,by rw[aj,ap],by simp;omega,λk hk=>?_⟩
    rcases fu.mp hk with z | z
    ·exact by' k z
    ·rw[nE.mp z];exact hv
   cases u with
   | true=>
    walk_at "r"
    refine⟨.inl ⟨rfl,_,bB Js⟩,cp,?_⟩
    rw[Ko]
    refine aU hd d3 (by omega) (by omega) λr H4 r0 r1 d4 k4=>?_
    obtain⟨v,rfl,hv⟩:=o9 r0 r1
    refine⟨_,rfl,_,by rw[k4 L Gi];exact Js,by rw[aP];exact aS (by omega),?_⟩
    rw[iO]
    exact fin H4 _ d4 k4 (qL Nat.and_le_left hb)
   | false=>
    walk_at "r"
    refine⟨.inl ⟨rfl,_,bB Js⟩,cp,?_⟩
    rw[Ko]
    refine aU hd d3 (by omega) (by omega) λr H4 r0 r1 d4 k4=>?_
    obtain⟨v,rfl,hv⟩:=o9 r0 r1
    refine⟨_,rfl,_,by rw[k4 L Gi];exact Js,by rw[aP];exact aS (by omega),?_⟩
    rw[ua]
    exact fin H4 _ d4 k4 (Oh hb hv)
  ·rw[aO (by omega)]
   exact(iI _ _ _).mpr ⟨_,_,ys,rfl,d2,Rj,Gj,by omega,by'⟩
 obtain⟨x,y,ys,rfl,d2,Rj,Gj,ly,by'⟩:=(iI _ _ _).mp pv
 exact q H2 ys d2 Rj Gj (by omega) by'
local macro_rules | `(tactic| walk_at "rd") => `(tactic| walk_at "rc")
local macro_rules | `(tactic| walk_at "rl") => `(tactic| first | (refine dX fun R hR => ?_) | walk_at "ry" | (refine Nx.to (by assumption) _ _ ?_))
inductive Tr where
 | clash (s:List Int) | peace (s:List Int) | ask (m:Int) (a b:Tr)
def iS(H:Hp):Tr->Addr->Prop
 | .clash s,p=>∃q,H p=some (.tup [.str (Str.ofString "clash"),.ref q])/\H q=some (.tup (List.map V.int s))
 | .peace s,p=>∃q,H p=some (.tup [.str (Str.ofString "peace"),.ref q])/\H q=some (.tup (List.map V.int s))
 | .ask m a b,p=>∃q r,H p=some (.tup [.str (Str.ofString "ask"),.int m,.ref q,.ref r])/\iS H a q/\iS H b r
def mZ(H H':Hp):Prop:=∀q xs,H q=some (.tup xs)->H' q=some (.tup xs)
theorem iS.mono{H H':Hp}(k:mZ H H'):∀{r:Tr} {p:Addr},iS H r p->iS H' r p
 | .clash _,_,⟨q,e,f⟩=>⟨q,k _ _ e,k _ _ f⟩
 | .peace _,_,⟨q,e,f⟩=>⟨q,k _ _ e,k _ _ f⟩
 | .ask _ _ _,_,⟨q,r,e,a,b⟩=>⟨q,r,k _ _ e,iS.mono k a,iS.mono k b⟩
def Tr.deep:Tr->Nat
 | .ask _ a b=>max a.deep b.deep+1
 | _=>1
def Good(W:List Int)(cs ps:List (List Int)):Tr->List Int->List Int->Prop
 | .clash s,hd,_=>s∈cs/\∀m∈s,m∈hd
 | .peace s,_,la=>s∈ps/\∀m∈W,m∉s->m∈la
 | .ask m a b,hd,la=>m∈W/\m∉hd/\m∉la/\Good W cs ps a (hd++[m]) la/\Good W cs ps b hd (la++[m])
structure Node(W:List Int)(cs ps:List (List Int))(u hd la:List Int)(c p:List (List Int)):Prop where
 whole:∀m,m∈W↔m∈u\/m∈hd\/m∈la
 nd:u.Nodup
 nh:∀m∈u,m∉hd/\m∉la
 hl:∀m∈hd,m∉la
 mc:∀s,s∈c↔s∈cs/\∀m∈s,m∉la
 mp:∀s,s∈p↔s∈ps/\∀m∈hd,m∈s
 sub:∀s∈cs,∀m∈s,m∈W
 cover:∀S:List Int,(∀m∈S,m∈W)->(∃s∈cs,∀m∈s,m∈S)\/∃s∈ps,∀m∈S,m∈s
inductive Dt where
 | int (i:Int) | str (s:Str) | bl (b:Bool) | non | tup (ds:List Dt) | lst (ds:List Dt) | dct
mutual
def Rep(h:Addr)(H:Hp):Dt->V->Prop
 | .int i,v=>v=.int i
 | .str s,v=>v=.str s/\s.length<=100
 | .bl b,v=>v=.bl b
 | .non,v=>v=.non
 | .tup ds,v=>∃p vs,v=.ref p/\H p=some (.tup vs)/\vs.length<=900/\dq h H ds vs
 | .lst ds,v=>∃p vs,v=.ref p/\p≠h/\H p=some (.lst vs)/\dq h H ds vs
 | .dct,v=>∃p,v=.ref p/\p≠h/\H p=some (.dK [])
def dq(h:Addr)(H:Hp):List Dt->List V->Prop
 | [],vs=>vs=[]
 | d::ds,vs=>∃v ws,vs=v::ws/\Rep h H d v/\dq h H ds ws
end
structure Kp(h:Addr)(H H':Hp):Prop where
 tup:mZ H H'
 Rc:∀p o,p≠h->H p=some o->H' p=some o
theorem Kp.of{h:Addr}{H H':Hp}(s:bF H H'):Kp h H H':=⟨λq xs e=>s q _ e,λp o _ e=>s p o e⟩
theorem Kp.dr{h:Addr}{H H':Hp}(x:cj H h)(d:Dr h H H'):Kp h H H':=⟨λq xs e=>d.keep q _ (x.md e) e,λp o n e=>d.keep p o n e⟩
theorem Kp.trans{h:Addr}{H H' iT:Hp}(a:Kp h H H')(b:Kp h H' iT):Kp h H iT:=⟨λq xs e=>b.tup q xs (a.tup q xs e),λp o n e=>b.Rc p o n (a.Rc p o n e)⟩
mutual
theorem Rep.mono{h:Addr}{H H':Hp}(k:Kp h H H'):∀{d:Dt} {v:V},Rep h H d v->Rep h H' d v
 | .int _,_,e=>e
 | .str _,_,e=>e
 | .bl _,_,e=>e
 | .non,_,e=>e
 | .tup _,_,⟨p,vs,e,hp,l,r⟩=>⟨p,vs,e,k.tup _ _ hp,l,dq.mono k r⟩
 | .lst _,_,⟨p,vs,e,n,hp,r⟩=>⟨p,vs,e,n,k.Rc _ _ n hp,dq.mono k r⟩
 | .dct,_,⟨p,e,n,hp⟩=>⟨p,e,n,k.Rc _ _ n hp⟩
theorem dq.mono{h:Addr}{H H':Hp}(k:Kp h H H'):∀{ds:List Dt} {vs:List V},dq h H ds vs->dq h H' ds vs
 | [],_,e=>e
 | _::_,_,⟨v,ws,e,r,rs⟩=>⟨v,ws,e,Rep.mono k r,dq.mono k rs⟩
end
theorem dq.len{h:Addr}{H:Hp}:∀{ds:List Dt} {vs:List V},dq h H ds vs->vs.length=ds.length
 | [],_,e=>by cases e;rfl
 | _::_,_,⟨v,ws,e,_,rs⟩=>by subst e;rw[cR,cR,dq.len rs]
theorem dq.at{h:Addr}{H:Hp}:∀{ds:List Dt} {vs:List V} {i:Nat} {v:V},dq h H ds vs->vs[i]?=some v->∃d,ds[i]?=some d/\Rep h H d v
 | [],_,i,v,e,x=>by cases e;simp at x
 | d::ds,_,i,v,⟨w,ws,e,r,rs⟩,x=>by
  subst e
  cases i with
  | zero=>cases x;exact⟨d,rfl,r⟩
  | succ n=>exact dq.at (ds:=ds) (i:=n) rs x
theorem dq.append{h:Addr}{H:Hp}:∀{ds es:List Dt} {vs ws:List V},dq h H ds vs->dq h H es ws->dq h H (ds++es) (vs++ws)
 | [],_,_,_,e,r=>by cases e;exact r
 | _::_,_,_,_,⟨v,us,e,r,rs⟩,r2=>by subst e;exact⟨v,us++_,rfl,r,dq.append rs r2⟩
theorem dq.drop{h:Addr}{H:Hp}:∀{ds:List Dt} {vs:List V} (n:Nat),dq h H ds vs->dq h H (ds.drop n) (vs.drop n)
 | _,_,0,r=>r
 | [],_,n+1,e=>by cases e;rfl
 | _::ds,_,n+1,⟨v,us,e,_,rs⟩=>by subst e;exact dq.drop n rs
theorem dq.take{h:Addr}{H:Hp}:∀{ds:List Dt} {vs:List V} (n:Nat),dq h H ds vs->dq h H (ds.take n) (vs.take n)
 | _,_,0,r=>by simp only[List.take_zero];rfl
 | [],_,n+1,e=>by cases e;rfl
 | _::ds,_,n+1,⟨v,us,e,r,rs⟩=>by subst e;exact⟨v,us.take n,rfl,r,dq.take n rs⟩
theorem dq.one{h:Addr}{H:Hp}{d:Dt}{v:V}(r:Rep h H d v):dq h H [d] [v]:=⟨v,[],rfl,r,rfl⟩
def BM(x:List Int)(i:Nat):Bool:=decide (x.getD i 0<x.getD (i+1) 0)
def nJ(x:List Int):Bool:=((List.range (x.length-1)).map (BM x)).all id
theorem rk:∀{x:List Int},(∀i,i+1<x.length->BM x i=true)->fq x
 | [],_=>.nil
 | [a],_=>by simp[fq]
 | a::b::l,h=>by
  have hr:fq (b::l):=rk λi hi=>by
   have:=h (i+1) (by simpa using hi)
   simpa [BM]using this
  have hab:a<b:=by simpa [BM]using h 0 (by simp)
  refine List.pairwise_cons.mpr ⟨λz hz=>?_,hr⟩
  rcases ft.mp hz with rfl | hz
  ·exact hab
  ·exact Int.lt_trans hab ((List.pairwise_cons.mp hr).1 z hz)
theorem tN{x:List Int}:nJ x=true↔fq x:=by
 unfold nJ
 rw[sX,iX]
 constructor
 ·exact λh=>rk λi hi=>h i (vK.mpr (by omega))
 ·intro h i hi
  have j2:i+1<x.length:=by have:=vK.mp hi;omega
  have:=(List.pairwise_iff_getElem.mp h) i (i+1) (by omega) j2 (by omega)
  show BM x i=true
  unfold BM
  rw[nI,nI,bw (by omega:i<x.length),bw j2]
  exact decide_eq_true this
def dW:Dt->Bool
 | .int _=>true
 | _=>false
def fU:List Dt->Option (List Int)
 | []=>some []
 | .int i::ds=>(fU ds).map (i :: ·)
 | _=>none
def oY:Dt->Option (List Int)
 | .tup ds=>(fU ds).bind λs=>if nJ s=true then some s else none
 | _=>none
theorem rQ:∀{ds:List Dt},ds.all dW=true->∃s,fU ds=some s/\s.length=ds.length
 | [],_=>⟨[],rfl,rfl⟩
 | .int i::ds,h=>by
  obtain⟨s,e,l⟩:=rQ (ds:=ds) (by simpa [dW]using h)
  exact⟨i::s,by show(fU ds).map _=_;rw[e];rfl,by rw[cR,cR,l]⟩
theorem rO:∀{ds:List Dt},ds.all dW=false->fU ds=none
 | .int i::ds,h=>by
  have:=rO (ds:=ds) (by simpa [dW]using h)
  show(fU ds).map _=none
  rw[this];rfl
 | .str _::_,_=>rfl
 | .bl _::_,_=>rfl
 | .non::_,_=>rfl
 | .tup _::_,_=>rfl
 | .lst _::_,_=>rfl
 | .dct::_,_=>rfl
theorem jY{h:Addr}{H:Hp}:∀{ds:List Dt} {vs:List V} {s:List Int},dq h H ds vs->fU ds=some s->vs=List.map V.int s
 | [],_,s,e,z=>by cases z;exact e
 | .int i::ds,_,s,⟨v,ws,e,r,rs⟩,z=>by
  have z:(fU ds).map (i :: ·)=some s:=z
  cases e2:fU ds with
  | none=>rw[e2]at z;cases z
  | some s'=>
   rw[e2]at z
   cases z
   subst e
   rw[jL,jY rs e2,show v=V.int i from r]
theorem zf{d:Dt}{s:List Int}(e:oY d=some s):∃ds,d=.tup ds/\fU ds=some s/\fq s:=by
 cases d with
 | tup ds=>
  have e:(fU ds).bind _=some s:=e
  cases e2:fU ds with
  | none=>rw[e2]at e;cases e
  | some s'=>
   rw[e2]at e
   have e:(if nJ s'=true then some s' else none)=some s:=e
   split at e
   ·rename_i hr
    cases e
    exact⟨ds,rfl,e2,tN.mp hr⟩
   ·cases e
 | _=>cases e
theorem uK{h:Addr}{H:Hp}{d:Dt}{v:V}{s:List Int}(r:Rep h H d v)(e:oY d=some s):∃p,v=.ref p/\H p=some (.tup (List.map V.int s)):=by
 obtain⟨ds,rfl,e2,_⟩:=zf e
 obtain⟨p,vs,rfl,hp,_,rs⟩:=r
 exact⟨p,rfl,by rw[hp,jY rs e2]⟩
theorem zh(K:PySem.W.Frag){h:Addr}{H:Hp}:∀{d:Dt} {v:V},Rep h H d v->(∃i,d=.int i/\v=.int i)\/(∃b,d=.bl b/\v=.bl b)\/(dW d=false/\∃t,mY K H v t/\PySem.W.kitOne K t (.type "int")=some false)
 | .int i,_,e=>.inl ⟨i,rfl,e⟩
 | .str s,_,e=>.inr (.inr ⟨rfl,Value.type "str",by rw[e.1];exact .str s,dk (by decide) rfl⟩)
 | .bl b,_,e=>.inr (.inl ⟨b,rfl,e⟩)
 | .non,_,e=>.inr (.inr ⟨rfl,Value.type "NoneType",by rw[show _=V.non from e];exact .non,dk (by decide) rfl⟩)
 | .tup ds,_,⟨p,vs,e,hp,_,_⟩=>.inr (.inr ⟨rfl,Value.type "tuple",by rw[e];exact .tup hp,dk (by decide) rfl⟩)
 | .lst _,_,⟨p,vs,e,_,hp,_⟩=>.inr (.inr ⟨rfl,Value.type "list",by rw[e];exact .lst hp,dk (by decide) rfl⟩)
 | .dct,_,⟨p,e,_,hp⟩=>.inr (.inr ⟨rfl,Value.type "dict",by rw[e];exact .dK hp,dk (by decide) rfl⟩)
theorem qA(K:PySem.W.Frag){h:Addr}{H:Hp}:∀{d:Dt} {v:V},Rep h H d v->(∃ds,d=.tup ds)\/((∀ds,d≠.tup ds)/\∃t,mY K H v t/\PySem.W.kitOne K t (.type "tuple")=some false)
 | .int i,_,e=>.inr ⟨λ_ z=>(nomatch z),Value.type "int",by rw[show _=V.int i from e];exact .int i,dk (by decide) rfl⟩
 | .str s,_,e=>.inr ⟨λ_ z=>(nomatch z),Value.type "str",by rw[e.1];exact .str s,dk (by decide) rfl⟩
 | .bl b,_,e=>.inr ⟨λ_ z=>(nomatch z),Value.type "bool",by rw[show _=V.bl b from e];exact .bl b,dk (by decide) rfl⟩
 | .non,_,e=>.inr ⟨λ_ z=>(nomatch z),Value.type "NoneType",by rw[show _=V.non from e];exact .non,dk (by decide) rfl⟩
 | .tup ds,_,_=>.inl ⟨ds,rfl⟩
 | .lst _,_,⟨p,vs,e,_,hp,_⟩=>.inr ⟨λ_ z=>(nomatch z),Value.type "list",by rw[e];exact .lst hp,dk (by decide) rfl⟩
 | .dct,_,⟨p,e,_,hp⟩=>.inr ⟨λ_ z=>(nomatch z),Value.type "dict",by rw[e];exact .dK hp,dk (by decide) rfl⟩
theorem zg(K:PySem.W.Frag){h:Addr}{H:Hp}:∀{d:Dt} {v:V},Rep h H d v->(∃s,d=.str s/\v=.str s)\/((∀s,d≠.str s)/\∃t,mY K H v t/\PySem.W.kitOne K t (.type "str")=some false)
 | .int i,_,e=>.inr ⟨λ_ z=>(nomatch z),Value.type "int",by rw[show _=V.int i from e];exact .int i,dk (by decide) rfl⟩
 | .str s,_,e=>.inl ⟨s,rfl,e.1⟩
 | .bl b,_,e=>.inr ⟨λ_ z=>(nomatch z),Value.type "bool",by rw[show _=V.bl b from e];exact .bl b,dk (by decide) rfl⟩
 | .non,_,e=>.inr ⟨λ_ z=>(nomatch z),Value.type "NoneType",by rw[show _=V.non from e];exact .non,dk (by decide) rfl⟩
 | .tup ds,_,⟨p,vs,e,hp,_,_⟩=>.inr ⟨λ_ z=>(nomatch z),Value.type "tuple",by rw[e];exact .tup hp,dk (by decide) rfl⟩
 | .lst _,_,⟨p,vs,e,_,hp,_⟩=>.inr ⟨λ_ z=>(nomatch z),Value.type "list",by rw[e];exact .lst hp,dk (by decide) rfl⟩
 | .dct,_,⟨p,e,_,hp⟩=>.inr ⟨λ_ z=>(nomatch z),Value.type "dict",by rw[e];exact .dK hp,dk (by decide) rfl⟩
def v7:Sp:=λvs H Q _=>∃v,vs=[v]/\∃h d,Rep h H d v/\Q (.bl (dW d)) H
def CN:Sp:=λvs H Q _=>∃v,vs=[v]/\∃h d,Rep h H d v/\∀H',bF H H'->Q (.bl (oY d).isSome) H'
theorem v9{ds:List Dt}{s:List Int}(e:fU ds=some s):(oY (.tup ds)).isSome=nJ s:=by
 show((fU ds).bind _).isSome=_
 rw[e]
 show(if nJ s=true then some s else none).isSome=_
 cases nJ s <;> rfl
theorem zc{ds:List Dt}(e:fU ds=none):(oY (.tup ds)).isSome=false:=by
 show((fU ds).bind _).isSome=_
 rw[e]
 rfl
theorem wa{d:Dt}(h:∀ds,d≠.tup ds):(oY d).isSome=false:=by
 cases d with
 | tup ds=>exact absurd rfl (h ds)
 | _=>rfl
theorem tV(T:Txt K mg t):cE P w K mg base jJ 1 t.fW t.fV ["thing"] v7:=by
 refine T.gd.nL nQ (λvs H Q E h=>?_) (λeF A outer s H vs Q E hr h hc hf=>?_)
 ·obtain⟨i,rfl,_⟩:=h;rfl
 obtain⟨v,rfl,hh,d,r,q⟩:=h
 refine⟨_,(by exact au (aG (df (az cH (aX hc) T.bq bK (ae (ai hc 0) (ae (dw (v:=V.ty "int") (aX hc) T.tH JD rfl) ag))) (gE (y8 (az cH (aX hc) T.bq bK (ae (ai hc 0) (ae (dw (v:=V.ty "bool") (aX hc) T.lT vz rfl) ag)))))))),?_⟩
 repeat (walk_at "rd")
 rcases zh K r with ⟨i,rfl,rfl⟩ | ⟨b,rfl,rfl⟩ | ⟨e,ty,h1,h2⟩
 ·refine⟨_,.int i,true,dA _ _,?_⟩
  repeat (walk_at "rd")
  refine⟨_,.int i,false,dk (by decide) rfl,?_⟩
  repeat (walk_at "rd")
  exact q
 ·refine⟨_,.bl b,true,zI (by decide) rfl,?_⟩
  repeat (walk_at "rd")
  refine⟨_,.bl b,true,dA _ _,?_⟩
  repeat (walk_at "rd")
  exact q
 ·refine⟨_,h1,false,h2,?_⟩
  repeat (walk_at "rd")
  rw[e]at q
  exact q
theorem wq(T:Txt K mg t):cE P w K mg base jJ 1 t.gZ t.gW ["_law_thing"] v7:=by
 refine T.hJ.nL oZ (λvs H Q E h=>?_) (λeF A outer s H vs Q E hr h hc hf=>?_)
 ·obtain⟨i,rfl,_⟩:=h;rfl
 obtain⟨v,rfl,hh,d,r,q⟩:=h
 refine⟨_,(by exact au (aG (df (az cH (aX hc) T.bq bK (ae (ai hc 0) (ae (dw (v:=V.ty "int") (aX hc) T.tH JD rfl) ag))) (gE (y8 (az cH (aX hc) T.bq bK (ae (ai hc 0) (ae (dw (v:=V.ty "bool") (aX hc) T.lT vz rfl) ag)))))))),?_⟩
 repeat (walk_at "rd")
 rcases zh K r with ⟨i,rfl,rfl⟩ | ⟨b,rfl,rfl⟩ | ⟨e,ty,h1,h2⟩
 ·refine⟨_,.int i,true,dA _ _,?_⟩
  repeat (walk_at "rd")
  refine⟨_,.int i,false,dk (by decide) rfl,?_⟩
  repeat (walk_at "rd")
  exact q
 ·refine⟨_,.bl b,true,zI (by decide) rfl,?_⟩
  repeat (walk_at "rd")
  refine⟨_,.bl b,true,dA _ _,?_⟩
  repeat (walk_at "rd")
  exact q
 ·refine⟨_,h1,false,h2,?_⟩
  repeat (walk_at "rd")
  rw[e]at q
  exact q
theorem Ho(T:Txt K mg t):cE P w K mg base jJ 2 t.sg t.rZ ["thing"] CN:=by
 have fY:=tV (P:=P) (w:=w) (base:=base) T
 refine T.sq.nL Am (λvs H Q E h=>?_) (λeF A outer s H vs Q E hr h hc hf=>?_)
 ·obtain⟨a,rfl,_⟩:=h;rfl
 obtain⟨v,rfl,hh,d,r,q⟩:=h
 refine⟨_,(by apply ak;exact(aW (gj (fQ (cU (bX (az cH (aX hc) T.bq bK (ae (ai hc 0) (ae (dw (v:=V.ty "tuple") (aX hc) T.eG il rfl) ag))))) (gD (cU (bX (az (fL hr.hd) (aX hc) T.lu qb (ae (bI hc ["member"] [] rfl (by decide +kernel) (fh (ai hc 0)) (λ_ hc=>ic hc (by decide +kernel) 0 (by decide +kernel)) (λ_ _=>bV) (λ_ hc=>(aq fY hr.mono (aX hc) T.jh T.gd.kp T.jm .nil aI (ae (ai hc 0) ag)))) ag))))))) (by exact au (aG cy)) aJ);exact au (aG (az (fL hr.hd) (aX hc) T.lu qb (ae (bI hc ["place"] [0] rfl (by decide +kernel) (xD (aX hc) T.eH (ae ah (ae (az gC (aX hc) T.bY cA (ae (ai hc 0) ag)) ag))) (λ_ hc=>ic hc (by decide +kernel) 0 (by decide +kernel)) (λ_ _=>bV) (λ_ hc=>(bP rE (aB cx (ai hc 1) (aF uU (ai hc 0) ah) (λ_ _=>rfl)) (aB cx (ai hc 1) (ai hc 0) (λ_ _=>rfl)) (aN _)))) ag)))),?_⟩
 repeat (walk_at "rd")
 rcases qA K r with ⟨ds,rfl⟩ | ⟨nt,ty,h1,h2⟩
 rotate_left
 ·refine⟨_,h1,false,h2,?_⟩
  repeat (walk_at "rd")
  rw[wa nt]at q
  exact q _ (bF.refl H)
 obtain⟨a,vs,rfl,ha,ld,rs⟩:=r
 have lv:=rs.len
 rw[lv]at ld
 refine⟨_,.tup ha,true,dA _ _,?_⟩
 repeat (walk_at "rd")
 refine⟨⟨_,bR ha⟩,?_⟩
 obtain⟨Pc,ig⟩:∃Pc:Addr->Nat->List V->Hp->Prop,∀Z i ys H',Pc Z i ys H'↔ys=List.map V.bl ((ds.take i).map dW)/\bF H H'/\H' Z=some (.lst ys):=⟨_,λ_ _ _ _=>du⟩
 refine jl (zs:=vs) Pc (λZ hZ=>(ig _ _ _ _).mpr ⟨rfl,ao hZ _,aj⟩) (λZ hZ i ys H' _ pv=>?_) (λZ hZ i z ys H' hz pv cb=>?_) (λZ hZ ys H' pv=>?_)
 ·obtain⟨_,s,_⟩:=(ig _ _ _ _).mp pv
  exact s _ _ ha
 ·obtain⟨rfl,s1,kG⟩:=(ig _ _ _ _).mp pv
  obtain⟨d,ed,rd⟩:=rs.at hz
  have hi:i<ds.length:=(fP.mp ed).1
  walk_at "rc"
  repeat (walk_at "rd")
  refine⟨z,rfl,hh,d,rd.mono (Kp.of s1),kG,by rw[nz];exact aS (by omega),(ig _ _ _ _).mpr ⟨?_,eK s1 hZ,aj⟩⟩
  rw[nA,ed,dc,dc];rfl
 ·obtain⟨rfl,s1,kG⟩:=(ig _ _ _ _).mp pv
  rw[lv,oo]at kG
  refine⟨Z,rfl,_,kG,?_⟩
  rw[sX,show(id ∘ dW)=dW from rfl]
  cases al:ds.all dW with
  | false=>
   rw[zc (rO al)]at q
   repeat (walk_at "rd")
   exact q _ s1
  | true=>
  obtain⟨x,ex,lx⟩:=rQ al
  rw[v9 ex]at q
  rw[jY rs ex]at ha
  repeat (walk_at "rd")
  have Pp:=s1 _ _ ha
  repeat (first | walk_at "rd" | simp only[Pp])
  refine⟨by omega,by omega,?_⟩
  obtain⟨Pd,sA⟩:∃Pd:Addr->Nat->List V->Hp->Prop,∀Z2 i ys iT,Pd Z2 i ys iT↔ys=List.map V.bl ((List.range i).map (BM x))/\bF H' iT/\iT Z2=some (.lst ys):=⟨_,λ_ _ _ _=>du⟩
  refine mK Pd (λZ2 qp=>(sA _ _ _ _).mpr ⟨rfl,ao qp _,aj⟩) (λZ2 qp i ys H2 hi pv cb=>?_) (λZ2 qp ys H2 pv=>?_)
  ·obtain⟨rfl,s2,vo⟩:=(sA _ _ _ _).mp pv
   have M9:=s2 _ _ Pp
   have j1:i<x.length:=by omega
   have j2:i+1<x.length:=by omega
   have e1:kb (List.map V.int x) (1+(i:Int)-1)=some (.int x[i]):=by rw[show 1+(i:Int)-1=(i:Int) by omega];exact bH (by rw[fO,bw j1];rfl)
   have e2:kb (List.map V.int x) (1+(i:Int))=some (.int x[i+1]):=by rw[show 1+(i:Int)=((i+1:Nat):Int) by omega];exact bH (by rw[fO,bw j2];rfl)
   walk_at "rc"
   repeat (first | walk_at "rd" | simp only[M9,e1,e2])
   have lt:decide (x[i]<x[i+1])=BM x i:=by
    unfold BM
    rw[nI,nI,bw j1,bw j2]
    rfl
   rw[lt]
   refine⟨vo,by rw[xr];exact aS (by omega),(sA _ _ _ _).mpr ⟨?_,eK s2 qp,aj⟩⟩
   rw[List.range_succ,dc,dc];rfl
  ·obtain⟨rfl,s2,vo⟩:=(sA _ _ _ _).mp pv
   refine⟨Z2,rfl,_,vo,?_⟩
   have:=q _ (s1.trans s2)
   unfold nJ at this
   rw[show((x.length:Int)-1).toNat=x.length-1 by omega]
   exact this
theorem Ea(T:Txt K mg t):cE P w K mg base jJ 2 t.jI t.jG ["_law_thing"] CN:=by
 have g8:=wq (P:=P) (w:=w) (base:=base) T
 refine T.nP.nL rj (λvs H Q E h=>?_) (λeF A outer s H vs Q E hr h hc hf=>?_)
 ·obtain⟨a,rfl,_⟩:=h;rfl
 obtain⟨v,rfl,hh,d,r,q⟩:=h
 refine⟨_,(by apply ak;exact(aW (gj (fQ (cU (bX (az cH (aX hc) T.bq bK (ae (ai hc 0) (ae (dw (v:=V.ty "tuple") (aX hc) T.eG il rfl) ag))))) (gD (cU (bX (az (fL hr.hd) (aX hc) T.lu qb (ae (bI hc ["_law_one"] [] rfl (by decide +kernel) (fh (ai hc 0)) (λ_ hc=>ic hc (by decide +kernel) 0 (by decide +kernel)) (λ_ _=>bV) (λ_ hc=>(aq g8 hr.mono (aX hc) T.lB T.hJ.kp T.lF .nil aI (ae (ai hc 0) ag)))) ag))))))) (by exact au (aG cy)) aJ);exact au (aG (az (fL hr.hd) (aX hc) T.lu qb (ae (bI hc ["_law_k"] [0] rfl (by decide +kernel) (dU (aX hc) T.eH (ae (aF uU (az gC (aX hc) T.bY cA (ae (ai hc 0) ag)) ah) ag)) (λ_ hc=>ic hc (by decide +kernel) 0 (by decide +kernel)) (λ_ _=>bV) (λ_ hc=>(bP rE (aB cx (ai hc 1) (ai hc 0) (λ_ _=>rfl)) (aB cx (ai hc 1) (aF gx (ai hc 0) ah) (λ_ _=>rfl)) (aN _)))) ag)))),?_⟩
 repeat (walk_at "rd")
 rcases qA K r with ⟨ds,rfl⟩ | ⟨nt,ty,h1,h2⟩
 rotate_left
 ·refine⟨_,h1,false,h2,?_⟩
  repeat (walk_at "rd")
  rw[wa nt]at q
  exact q _ (bF.refl H)
 obtain⟨a,vs,rfl,ha,ld,rs⟩:=r
 have lv:=rs.len
 rw[lv]at ld
 refine⟨_,.tup ha,true,dA _ _,?_⟩
 repeat (walk_at "rd")
 refine⟨⟨_,bR ha⟩,?_⟩
 obtain⟨Pc,ig⟩:∃Pc:Addr->Nat->List V->Hp->Prop,∀Z i ys H',Pc Z i ys H'↔ys=List.map V.bl ((ds.take i).map dW)/\bF H H'/\H' Z=some (.lst ys):=⟨_,λ_ _ _ _=>du⟩
 refine jl (zs:=vs) Pc (λZ hZ=>(ig _ _ _ _).mpr ⟨rfl,ao hZ _,aj⟩) (λZ hZ i ys H' _ pv=>?_) (λZ hZ i z ys H' hz pv cb=>?_) (λZ hZ ys H' pv=>?_)
 ·obtain⟨_,s,_⟩:=(ig _ _ _ _).mp pv
  exact s _ _ ha
 ·obtain⟨rfl,s1,kG⟩:=(ig _ _ _ _).mp pv
  obtain⟨d,ed,rd⟩:=rs.at hz
  have hi:i<ds.length:=(fP.mp ed).1
  walk_at "rc"
  repeat (walk_at "rd")
  refine⟨z,rfl,hh,d,rd.mono (Kp.of s1),kG,by rw[nz];exact aS (by omega),(ig _ _ _ _).mpr ⟨?_,eK s1 hZ,aj⟩⟩
  rw[nA,ed,dc,dc];rfl
 ·obtain⟨rfl,s1,kG⟩:=(ig _ _ _ _).mp pv
  rw[lv,oo]at kG
  refine⟨Z,rfl,_,kG,?_⟩
  rw[sX,show(id ∘ dW)=dW from rfl]
  cases al:ds.all dW with
  | false=>
   rw[zc (rO al)]at q
   repeat (walk_at "rd")
   exact q _ s1
  | true=>
  obtain⟨x,ex,lx⟩:=rQ al
  rw[v9 ex]at q
  rw[jY rs ex]at ha
  repeat (walk_at "rd")
  have Pp:=s1 _ _ ha
  repeat (first | walk_at "rd" | simp only[Pp])
  refine⟨by omega,by omega,?_⟩
  obtain⟨Pd,sA⟩:∃Pd:Addr->Nat->List V->Hp->Prop,∀Z2 i ys iT,Pd Z2 i ys iT↔ys=List.map V.bl ((List.range i).map (BM x))/\bF H' iT/\iT Z2=some (.lst ys):=⟨_,λ_ _ _ _=>du⟩
  refine mK Pd (λZ2 qp=>(sA _ _ _ _).mpr ⟨rfl,ao qp _,aj⟩) (λZ2 qp i ys H2 hi pv cb=>?_) (λZ2 qp ys H2 pv=>?_)
  ·obtain⟨rfl,s2,vo⟩:=(sA _ _ _ _).mp pv
   have M9:=s2 _ _ Pp
   have j1:i<x.length:=by omega
   have j2:i+1<x.length:=by omega
   have e1:kb (List.map V.int x) (i:Int)=some (.int x[i]):=bH (by rw[fO,bw j1];rfl)
   have e2:kb (List.map V.int x) ((i:Int)+1)=some (.int x[i+1]):=bH (j:=i+1) (by rw[fO,bw j2];rfl)
   walk_at "rc"
   repeat (first | walk_at "rd" | simp only[M9,e1,e2])
   have lt:decide (x[i]<x[i+1])=BM x i:=by
    unfold BM
    rw[nI,nI,bw j1,bw j2]
    rfl
   rw[lt]
   refine⟨vo,by rw[xr];exact aS (by omega),(sA _ _ _ _).mpr ⟨?_,eK s2 qp,aj⟩⟩
   rw[List.range_succ,dc,dc];rfl
  ·obtain⟨rfl,s2,vo⟩:=(sA _ _ _ _).mp pv
   refine⟨Z2,rfl,_,vo,?_⟩
   have:=q _ (s1.trans s2)
   unfold nJ at this
   rw[show((x.length:Int)-1).toNat=x.length-1 by omega]
   exact this
local macro_rules | `(tactic| walk_at "rd") => `(tactic| walk_at "rc")
local macro_rules | `(tactic| walk_at "rl") => `(tactic| first | (refine dX fun R hR => ?_) | walk_at "ry" | (refine Nx.to (by assumption) _ _ ?_))
def dg(d:Dt)(wd:Str)(n:Nat):Bool:=match d with
 | .tup (.str x::ds)=>decide (ds.length+1=n)&&decide (x=wd)
 | _=>false
theorem oU{d:Dt}{wd:Str}{n:Nat}(h:dg d wd n=true):∃ds,d=.tup (.str wd::ds)/\ds.length+1=n:=by
 unfold dg at h
 split at h
 ·rename_i x ds
  rw[eO,nB,nB]at h
  exact⟨ds,by rw[h.2],h.1⟩
 ·cases h
def wM(cs:List (List Int))(d:Dt)(f:List Int->Bool):Bool:=match oY d with
 | some s=>decide (s∈cs)&&f s
 | none=>false
theorem iD{cs:List (List Int)}{d:Dt}{f:List Int->Bool}{s:List Int}(e:oY d=some s):wM cs d f=(decide (s∈cs)&&f s):=by
 unfold wM
 rw[e]
theorem ng{cs:List (List Int)}{d:Dt}{f:List Int->Bool}(e:oY d=none):wM cs d f=false:=by
 unfold wM
 rw[e]
def cK(W:List Int)(cs ps:List (List Int)):Nat->Dt->List Int->List Int->Bool
 | n+1,.tup [.str x,d],hs,ls=>if x=Str.ofString "clash" then wM cs d λs=>dm s hs else if x=Str.ofString "peace" then wM ps d λs=>dm (gk W s) ls else false
 | n+1,.tup [.str x,.int m,a,b],hs,ls=>decide (x=Str.ofString "ask")&&(decide (m∈W) && !decide (m∈hs) && !decide (m∈ls))&&cK W cs ps n a (hs++[m]) ls&&cK W cs ps n b hs (ls++[m])
 | _,_,_,_=>false
theorem kJ{W:List Int}{cs ps:List (List Int)}{n:Nat}{d:Dt}{hs ls:List Int}:cK W cs ps (n+1) (.tup [.str (Str.ofString "clash"),d]) hs ls=wM cs d λs=>dm s hs:=by
 unfold cK
 rw[aR rfl]
theorem kI{W:List Int}{cs ps:List (List Int)}{n:Nat}{d:Dt}{hs ls:List Int}:cK W cs ps (n+1) (.tup [.str (Str.ofString "peace"),d]) hs ls=wM ps d λs=>dm (gk W s) ls:=by
 unfold cK
 rw[aO (by decide +kernel),aR rfl]
theorem j6{W:List Int}{cs ps:List (List Int)}{n:Nat}{m:Int}{a b:Dt}{hs ls:List Int}:cK W cs ps (n+1) (.tup [.str (Str.ofString "ask"),.int m,a,b]) hs ls=((decide (m∈W) && !decide (m∈hs) && !decide (m∈ls))&&cK W cs ps n a (hs++[m]) ls&&cK W cs ps n b hs (ls++[m])):=by
 have e:cK W cs ps (n+1) (.tup [.str (Str.ofString "ask"),.int m,a,b]) hs ls=(decide (Str.ofString "ask" = Str.ofString "ask")&&(decide (m∈W) && !decide (m∈hs) && !decide (m∈ls))&&cK W cs ps n a (hs++[m]) ls&&cK W cs ps n b hs (ls++[m])):=rfl
 rw[e,decide_eq_true rfl,jK]
theorem pY{W:List Int}{cs ps:List (List Int)}{n:Nat}{d a b:Dt}{x:Str}{hs ls:List Int}(h:dW d=false):cK W cs ps (n+1) (.tup [.str x,d,a,b]) hs ls=false:=by
 cases d with
 | int i=>cases h
 | _=>rfl
theorem good_none{W:List Int}{cs ps:List (List Int)}{n:Nat}{d:Dt}{hs ls:List Int}(h1:dg d (Str.ofString "clash") 2=false)(h2:dg d (Str.ofString "peace") 2=false)(h3:dg d (Str.ofString "ask") 4=false):cK W cs ps (n+1) d hs ls=false:=by
 cases d with
 | tup ds=>
  cases ds with
  | nil=>rfl
  | cons e0 ds=>
   cases e0 with
   | str x=>
    cases ds with
    | nil=>rfl
    | cons e1 ds=>
     cases ds with
     | nil=>
      have h1:decide (x=Str.ofString "clash")=false:=h1
      have h2:decide (x=Str.ofString "peace")=false:=h2
      show(if x=Str.ofString "clash" then _ else if x=Str.ofString "peace" then _ else false)=false
      rw[aO (of_decide_eq_false h1),aO (of_decide_eq_false h2)]
     | cons e2 ds=>
      cases ds with
      | nil=>cases e1 <;> rfl
      | cons e3 ds=>
       cases ds with
       | nil=>
        cases e1 with
        | int m=>
         have h3:decide (x=Str.ofString "ask")=false:=h3
         show(decide (x=Str.ofString "ask")&&_&&_&&_)=false
         rw[h3]
         rfl
        | _=>rfl
       | cons _ _=>cases e1 <;> rfl
   | _=>rfl
 | _=>rfl
def jk(W hs ls:List Int):Nat:=(W.filter λm=>!decide (m∈hs) && !decide (m∈ls)).length
theorem pj{W hs ls:List Int}{m:Int}(h1:m∈W)(h2:m∉hs)(h3:m∉ls):jk W (hs++[m]) ls<jk W hs ls/\jk W hs (ls++[m])<jk W hs ls:=by
 have key:∀q:Int->Bool,(∀x,q x=(decide (x≠m)&&(!decide (x∈hs) && !decide (x∈ls))))->(W.filter q).length<jk W hs ls:=λq hq=>by
  have e:W.filter q=(W.filter λm=>!decide (m∈hs) && !decide (m∈ls)).filter λx=>decide (x≠m):=by
   rw[List.filter_filter]
   congr 1
   funext x
   exact hq x
  rw[e]
  unfold jk
  rw[List.length_filter_lt_length_iff_exists]
  exact⟨m,iW.mpr ⟨h1,by simp[h2,h3]⟩,by simp⟩
 refine⟨key _ λx=>?_,key _ λx=>?_⟩
 ·rw[iV]
  simp[fu]
  exact⟨λ⟨⟨a,b⟩,c⟩=>⟨b,a,c⟩,λ⟨a,b,c⟩=>⟨⟨b,a⟩,c⟩⟩
 ·rw[iV]
  simp[fu]
  exact⟨λ⟨a,b,c⟩=>⟨c,a,b⟩,λ⟨a,b,c⟩=>⟨b,c,a⟩⟩
local macro_rules | `(tactic| walk_at "rd") => `(tactic| walk_at "rc")
local macro_rules | `(tactic| walk_at "rl") => `(tactic| first | (refine dX fun R hR => ?_) | walk_at "ry" | (refine Nx.to (by assumption) _ _ ?_))
def Ai:Sp:=λvs H Q _=>∃v wd n,vs=[v,.str wd,.int n]/\∃(h:Addr) (d:Dt) (k:Nat),n=(k:Int)/\1<=k/\Rep h H d v/\Q (.bl (dg d wd k)) H
theorem Aq(T:Txt K mg t):cE P w K mg base jJ 1 t.mN t.mw ["thing","word","many"] Ai:=by
 refine T.jr.nL uH (λvs H Q E h=>?_) (λeF A outer s H vs Q E hr h hc hf=>?_)
 ·obtain⟨p,wd,n,rfl,_⟩:=h;rfl
 obtain⟨v,wd,n,rfl,h,d,k,rfl,k1,r,q⟩:=h
 have hu:=ia hr
 have yu:=hr.eR
 refine⟨_,(by exact au (aG (df (az cH (aX hc) T.bq bK (ae (ai hc 0) (ae (dw (v:=V.ty "tuple") (aX hc) T.eG il rfl) ag))) (df (bP cS (az gC (aX hc) T.bY cA (ae (ai hc 0) ag)) (ai hc 2) (aN _)) (df (az cH (aX hc) T.bq bK (ae (aB cx (ai hc 0) ah (λ_ _=>rfl)) (ae (dw (v:=V.ty "str") (aX hc) T.tG JC rfl) ag))) (gE (bP cS (aB cx (ai hc 0) ah (λ_ _=>rfl)) (ai hc 1) (aN _)))))))),?_⟩
 walk_at "r"
 rcases qA K r with ⟨ds,rfl⟩ | ⟨nt,ty,h1,h2⟩
 rotate_left
 ·refine⟨_,h1,false,h2,?_⟩
  have e:dg d wd k=false:=by
   cases d with
   | tup ds=>exact absurd rfl (nt ds)
   | _=>rfl
  rw[e]at q
  walk_at "r"
  exact q
 obtain⟨p,vs,rfl,hp,lv,rs⟩:=r
 have ll:=rs.len
 refine⟨_,.tup hp,true,dA _ _,?_⟩
 repeat (first | walk_at "rl" | simp only[hp])
 by_cases e:(vs.length:Int)=(k:Int)
 ·rw[aR e]
  cases ds with
  | nil=>
   rw[List.length_nil]at ll
   omega
  | cons d0 ds=>
   obtain⟨v0,ws,rfl,r0,rs'⟩:=rs
   have ed:ds.length+1=k:=by simp only[cR]at ll e;omega
   repeat (first | walk_at "rl" | simp only[hp])
   rcases zg K r0 with ⟨x,rfl,rfl⟩ | ⟨ns,ty,h1,h2⟩
   ·refine⟨_,.str x,true,dA _ _,?_⟩
    have e2:dg (.tup (.str x::ds)) wd k=decide (x=wd):=by
     show(decide (ds.length+1=k)&&decide (x=wd))=_
     rw[decide_eq_true ed,jK]
    rw[e2]at q
    repeat (first | walk_at "rl" | simp only[hp])
    exact q
   ·refine⟨_,h1,false,h2,?_⟩
    have e2:dg (.tup (d0::ds)) wd k=false:=by
     cases d0 with
     | str x=>exact absurd rfl (ns x)
     | _=>rfl
    rw[e2]at q
    repeat (first | walk_at "rl" | simp only[hp])
    exact q
 ·rw[aO e]
  have e2:dg (.tup ds) wd k=false:=by
   cases ds with
   | nil=>rfl
   | cons d0 ds=>
    cases d0 with
    | str x=>
     show(decide (ds.length+1=k)&&decide (x=wd))=false
     rw[decide_eq_false (λz=>e (by rw[ll,cR];omega)),oj]
    | _=>rfl
  rw[e2]at q
  exact q
def rdF(U C Pc:Addr):List (Str×V):=[("whole",.ref U),("clash_list",.ref C),("peace_list",.ref Pc)]
def J4(c:Addr):Sp:=λvs H Q _=>∃x U C Pc,vs=[.ref x,.ref U,.ref C,.ref Pc]/\∃dx,H x=some (.ins c dx [])/\∀H',(∀a,a≠x->H' a=H a)->H' x=some (.ins c dx (rdF U C Pc))->Q .non H'
theorem Hs(T:Txt K mg t):cE P w K mg base jJ 1 t.bj t.dO ["self","whole","clashes","peaces"] (J4 t.aL):=by
 refine T.lO.nL kE (λvs H Q E h=>?_) (λeF A outer s H vs Q E hr h hc hf=>?_)
 ·obtain⟨p,wd,n,m,rfl,_⟩:=h;rfl
 obtain⟨x,U,C,Pc,rfl,dx,hx,q⟩:=h
 have hu:=ia hr
 have yu:=hr.eR
 refine⟨_,(by apply ak;exact(uz (ai hc 0) (ai hc 1) rfl);apply ak;exact(uz (ai hc 0) (ai hc 2) rfl);exact au (uz (ai hc 0) (ai hc 3) rfl)),?_⟩
 walk_at "r"
 refine⟨_,_,_,hx,T.bO,T.eV,by decide,?_⟩
 walk_at "r"
 refine⟨_,_,_,rfl,T.bO,T.fc,(by decide:1<1000),?_⟩
 walk_at "r"
 refine⟨_,_,_,rfl,T.bO,T.e8,(by decide:2<1000),?_⟩
 walk_at "r"
 exact q _ (λa h=>aM h) aj
structure Iv(c:Addr)(H:Hp)(x:Addr)(W:List Int)(cs ps:List (List Int)):Prop where
 at_:∃dx U C Pc bc bp,H x=some (.ins c dx (rdF U C Pc))/\H U=some (.tup (List.map V.int W))/\H C=some (.lst (List.map V.ref bc))/\bD H bc cs/\H Pc=some (.lst (List.map V.ref bp))/\bD H bp ps
 lw:W.length<=100
 lc:cs.length<=900
 lp:ps.length<=900
 gc:∀s∈cs,fq s/\s.length<=100
 gp:∀s∈ps,fq s/\s.length<=100
theorem Iv.mono{c:Addr}{H H':Hp}{x:Addr}{W:List Int}{cs ps:List (List Int)}(s:bF H H')(r:Iv c H x W cs ps):Iv c H' x W cs ps:=by
 obtain⟨dx,U,C,Pc,bc,bp,h1,h2,h3,h4,h5,h6⟩:=r.at_
 exact⟨⟨dx,U,C,Pc,bc,bp,s _ _ h1,s _ _ h2,s _ _ h3,h4.mono (λ_ _ e=>s _ _ e),s _ _ h5,h6.mono (λ_ _ e=>s _ _ e)⟩,r.lw,r.lc,r.lp,r.gc,r.gp⟩
def J6(c:Addr)(n:Nat):Sp:=λvs H Q _=>∃x v hd la,vs=[.ref x,v,.ref hd,.ref la]/\∃(h:Addr) (W:List Int) (cs ps:List (List Int)) (d:Dt) (hs ls:List Int),Iv c H x W cs ps/\Rep h H d v/\H hd=some (.tup (List.map V.int hs))/\H la=some (.tup (List.map V.int ls))/\jk W hs ls<n/\hs.length+n<=100/\ls.length+n<=100/\
 ∀H',bF H H'->Q (.bl (cK W cs ps n d hs ls)) H'
theorem bu{c:Prop} [Decidable c] {X Y:Prop} (h1:c->X) (h2:¬c->Y):if c then X else Y:=by
 split
 ·exact h1 ‹_›
 ·exact h2 ‹_›
theorem zC(T:Txt K mg t):∀n:Nat,cE P w K mg base jJ (n+3) t.bC t.eB ["self","thing","held","lacked"] (J6 t.aL n)
 | 0=>T.gV.nL (k:=2) dF (λvs H Q E h=>by obtain⟨U,C,Pc,z,rfl,_⟩:=h;rfl) (λeF A outer s H vs Q E hr h hc hf=>by obtain⟨x,p,hd,la,rfl,hh,W,cs,ps,tr,hs,ls,_,_,_,_,h1,_⟩:=h;omega)
 | n+1=>by
  have m4:=Aq (P:=P) (w:=w) (base:=base) T
  have w5:=Ho (P:=P) (w:=w) (base:=base) T
  have ui:=yd (P:=P) (w:=w) (base:=base) T
  have BG:=Hq (P:=P) (w:=w) (base:=base) T
  have fY:=tV (P:=P) (w:=w) (base:=base) T
  have cM:=zC T n
  refine T.gV.nL (k:=n+3) dF (λvs H Q E h=>?_) (λeF A outer s H vs Q E hr h hc hf=>?_)
  ·obtain⟨U,C,Pc,z,rfl,_⟩:=h;rfl
  obtain⟨x,v,hd,la,rfl,hh,W,cs,ps,d,hs,ls,rd,r,Rt,Rp,fr,lh,ll,q⟩:=h
  have hu:=ia hr
  have yu:=hr.eR
  refine⟨_,(by apply ak;exact(aW (bX (aq m4 hr.mono (aX hc) T.ml T.jr.kp T.mL .nil aI (ae (ai hc 1) (ae aZ (ae ah ag))))) (by exact au (aG (df (aq w5 hr.mono (aX hc) T.wy T.sq.kp T.wU .nil aI (ae (aB cx (ai hc 1) ah (λ_ _=>rfl)) ag)) (df (bP (uV hu) (aB cx (ai hc 1) ah (λ_ _=>rfl)) (qz (ai hc 0) rfl) (by with_unfolding_all rfl)) (gE (aq ui hr.mono (aX hc) T.tW T.pM.kp T.uh .nil aI (ae (aB cx (ai hc 1) ah (λ_ _=>rfl)) (ae (ai hc 2) ag)))))))) aJ);apply ak;exact(aW (bX (aq m4 hr.mono (aX hc) T.ml T.jr.kp T.mL .nil aI (ae (ai hc 1) (ae aZ (ae ah ag))))) (by exact au (aG (df (aq w5 hr.mono (aX hc) T.wy T.sq.kp T.wU .nil aI (ae (aB cx (ai hc 1) ah (λ_ _=>rfl)) ag)) (df (bP (uV hu) (aB cx (ai hc 1) ah (λ_ _=>rfl)) (qz (ai hc 0) rfl) (by with_unfolding_all rfl)) (gE (aq ui hr.mono (aX hc) T.tW T.pM.kp T.uh .nil aI (ae (aq BG hr.mono (aX hc) T.Ay T.uj.kp T.Bv .nil aI (ae (qz (ai hc 0) rfl) (ae (aB cx (ai hc 1) ah (λ_ _=>rfl)) ag))) (ae (ai hc 3) ag)))))))) aJ);apply ak;exact(aW (gj (fQ (cU (bX (aq m4 hr.mono (aX hc) T.ml T.jr.kp T.mL .nil aI (ae (ai hc 1) (ae aZ (ae ah ag)))))) (gD (cU (bX (aq fY hr.mono (aX hc) T.jh T.gd.kp T.jm .nil aI (ae (aB cx (ai hc 1) ah (λ_ _=>rfl)) ag))))))) (by exact au (aG cy)) aJ);apply ak;exact(aH hc dF.nd hf 4 (by decide +kernel) (aB cx (ai hc 1) ah (λ_ _=>rfl)));apply ak;exact(aW (gj (fQ (aE iC (ai hc 4) (qz (ai hc 0) rfl) (by with_unfolding_all rfl)) (fQ (aE DT (ai hc 4) (ai hc 2) (by with_unfolding_all rfl)) (gD (aE DT (ai hc 4) (ai hc 3) (by with_unfolding_all rfl)))))) (by exact au (aG cy)) aJ);exact au (aG (df (qT (ai hc 0) T.bO T.dM cM hr.mono T.eC .nil aI (ae (aB cx (ai hc 1) ah (λ_ _=>rfl)) (ae (aF gN (ai hc 2) (aY (ae (ai hc 4) ag))) (ae (ai hc 3) ag)))) (gE (qT (ai hc 0) T.bO T.dM cM hr.mono T.eC .nil aI (ae (aB cx (ai hc 1) ah (λ_ _=>rfl)) (ae (ai hc 2) (ae (aF gN (ai hc 3) (aY (ae (ai hc 4) ag))) ag)))))))),?_⟩
  obtain⟨dx,U,C,Pc,bc,bp,hx,hU,hC,sc,hP,sp⟩:=rd.at_
  walk_at "r"
  refine⟨v,_,_,rfl,hh,d,2,rfl,by decide,r,_,rfl,?_⟩
  cases w1:dg d (Str.ofString "clash") 2 with
  | true=>
   obtain⟨ds,rfl,U3⟩:=oU w1
   obtain⟨e1,rfl⟩:∃e1,ds=[e1]:=List.length_eq_one_iff.mp (by omega)
   rw[kJ]at q
   obtain⟨p,vs,rfl,hp,_,v0,ws,rfl,r0,v1,ws',rfl,r1,rfl⟩:=r
   obtain⟨rfl,_⟩:=r0
   rw[aR rfl]
   walk_at "r"
   refine⟨_,hp,_,rfl,v1,rfl,hh,e1,r1,λH1 s1=>⟨_,rfl,?_⟩⟩
   cases se:oY e1 with
   | none=>
    rw[ng se]at q
    rw[aO (by decide)]
    exact q _ s1
   | some s=>
    rw[iD se]at q
    rw[aR (by rfl)]
    obtain⟨b,rfl,hb⟩:=uK r1 se
    refine⟨_,s1 _ _ hp,_,rfl,_,_,_,s1 _ _ hx,T.bO,T.fc,.ref C,rfl,_,rfl,_,rfl,s,s1 _ _ hb,_,s1 _ _ hC,_,sc.mono (λ_ _ e=>s1 _ _ e),?_⟩
    refine bu (λhc=>?_) λhc=>?_
    ·refine⟨_,s1 _ _ hp,_,rfl,b,hd,rfl,s,hs,s1 _ _ hb,s1 _ _ Rt,?_⟩
     have q1:=q _ s1
     rw[decide_eq_true hc,jK]at q1
     exact q1
    ·have q1:=q _ s1
     rw[decide_eq_false hc,oj]at q1
     exact q1
  | false=>
  rw[aO dQ]
  walk_at "r"
  refine⟨v,_,_,rfl,hh,d,2,rfl,by decide,r,_,rfl,?_⟩
  cases w2:dg d (Str.ofString "peace") 2 with
  | true=>
   obtain⟨ds,rfl,U3⟩:=oU w2
   obtain⟨e1,rfl⟩:∃e1,ds=[e1]:=List.length_eq_one_iff.mp (by omega)
   rw[kI]at q
   obtain⟨p,vs,rfl,hp,_,v0,ws,rfl,r0,v1,ws',rfl,r1,rfl⟩:=r
   obtain⟨rfl,_⟩:=r0
   rw[aR rfl]
   walk_at "r"
   refine⟨_,hp,_,rfl,v1,rfl,hh,e1,r1,λH1 s1=>⟨_,rfl,?_⟩⟩
   cases se:oY e1 with
   | none=>
    rw[ng se]at q
    rw[aO (by decide)]
    exact q _ s1
   | some s=>
    rw[iD se]at q
    rw[aR (by rfl)]
    obtain⟨b,rfl,hb⟩:=uK r1 se
    refine⟨_,s1 _ _ hp,_,rfl,_,_,_,s1 _ _ hx,T.bO,T.e8,.ref Pc,rfl,_,rfl,_,rfl,s,s1 _ _ hb,_,s1 _ _ hP,_,sp.mono (λ_ _ e=>s1 _ _ e),?_⟩
    refine bu (λhc=>?_) λhc=>?_
    ·refine⟨_,_,_,s1 _ _ hx,T.bO,T.eV,.ref U,rfl,_,s1 _ _ hp,_,rfl,U,b,rfl,W,s,s1 _ _ hU,s1 _ _ hb,by have:=rd.lw;omega,λr H2 s2 hr2 er=>?_⟩
     refine⟨r,la,rfl,_,ls,er,s2 _ _ (s1 _ _ Rp),?_⟩
     have q1:=q _ (s1.trans s2)
     rw[decide_eq_true hc,jK]at q1
     exact q1
    ·have q1:=q _ s1
     rw[decide_eq_false hc,oj]at q1
     exact q1
  | false=>
  rw[aO dQ]
  walk_at "r"
  refine⟨v,_,_,rfl,hh,d,4,rfl,by decide,r,_,rfl,?_⟩
  cases w3:dg d (Str.ofString "ask") 4 with
  | false=>
   rw[aR (by decide)]
   have q1:=q _ (bF.refl H)
   rw[good_none w1 w2 w3]at q1
   exact q1
  | true=>
  rw[aO (by decide)]
  obtain⟨ds,rfl,U3⟩:=oU w3
  obtain⟨e1,e2,e3,rfl⟩:∃e1 e2 e3,ds=[e1,e2,e3]:=by
   match ds,U3 with
   | [e1,e2,e3],_=>exact⟨e1,e2,e3,rfl⟩
  obtain⟨p,vs,rfl,hp,_,v0,ws,rfl,r0,v1,QV,rfl,r1,v2,ws2,rfl,r2,v3,ws3,rfl,r3,rfl⟩:=r
  obtain⟨rfl,_⟩:=r0
  walk_at "r"
  refine⟨_,hp,_,rfl,v1,rfl,hh,e1,r1,_,rfl,?_⟩
  cases we:dW e1 with
  | false=>
   rw[aR (by decide)]
   have q1:=q _ (bF.refl H)
   rw[pY we]at q1
   exact q1
  | true=>
  rw[aO (by decide)]
  obtain⟨m,rfl⟩:∃m,e1=.int m:=by
   cases e1 with
   | int m=>exact⟨m,rfl⟩
   | _=>cases we
  obtain rfl:v1=.int m:=r1
  rw[j6]at q
  walk_at "r"
  refine⟨_,hp,.int m,rfl,?_⟩
  walk_at "r"
  refine⟨_,_,_,hx,T.bO,T.eV,.ref U,rfl,?_⟩
  refine⟨U,rfl,_,hU,rfl,bW _,?_⟩
  rw[cz]
  have no:∀H',bF H H'->¬(m∈W/\m∉hs/\m∉ls)->Q (.bl false) H':=λH' s' nY=>by
   have q1:=q _ s'
   have e:(decide (m∈W) && !decide (m∈hs) && !decide (m∈ls))=false:=by
    rw[Bool.eq_false_iff]
    intro z
    simp at z
    exact nY ⟨z.1.1,z.1.2,z.2⟩
   rw[e]at q1
   exact q1
  refine bu (λc1=>no _ (bF.refl H) λz=>by simp[z.1]at c1) λc1=>?_
  refine⟨_,Rt,rfl,bW _,?_⟩
  rw[cz]
  refine bu (λc2=>no _ (bF.refl H) λz=>by simp[z.2.1]at c2) λc2=>?_
  refine⟨_,Rp,rfl,bW _,?_⟩
  rw[cz]
  refine bu (λc3=>no _ (bF.refl H) λz=>by simp[z.2.2]at c3) λc3=>?_
  have m1:m∈W:=by simpa using c1
  have m2:m∉hs:=by simpa using c2
  have m3:m∉ls:=by simpa using c3
  have e:(decide (m∈W) && !decide (m∈hs) && !decide (m∈ls))=true:=by simp[m1,m2,m3]
  rw[e,jK]at q
  obtain⟨f1,f2⟩:=pj m1 m2 m3
  walk_at "r"
  refine⟨_,_,hx,rfl,_,hp,v2,rfl,by decide,λp1 mq=>?_⟩
  have s1:=ao mq (.tup [V.int m])
  refine⟨_,s1 _ _ Rt,by rw[aP];exact aS (by omega),λh1 H1 s2 _ eh1=>?_⟩
  have pP:=s1.trans s2
  refine⟨x,v2,h1,la,rfl,hh,W,cs,ps,e2,hs++[m],ls,rd.mono pP,r2.mono (Kp.of pP),by rw[eh1,dc];rfl,pP _ _ Rp,by omega,by simp;omega,by omega,λH2 s3=>⟨_,rfl,?_⟩⟩
  have Q0:=pP.trans s3
  refine bu (λg1=>?_) λg1=>?_
  ·rw[g1,jK]at q
   refine⟨_,_,Q0 _ _ hx,rfl,_,Q0 _ _ hp,v3,rfl,by decide,λp2 ka=>?_⟩
   have s4:=Q0.trans (ao ka (.tup [V.int m]))
   refine⟨_,s4 _ _ Rp,by rw[aP];exact aS (by omega),λh2 H3 s5 _ eh2=>?_⟩
   have s6:=s4.trans s5
   exact⟨x,v3,hd,h2,rfl,hh,W,cs,ps,e3,hs,ls++[m],rd.mono s6,r3.mono (Kp.of s6),s6 _ _ Rt,by rw[eh2,dc];rfl,by omega,by omega,by simp;omega,λH4 s7=>q _ (s6.trans s7)⟩
  ·rw[show cK W cs ps n e2 (hs++[m]) ls=false by simpa using g1,oj]at q
   exact q _ Q0
local macro_rules | `(tactic| walk_at "rd") => `(tactic| walk_at "rc")
local macro_rules | `(tactic| walk_at "rl") => `(tactic| first | (refine dX fun R hR => ?_) | walk_at "ry" | (refine Nx.to (by assumption) _ _ ?_))
structure oa(H:Hp)(U C Pc:Addr)(W:List Int)(cs ps:List (List Int)):Prop where
 at_:∃bc bp,H U=some (.tup (List.map V.int W))/\H C=some (.lst (List.map V.ref bc))/\bD H bc cs/\H Pc=some (.lst (List.map V.ref bp))/\bD H bp ps
 lw:W.length<=100
 lc:cs.length<=900
 lp:ps.length<=900
 gc:∀s∈cs,fq s/\s.length<=100
 gp:∀s∈ps,fq s/\s.length<=100
theorem vt(W hs ls:List Int):jk W hs ls<=W.length:=nF _ _
def CP:Sp:=λvs H Q _=>∃U C Pc v,vs=[.ref U,.ref C,.ref Pc,v]/\∃(h:Addr) (W:List Int) (cs ps:List (List Int)) (d:Dt),oa H U C Pc W cs ps/\Rep h H d v/\W.length<10/\
 ∀H',bF H H'->Q (.bl (cK W cs ps 10 d [] [])) H'
theorem Ar(T:Txt K mg t):cE P w K mg base jJ 14 t.pI t.pA ["whole","clashes","peaces","thing"] CP:=by
 have lL:=Hs (P:=P) (w:=w) (base:=base) T
 have cM:=zC (P:=P) (w:=w) (base:=base) T 10
 refine T.iE.nL xT (λvs H Q E h=>?_) (λeF A outer s H vs Q E hr h hc hf=>?_)
 ·obtain⟨U,C,Pc,p,rfl,_⟩:=h;rfl
 obtain⟨U,C,Pc,v,rfl,hh,W,cs,ps,d,rd,ra,lW,q⟩:=h
 have fl:=vt W [] []
 have hu:=ia hr
 have yu:=hr.eR
 refine⟨_,(by exact au (aG (qT (Cr T.sI lL hr.mono (aX hc) T.vk T.lI .nil aI (ae (ai hc 0) (ae (ai hc 1) (ae (ai hc 2) ag)))) T.bO T.dM cM hr.mono T.eC .nil aI (ae (ai hc 3) (ae (aY ag) (ae (aY ag) ag)))))),?_⟩
 walk_at "r"
 intro x dx hx hdx ne
 have k1:=ao hdx (.own x)
 have k2:=ao (show upd H dx (.own x) x=none by rw[aM ne.symm];exact hx) (.ins t.aL dx [])
 have HB:=k1.trans k2
 refine⟨x,U,C,Pc,rfl,dx,aj,λH1 k3 h1=>⟨rfl,_,_,h1,rfl,by decide,λh0 hh0=>⟨by decide,λl0 hl0=>?_⟩⟩⟩
 have s1:bF H H1:=λa o e=>by
  have n:a≠x:=aQ e hx
  rw[k3 a n];exact HB _ _ e
 have t1:=ao hh0 (.tup [])
 have t2:=ao hl0 (.tup [])
 have s3:=(s1.trans t1).trans t2
 obtain⟨bc,bp,hU,hC,sc,hP,sp⟩:=rd.at_
 refine⟨x,v,h0,l0,rfl,hh,W,cs,ps,d,[],[],⟨⟨dx,U,C,Pc,bc,bp,t2 _ _ (t1 _ _ h1),s3 _ _ hU,s3 _ _ hC,sc.mono (λ_ _ e=>s3 _ _ e),s3 _ _ hP,sp.mono (λ_ _ e=>s3 _ _ e)⟩,rd.lw,rd.lc,rd.lp,rd.gc,rd.gp⟩,ra.mono (Kp.of s3),t2 _ _ aj,aj,by omega,by decide,by decide,λH4 s4=>q _ (s3.trans s4)⟩
local macro_rules | `(tactic| walk_at "rd") => `(tactic| walk_at "rc")
local macro_rules | `(tactic| walk_at "rl") => `(tactic| first | (refine dX fun R hR => ?_) | walk_at "ry" | (refine Nx.to (by assumption) _ _ ?_))
def J8(n:Nat):Sp:=λvs H Q _=>∃U C Pc v hl ll,vs=[.ref U,.ref C,.ref Pc,v,.ref hl,.ref ll]/\∃(h:Addr) (W:List Int) (cs ps:List (List Int)) (d:Dt) (hs ls:List Int),oa H U C Pc W cs ps/\Rep h H d v/\H hl=some (.lst (List.map V.int hs))/\H ll=some (.lst (List.map V.int ls))/\jk W hs ls<n/\hs.length+n<=100/\ls.length+n<=100/\
 ∀H',bF H H'->Q (.bl (cK W cs ps n d hs ls)) H'
theorem oE{H:Hp}{vs:List V}{ds:List Int}(r:g7 (λ(_:Hp) (v:V) (d:Int)=>v=V.int d) H vs ds):vs=List.map V.int ds:=by
 apply List.ext_getElem (by rw[aP];exact r.1)
 intro i h1 h2
 rw[aP]at h2
 rw[List.getElem_map]
 exact r.2 i _ _ (bw h1) (bw h2)
theorem oa.mono{H H':Hp}{U C Pc:Addr}{W:List Int}{cs ps:List (List Int)}(s:bF H H')(r:oa H U C Pc W cs ps):oa H' U C Pc W cs ps:=by
 obtain⟨bc,bp,h2,h3,h4,h5,h6⟩:=r.at_
 exact⟨⟨bc,bp,s _ _ h2,s _ _ h3,h4.mono (λ_ _ e=>s _ _ e),s _ _ h5,h6.mono (λ_ _ e=>s _ _ e)⟩,r.lw,r.lc,r.lp,r.gc,r.gp⟩
theorem JK{x wd:Str}{ds:List Dt}{n:Nat}:dg (.tup (.str x::ds)) wd n=(decide (ds.length+1=n)&&decide (x=wd)):=rfl
theorem mr{W:List Int}{cs ps:List (List Int)}{n:Nat}{x:Str}{ds:List Dt}{hs ls:List Int}(h2:ds.length=1->x≠Str.ofString "clash"/\x≠Str.ofString "peace")(h4:ds.length=3->x≠Str.ofString "ask"):cK W cs ps (n+1) (.tup (.str x::ds)) hs ls=false:=by
 have key:∀wd k,(ds.length+1=k->x≠wd)->dg (.tup (.str x::ds)) wd k=false:=λwd k h=>by
  rw[JK]
  by_cases e:ds.length+1=k
  ·rw[decide_eq_false (h e),Bool.and_false]
  ·rw[decide_eq_false e,oj]
 exact good_none (key _ _ λe=>(h2 (by omega)).1) (key _ _ λe=>(h2 (by omega)).2) (key _ _ λe=>h4 (by omega))
theorem oA{s hs:List Int}:(s.map λm=>decide (m∈hs)).all id=dm s hs:=by
 rw[iV,fj,sX,iX]
 exact⟨λh m hm=>by simpa using h m hm,λh m hm=>by simpa using h m hm⟩
theorem zD(T:Txt K mg t):∀n:Nat,cE P w K mg base jJ (n+3) t.mV t.mH ["_law_whole","_law_clashes","_law_peaces","_law_thing","_law_held","_law_lacked"] (J8 n)
 | 0=>T.fM.nL (k:=2) kz (λvs H Q E h=>by obtain⟨U,C,Pc,z,y,x,rfl,_⟩:=h;rfl) (λeF A outer s H vs Q E hr h hc hf=>by obtain⟨U,C,Pc,p,hl,ll,rfl,h,W,cs,ps,tr,hs,ls,_,_,_,_,h1,_⟩:=h;omega)
 | n+1=>by
  have g8:=wq (P:=P) (w:=w) (base:=base) T
  have sV:=Ea (P:=P) (w:=w) (base:=base) T
  have gS:=zD T n
  refine T.fM.nL (k:=n+3) kz (λvs H Q E h=>?_) (λeF A outer s H vs Q E hr h hc hf=>?_)
  ·obtain⟨U,C,Pc,z,y,x,rfl,_⟩:=h;rfl
  obtain⟨U,C,Pc,v,hl,ll,rfl,hh,W,cs,ps,d,hs,ls,rd,r,rV,rT,fr,lh,lll,q⟩:=h
  have hu:=ia hr
  have yu:=hr.eR
  refine⟨_,(by apply ak;exact(aW (gj (fQ (cU (bX (az cH (aX hc) T.bq bK (ae (ai hc 3) (ae (dw (v:=V.ty "tuple") (aX hc) T.eG il rfl) ag))))) (fQ (aE rE (az gC (aX hc) T.bY cA (ae (ai hc 3) ag)) ah (aN _)) (gD (cU (bX (az cH (aX hc) T.bq bK (ae (aB cx (ai hc 3) ah (λ_ _=>rfl)) (ae (dw (v:=V.ty "str") (aX hc) T.tG JC rfl) ag))))))))) (by exact au (aG cy)) aJ);apply ak;exact(aW (aE cS (aB cx (ai hc 3) ah (λ_ _=>rfl)) aZ (aN _)) (by apply ak;exact(aW (gj (fQ (aE tS (az gC (aX hc) T.bY cA (ae (ai hc 3) ag)) ah (aN _)) (fQ (cU (bX (aq g8 hr.mono (aX hc) T.lB T.hJ.kp T.lF .nil aI (ae (aB cx (ai hc 3) ah (λ_ _=>rfl)) ag)))) (fQ (aE iC (aB cx (ai hc 3) ah (λ_ _=>rfl)) (ai hc 0) (by with_unfolding_all rfl)) (gD (aE rF (aB cx (ai hc 3) ah (λ_ _=>rfl)) (aF eU (ai hc 4) (ai hc 5)) (by with_unfolding_all rfl))))))) (by exact au (aG cy)) aJ);apply ak;exact(aW (cU (bX (aq gS hr.mono (aX hc) T.jj T.fM.kp T.jo .nil aI (ae (ai hc 0) (ae (ai hc 1) (ae (ai hc 2) (ae (aB cx (ai hc 3) ah (λ_ _=>rfl)) (ae (aF eU (ai hc 4) (aV (ae (aB cx (ai hc 3) ah (λ_ _=>rfl)) ag))) (ae (ai hc 5) ag))))))))) (by exact au (aG cy)) aJ);exact au (aG (aq gS hr.mono (aX hc) T.jj T.fM.kp T.jo .nil aI (ae (ai hc 0) (ae (ai hc 1) (ae (ai hc 2) (ae (aB cx (ai hc 3) ah (λ_ _=>rfl)) (ae (ai hc 4) (ae (aF eU (ai hc 5) (aV (ae (aB cx (ai hc 3) ah (λ_ _=>rfl)) ag))) ag))))))))) aJ);apply ak;exact(aW (gj (fQ (aE tS (az gC (aX hc) T.bY cA (ae (ai hc 3) ag)) ah (aN _)) (gD (cU (bX (aq sV hr.mono (aX hc) T.sJ T.nP.kp T.sP .nil aI (ae (aB cx (ai hc 3) ah (λ_ _=>rfl)) ag))))))) (by exact au (aG cy)) aJ);apply ak;exact(aW (aE cS (aB cx (ai hc 3) ah (λ_ _=>rfl)) aZ (aN _)) (by exact au (aG (df (bP (uV hu) (aB cx (ai hc 3) ah (λ_ _=>rfl)) (ai hc 1) (by with_unfolding_all rfl)) (gE (az (fL hr.hd) (aX hc) T.lu qb (ae (bI hc ["_law_member"] [4] rfl (by decide +kernel) (fh (aB cx (ai hc 3) ah (λ_ _=>rfl))) (λ_ hc=>ic hc (by decide +kernel) 0 (by decide +kernel)) (λ_ _=>bV) (λ_ hc=>(bP rF (ai hc 0) (ai hc 1) (by with_unfolding_all rfl)))) ag)))))) aJ);apply ak;exact(iq hc kz.nd 6 (by decide +kernel) ["_law_member"] [3] rfl (by decide +kernel) (fh (ai hc 0)) (λ_ hc=>ic hc (by decide +kernel) 0 (by decide +kernel)) (λ_ hc=>dB (aE iC (ai hc 0) (aB cx (ai hc 1) ah (λ_ _=>rfl)) (by with_unfolding_all rfl))) (λ_ hc=>(ai hc 0)) (by rfl));exact au (aG (df (bP cS (aB cx (ai hc 3) ah (λ_ _=>rfl)) aZ (aN _)) (df (bP (uV hu) (aB cx (ai hc 3) ah (λ_ _=>rfl)) (ai hc 2) (by with_unfolding_all rfl)) (gE (az (fL hr.hd) (aX hc) T.lu qb (ae (bI hc ["_law_member"] [5] rfl (by decide +kernel) (dv (ai hc 6)) (λ_ hc=>ic hc (by decide +kernel) 0 (by decide +kernel)) (λ_ _=>bV) (λ_ hc=>(bP rF (ai hc 0) (ai hc 1) (by with_unfolding_all rfl)))) ag))))))),?_⟩
  obtain⟨bc,bp,hU,hC,sc,hP,sp⟩:=rd.at_
  have lw:=rd.lw
  walk_at "r"
  rcases qA K r with ⟨ds,rfl⟩ | ⟨nt,ty,h1,h2⟩
  rotate_left
  ·refine⟨_,h1,false,h2,?_⟩
   rw[aR (by decide)]
   have q1:=q _ (bF.refl H)
   have e:cK W cs ps (n+1) d hs ls=false:=by
    cases d with
    | tup ds=>exact absurd rfl (nt ds)
    | _=>rfl
   rw[e]at q1
   exact q1
  obtain⟨p,vs,rfl,hp,lv,rs⟩:=r
  have ln:=rs.len
  refine⟨_,.tup hp,true,dA _ _,?_⟩
  rw[aO (by decide)]
  repeat (first | walk_at "rl" | simp only[hp])
  have fin:∀{b:Bool} {H':Hp},bF H H'->cK W cs ps (n+1) (.tup ds) hs ls=b->Q (.bl b) H':=λs' e=>by
   have q1:=q _ s'
   rw[e]at q1
   exact q1
  refine bu (λh2=>fin (bF.refl H) ?_) λh2=>?_
  ·match ds,ln with
   | [],_=>rfl
   | [.str x],_=>exact mr (λz=>by simp at z) (λz=>by simp at z)
   | [.int _],_=>rfl
   | [.bl _],_=>rfl
   | [.non],_=>rfl
   | [.tup _],_=>rfl
   | [.lst _],_=>rfl
   | [.dct],_=>rfl
   | _::_::_,ln=>simp only[cR]at ln;omega
  obtain⟨d0,d1,ds,rfl⟩:∃d0 d1 RP,ds=d0::d1::RP:=by
   match ds,ln with
   | [],ln=>simp only[List.length_nil]at ln;omega
   | [_],ln=>simp only[cR,List.length_nil]at ln;omega
   | d0::d1::RP,_=>exact⟨d0,d1,RP,rfl⟩
  obtain⟨v0,ws,rfl,r0,v1,QV,rfl,r1,rs⟩:=rs
  have ls2:=rs.len
  have YW:kb (v0::v1::QV) 0=some v0:=bH (j:=0) rfl
  have at1:kb (v0::v1::QV) 1=some v1:=bH (j:=1) rfl
  refine⟨v0,YW,?_⟩
  rcases zg K r0 with ⟨x,rfl,rfl⟩ | ⟨ns,ty,t1,t2⟩
  rotate_left
  ·refine⟨_,t1,false,t2,?_⟩
   rw[aR (by decide)]
   refine fin (bF.refl H) ?_
   cases d0 with
   | str x=>exact absurd rfl (ns x)
   | _=>rfl
  refine⟨_,.str x,true,dA _ _,?_⟩
  rw[aO (by decide)]
  repeat (first | walk_at "rl" | simp only[hp])
  refine bu (λhx=>?_) λhx=>?_
  ·subst hx
   repeat (first | walk_at "rl" | simp only[hp])
   have nw:Str.ofString "ask"≠Str.ofString "clash"/\Str.ofString "ask"≠Str.ofString "peace":=by decide +kernel
   refine bu (λh4=>fin (bF.refl H) (mr (λ_=>nw) λz=>?_)) λh4=>?_
   ·simp only[cR]at z
    simp at h4
    omega
   have l2:ds.length=2:=by simp at h4;omega
   obtain⟨e2,e3,rfl⟩:∃e2 e3,ds=[e2,e3]:=by
    match ds,l2 with
    | [e2,e3],_=>exact⟨e2,e3,rfl⟩
   obtain⟨v2,ws2,rfl,r2,v3,ws3,rfl,r3,rfl⟩:=rs
   refine⟨v1,rfl,hh,d1,r1,_,rfl,?_⟩
   cases we:dW d1 with
   | false=>
    rw[aR (by decide)]
    exact fin (bF.refl H) (pY we)
   | true=>
   rw[aO (by decide)]
   obtain⟨m,rfl⟩:∃m,d1=.int m:=by
    cases d1 with
    | int m=>exact⟨m,rfl⟩
    | _=>cases we
   obtain rfl:v1=.int m:=r1
   have no:∀H',bF H H'->¬(m∈W/\m∉hs/\m∉ls)->Q (.bl false) H':=λH' s' nY=>by
    refine fin s' ?_
    rw[j6]
    have e:(decide (m∈W) && !decide (m∈hs) && !decide (m∈ls))=false:=by
     rw[Bool.eq_false_iff]
     intro z
     simp at z
     exact nY ⟨z.1.1,z.1.2,z.2⟩
    rw[e]
    rfl
   refine⟨_,hp,_,at1,_,hU,rfl,bW _,?_⟩
   rw[cz]
   refine bu (λc1=>no _ (bF.refl H) λz=>by simp[z.1]at c1) λc1=>?_
   refine⟨_,hp,_,at1,_,rV,_,rT,by simp only[aP];exact qH (aS (by omega)),λp1 mq=>⟨rfl,by rw[<-dc];exact bW _,?_⟩⟩
   rw[<-dc,cz]
   have s1:=ao mq (.lst (List.map V.int (hs++ls)))
   generalize upd H p1 (.lst (List.map V.int (hs++ls)))=H1 at s1 ⊢
   refine bu (λc2=>no _ s1 λz=>by simp[z.2.1,z.2.2]at c2) λc2=>?_
   have m1:m∈W:=by simpa using c1
   have Ri:m∉hs/\m∉ls:=by simpa using c2
   have e:(decide (m∈W) && !decide (m∈hs) && !decide (m∈ls))=true:=by simp[m1,Ri.1,Ri.2]
   rw[j6,e,jK]at q
   clear fin no
   obtain⟨f1,f2⟩:=pj m1 Ri.1 Ri.2
   have hpp:=s1 _ _ hp
   have O9:=s1 _ _ rV
   have hl1:=s1 _ _ rT
   have at2:kb [V.str (Str.ofString "ask"),V.int m,v2,v3] 2=some v2:=rfl
   have at3:kb [V.str (Str.ofString "ask"),V.int m,v2,v3] 3=some v3:=rfl
   repeat (first | walk_at "rl" | simp only[hpp,O9])
   refine⟨by decide,λp2 ka=>?_⟩
   have s2:=s1.trans (ao ka (.lst [V.int m]))
   refine⟨_,s2 _ _ rV,by rw[aP];exact aS (by omega),λh3 O8=>?_⟩
   have s3:=s2.trans (ao O8 (.lst (List.map V.int hs++[V.int m])))
   have e3':∀G:Hp,upd G h3 (HO.lst (List.map V.int hs++[V.int m])) h3=some (.lst (List.map V.int (hs++[m]))):=λG=>by rw[aj,dc];rfl
   refine⟨U,C,Pc,v2,h3,ll,rfl,hh,W,cs,ps,e2,hs++[m],ls,rd.mono s3,r2.mono (Kp.of s3),e3' _,s3 _ _ rT,by omega,by simp;omega,by omega,λH4 s4=>⟨_,rfl,?_⟩⟩
   have s5:=s3.trans s4
   refine bu (λg1=>?_) λg1=>?_
   ·have g1:cK W cs ps n e2 (hs++[m]) ls=false:=by simpa using g1
    rw[g1,oj]at q
    exact q _ s5
   have g1:cK W cs ps n e2 (hs++[m]) ls=true:=by simpa using g1
   rw[g1,jK]at q
   have xg:=s5 _ _ hp
   have hl5:=s5 _ _ rT
   repeat (first | walk_at "rl" | simp only[xg])
   refine⟨by decide,λp6 O0=>?_⟩
   have s6:=s5.trans (ao O0 (.lst [V.int m]))
   refine⟨_,s6 _ _ rT,by rw[aP];exact aS (by omega),λh7 hh7=>?_⟩
   have s7:=s6.trans (ao hh7 (.lst (List.map V.int ls++[V.int m])))
   have e7:∀G:Hp,upd G h7 (HO.lst (List.map V.int ls++[V.int m])) h7=some (.lst (List.map V.int (ls++[m]))):=λG=>by rw[aj,dc];rfl
   exact⟨U,C,Pc,v3,hl,h7,rfl,hh,W,cs,ps,e3,hs,ls++[m],rd.mono s7,r3.mono (Kp.of s7),s7 _ _ rV,e7 _,by omega,by omega,by simp;omega,λH8 s8=>q _ (s7.trans s8)⟩
  repeat (first | walk_at "rl" | simp only[hp])
  refine bu (λW'=>fin (bF.refl H) (mr (λz=>?_) λ_=>hx)) λW'=>?_
  ·simp only[cR]at z
   simp at W'
   omega
  obtain rfl:ds=[]:=Ck (by simp at W';omega)
  obtain rfl:QV=[]:=rs
  refine⟨v1,rfl,hh,d1,r1,λH1 s1=>⟨_,rfl,?_⟩⟩
  cases se:oY d1 with
  | none=>
   rw[aR (by decide)]
   refine fin s1 ?_
   by_cases hc:x=Str.ofString "clash"
   ·subst hc;rw[kJ,ng se]
   ·by_cases Jm:x=Str.ofString "peace"
    ·subst Jm;rw[kI,ng se]
    ·exact mr (λ_=>⟨hc,Jm⟩) λ_=>hx
  | some s'=>
  rw[aO (by simp)]
  obtain⟨b,rfl,hb⟩:=uK r1 se
  have mq:=s1 _ _ hp
  have Lz:=s1 _ _ hb
  repeat (first | walk_at "rl" | simp only[mq])
  have ls':s'.length<=900:=by
   obtain⟨RP,rfl,ei,_⟩:=zf se
   obtain⟨p',vs',e',Jm,l',rs'⟩:=r1
   cases e'
   have:=jY rs' ei
   rw[this,aP]at l'
   exact l'
  refine bu (λhc=>?_) λhc=>?_
  ·subst hc
   rw[kJ,iD se]at q
   clear fin
   refine⟨s',Lz,_,s1 _ _ hC,_,sc.mono (λ_ _ e=>s1 _ _ e),bu (λhm=>?_) λhm=>?_⟩
   rotate_left
   ·rw[decide_eq_false hm,oj]at q
    exact q _ s1
   rw[decide_eq_true hm,jK]at q
   refine⟨⟨_,bR Lz⟩,?_⟩
   refine fK (zs:=List.map V.int s') (λj=>s'[j]?.map λm=>V.bl (decide (m∈hs))) (λ_=>yQ) (λ_ _ _ _ _ _ r=>r) (λ_ _ _ _ _ _ _ r=>r) Lz (by rw[aP];omega) (λDD c H2 j z yes no hj s2 zP zO cD nY=>?_) (λD H2 vs s2 hD Jw rl=>?_)
   ·obtain⟨m,em,rfl⟩:=int_at hj
    rw[em]at cD
    have Wi:=s2 _ _ (s1 _ _ rV)
    walk_at "rc"
    walk_at "r"
    refine⟨_,Wi,rfl,bW _,?_⟩
    rw[cz]
    exact cD _ rfl _ _ (λ_ _ e=>e) rfl
   have ev:=m8 rl
   rw[aP,jF (l:=s') (g:=λm=>V.bl (decide (m∈hs))) λk hk=>by rw[bw hk];rfl]at ev
   subst ev
   refine⟨D,rfl,s'.map λm=>decide (m∈hs),by rw[Jw,pO];rfl,?_⟩
   rw[oA]
   exact q _ (s1.trans s2)
  repeat (first | walk_at "rl" | simp only[mq])
  have Jq:=s1 _ _ hU
  refine⟨⟨_,bR Jq⟩,?_⟩
  refine fK (zs:=List.map V.int W) (λk=>if (W[k]?.any λm=>decide (m∉s')) then W[k]? else none) (λ_ _ v d=>v=V.int d) (λ_ _ _ _ _ _ r=>r) (λ_ _ _ _ _ _ _ r=>r) Jq (by rw[aP];omega) (λDD c H2 j z yes no hj s2 zP zO cD nY=>?_) (λD H2 vs s2 hD Jw rl=>?_)
  ·obtain⟨m,em,rfl⟩:=int_at hj
   rw[em]at cD nY
   have ka:=s2 _ _ mq
   have zN:=s2 _ _ Lz
   walk_at "rc"
   repeat (first | walk_at "rl" | simp only[ka])
   refine⟨_,zN,rfl,bW _,?_⟩
   rw[cz]
   by_cases hm:m∈s'
   ·rw[aO (by simpa using hm)]
    exact nY (aO (by simpa using hm)) _ λ_ _ e=>e
   ·rw[aR (by simpa using hm)]
    exact cD _ (aR (by simpa using hm)) _ _ (λ_ _ e=>e) rfl
  have ev:=oE rl
  rw[aP,nc (l:=W) (p:=λm=>decide (m∉s')) λk hk=>by rw[bw hk];rfl]at ev
  subst ev
  have pP:=s1.trans s2
  have ka:=pP _ _ hp
  have zN:=pP _ _ hb
  have lo:=nF (λm=>decide (m∉s')) W
  repeat (first | walk_at "rl" | simp only[ka])
  refine bu (λVR=>?_) λVR=>fin pP (mr (λ_=>⟨hc,VR⟩) λ_=>hx)
  subst VR
  rw[kI,iD se]at q
  clear fin
  refine⟨s',zN,_,pP _ _ hP,_,sp.mono (λ_ _ e=>pP _ _ e),bu (λhm=>?_) λhm=>?_⟩
  rotate_left
  ·rw[decide_eq_false hm,oj]at q
   exact q _ pP
  rw[decide_eq_true hm,jK]at q
  refine⟨⟨_,bB Jw⟩,?_⟩
  have eo:(W.filter λm=>decide (m∉s'))=gk W s':=rfl
  rw[eo]at Jw lo
  generalize gk W s'=os at Jw lo q
  refine fk (zs:=List.map V.int os) (λj=>os[j]?.map λm=>V.bl (decide (m∈ls))) (λ_=>yQ) (λ_ _ _ _ _ _ r=>r) (λ_ _ _ _ _ _ _ r=>r) Jw (by rw[aP];omega) (λDD c H3 j z yes no hj s3 zP zO cD nY=>?_) (λD3 H3 vs s3 Nf W6 rl=>?_)
  ·obtain⟨m,em,rfl⟩:=int_at hj
   rw[em]at cD
   have O8:=s3 _ _ (pP _ _ rT)
   walk_at "rc"
   walk_at "r"
   refine⟨_,O8,rfl,bW _,?_⟩
   rw[cz]
   exact cD _ rfl _ _ (λ_ _ e=>e) rfl
  have ev:=m8 rl
  rw[aP,jF (l:=os) (g:=λm=>V.bl (decide (m∈ls))) λk hk=>by rw[bw hk];rfl]at ev
  subst ev
  refine⟨D3,rfl,os.map λm=>decide (m∈ls),by rw[W6,pO];rfl,?_⟩
  rw[oA]
  exact q _ (pP.trans s3)
local macro_rules | `(tactic| walk_at "rd") => `(tactic| walk_at "rc")
local macro_rules | `(tactic| walk_at "rl") => `(tactic| first | (refine dX fun R hR => ?_) | walk_at "ry" | (refine Nx.to (by assumption) _ _ ?_))
def Bx(H:Hp)(v:V)(tr:Tr):Prop:=∃e,v=.ref e/\iS H tr e
def Br(cs:List (List Int))(hs:List Int):List Tr:=(cs.filter λs=>dm s hs).map Tr.clash
def zu(W:List Int)(ps:List (List Int))(ls:List Int):List Tr:=(ps.filter λs=>dm (gk W s) ls).map Tr.peace
theorem aT{H H':Hp}(s:bF H H'):mZ H H':=λq xs e=>s q _ e
theorem gL{H:Hp}{F:Addr}{o:HO}(hF:∃ys,H F=some (.lst ys)):mZ H (upd H F o):=λb xs e=>by
 obtain⟨ys,hF⟩:=hF
 rw[aM]
 ·exact e
 ·rintro rfl
  rw[hF]at e
  cases e
theorem Bx.mono{H H':Hp}{v:V}{tr:Tr}(k:mZ H H')(r:Bx H v tr):Bx H' v tr:=let ⟨e,ev,t⟩:=r;⟨e,ev,t.mono k⟩
theorem iB{H H':Hp}{vs:List V}{ds:List Tr}(k:mZ H H')(r:g7 Bx H vs ds):g7 Bx H' vs ds:=⟨r.1,λi v d h1 h2=>(r.2 i v d h1 h2).mono k⟩
theorem Bm{W:List Int}{cs ps:List (List Int)}{hs ls:List Int}:∀tr∈Br cs hs++zu W ps ls,Good W cs ps tr hs ls/\tr.deep=1:=λtr h=>by
 rcases fu.mp h with h | h
 ·obtain⟨s,V4,rfl⟩:=oi.mp h
  obtain⟨h1,h2⟩:=iW.mp V4
  exact⟨⟨h1,fj.mp h2⟩,rfl⟩
 ·obtain⟨s,V4,rfl⟩:=oi.mp h
  obtain⟨h1,h2⟩:=iW.mp V4
  refine⟨⟨h1,λm hm hn=>fj.mp h2 m ?_⟩,rfl⟩
  unfold gk
  exact iW.mpr ⟨hm,by simpa using hn⟩
theorem fmc{α β:Type}{l:List α}{f g:α->Option β}(h:∀x∈l,f x=g x):l.filterMap f=l.filterMap g:=by
 induction l with
 | nil=>rfl
 | cons a r ih=>rw[vN,vN,h a (by simp),ih λx hx=>h x (by simp[hx])]
theorem zT{δ ε:Type}{l:List δ}{p:δ->Bool}{g:δ->ε}{f:Nat->Option ε}(h:∀i (hi:i<l.length),f i=if p l[i] then some (g l[i]) else none):(List.range l.length).filterMap f=(l.filter p).map g:=by
 rw[<-nc (l:=l) (p:=p) (f:=λi=>if (l[i]?.any p)=true then l[i]? else none) λi hi=>by rw[bw hi];rfl,List.map_filterMap]
 refine fmc λi hi=>?_
 have hi:=vK.mp hi
 rw[h i hi,bw hi]
 by_cases hp:p l[i]=true
 ·rw[aR hp,aR (by simpa using hp)];rfl
 ·rw[aO hp,aO (by simpa using hp)];rfl
def J9:Sp:=λvs H Q _=>∃U C Pc hl ll,vs=[.ref U,.ref C,.ref Pc,.ref hl,.ref ll]/\∃(W:List Int) (cs ps:List (List Int)) (hs ls:List Int),oa H U C Pc W cs ps/\H hl=some (.lst (List.map V.int hs))/\H ll=some (.lst (List.map V.int ls))/\hs.length<=100/\ls.length<=100/\
 ∀E vs H',bF H H'->H E=none->H' E=some (.lst vs)->g7 Bx H' vs (Br cs hs++zu W ps ls)->Q (.ref E) H'
theorem Hv(T:Txt K mg t):cE P w K mg base jJ 1 t.mW t.mI ["_law_whole","_law_clashes","_law_peaces","_law_held","_law_lacked"] J9:=by
 refine T.qi.nL kB (λvs H Q E h=>?_) (λeF A outer s H vs Q E hr h hc hf=>?_)
 ·obtain⟨U,C,Pc,y,x,rfl,_⟩:=h;rfl
 obtain⟨U,C,Pc,hl,ll,rfl,W,cs,ps,hs,ls,rd,rV,rT,lh,l9,q⟩:=h
 have hu:=ia hr
 have yu:=hr.eR
 refine⟨_,(by apply ak;exact(iq hc kB.nd 5 (by decide +kernel) ["_law_one"] [3] rfl (by decide +kernel) (dv (ai hc 1)) (λ_ hc=>ic hc (by decide +kernel) 0 (by decide +kernel)) (λ_ hc=>dB (bX (az (fL hr.hd) (aX hc) T.lu qb (ae (bI hc ["_law_member"] [1] rfl (by decide +kernel) (fh (ai hc 0)) (λ_ hc=>ic hc (by decide +kernel) 0 (by decide +kernel)) (λ_ _=>bV) (λ_ hc=>(bP rF (ai hc 0) (ai hc 1) (by with_unfolding_all rfl)))) ag)))) (λ_ hc=>(aY (ae aZ (ae (ai hc 0) ag)))) (by rfl));apply ak;exact(jb nv rfl (dv (ai hc 2)) (sC hc kB.nd hf 6 (by decide +kernel)) (by exact au (aW (bX (az (fL hr.hd) (aX hc) T.lu qb (ae (bI hc ["_law_member"] [4,6] rfl (by decide +kernel) (fh (ai hc 0)) (λ_ hc=>ic hc (by decide +kernel) 0 (by decide +kernel)) (λ_ hc=>dB (aE iC (ai hc 0) (ai hc 2) (by with_unfolding_all rfl))) (λ_ hc=>(bP rF (ai hc 0) (ai hc 1) (by with_unfolding_all rfl)))) ag))) (by exact au (cI (js nH oq ot cY (ai hc 5) (ae (aY (ae aZ (ae (ai hc 6) ag))) ag)))) aJ)));exact au (aG (ai hc 5))),?_⟩
 obtain⟨bc,bp,hU,hC,sc,hP,sp⟩:=rd.at_
 have lw:=rd.lw
 have lc:=rd.lc
 have lp:=rd.lp
 have bl:=sc.1
 have pl:=sp.1
 walk_at "r"
 refine⟨⟨_,bB hC⟩,?_⟩
 refine fk (zs:=List.map V.ref bc) (λj=>cs[j]?.bind λs=>if dm s hs then some (Tr.clash s) else none) (λ_=>Bx) (λ_ _ _ _ _ s r=>r.mono (aT s)) (λ_ _ _ _ _ k _ r=>r.mono (gL k)) hC (by rw[aP];omega) (λDD c H2 j z yes no hj s2 zP zO cD nY=>?_) (λD H2 vs s2 hD Jw rl=>?_)
 ·obtain⟨b,eb,rfl⟩:=rq hj
  have Rr:j<bc.length:=(fP.mp eb).1
  have es:cs[j]?=some (cs[j]'(by omega)):=bw _
  have zN:=s2 _ _ (sc.2 j b _ eb es)
  have ls':=(rd.gc _ (qO es)).2
  rw[es]at cD nY
  generalize cs[j]'(by omega)=s' at zN cD nY ls'
  have Jo:=s2 _ _ rV
  walk_at "rc"
  walk_at "r"
  refine⟨⟨_,bR zN⟩,?_⟩
  refine fK (zs:=List.map V.int s') (λj=>s'[j]?.map λm=>V.bl (decide (m∈hs))) (λ_=>yQ) (λ_ _ _ _ _ _ r=>r) (λ_ _ _ _ _ _ _ r=>r) zN (by rw[aP];omega) (λDD c H3 j z yes no hj s3 zP zO cD nY=>?_) (λD H3 vs s3 hD Nf rl=>?_)
  ·obtain⟨m,em,rfl⟩:=int_at hj
   rw[em]at cD
   have O8:=s3 _ _ Jo
   walk_at "rc"
   walk_at "r"
   refine⟨_,O8,rfl,bW _,?_⟩
   rw[cz]
   exact cD _ rfl _ _ (λ_ _ e=>e) rfl
  have ev:=m8 rl
  rw[aP,jF (l:=s') (g:=λm=>V.bl (decide (m∈hs))) λk hk=>by rw[bw hk];rfl]at ev
  subst ev
  refine⟨D,rfl,s'.map λm=>decide (m∈hs),by rw[Nf,pO];rfl,?_⟩
  rw[oA]
  refine bu (λhp=>⟨by decide,λp Jm=>?_⟩) λhp=>nY (aO hp) _ s3
  exact cD _ (aR hp) _ _ (s3.trans (ao Jm _)) ⟨p,rfl,b,aj,ao Jm _ _ _ (s3 _ _ zN)⟩
 have eT:(List.range (List.map V.ref bc).length).filterMap (λj=>cs[j]?.bind λs=>if dm s hs then some (Tr.clash s) else none)=Br cs hs:=by
  rw[aP,bl]
  exact zT (p:=λs=>dm s hs) (g:=Tr.clash) λi hi=>by rw[bw hi];rfl
 rw[eT]at rl
 walk_at "r"
 have hP2:=s2 _ _ hP
 refine⟨⟨_,bB hP2⟩,?_⟩
 obtain⟨Pv,iI⟩:∃Pv:Nat->St->Hp->Prop,∀i σ' H',Pv i σ' H'↔∃(x6:Option V) (ws:List V),σ'=[some (.ref U),some (.ref C),some (.ref Pc),some (.ref hl),some (.ref ll),some (.ref D),x6]/\bF H H'/\H' D=some (.lst ws)/\g7 Bx H' ws (Br cs hs++zu W (ps.take i) ls):=⟨_,λ_ _ _=>du⟩
 refine wL (xs:=List.map V.ref bp) Pv ((iI _ _ _).mpr ⟨none,vs,rfl,s2,Jw,by show g7 Bx H2 vs (Br cs hs++[]);rw[om];exact rl⟩) (λi σ' H' _ pv=>?_) (λi v σ' H3 ev pv=>?_) (λσ' H3 pv=>?_)
 ·obtain⟨x6,ws,rfl,s',_,_⟩:=(iI _ _ _).mp pv
  exact s' _ _ hP
 ·obtain⟨x6,ws,rfl,s3,Nf,Kf⟩:=(iI _ _ _).mp pv
  obtain⟨b,eb,rfl⟩:=rq ev
  have Rr:i<bp.length:=(fP.mp eb).1
  have es:ps[i]?=some (ps[i]'(by omega)):=bw _
  have Wu:=s3 _ _ (sp.2 i b _ eb es)
  have et:ps.take (i+1)=ps.take i++[ps[i]'(by omega)]:=by rw[nA,es];rfl
  generalize ps[i]'(by omega)=s' at Wu et
  have hl3:=s3 _ _ rT
  have Ry:=s3 _ _ hU
  walk_at "r"
  refine⟨⟨_,bR Ry⟩,?_⟩
  refine fK (zs:=List.map V.int W) (λk=>W[k]?.bind λm=>if decide (m∉s')=true then some (V.bl (decide (m∈ls))) else none) (λ_=>yQ) (λ_ _ _ _ _ _ r=>r) (λ_ _ _ _ _ _ _ r=>r) Ry (by rw[aP];omega) (λDD c H4 j z yes no hj s4 zP zO cD nY=>?_) (λD4 H4 vs s4 hD4 W5 rl4=>?_)
  ·obtain⟨m,em,rfl⟩:=int_at hj
   rw[em]at cD nY
   have hb4:=s4 _ _ Wu
   have hl4:=s4 _ _ hl3
   walk_at "rc"
   walk_at "r"
   refine⟨_,hb4,rfl,bW _,?_⟩
   rw[cz]
   by_cases hm:m∈s'
   ·rw[aO (by simpa using hm)]
    exact nY (aO (by simpa using hm)) _ λ_ _ e=>e
   ·rw[aR (by simpa using hm)]
    refine⟨_,hl4,rfl,bW _,?_⟩
    rw[cz]
    exact cD _ (aR (by simpa using hm)) _ _ (λ_ _ e=>e) rfl
  have ev4:=m8 rl4
  rw[aP,zT (l:=W) (p:=λm=>decide (m∉s')) (g:=λm=>V.bl (decide (m∈ls))) λk hk=>by rw[bw hk];rfl]at ev4
  subst ev4
  refine⟨D4,rfl,(gk W s').map λm=>decide (m∈ls),by rw[W5,pO];rfl,?_⟩
  rw[oA]
  have Z9:=s3.trans s4
  have L0:=s4 _ _ Nf
  have Ke:=iB (aT s4) Kf
  have eP:∀b:Bool,dm (gk W s') ls=b->zu W (ps.take (i+1)) ls=zu W (ps.take i) ls++(if b=true then [Tr.peace s'] else []):=λb e=>by
   unfold zu
   rw[et,yZ,dc]
   cases b with
   | true=>rw[show [s'].filter (λs=>dm (gk W s) ls)=[s'] by simp[e]];rfl
   | false=>rw[show [s'].filter (λs=>dm (gk W s) ls)=[] by simp[e]];rfl
  refine bu (λhp=>?_) λhp=>?_
  ·refine⟨.inl ⟨rfl,_,bB L0⟩,by decide,λp Be=>?_⟩
   have s5:=ao Be (.tup [V.str (Str.ofString "peace"),V.ref b])
   have e5:=aj (H:=H4) (a:=p) (o:=.tup [V.str (Str.ofString "peace"),V.ref b])
   generalize upd H4 p (.tup [V.str (Str.ofString "peace"),V.ref b])=H5 at s5 e5 ⊢
   have P8:=s5 _ _ L0
   have lws:=Kf.1
   have l1:(Br cs hs).length<=900:=by
    unfold Br
    rw[aP]
    exact cq (nF _ _) lc
   have l2:(zu W (ps.take i) ls).length<=900:=by
    unfold zu
    rw[aP]
    refine cq (nF _ _) ?_
    rw[nz];omega
   rw[dR]at lws
   refine⟨ws,P8,by rw[qR];omega,(iI _ _ _).mpr ⟨_,ws++[.ref p],rfl,λa o e=>by rw[aM (aQ e hD)];exact s5 _ _ (Z9 _ _ e),aj,?_⟩⟩
   rw[eP true (by simpa using hp),aR rfl,<-List.append_assoc]
   have k:=gL (H:=H5) (F:=D) (o:=.lst (ws++[.ref p])) ⟨_,P8⟩
   refine g7.snoc (iB k (iB (aT s5) Ke)) ⟨p,rfl,b,k _ _ e5,k _ _ (s5 _ _ (s4 _ _ Wu))⟩
  ·exact(iI _ _ _).mpr ⟨_,ws,rfl,Z9,L0,by rw[eP false (by simpa using hp)];simpa using Ke⟩
 ·obtain⟨x6,ws,rfl,s3,Nf,Kf⟩:=(iI _ _ _).mp pv
  rw[aP,pl,oo]at Kf
  walk_at "r"
  exact q D ws H3 s3 hD Nf Kf
local macro_rules | `(tactic| walk_at "rd") => `(tactic| walk_at "rc")
local macro_rules | `(tactic| walk_at "rl") => `(tactic| first | (refine dX fun R hR => ?_) | walk_at "ry" | (refine Nx.to (by assumption) _ _ ?_))
def MF(W:List Int)(cs ps:List (List Int)):Prop:=∀S:List Int,(∀m∈S,m∈W)->(∃s∈cs,∀m∈s,m∈S)\/∃s∈ps,∀m∈S,m∈s
theorem Eb{H:Hp}{h C:Addr}{bc:List Addr}(x:cj H h)(e:H C=some (.lst (List.map V.ref bc))):C≠h:=by
 rintro rfl
 obtain⟨l,ns,o,e1,⟨a,b,c,d,f,rfl,_⟩,_⟩:=x
 rw[e]at e1
 unfold hv at e1
 have e1:=dP e1
 injection e1 with e1
 match bc,e1 with
 | [],e1=>cases e1
 | [_],e1=>cases e1
 | _::_::_,e1=>cases e1
theorem mh{H:Hp}{h C:Addr}{ms:List Int}(x:cj H h)(e:H C=some (.lst (List.map V.int ms))):C≠h:=by
 rintro rfl
 obtain⟨l,ns,o,e1,⟨a,b,c,d,f,rfl,_⟩,_⟩:=x
 rw[e]at e1
 unfold hv at e1
 have e1:=dP e1
 injection e1 with e1
 match ms,e1 with
 | [],e1=>cases e1
 | _::_,e1=>cases e1
theorem yB{h:Addr}{H H':Hp}(d:Dr h H H')(x:cj H h):mZ H H':=λb xs e=>d.keep b _ (x.md e) e
theorem FH{h:Addr}{H H':Hp}{U C Pc:Addr}{W:List Int}{cs ps:List (List Int)}(x:cj H h)(d:Dr h H H')(r:oa H U C Pc W cs ps):oa H' U C Pc W cs ps:=by
 obtain⟨bc,bp,h2,h3,h4,h5,h6⟩:=r.at_
 have k:=yB d x
 exact⟨⟨bc,bp,k _ _ h2,d.keep _ _ (Eb x h3) h3,h4.mono k,d.keep _ _ (Eb x h5) h5,h6.mono k⟩,r.lw,r.lc,r.lp,r.gc,r.gp⟩
theorem Bl{W:List Int}{cs ps:List (List Int)}{hs ls:List Int}(cov:MF W cs ps)(sub:∀m∈hs,m∈W)(f0:jk W hs ls=0):0<(Br cs hs++zu W ps ls).length:=by
 have no:∀m∈W,m∉hs->m∈ls:=λm hm hn=>by
  apply Classical.byContradiction
  intro hl
  have:m∈W.filter λm=>!decide (m∈hs) && !decide (m∈ls):=iW.mpr ⟨hm,by simp[hn,hl]⟩
  rw[Ck f0]at this
  cases this
 rw[dR]
 rcases cov hs sub with ⟨s,h1,h2⟩ | ⟨s,h1,h2⟩
 ·have:Tr.clash s∈Br cs hs:=oi.mpr ⟨s,iW.mpr ⟨h1,fj.mpr h2⟩,rfl⟩
  have:=y7 this
  omega
 ·have:Tr.peace s∈zu W ps ls:=oi.mpr ⟨s,iW.mpr ⟨h1,fj.mpr λm hm=>by
   unfold gk at hm
   obtain⟨hm,hn⟩:=iW.mp hm
   exact no m hm λz=>by simp at hn;exact hn (h2 m z)⟩,rfl⟩
  have:=y7 this
  omega
def JX(n:Nat):Sp:=λvs H Q _=>∃h U C Pc hl ll,vs=[.ref h,.ref U,.ref C,.ref Pc,.ref hl,.ref ll]/\∃(W:List Int) (cs ps:List (List Int)) (hs ls:List Int),cj H h/\oa H U C Pc W cs ps/\H hl=some (.lst (List.map V.int hs))/\H ll=some (.lst (List.map V.int ls))/\MF W cs ps/\(∀m∈hs,m∈W)/\jk W hs ls<n/\hs.length+n<=100/\ls.length+n<=100/\
 ∀p tr H',Dr h H H'->iS H' tr p->Good W cs ps tr hs ls->tr.deep<=n->Q (.ref p) H'
theorem zA(T:Txt K mg t):∀n:Nat,cE P w K mg base jJ (n+4) t.mO t.mB ["_law_hand_here","_law_whole","_law_clashes","_law_peaces","_law_held","_law_lacked"] (JX n)
 | 0=>T.gT.nL (k:=3) eI (λvs H Q E h=>by obtain⟨U,C,Pc,z,y,x,rfl,_⟩:=h;rfl) (λeF A outer s H vs Q E hr h hc hf=>by obtain⟨h,U,C,Pc,hl,ll,rfl,W,cs,ps,hs,ls,_,_,_,_,_,_,h1,_⟩:=h;omega)
 | n+1=>by
  have ay:=ie (P:=P) (w:=w) (base:=base) T
  have xf:=Hv (P:=P) (w:=w) (base:=base) T
  have jq:=zA T n
  refine T.gT.nL (k:=n+4) eI (λvs H Q E h=>?_) (λeF A outer s H vs Q E hr h hc hf=>?_)
  ·obtain⟨U,C,Pc,z,y,x,rfl,_⟩:=h;rfl
  obtain⟨h,U,C,Pc,hl,ll,rfl,W,cs,ps,hs,ls,hd,rd,rV,rT,cov,sub,fr,lh,l9,q⟩:=h
  have hu:=ia hr
  have yu:=hr.eR
  refine⟨_,(by apply ak;exact(aH hc eI.nd hf 6 (by decide +kernel) (aq xf hr.mono (aX hc) T.wC T.qi.kp T.wY .nil aI (ae (ai hc 1) (ae (ai hc 2) (ae (ai hc 3) (ae (ai hc 4) (ae (ai hc 5) ag)))))));apply ak;exact(iq hc eI.nd 7 (by decide +kernel) ["_law_member"] [4,5] rfl (by decide +kernel) (fh (ai hc 1)) (λ_ hc=>ic hc (by decide +kernel) 0 (by decide +kernel)) (λ_ hc=>dB (aE tR (ai hc 0) (aF eU (ai hc 1) (ai hc 2)) (by with_unfolding_all rfl))) (λ_ hc=>(ai hc 0)) (by rfl));apply ak;exact(aW (gj (jc (aE lA (az bh (aX hc) T.bY cA (ae (ai hc 6) ag)) ah (aN _)) (gK (gj (fQ (aE cS (az bh (aX hc) T.bY cA (ae (ai hc 7) ag)) ah (aN _)) (gD (aE lA (aq ay hr.mono (aX hc) T.aC T.aA.kp T.aD .nil aI (ae (ai hc 0) (ae ah ag))) ah (aN _)))))))) (by exact au (aG (aB cP (ai hc 6) (aq ay hr.mono (aX hc) T.aC T.aA.kp T.aD .nil aI (ae (ai hc 0) (ae (az bh (aX hc) T.bY cA (ae (ai hc 6) ag)) ag))) (λ_ _=>rfl)))) aJ);apply ak;exact(aH hc eI.nd hf 8 (by decide +kernel) (aB cP (ai hc 7) (aq ay hr.mono (aX hc) T.aC T.aA.kp T.aD .nil aI (ae (ai hc 0) (ae (az bh (aX hc) T.bY cA (ae (ai hc 7) ag)) ag))) (λ_ _=>rfl)));apply ak;exact(aH hc eI.nd hf 9 (by decide +kernel) (aq jq hr.mono (aX hc) T.mn T.gT.kp T.mM .nil aI (ae (ai hc 0) (ae (ai hc 1) (ae (ai hc 2) (ae (ai hc 3) (ae (aF eU (ai hc 4) (aV (ae (ai hc 8) ag))) (ae (ai hc 5) ag))))))));exact au (aG (aY (ae aZ (ae (ai hc 8) (ae (ai hc 9) (ae (aq jq hr.mono (aX hc) T.mn T.gT.kp T.mM .nil aI (ae (ai hc 0) (ae (ai hc 1) (ae (ai hc 2) (ae (ai hc 3) (ae (ai hc 4) (ae (aF eU (ai hc 5) (aV (ae (ai hc 8) ag))) ag))))))) ag))))))),?_⟩
  walk_at "r"
  refine⟨U,C,Pc,hl,ll,rfl,W,cs,ps,hs,ls,rd,rV,rT,by omega,by omega,λE vs H1 s1 hE Nc rl=>?_⟩
  have Lx:=s1 _ _ rV
  have Lv:=s1 _ _ rT
  have Q6:=rd.mono s1
  obtain⟨bc,bp,Jq,_⟩:=Q6.at_
  have lw:=rd.lw
  walk_at "r"
  refine⟨⟨_,bR Jq⟩,?_⟩
  refine fK (zs:=List.map V.int W) (λk=>if (W[k]?.any λm=>!decide (m∈hs) && !decide (m∈ls)) then W[k]? else none) (λ_ _ v d=>v=V.int d) (λ_ _ _ _ _ _ r=>r) (λ_ _ _ _ _ _ _ r=>r) Jq (by rw[aP];omega) (λDD c H2 j z yes no hj s2 zP zO cD nY=>?_) (λL H2 us s2 hL Gj S9=>?_)
  ·obtain⟨m,em,rfl⟩:=int_at hj
   rw[em]at cD nY
   have Wi:=s2 _ _ Lx
   have Jo:=s2 _ _ Lv
   walk_at "rc"
   repeat (first | walk_at "rl" | simp only[Wi,Jo])
   refine⟨by exact qH (aS (by omega)),λp hp=>⟨rfl,by rw[<-dc];exact bW _,?_⟩⟩
   rw[<-dc,cz]
   have s3:=ao hp (.lst (List.map V.int (hs++ls)))
   by_cases hm:m∈hs++ls
   ·rw[aO (by simp;intro z;exact(fu.mp hm).resolve_left z)]
    exact nY (aO (by simp;intro z;exact(fu.mp hm).resolve_left z)) _ s3
   ·rw[aR (by simpa using hm)]
    exact cD _ (aR (by simpa using hm)) _ _ s3 rfl
  have ev:=oE S9
  rw[aP,nc (l:=W) (p:=λm=>!decide (m∈hs) && !decide (m∈ls)) λk hk=>by rw[bw hk];rfl]at ev
  subst ev
  have pP:=s1.trans s2
  have Ju:=s2 _ _ Nc
  have MT:=iB (aT s2) rl
  have lE:=rl.1
  have d2:Dr h H H2:=Dr.refl.on pP
  obtain⟨left,Ep⟩:∃left,(W.filter λm=>!decide (m∈hs) && !decide (m∈ls))=left:=⟨_,rfl⟩
  have lfr:jk W hs ls=left.length:=by unfold jk;rw[Ep]
  have mleft:∀m∈left,m∈W/\m∉hs/\m∉ls:=λm hm=>by
   rw[<-Ep]at hm
   have:=iW.mp hm
   exact⟨this.1,by simpa using this.2⟩
  rw[Ep]at Gj
  repeat (first | walk_at "rl" | simp only[Ju,Gj])
  rename_i R hR
  have RJ:E≠h:=hd.ne hE
  have Gi:L≠h:=by
   have:=(Dr.refl.on s1:Dr h H H1).aK hd
   exact this.ne hL
  have pick:∀H3,Dr h H H3->H3 E=some (.lst vs)->g7 Bx H3 vs (Br cs hs++zu W ps ls)->0<vs.length->q0 [.ref h,.int (vs.length:Int)] H3 (λy H2=>∃x,y=V.int x/\∃xs,H2 E=some (HO.lst xs)/\∃v,kb xs x=some v/\Q v H2) E0:=λH3 d3 RK Kf l0=>by
   refine aU hd d3 (by omega) (by
    have l1:(Br cs hs).length<=900:=by
     unfold Br
     rw[aP]
     exact cq (nF _ _) rd.lc
    have l2:(zu W ps ls).length<=900:=by
     unfold zu
     rw[aP]
     exact cq (nF _ _) rd.lp
    rw[dR]at lE
    have:(vs.length:Int)<=1800:=by omega
    exact Int.lt_of_le_of_lt this (by decide)) λx H4 x0 x1 d4 k4=>⟨x,rfl,_,by rw[k4 E RJ];exact RK,?_⟩
   have hx:x.toNat<vs.length:=by omega
   have Ox:x.toNat<(Br cs hs++zu W ps ls).length:=by omega
   obtain⟨e,ev,te⟩:=Kf.2 x.toNat _ _ (bw hx) (bw Ox)
   refine⟨vs[x.toNat],?_,?_⟩
   ·have:=bH (xs:=vs) (j:=x.toNat) (v:=vs[x.toNat]) (bw hx)
    rw[y0 x0]at this
    exact this
   ·have g:=Bm _ (ny Ox)
    rw[ev]
    exact q e _ H4 d4 (te.mono λb xs e'=>by rw[k4 b ((d3.aK hd).md e')];exact e') g.1 (by omega)
  have rest:∀H3,Dr h H H3->(∀b,b≠h->H3 b=H2 b)->0<left.length->R [some (.ref h),some (.ref U),some (.ref C),some (.ref Pc),some (.ref hl),some (.ref ll),some (.ref E),some (.ref L),none,none] H3:=λH3 d3 k3 l0=>by
   have Js:H3 L=some (.lst (List.map V.int left)):=by rw[k3 L Gi];exact Gj
   repeat (first | walk_at "rl" | simp only[Js])
   have aAb:left.length<=100:=by
    have:=vt W hs ls
    omega
   refine aU hd d3 (by omega) (by omega) λx H4 x0 x1 d4 k4=>⟨x,rfl,_,by rw[k4 L Gi];exact Js,?_⟩
   have hx:x.toNat<left.length:=by omega
   obtain⟨m,em⟩:∃m,left[x.toNat]=m:=⟨_,rfl⟩
   obtain⟨m1,m2,m3⟩:=mleft m (em ▸ ny hx)
   obtain⟨f1,f2⟩:=pj m1 m2 m3
   refine⟨.int m,?_,?_⟩
   ·have:=bH (xs:=List.map V.int left) (j:=x.toNat) (v:=.int m) (by rw[fO,bw hx,em];rfl)
    rw[y0 x0]at this
    exact this
   have N2:=FH hd d4 rd
   have BP:=d4.aK hd
   have Es:H4 hl=some (.lst (List.map V.int hs)):=d4.keep _ _ (mh hd rV) rV
   have Eo:H4 ll=some (.lst (List.map V.int ls)):=d4.keep _ _ (mh hd rT) rT
   repeat (first | walk_at "rl" | simp only[Es,Eo])
   refine⟨by decide,λp1 mq=>?_⟩
   have s5:=ao mq (.lst [V.int m])
   refine⟨_,s5 _ _ Es,by rw[aP];exact aS (by omega),λp2 ka=>?_⟩
   have s6:=s5.trans (ao ka (.lst (List.map V.int hs++[V.int m])))
   have e6:∀G:Hp,upd G p2 (HO.lst (List.map V.int hs++[V.int m])) p2=some (.lst (List.map V.int (hs++[m]))):=λG=>by rw[aj,dc];rfl
   have O2:=e6 (upd H4 p1 (.lst [V.int m]))
   generalize upd (upd H4 p1 (.lst [V.int m])) p2 (.lst (List.map V.int hs++[V.int m]))=H6 at s6 O2 ⊢
   have d6:=d4.on s6
   have hd6:=d6.aK hd
   refine⟨h,U,C,Pc,p2,ll,rfl,W,cs,ps,hs++[m],ls,hd6,N2.mono s6,O2,s6 _ _ Eo,cov,λk hk=>?_,by omega,by simp;omega,by omega,λpa ta H7 d7 ha ga da=>?_⟩
   ·rcases fu.mp hk with hk | hk
    ·exact sub k hk
    ·rw[nE.mp hk];exact m1
   have Fm:=d6.trans d7
   have M7:=Fm.aK hd
   have Td:=FH hd Fm rd
   have sL:H7 hl=some (.lst (List.map V.int hs)):=Fm.keep _ _ (mh hd rV) rV
   have wI:H7 ll=some (.lst (List.map V.int ls)):=Fm.keep _ _ (mh hd rT) rT
   repeat (first | walk_at "rl" | simp only[sL,wI])
   refine⟨by decide,λp8 rR=>?_⟩
   have s8:=ao rR (.lst [V.int m])
   refine⟨_,s8 _ _ wI,by rw[aP];exact aS (by omega),λp9 Rl=>?_⟩
   have s9:=s8.trans (ao Rl (.lst (List.map V.int ls++[V.int m])))
   have e9:∀G:Hp,upd G p9 (HO.lst (List.map V.int ls++[V.int m])) p9=some (.lst (List.map V.int (ls++[m]))):=λG=>by rw[aj,dc];rfl
   have OJ:=e9 (upd H7 p8 (.lst [V.int m]))
   generalize upd (upd H7 p8 (.lst [V.int m])) p9 (.lst (List.map V.int ls++[V.int m]))=H9 at s9 OJ ⊢
   have d9:=Fm.on s9
   have Rw:=d9.aK hd
   refine⟨h,U,C,Pc,hl,p9,rfl,W,cs,ps,hs,ls++[m],Rw,Td.mono s9,s9 _ _ sL,OJ,cov,sub,by omega,by omega,by simp;omega,λpb tb lK BW hb gb db=>?_⟩
   refine⟨by decide,λRb L7=>?_⟩
   have S6:=ao L7 (.tup [V.str (Str.ofString "ask"),V.int m,V.ref pa,V.ref pb])
   refine q Rb (.ask m ta tb) _ ((d9.trans BW).on S6) ⟨pa,pb,aj,((ha.mono (aT s9)).mono (yB BW Rw)).mono (aT S6),hb.mono (aT S6)⟩ ⟨m1,m2,m3,ga,gb⟩ ?_
   show max ta.deep tb.deep+1<=n+1
   omega
  refine bu (λh0=>?_) λh0=>?_
  ·refine bu (λh1=>pick H2 d2 Ju MT (by omega)) λh1=>?_
   refine aU hd d2 (by decide) (by decide) λx H3 x0 x1 d3 k3=>⟨x,rfl,?_⟩
   have RK:H3 E=some (.lst vs):=by rw[k3 E RJ];exact Ju
   refine bu (λh2=>⟨_,RK,pick H3 d3 RK (iB (λb xs e'=>by rw[k3 b ((d2.aK hd).md e')];exact e') MT) (by omega)⟩) λh2=>rest H3 d3 k3 (by omega)
  ·refine rest H2 d2 (λ_ _=>rfl) ?_
   apply Classical.byContradiction
   intro z
   have:=Bl cov sub (ls:=ls) (by omega)
   omega
local macro_rules | `(tactic| walk_at "rd") => `(tactic| walk_at "rc")
local macro_rules | `(tactic| walk_at "rl") => `(tactic| first | (refine dX fun R hR => ?_) | walk_at "ry" | (refine Nx.to (by assumption) _ _ ?_))
def Tr.dt:Tr->Dt
 | .clash s=>.tup [.str (Str.ofString "clash"),.tup (s.map Dt.int)]
 | .peace s=>.tup [.str (Str.ofString "peace"),.tup (s.map Dt.int)]
 | .ask m a b=>.tup [.str (Str.ofString "ask"),.int m,a.dt,b.dt]
def Tr.ok:Tr->Prop
 | .clash s=>s.length<=100
 | .peace s=>s.length<=100
 | .ask _ a b=>a.ok/\b.ok
theorem iG{h:Addr}{H:Hp}:∀s:List Int,dq h H (s.map Dt.int) (s.map V.int)
 | []=>rfl
 | i::s=>⟨_,_,rfl,rfl,iG s⟩
theorem gM{h:Addr}{H:Hp}{q:Addr}{s:List Int}(e:H q=some (.tup (List.map V.int s)))(l:s.length<=900):Rep h H (.tup (s.map Dt.int)) (.ref q):=⟨q,_,rfl,e,by rw[aP];exact l,iG s⟩
theorem iS.rep{h:Addr}{H:Hp}:∀{tr:Tr} {p:Addr},iS H tr p->tr.ok->Rep h H tr.dt (.ref p)
 | .clash s,p,⟨q,e,f⟩,k=>⟨p,_,rfl,e,ib rfl,_,_,rfl,⟨rfl,by decide +kernel⟩,_,_,rfl,gM f (cq k (by decide)),rfl⟩
 | .peace s,p,⟨q,e,f⟩,k=>⟨p,_,rfl,e,ib rfl,_,_,rfl,⟨rfl,by decide +kernel⟩,_,_,rfl,gM f (cq k (by decide)),rfl⟩
 | .ask m a b,p,⟨q,r,e,ha,hb⟩,k=>⟨p,_,rfl,e,ib rfl,_,_,rfl,⟨rfl,by decide +kernel⟩,_,_,rfl,rfl,_,_,rfl,iS.rep ha k.1,_,_,rfl,iS.rep hb k.2,rfl⟩
theorem cv{h:Addr}{H:Hp}{d:Dt}{ds:List Dt}{v:V}{vs:List V}(r:Rep h H d v)(rs:dq h H ds vs):dq h H (d::ds) (v::vs):=⟨v,vs,rfl,r,rs⟩
theorem ju{h:Addr}{H:Hp}:dq h H [] []:=rfl
theorem zE{h:Addr}{H:Hp}:∀{tr:Tr} {p:Addr},iS H tr p->tr.ok->∃x d1 ds v1 vs,H p=some (.tup (.str x::v1::vs))/\vs.length<=2/\x.length<=100/\Rep h H d1 v1/\dq h H ds vs/\(x≠Str.ofString "ask"->∃(q:Addr) (s:List Int),v1=.ref q/\H q=some (.tup (List.map V.int s))/\s.length<=100)
 | .clash s,p,⟨q,e,f⟩,k=>⟨_,_,[],_,[],e,by decide,by decide +kernel,gM f (cq k (by decide)),ju,λ_=>⟨q,s,rfl,f,k⟩⟩
 | .peace s,p,⟨q,e,f⟩,k=>⟨_,_,[],_,[],e,by decide,by decide +kernel,gM f (cq k (by decide)),ju,λ_=>⟨q,s,rfl,f,k⟩⟩
 | .ask m a b,p,⟨q,r,e,ha,hb⟩,k=>⟨_,.int m,[a.dt,b.dt],_,_,e,ib rfl,by decide +kernel,rfl,cv (iS.rep ha k.1) (cv (iS.rep hb k.2) ju),λz=>absurd rfl z⟩
theorem wt{a b:V}{vs:List V}:¬(HT.dE (a::b::vs).length 0 (some 1)=0/\HT.dE (a::b::vs).length (a::b::vs).length none=(a::b::vs).length):=λz=>by
 have z1:(if (1:Int)<0 then ((1:Int)+((a::b::vs).length:Int)).toNat else min (1:Int).toNat (a::b::vs).length)=0:=z.1
 rw[aO (by decide),cR]at z1
 have:(1:Int).toNat=1:=rfl
 omega
theorem Ec{a b:V}{vs:List V}:¬(HT.dE (a::b::vs).length 0 none=0/\HT.dE (a::b::vs).length (a::b::vs).length (some (-1))=(a::b::vs).length):=λz=>by
 have z1:(if (-1:Int)<0 then ((-1:Int)+((a::b::vs).length:Int)).toNat else min (-1:Int).toNat (a::b::vs).length)=(a::b::vs).length:=z.2
 rw[aR (by decide),cR]at z1
 omega
theorem rm{h:Addr}{H:Hp}{ds:List Dt}{vs:List V}(r:dq h H ds vs)(lo hi:Option Int):∃es,dq h H es (gY vs lo hi):=⟨_,(r.drop (HT.dE vs.length 0 lo)).take (HT.dE vs.length vs.length hi-HT.dE vs.length 0 lo)⟩
theorem iS.tup{H:Hp}:∀{tr:Tr} {p:Addr},iS H tr p->∃x v vs,H p=some (.tup (.str x::v::vs))/\vs.length<=2
 | .clash s,p,⟨q,e,f⟩=>⟨_,_,_,e,ib rfl⟩
 | .peace s,p,⟨q,e,f⟩=>⟨_,_,_,e,ib rfl⟩
 | .ask m a b,p,⟨q,r,e,ha,hb⟩=>⟨_,_,_,e,ib rfl⟩
def Gy:Sp:=λvs H Q _=>∃h U C Pc p hl ll,vs=[.ref h,.ref U,.ref C,.ref Pc,.ref p,.ref hl,.ref ll]/\∃(W:List Int) (cs ps:List (List Int)) (tr:Tr) (hs ls:List Int),cj H h/\oa H U C Pc W cs ps/\iS H tr p/\tr.ok/\H hl=some (.lst (List.map V.int hs))/\H ll=some (.lst (List.map V.int ls))/\hs.length<=60/\ls.length<=60/\0<cs.length+ps.length/\
 ∀v d H',Dr h H H'->Rep h H' d v->Q v H'
theorem DX(T:Txt K mg t):cE P w K mg base jJ 4 t.kQ t.kK ["_law_hand_here","_law_whole","_law_clashes","_law_peaces","_law_node","_law_held","_law_lacked"] Gy:=by
 have ay:=ie (P:=P) (w:=w) (base:=base) T
 refine T.oQ.nL dC (λvs H Q E h=>?_) (λeF A outer s H vs Q E hr h hc hf=>?_)
 ·obtain⟨h,U,C,Pc,z,y,x,rfl,_⟩:=h;rfl
 obtain⟨h,U,C,Pc,p,hl,ll,rfl,W,cs,ps,tr,hs,ls,hd,rd,ta,tok,rV,rT,lh,l9,l0,q⟩:=h
 have hu:=ia hr
 have yu:=hr.eR
 refine⟨_,(by apply ak;exact(aH hc dC.nd hf 7 (by decide +kernel) (aq ay hr.mono (aX hc) T.aC T.aA.kp T.aD .nil aI (ae (ai hc 0) (ae ah ag))));apply ak;exact(aH hc dC.nd hf 8 (by decide +kernel) (aF gx ah (az (Bs hr.hd) (aX hc) T.vQ QH (ae (aF eU (aV (ae ah ag)) (bQ kO (aX hc) T.gq kP (ae (ai hc 1) ag))) ag))));apply ak;exact(aH hc dC.nd hf 9 (by decide +kernel) (aF eU (bI hc ["_law_one"] [] rfl (by decide +kernel) (dv (ai hc 2)) (λ_ hc=>ic hc (by decide +kernel) 0 (by decide +kernel)) (λ_ _=>bV) (λ_ hc=>(aY (ae aZ (ae (ai hc 0) ag))))) (bI hc ["_law_one"] [] rfl (by decide +kernel) (dv (ai hc 3)) (λ_ hc=>ic hc (by decide +kernel) 0 (by decide +kernel)) (λ_ _=>bV) (λ_ hc=>(aY (ae aZ (ae (ai hc 0) ag)))))));apply ak;exact(aW (aE rE (ai hc 7) ah (aN _)) (by exact au (aG (aB cP (ai hc 9) (aq ay hr.mono (aX hc) T.aC T.aA.kp T.aD .nil aI (ae (ai hc 0) (ae (az bh (aX hc) T.bY cA (ae (ai hc 9) ag)) ag))) (λ_ _=>rfl)))) aJ);apply ak;exact(aW (aE cS (ai hc 7) ah (aN _)) (by exact au (aG (aY (ae (aB cP (aV (ae aZ (ae aZ ag))) (aq ay hr.mono (aX hc) T.aC T.aA.kp T.aD .nil aI (ae (ai hc 0) (ae ah ag))) (λ_ _=>rfl)) (ae (bQ gQ (aX hc) T.eG il (ae (az yM (aX hc) T.lS FN (ae (ai hc 5) ag)) ag)) ag))))) aJ);apply ak;exact(aW (aE cS (ai hc 7) ah (aN _)) (by exact au (aG (aY (ae aZ (ae (bQ gQ (aX hc) T.eG il (ae (bI hc ["_law_member"] [6] rfl (by decide +kernel) (fh (ai hc 1)) (λ_ hc=>ic hc (by decide +kernel) 0 (by decide +kernel)) (λ_ hc=>dB (aE tR (ai hc 0) (ai hc 1) (by with_unfolding_all rfl))) (λ_ hc=>(ai hc 0))) ag)) ag))))) aJ);apply ak;exact(aW (gj (jc (aE cS (ai hc 7) ah (aN _)) (gK (aE lA (az bh (aX hc) T.bY cA (ae (aF eU (ai hc 5) (ai hc 6)) ag)) ah (aN _))))) (by exact au (aG (aY (ae aZ (ae (aB cP (aF eU (ai hc 5) (ai hc 6)) (aq ay hr.mono (aX hc) T.aC T.aA.kp T.aD .nil aI (ae (ai hc 0) (ae (az bh (aX hc) T.bY cA (ae (aF eU (ai hc 5) (ai hc 6)) ag)) ag))) (λ_ _=>rfl)) (ae (ai hc 4) (ae (ai hc 4) ag))))))) aJ);apply ak;exact(aW (aE cS (ai hc 7) ah (aN _)) (by apply ak;exact(aH hc dC.nd hf 10 (by decide +kernel) (aF eU (aF eU (aV (ae (ai hc 8) ag)) (bI hc ["_law_one"] [] rfl (by decide +kernel) (fh (ai hc 1)) (λ_ hc=>ic hc (by decide +kernel) 0 (by decide +kernel)) (λ_ _=>bV) (λ_ hc=>(aF uU (ai hc 0) ah)))) (bI hc ["_law_one"] [] rfl (by decide +kernel) (fh (ai hc 1)) (λ_ hc=>ic hc (by decide +kernel) 0 (by decide +kernel)) (λ_ _=>bV) (λ_ hc=>(aF gx (ai hc 0) ah)))));exact au (aG (aY (ae aZ (ae (aB cP (ai hc 10) (aq ay hr.mono (aX hc) T.aC T.aA.kp T.aD .nil aI (ae (ai hc 0) (ae (az bh (aX hc) T.bY cA (ae (ai hc 10) ag)) ag))) (λ_ _=>rfl)) (ae (ai hc 4) (ae (ai hc 4) ag))))))) aJ);apply ak;exact(aW (aE cS (ai hc 7) ah (aN _)) (by exact au (aG (aY (ae aZ (ae (aB cP (aV (ae cy (ae cy (ae qy (ae aZ (ae (aV (ae ah ag)) (ae z9 ag))))))) (aq ay hr.mono (aX hc) T.aC T.aA.kp T.aD .nil aI (ae (ai hc 0) (ae ah ag))) (λ_ _=>rfl)) (ae (ai hc 4) (ae (ai hc 4) ag))))))) aJ);apply ak;exact(aW (aE cS (ai hc 7) ah (aN _)) (by exact au (aG (aB cP (aV (ae (bQ kO (aX hc) T.gq kP (ae (ai hc 4) ag)) (ae qy (ae (aY ag) (ae aZ (ae cy (ae (aY (ae (ai hc 4) ag)) (ae (aY (ae (aB cx (ai hc 4) ah (λ_ _=>rfl)) ag)) (ae (aV (ae (ai hc 4) ag)) ag))))))))) (aq ay hr.mono (aX hc) T.aC T.aA.kp T.aD .nil aI (ae (ai hc 0) (ae ah ag))) (λ_ _=>rfl)))) aJ);apply ak;exact(aW (aE cS (ai hc 7) ah (aN _)) (by apply ak;exact(aH hc dC.nd hf 10 (by decide +kernel) (aV (ae (aF gN (ai hc 4) (aY (ae ah ag))) (ae (iu CQ (ai hc 4) jO (jN (JH JM ah))) (ae (aF gN (aY (ae aZ ag)) (iu CQ (ai hc 4) (jN ah) jO)) (ae (aF gN (aY (ae aZ ag)) (iu CQ (ai hc 4) (jN ah) jO)) ag))))));exact au (aG (aB cP (aF eU (ai hc 10) (aV (ae (aF gN (aY (ae qy ag)) (iu CQ (ai hc 4) (jN ah) jO)) ag))) (aq ay hr.mono (aX hc) T.aC T.aA.kp T.aD .nil aI (ae (ai hc 0) (ae ah ag))) (λ_ _=>rfl)))) aJ);apply ak;exact(aW (aE cS (ai hc 7) ah (aN _)) (by exact au (aG (aY (ae (aB cx (ai hc 4) ah (λ_ _=>rfl)) (ae (aB cP (aV (ae (bQ kO (aX hc) T.gq kP (ae (ai hc 1) ag)) (ae (aY (ae cy ag)) (ae (aY (ae ah (ae ah ag))) (ae qy (ae (aY (ae (aV ag) ag)) ag)))))) (aq ay hr.mono (aX hc) T.aC T.aA.kp T.aD .nil aI (ae (ai hc 0) (ae ah ag))) (λ_ _=>rfl)) ag))))) aJ);apply ak;exact(aW (gj (jc (aE cS (ai hc 7) ah (aN _)) (gK (aE tS (aB cx (ai hc 4) ah (λ_ _=>rfl)) aZ (aN _))))) (by exact au (aG (aY (ae (aB cx (ai hc 4) ah (λ_ _=>rfl)) (ae (aF gN (aB cx (ai hc 4) ah (λ_ _=>rfl)) (aY (ae (ai hc 8) ag))) ag))))) aJ);apply ak;exact(aW (aE cS (ai hc 7) ah (aN _)) (by exact au (aG (aF gN (aY (ae (aB cP (aV (ae aZ (ae aZ (ae aZ (ae aZ ag))))) (aq ay hr.mono (aX hc) T.aC T.aA.kp T.aD .nil aI (ae (ai hc 0) (ae ah ag))) (λ_ _=>rfl)) ag)) (iu CQ (ai hc 4) (jN ah) jO)))) aJ);exact au (aG (aY (ae (aB cP (aV (ae aZ (ae aZ (ae aZ ag)))) (aq ay hr.mono (aX hc) T.aC T.aA.kp T.aD .nil aI (ae (ai hc 0) (ae ah ag))) (λ_ _=>rfl)) (ae (aB cx (ai hc 4) ah (λ_ _=>rfl)) ag))))),?_⟩
 walk_at "r"
 refine aU hd Dr.refl (by decide) (by decide) λway H1 w0 w1 d1 k1=>?_
 walk_at "r"
 have Q6:=FH hd d1 rd
 have ta1:=ta.mono (yB d1 hd)
 have Wr:=d1.aK hd
 have Lx:H1 hl=some (.lst (List.map V.int hs)):=d1.keep _ _ (mh hd rV) rV
 have Lv:H1 ll=some (.lst (List.map V.int ls)):=d1.keep _ _ (mh hd rT) rT
 clear k1
 obtain⟨bc,bp,Jq,RM,S5,RC,sp1⟩:=Q6.at_
 have lw:=rd.lw
 have lc:=rd.lc
 have lp:=rd.lp
 refine⟨by decide,λp1 mq=>?_⟩
 have s1:=ao mq (.lst [V.int 0])
 have e1:=aj (H:=H1) (a:=p1) (o:=.lst [V.int 0])
 generalize upd H1 p1 (.lst [V.int 0])=H2 at s1 e1 ⊢
 refine⟨_,s1 _ _ Jq,λp2 ka=>?_⟩
 have s2:=ao ka (.lst (List.map V.int W))
 generalize upd H2 p2 (.lst (List.map V.int W))=H3 at s2 ⊢
 refine⟨_,s2 _ _ e1,by rw[aP];exact qH (aS (by show 1+W.length<=1000;omega)),λp3 nX=>?_⟩
 have s3:=ao nX (.lst ([V.int 0]++List.map V.int W))
 generalize upd H3 p3 (.lst ([V.int 0]++List.map V.int W))=H4 at s3 ⊢
 refine⟨0::W,rfl,by simp,λfar _=>?_⟩
 have MP:=(s1.trans s2).trans s3
 have d4:=d1.on MP
 have BP:=d4.aK hd
 have N2:=Q6.mono MP
 have Z1:=ta1.mono (aT MP)
 have Es:=MP _ _ Lx
 have Eo:=MP _ _ Lv
 clear s1 s2 s3 MP e1 mq ka nX Jq RM S5 RC sp1
 obtain⟨bc,bp,hU4,L1,NQ,hP4,NK⟩:=N2.at_
 walk_at "r"
 refine⟨⟨_,bB L1⟩,?_⟩
 refine fk (zs:=List.map V.ref bc) (λj=>cs[j]?.map Tr.clash) (λ_=>Bx) (λ_ _ _ _ _ s r=>r.mono (aT s)) (λ_ _ _ _ _ k _ r=>r.mono (gL k)) L1 (by rw[aP,NQ.1];omega) (λDD c H5 j z yes no hj s5 zP zO cD nY=>?_) (λD5 H5 Iz s5 P8 P7 Ke=>?_)
 ·obtain⟨b,eb,rfl⟩:=rq hj
  have Rr:j<bc.length:=(fP.mp eb).1
  have es:cs[j]?=some (cs[j]'(by have:=NQ.1;omega)):=bw _
  have hb5:=s5 _ _ (NQ.2 j b _ eb es)
  rw[es]at cD
  walk_at "rc"
  walk_at "r"
  exact⟨by decide,λq1 HN=>cD _ rfl _ _ (ao HN _) ⟨q1,rfl,b,aj,ao HN _ _ _ hb5⟩⟩
 rw[aP,NQ.1,jF (l:=cs) (g:=Tr.clash) λk hk=>by rw[bw hk];rfl]at Ke
 have WR:=s5 _ _ hP4
 have Z6:=NK.mono (aT s5)
 walk_at "r"
 refine⟨⟨_,bB WR⟩,?_⟩
 refine fk (zs:=List.map V.ref bp) (λj=>ps[j]?.map Tr.peace) (λ_=>Bx) (λ_ _ _ _ _ s r=>r.mono (aT s)) (λ_ _ _ _ _ k _ r=>r.mono (gL k)) WR (by rw[aP,NK.1];omega) (λDD c H6 j z yes no hj s6 zP zO cD nY=>?_) (λD6 H6 JL s6 hD6 Ib Q5=>?_)
 ·obtain⟨b,eb,rfl⟩:=rq hj
  have Rr:j<bp.length:=(fP.mp eb).1
  have es:ps[j]?=some (ps[j]'(by have:=NK.1;omega)):=bw _
  have hb6:=s6 _ _ (Z6.2 j b _ eb es)
  rw[es]at cD
  walk_at "rc"
  walk_at "r"
  exact⟨by decide,λq1 HN=>cD _ rfl _ _ (ao HN _) ⟨q1,rfl,b,aj,ao HN _ _ _ hb6⟩⟩
 rw[aP,NK.1,jF (l:=ps) (g:=Tr.peace) λk hk=>by rw[bw hk];rfl]at Q5
 have P6:=s6 _ _ P7
 have N1:=iB (aT s6) Ke
 have l5:=Ke.1
 have l6:=Q5.1
 rw[aP]at l5 l6
 repeat (first | walk_at "rl" | simp only[P6,Ib])
 have IW:=s5.trans s6
 refine⟨by rw[qR];omega,λE hE=>?_⟩
 have sE:=ao hE (.lst (Iz++JL))
 have eE:=aj (H:=H6) (a:=E) (o:=.lst (Iz++JL))
 have MT:g7 Bx (upd H6 E (.lst (Iz++JL))) (Iz++JL) (cs.map Tr.clash++ps.map Tr.peace):=by
  refine⟨by rw[dR,dR,aP,aP];omega,λi v d h1 h2=>?_⟩
  by_cases hi:i<Iz.length
  ·rw[ou hi]at h1
   rw[ou (by rw[aP];omega)]at h2
   exact(N1.2 i v d h1 h2).mono (aT sE)
  ·rw[lQ (by omega)]at h1
   rw[lQ (by rw[aP];omega),aP,<-l5]at h2
   exact(Q5.2 _ v d h1 h2).mono (aT sE)
 have Kb:=IW.trans sE
 have RJ:E≠h:=(d4.on IW).aK hd |>.ne hE
 generalize upd H6 E (.lst (Iz++JL))=H7 at sE eE MT Kb ⊢
 have d7:=d4.on Kb
 have M7:=d7.aK hd
 have Td:=N2.mono Kb
 have Z0:=Z1.mono (aT Kb)
 have sL:=Kb _ _ Es
 have wI:=Kb _ _ Eo
 have lE:(Iz++JL).length=cs.length+ps.length:=by rw[dR];omega
 generalize Iz++JL=vs at eE MT lE
 clear s5 s6 IW sE Kb Ke Q5 N1 P7 Ib P6 WR Z6 hU4 L1 NQ hP4 NK N2 Z1 Es Eo BP d4
 obtain⟨bc,bp,WL,Nh,sc7,Nb,sp7⟩:=Td.at_
 have okE:∀tr∈cs.map Tr.clash++ps.map Tr.peace,tr.ok:=λtr ht=>by
  rcases fu.mp ht with ht | ht
  ·obtain⟨s,hs,rfl⟩:=oi.mp ht
   exact(rd.gc s hs).2
  ·obtain⟨s,hs,rfl⟩:=oi.mp ht
   exact(rd.gp s hs).2
 have rn7:Rep h H7 tr.dt (.ref p):=Z0.rep tok
 have kp:∀{H8:Hp},Dr h H7 H8->Kp h H7 H8:=λd=>Kp.dr M7 d
 have sz:∀n:Nat,n<=1000->n<=sizeLine:=λn hn=>by rw[qR];omega
 have fin:∀{H9:Hp} {p4:Addr} {ds:List Dt} {vs:List V},Dr h H H9->H9 p4=none->dq h H9 ds vs->vs.length<=900->Q (.ref p4) (upd H9 p4 (.tup vs)):=λ{H9 p4 ds vs} d9 h4 r l=>q _ (.tup ds) _ (d9.new h4) ⟨p4,vs,rfl,aj,l,r.mono (Kp.of (ao h4 _))⟩
 have nk:∀{H9:Hp} (z:Str),z.length<=100->Rep h H9 (.str z) (.str z):=λz lz=>⟨rfl,lz⟩
 walk_at "r"
 refine bu (λ_=>?_) λ_=>?_
 ·refine⟨_,eE,aU hd d7 (by omega) (by
   have:(vs.length:Int)<=1800:=by omega
   exact Int.lt_of_le_of_lt this (by decide)) λx H8 x0 x1 d8 k8=>⟨x,rfl,_,by rw[k8 E RJ];exact eE,?_⟩⟩
  obtain⟨v,ev,ev2⟩:=Mu x0 x1
  have Ox:x.toNat<(cs.map Tr.clash++ps.map Tr.peace).length:=by rw[dR,aP,aP];omega
  obtain⟨e,rfl,te⟩:=MT.2 x.toNat _ _ ev2 (bw Ox)
  refine⟨_,ev,q _ _ H8 d8 ((te.mono λb xs e'=>by rw[k8 b (M7.md e')];exact e').rep (okE _ (ny Ox)))⟩
 repeat (first | walk_at "rl" | simp only[sL])
 refine bu (λ_=>?_) λ_=>?_
 ·refine⟨by decide,λp8 rR=>?_⟩
  have V6:p8≠h:=M7.ne rR
  have t8:=ao rR (.lst [V.str (Str.ofString "clash"),V.str (Str.ofString "peace")])
  refine aU hd (d7.new rR) (by decide) (by decide) λx H9 x0 x1 d9 k9=>⟨x,rfl,_,by rw[k9 p8 V6,aj],?_⟩
  obtain⟨z,ez,lz⟩:∃z:Str,kb [V.str (Str.ofString "clash"),V.str (Str.ofString "peace")] x=some (.str z)/\z.length<=100:=by
   have hi:x=0\/x=1:=by omega
   rcases hi with rfl | rfl
   ·exact⟨_,rfl,by decide +kernel⟩
   ·exact⟨_,rfl,by decide +kernel⟩
  have Wh:H9 hl=some (.lst (List.map V.int hs)):=by rw[k9 hl (mh hd rV)];exact t8 _ _ sL
  refine⟨_,ez,hs,Wh,by omega,λms pm _ Og L8 l vm=>?_⟩
  have lm:=pm.length_eq
  have BL:=ao L8 (.lst (List.map V.int ms))
  generalize upd H9 Og (.lst (List.map V.int ms))=lK at BL vm ⊢
  have Gx:=ao vm (.tup (List.map V.int ms))
  have Jz:=aj (H:=lK) (a:=l) (o:=.tup (List.map V.int ms))
  generalize upd lK l (.tup (List.map V.int ms))=si at Gx Jz ⊢
  refine⟨by decide,λRa L5=>fin ((d9.on BL).on Gx) L5 (cv (nk z lz) (cv (gM Jz (by omega)) ju)) (ib rfl)⟩
 repeat (first | walk_at "rl" | simp only[sL])
 refine bu (λ_=>?_) λ_=>?_
 ·refine⟨⟨_,bR WL⟩,?_⟩
  refine fK (zs:=List.map V.int W) (λk=>if (W[k]?.any λm=>!decide (m∈ls)) then W[k]? else none) (λ_ _ v d=>v=V.int d) (λ_ _ _ _ _ _ r=>r) (λ_ _ _ _ _ _ _ r=>r) WL (by rw[aP];omega) (λDD c H2 j z yes no hj s2 zP zO cD nY=>?_) (λL H8 us s8 hL hL8 S9=>?_)
  ·obtain⟨m,em,rfl⟩:=int_at hj
   rw[em]at cD nY
   have Jo:=s2 _ _ wI
   walk_at "rc"
   walk_at "r"
   refine⟨_,Jo,rfl,bW _,?_⟩
   rw[cz]
   by_cases hm:m∈ls
   ·rw[aO (by simpa using hm)]
    exact nY (aO (by simpa using hm)) _ λ_ _ e=>e
   ·rw[aR (by simpa using hm)]
    exact cD _ (aR (by simpa using hm)) _ _ (λ_ _ e=>e) rfl
  have ev:=oE S9
  rw[aP,nc (l:=W) (p:=λm=>!decide (m∈ls)) λk hk=>by rw[bw hk];rfl]at ev
  subst ev
  have lf:=nF (λm=>!decide (m∈ls)) W
  generalize (W.filter λm=>!decide (m∈ls))=os at hL8 lf
  refine⟨L,rfl,_,hL8,λl vm=>?_⟩
  have Gx:=ao vm (.tup (List.map V.int os))
  have Jz:=aj (H:=H8) (a:=l) (o:=.tup (List.map V.int os))
  generalize upd H8 l (.tup (List.map V.int os))=si at Gx Jz ⊢
  refine⟨by decide,λRa L5=>fin ((d7.on s8).on Gx) L5 (cv (nk _ (by decide +kernel)) (cv (gM Jz (by omega)) ju)) (ib rfl)⟩
 repeat (first | walk_at "rl" | simp only[sL,wI])
 rename_i R hR
 have rest:∀H8,bF H7 H8->R [some (.ref h),some (.ref U),some (.ref C),some (.ref Pc),some (.ref p),some (.ref hl),some (.ref ll),some (.int way),some (.int (1+far)),some (.ref E),none] H8:=λH8 s8=>by
  have d8:=d7.on s8
  have oT:=d8.aK hd
  have hU8:=s8 _ _ WL
  have aAi:=s8 _ _ sL
  have aAh:=s8 _ _ wI
  have rn8:=rn7.mono (Kp.of s8)
  have ta8:=Z0.mono (aT s8)
  have QK:∀{H9:Hp} {p4:Addr} {d:Dt} {v:V},Dr h H8 H9->H9 p4=none->Rep h H9 d v->Q (.ref p4) (upd H9 p4 (.tup [V.str (Str.ofString "ask"),v,V.ref p,V.ref p])):=λ{H9 p4 d v} d9 h4 r=>by
   have rn9:=rn8.mono (Kp.dr oT d9)
   exact fin (d8.trans d9) h4 (cv (nk _ (by decide +kernel)) (cv r (cv rn9 (cv rn9 ju)))) (ib rfl)
  obtain⟨x,d1',dsn,v1,Aa,rR,lvn,lx,r1,N0,K8⟩:=zE (h:=h) ta8 tok
  walk_at "r"
  refine bu (λ_=>?_) λ_=>?_
  ·walk_at "r"
   refine⟨by decide,λp1 mq=>?_⟩
   have t1:=ao mq (.lst [V.int (1+far)])
   have e1:=aj (H:=H8) (a:=p1) (o:=.lst [V.int (1+far)])
   generalize upd H8 p1 (.lst [V.int (1+far)])=H9 at t1 e1 ⊢
   have WK:=t1 _ _ hU8
   refine⟨⟨_,bR WK⟩,?_⟩
   refine fK (zs:=List.map V.int W) (λk=>W[k]?.map λm=>m-1) (λ_ _ v d=>v=V.int d) (λ_ _ _ _ _ _ r=>r) (λ_ _ _ _ _ _ _ r=>r) WK (by rw[aP];omega) (λDD c H2 j z yes no hj s2 zP zO cD nY=>?_) (λL10 lK aAe NX aAl P0 Ta=>?_)
   ·obtain⟨m,em,rfl⟩:=int_at hj
    rw[em]at cD
    walk_at "rc"
    walk_at "r"
    exact cD _ rfl _ _ (λ_ _ e=>e) rfl
   have ev:=oE Ta
   rw[aP,jF (l:=W) (g:=λm=>m-1) λk hk=>by rw[bw hk];rfl]at ev
   subst ev
   refine⟨L10,rfl,_,NX _ _ e1,_,P0,sz _ (by rw[aP,aP];show 1+W.length<=1000;omega),λp2 ka=>?_⟩
   have ea:[V.int (1+far)]++List.map V.int (W.map λm=>m-1)=List.map V.int ((1+far)::W.map λm=>m-1):=rfl
   rw[ea]
   have la:((1+far)::W.map λm=>m-1).length=W.length+1:=by rw[cR,aP]
   generalize (1+far)::(W.map λm=>m-1)=A1 at la
   have t2:=ao ka (.lst (List.map V.int A1))
   have e2:=aj (H:=lK) (a:=p2) (o:=.lst (List.map V.int A1))
   generalize upd lK p2 (.lst (List.map V.int A1))=si at t2 e2 ⊢
   have Bi:=t2 _ _ (NX _ _ WK)
   refine⟨⟨_,bR Bi⟩,?_⟩
   refine fK (zs:=List.map V.int W) (λk=>W[k]?.map λm=>m+1) (λ_ _ v d=>v=V.int d) (λ_ _ _ _ _ _ r=>r) (λ_ _ _ _ _ _ _ r=>r) Bi (by rw[aP];omega) (λDD c H2 j z yes no hj s2 zP zO cD nY=>?_) (λL12 qd aAd pP aAk PX S'=>?_)
   ·obtain⟨m,em,rfl⟩:=int_at hj
    rw[em]at cD
    walk_at "rc"
    walk_at "r"
    exact cD _ rfl _ _ (λ_ _ e=>e) rfl
   have ev:=oE S'
   rw[aP,jF (l:=W) (g:=λm=>m+1) λk hk=>by rw[bw hk];rfl]at ev
   subst ev
   refine⟨L12,rfl,_,pP _ _ e2,_,PX,sz _ (by rw[aP,aP,aP];omega),λp3 nX=>?_⟩
   rw[<-dc]
   have lb:(A1++W.map λm=>m+1).length<=201:=by rw[dR,aP];omega
   have lb0:0<(A1++W.map λm=>m+1).length:=by rw[dR];omega
   generalize (A1++W.map λm=>m+1)=A2 at lb lb0
   have RW:Dr h H8 qd:=(((Dr.refl.on t1).on NX).on t2).on pP
   have n3:=(RW.aK oT).ne nX
   have t3:=ao nX (.lst (List.map V.int A2))
   have e3:=aj (H:=qd) (a:=p3) (o:=.lst (List.map V.int A2))
   generalize upd qd p3 (.lst (List.map V.int A2))=BZ at t3 e3 ⊢
   repeat (first | walk_at "rl" | simp only[e3])
   refine aU oT (RW.on t3) (by omega) (by omega) λi vI i0 i1 Qj Gf=>⟨i,rfl,_,by rw[Gf p3 n3];exact e3,?_⟩
   have hi:i.toNat<A2.length:=by omega
   refine⟨.int A2[i.toNat],?_,by decide,λp4 h4=>QK (d:=.int _) Qj h4 rfl⟩
   have:=bH (xs:=List.map V.int A2) (j:=i.toNat) (v:=.int A2[i.toNat]) (by rw[fO,bw hi];rfl)
   rw[y0 i0]at this
   exact this
  walk_at "r"
  refine bu (λ_=>?_) λ_=>?_
  ·refine⟨by decide,λp1 mq p2 ka=>⟨by decide,λp3 nX=>?_⟩⟩
   have n1:=oT.ne mq
   have t1:=ao mq (.lst [V.int 1])
   have e1:=aj (H:=H8) (a:=p1) (o:=.lst [V.int 1])
   generalize upd H8 p1 (.lst [V.int 1])=H9 at t1 e1 ka nX ⊢
   have n2:=((d8.on t1).aK hd).ne ka
   have t2:=ao ka (.dK [])
   have e2:=aj (H:=H9) (a:=p2) (o:=.dK [])
   generalize upd H9 p2 (.dK [])=lK at t2 e2 nX ⊢
   have n3:=(((d8.on t1).on t2).aK hd).ne nX
   have t3:=ao nX (.lst [V.bl true,V.bl false,V.non,V.str (Str.ofString "1"),V.ref p1,V.ref p2])
   have e3:=aj (H:=lK) (a:=p3) (o:=.lst [V.bl true,V.bl false,V.non,V.str (Str.ofString "1"),V.ref p1,V.ref p2])
   generalize upd lK p3 (.lst [V.bl true,V.bl false,V.non,V.str (Str.ofString "1"),V.ref p1,V.ref p2])=si at t3 e3 ⊢
   refine aU oT (((Dr.refl.on t1).on t2).on t3) (by decide) (by decide) λi qd i0 i1 RW HB=>⟨i,rfl,_,by rw[HB p3 n3];exact e3,?_⟩
   have g1:qd p1=some (.lst [V.int 1]):=by rw[HB p1 n1];exact t3 _ _ (t2 _ _ e1)
   have g2:qd p2=some (.dK []):=by rw[HB p2 n2];exact t3 _ _ e2
   obtain⟨v,d,ev,rv⟩:∃v d,kb [V.bl true,V.bl false,V.non,V.str (Str.ofString "1"),V.ref p1,V.ref p2] i=some v/\Rep h qd d v:=by
    have hi:i=0\/i=1\/i=2\/i=3\/i=4\/i=5:=by omega
    rcases hi with rfl | rfl | rfl | rfl | rfl | rfl
    ·exact⟨_,.bl true,rfl,rfl⟩
    ·exact⟨_,.bl false,rfl,rfl⟩
    ·exact⟨_,.non,rfl,rfl⟩
    ·exact⟨_,.str _,rfl,nk _ (by decide +kernel)⟩
    ·exact⟨_,.lst [.int 1],rfl,p1,_,rfl,n1,g1,iG [1]⟩
    ·exact⟨_,.dct,rfl,p2,rfl,n2,g2⟩
   exact⟨v,ev,by decide,λp4 h4=>QK RW h4 rv⟩
  walk_at "r"
  refine bu (λ_=>?_) λ_=>?_
  ·refine⟨_,rR,λl vm=>⟨by decide,λp1 mq=>⟨by decide,λp2 ka=>?_⟩⟩⟩
   have n0:=oT.ne vm
   have t0:=ao vm (.lst (.str x::v1::Aa))
   have e0:=aj (H:=H8) (a:=l) (o:=.lst (.str x::v1::Aa))
   generalize upd H8 l (.lst (.str x::v1::Aa))=H9 at t0 e0 mq ka ⊢
   have t1:=ao mq (.tup [])
   have e1:=aj (H:=H9) (a:=p1) (o:=.tup [])
   generalize upd H9 p1 (.tup [])=lK at t1 e1 ka ⊢
   have t2:=ao ka (.tup [V.ref p])
   have e2:=aj (H:=lK) (a:=p2) (o:=.tup [V.ref p])
   generalize upd lK p2 (.tup [V.ref p])=si at t2 e2 ⊢
   refine⟨_,t2 _ _ (t1 _ _ (t0 _ _ rR)),.str x,bH (j:=0) rfl,by decide,λp3 nX=>⟨by decide,λp4 Be=>⟨by decide,λp5 xg=>?_⟩⟩⟩
   have t3:=ao nX (.tup [V.str x])
   have e3:=aj (H:=si) (a:=p3) (o:=.tup [V.str x])
   generalize upd si p3 (.tup [V.str x])=qd at t3 e3 Be xg ⊢
   have Il:Dr h H8 qd:=(((Dr.refl.on t0).on t1).on t2).on t3
   have n4:=(Il.aK oT).ne Be
   have t4:=ao Be (.lst [V.ref p])
   have e4:=aj (H:=qd) (a:=p4) (o:=.lst [V.ref p])
   generalize upd qd p4 (.lst [V.ref p])=BZ at t4 e4 xg ⊢
   have n5:=((Il.on t4).aK oT).ne xg
   have t5:=ao xg (.lst [V.ref l,V.non,V.ref p1,V.str (Str.ofString "peace"),V.bl true,V.ref p2,V.ref p3,V.ref p4])
   have e5:=aj (H:=BZ) (a:=p5) (o:=.lst [V.ref l,V.non,V.ref p1,V.str (Str.ofString "peace"),V.bl true,V.ref p2,V.ref p3,V.ref p4])
   generalize upd BZ p5 (.lst [V.ref l,V.non,V.ref p1,V.str (Str.ofString "peace"),V.bl true,V.ref p2,V.ref p3,V.ref p4])=vI at t5 e5 ⊢
   refine aU oT ((Il.on t4).on t5) (by decide) (by decide) λi oO i0 i1 yC Ba=>⟨i,rfl,_,by rw[Ba p5 n5];exact e5,?_⟩
   have nr:=((Il.on t4).on t5).aK oT
   have kt:∀{b:Addr} {xs:List V},vI b=some (.tup xs)->oO b=some (.tup xs):=λ{b xs} e=>by rw[Ba b (nr.md e)];exact e
   have k8:=Kp.dr oT yC
   have g0:oO l=some (.lst (.str x::v1::Aa)):=by rw[Ba l n0];exact t5 _ _ (t4 _ _ (t3 _ _ (t2 _ _ (t1 _ _ e0))))
   have g1:oO p1=some (.tup []):=kt (t5 _ _ (t4 _ _ (t3 _ _ (t2 _ _ e1))))
   have g2:oO p2=some (.tup [V.ref p]):=kt (t5 _ _ (t4 _ _ (t3 _ _ e2)))
   have g3:oO p3=some (.tup [V.str x]):=kt (t5 _ _ (t4 _ _ e3))
   have g4:oO p4=some (.lst [V.ref p]):=by rw[Ba p4 n4];exact t5 _ _ e4
   have rn:=rn8.mono k8
   obtain⟨v,d,ev,rv⟩:∃v d,kb [V.ref l,V.non,V.ref p1,V.str (Str.ofString "peace"),V.bl true,V.ref p2,V.ref p3,V.ref p4] i=some v/\Rep h oO d v:=by
    have hi:i=0\/i=1\/i=2\/i=3\/i=4\/i=5\/i=6\/i=7:=by omega
    rcases hi with rfl | rfl | rfl | rfl | rfl | rfl | rfl | rfl
    ·exact⟨_,.lst (.str x::d1'::dsn),rfl,l,_,rfl,n0,g0,cv (nk x lx) (cv (r1.mono k8) (N0.mono k8))⟩
    ·exact⟨_,.non,rfl,rfl⟩
    ·exact⟨_,.tup [],rfl,p1,_,rfl,g1,lq _,ju⟩
    ·exact⟨_,.str _,rfl,nk _ (by decide +kernel)⟩
    ·exact⟨_,.bl true,rfl,rfl⟩
    ·exact⟨_,.tup [tr.dt],rfl,p2,_,rfl,g2,ib rfl,cv rn ju⟩
    ·exact⟨_,.tup [.str x],rfl,p3,_,rfl,g3,ib rfl,cv (nk x lx) ju⟩
    ·exact⟨_,.lst [tr.dt],rfl,p4,_,rfl,n4,g4,cv rn ju⟩
   exact⟨v,ev,q v d oO (d8.trans yC) rv⟩
  walk_at "r"
  refine bu (λ_=>?_) λ_=>?_
  ·repeat (first | walk_at "rl" | simp only[rR])
   have S7:=cv (nk (H9:=H8) x lx) (cv r1 N0)
   have lN:(V.str x::v1::Aa).length<=4:=by rw[cR,cR];omega
   have lc1:=gO (V.str x::v1::Aa) (some 1) none
   have lc2:=gO (V.str x::v1::Aa) none (some (-1))
   obtain⟨Xs,Tc⟩:=rm S7 (some 1) none
   obtain⟨es2,Tb⟩:=rm S7 none (some (-1))
   have UW:=wt (a:=V.str x) (b:=v1) (vs:=Aa)
   have na2:=Ec (a:=V.str x) (b:=v1) (vs:=Aa)
   generalize (V.str x::v1::Aa)=nV at *
   refine⟨by decide,λp1 mq=>?_⟩
   have t1:=ao mq (.tup [V.int 1])
   generalize upd H8 p1 (.tup [V.int 1])=H9 at t1 ⊢
   refine⟨_,t1 _ _ rR,sz _ (by omega),λq1 lK t2 _ eq1=>⟨_,t2 _ _ (t1 _ _ rR),na2,λp3 nX=>?_⟩⟩
   have t3:=ao nX (.tup (gY nV none (some (-1))))
   have e3:=aj (H:=lK) (a:=p3) (o:=.tup (gY nV none (some (-1))))
   generalize upd lK p3 (.tup (gY nV none (some (-1))))=si at t3 e3 ⊢
   refine⟨by decide,λp4 Be=>?_⟩
   have t4:=ao Be (.tup [V.str (Str.ofString "Ask")])
   have e4:=aj (H:=si) (a:=p4) (o:=.tup [V.str (Str.ofString "Ask")])
   generalize upd si p4 (.tup [V.str (Str.ofString "Ask")])=qd at t4 e4 ⊢
   have ZX:=((t1.trans t2).trans t3).trans t4
   refine⟨_,ZX _ _ rR,UW,λp5 xg=>?_⟩
   have t5:=ao xg (.tup (gY nV (some 1) none))
   generalize upd qd p5 (.tup (gY nV (some 1) none))=BZ at t5 ⊢
   refine⟨_,t5 _ _ e4,sz _ (by show 1+_<=1000;omega),λq6 vI t6 _ eq6=>⟨by decide,λp7 V8=>?_⟩⟩
   have t7:=ao V8 (.tup [V.str (Str.ofString "")])
   have e7:=aj (H:=vI) (a:=p7) (o:=.tup [V.str (Str.ofString "")])
   generalize upd vI p7 (.tup [V.str (Str.ofString "")])=oO at t7 e7 ⊢
   have ZV:=((ZX.trans t5).trans t6).trans t7
   refine⟨_,ZV _ _ rR,UW,λp8' V7=>?_⟩
   have MK:=ao V7 (.tup (gY nV (some 1) none))
   generalize upd oO p8' (.tup (gY nV (some 1) none))=ZQ at MK ⊢
   refine⟨_,MK _ _ e7,sz _ (by show 1+_<=1000;omega),λq9 Gn t9 _ eq9=>⟨by decide,λOg Lk=>?_⟩⟩
   have u17:=(ZV.trans MK).trans t9
   have BL:=ao Lk (.lst [V.ref q1,V.ref p3,V.ref q6,V.ref q9])
   have Xz:=aj (H:=Gn) (a:=Og) (o:=.lst [V.ref q1,V.ref p3,V.ref q6,V.ref q9])
   generalize upd Gn Og (.lst [V.ref q1,V.ref p3,V.ref q6,V.ref q9])=JG at BL Xz ⊢
   have ZR:=u17.trans BL
   have V9:=ZR _ _ rR
   repeat (first | walk_at "rl" | simp only[Xz])
   refine⟨by decide,λRb Wb=>?_⟩
   have Gx:=ao Wb (.tup [V.non])
   have Jz:=aj (H:=JG) (a:=Rb) (o:=.tup [V.non])
   generalize upd JG Rb (.tup [V.non])=ZP at Gx Jz ⊢
   refine⟨_,Gx _ _ V9,UW,λRa Wa=>?_⟩
   have Si:=ao Wa (.tup (gY nV (some 1) none))
   generalize upd ZP Ra (.tup (gY nV (some 1) none))=Nm at Si ⊢
   refine⟨_,Si _ _ Jz,sz _ (by show 1+_<=1000;omega),λJa ZM t13 _ Xv=>⟨by decide,λp14 V'=>?_⟩⟩
   have Sh:=ao V' (.lst [V.ref Ja])
   generalize upd ZM p14 (.lst [V.ref Ja])=Nk at Sh ⊢
   have Cu:=((Gx.trans Si).trans t13).trans Sh
   refine⟨_,Cu _ _ Xz,sz _ (ib rfl),λQ9 O3=>?_⟩
   show q0 _ (upd Nk Q9 (.lst [V.ref q1,V.ref p3,V.ref q6,V.ref q9,V.ref Ja])) _ _
   have Ni:Dr h H8 Nk:=Dr.refl.on (ZR.trans Cu)
   have n15:=(Ni.aK oT).ne O3
   have Nv:=ao O3 (.lst [V.ref q1,V.ref p3,V.ref q6,V.ref q9,V.ref Ja])
   have e15:=aj (H:=Nk) (a:=Q9) (o:=.lst [V.ref q1,V.ref p3,V.ref q6,V.ref q9,V.ref Ja])
   generalize upd Nk Q9 (.lst [V.ref q1,V.ref p3,V.ref q6,V.ref q9,V.ref Ja])=QR at Nv e15 ⊢
   refine aU oT (Ni.on Nv) (by decide) (by decide) λi Nj i0 i1 d24 M3=>⟨i,rfl,_,by rw[M3 Q9 n15];exact e15,?_⟩
   have Pb:=(Ni.on Nv).aK oT
   have kt:∀{b:Addr} {xs:List V},QR b=some (.tup xs)->Nj b=some (.tup xs):=λ{b xs} e=>by rw[M3 b (Pb.md e)];exact e
   have k8:=Kp.dr oT d24
   have w18:=Cu.trans Nv
   have g1:=kt (w18 _ _ (BL _ _ (t9 _ _ (MK _ _ (t7 _ _ (t6 _ _ (t5 _ _ (t4 _ _ (t3 _ _ eq1)))))))))
   have g3:=kt (w18 _ _ (BL _ _ (t9 _ _ (MK _ _ (t7 _ _ (t6 _ _ (t5 _ _ (t4 _ _ e3))))))))
   have g6:=kt (w18 _ _ (BL _ _ (t9 _ _ (MK _ _ (t7 _ _ eq6)))))
   have g9:=kt (w18 _ _ (BL _ _ eq9))
   have g13:=kt (Nv _ _ (Sh _ _ Xv))
   have rN:=S7.mono k8
   have N5:=Tc.mono k8
   have r2':=Tb.mono k8
   obtain⟨v,d,ev,rv⟩:∃v d,kb [V.ref q1,V.ref p3,V.ref q6,V.ref q9,V.ref Ja] i=some v/\Rep h Nj d v:=by
    have hi:i=0\/i=1\/i=2\/i=3\/i=4:=by omega
    rcases hi with rfl | rfl | rfl | rfl | rfl
    ·exact⟨_,.tup _,rfl,q1,_,rfl,g1,by rw[dR];show _+1<=900;omega,rN.append (iG [1])⟩
    ·exact⟨_,.tup _,rfl,p3,_,rfl,g3,by omega,r2'⟩
    ·exact⟨_,.tup (.str _::Xs),rfl,q6,_,rfl,g6,by show(gY nV (some 1) none).length+1<=900;omega,cv (nk _ (by decide +kernel)) N5⟩
    ·exact⟨_,.tup (.str _::Xs),rfl,q9,_,rfl,g9,by show(gY nV (some 1) none).length+1<=900;omega,cv (nk _ (by decide +kernel)) N5⟩
    ·exact⟨_,.tup (.non::Xs),rfl,Ja,_,rfl,g13,by show(gY nV (some 1) none).length+1<=900;omega,cv rfl N5⟩
   exact⟨v,ev,q v d Nj (d8.trans d24) rv⟩
  walk_at "r"
  refine bu (λ_=>?_) λ_=>?_
  ·refine⟨_,rR,.str x,bH (j:=0) rfl,_,hU8,λl vm=>⟨by decide,λp1 mq=>⟨by decide,λp2 ka=>⟨by decide,λp3 nX=>?_⟩⟩⟩⟩
   have n0:=oT.ne vm
   have t0:=ao vm (.lst (List.map V.int W))
   have e0:=aj (H:=H8) (a:=l) (o:=.lst (List.map V.int W))
   generalize upd H8 l (.lst (List.map V.int W))=H9 at t0 e0 mq ka nX ⊢
   have t1:=ao mq (.tup [V.bl true])
   have e1:=aj (H:=H9) (a:=p1) (o:=.tup [V.bl true])
   generalize upd H9 p1 (.tup [V.bl true])=lK at t1 e1 ka nX ⊢
   have t2:=ao ka (.tup [V.int 1,V.int 0])
   have e2:=aj (H:=lK) (a:=p2) (o:=.tup [V.int 1,V.int 0])
   generalize upd lK p2 (.tup [V.int 1,V.int 0])=si at t2 e2 nX ⊢
   have Mp:Dr h H8 si:=((Dr.refl.on t0).on t1).on t2
   have n3:=(Mp.aK oT).ne nX
   have t3:=ao nX (.lst [])
   have e3:=aj (H:=si) (a:=p3) (o:=.lst [])
   generalize upd si p3 (.lst [])=qd at t3 e3 ⊢
   refine⟨by decide,λp4 Be=>⟨by decide,λp5 xg=>?_⟩⟩
   have t4:=ao Be (.tup [V.ref p3])
   have e4:=aj (H:=qd) (a:=p4) (o:=.tup [V.ref p3])
   generalize upd qd p4 (.tup [V.ref p3])=BZ at t4 e4 xg ⊢
   have Ml:=(Mp.on t3).on t4
   have n5:=(Ml.aK oT).ne xg
   have t5:=ao xg (.lst [V.ref l,V.ref p1,V.ref p2,V.non,V.ref p4])
   have e5:=aj (H:=BZ) (a:=p5) (o:=.lst [V.ref l,V.ref p1,V.ref p2,V.non,V.ref p4])
   generalize upd BZ p5 (.lst [V.ref l,V.ref p1,V.ref p2,V.non,V.ref p4])=vI at t5 e5 ⊢
   refine aU oT (Ml.on t5) (by decide) (by decide) λi oO i0 i1 yC Ba=>⟨i,rfl,_,by rw[Ba p5 n5];exact e5,?_⟩
   have nr:=(Ml.on t5).aK oT
   have kt:∀{b:Addr} {xs:List V},vI b=some (.tup xs)->oO b=some (.tup xs):=λ{b xs} e=>by rw[Ba b (nr.md e)];exact e
   have g0:oO l=some (.lst (List.map V.int W)):=by rw[Ba l n0];exact t5 _ _ (t4 _ _ (t3 _ _ (t2 _ _ (t1 _ _ e0))))
   have g1:oO p1=some (.tup [V.bl true]):=kt (t5 _ _ (t4 _ _ (t3 _ _ (t2 _ _ e1))))
   have g2:oO p2=some (.tup [V.int 1,V.int 0]):=kt (t5 _ _ (t4 _ _ (t3 _ _ e2)))
   have g3:oO p3=some (.lst []):=by rw[Ba p3 n3];exact t5 _ _ (t4 _ _ e3)
   have g4:oO p4=some (.tup [V.ref p3]):=kt (t5 _ _ e4)
   obtain⟨v,d,ev,rv⟩:∃v d,kb [V.ref l,V.ref p1,V.ref p2,V.non,V.ref p4] i=some v/\Rep h oO d v:=by
    have hi:i=0\/i=1\/i=2\/i=3\/i=4:=by omega
    rcases hi with rfl | rfl | rfl | rfl | rfl
    ·exact⟨_,.lst (W.map Dt.int),rfl,l,_,rfl,n0,g0,iG W⟩
    ·exact⟨_,.tup [.bl true],rfl,p1,_,rfl,g1,ib rfl,cv rfl ju⟩
    ·exact⟨_,.tup [.int 1,.int 0],rfl,p2,_,rfl,g2,ib rfl,iG [1,0]⟩
    ·exact⟨_,.non,rfl,rfl⟩
    ·exact⟨_,.tup [.lst []],rfl,p4,_,rfl,g4,ib rfl,cv ⟨p3,_,rfl,n3,g3,ju⟩ ju⟩
   exact⟨v,ev,by decide,λp6 h6=>fin (d8.trans yC) h6 (cv (nk x lx) (cv rv ju)) (ib rfl)⟩
  walk_at "r"
  rename_i R2 Rz
  have I0:R2 [some (.ref h),some (.ref U),some (.ref C),some (.ref Pc),some (.ref p),some (.ref hl),some (.ref ll),some (.int way),some (.int (1+far)),some (.ref E),none] H8:=by
   walk_at "r"
   refine bu (λ_=>?_) λ_=>?_
   ·refine⟨by decide,λp1 mq=>?_⟩
    have n1:=oT.ne mq
    have t1:=ao mq (.lst [V.str (Str.ofString "ask"),V.str (Str.ofString "clash"),V.str (Str.ofString "peace"),V.str (Str.ofString "clasp")])
    refine aU oT (Dr.refl.on t1) (by decide) (by decide) λi H9 i0 i1 d9 k9=>⟨i,rfl,_,by rw[k9 p1 n1,aj],?_⟩
    obtain⟨z,ez,lz⟩:∃z:Str,kb [V.str (Str.ofString "ask"),V.str (Str.ofString "clash"),V.str (Str.ofString "peace"),V.str (Str.ofString "clasp")] i=some (.str z)/\z.length<=100:=by
     have hi:i=0\/i=1\/i=2\/i=3:=by omega
     rcases hi with rfl | rfl | rfl | rfl
     ·exact⟨_,rfl,by decide +kernel⟩
     ·exact⟨_,rfl,by decide +kernel⟩
     ·exact⟨_,rfl,by decide +kernel⟩
     ·exact⟨_,rfl,by decide +kernel⟩
    refine⟨_,ez,by decide,λp2 ka=>?_⟩
    have t2:=ao ka (.tup [V.str z])
    have e2:=aj (H:=H9) (a:=p2) (o:=.tup [V.str z])
    generalize upd H9 p2 (.tup [V.str z])=lK at t2 e2 ⊢
    refine⟨_,t2 _ _ (yB d9 oT _ _ rR),wt,λp3 nX=>?_⟩
    have Ou:=gO (V.str x::v1::Aa) (some 1) none
    rw[cR,cR]at Ou
    have kp9:=(Kp.dr oT d9).trans (Kp.of t2)
    obtain⟨es,res⟩:=rm ((cv (nk x lx) (cv r1 N0)).mono kp9) (some 1) none
    generalize gY (V.str x::v1::Aa) (some 1) none=us at Ou res
    have t3:=ao nX (.tup us)
    generalize upd lK p3 (.tup us)=si at t3 ⊢
    refine⟨_,t3 _ _ e2,sz _ (by show 1+us.length<=1000;omega),λp4 qd t4 _ e4=>?_⟩
    exact q _ (.tup (.str z::es)) qd ((((d8.trans d9).on t2).on t3).on t4) ⟨p4,_,rfl,e4,by show us.length+1<=900;omega,cv (nk z lz) (res.mono (Kp.of (t3.trans t4)))⟩
   walk_at "r"
   refine⟨by decide,λp1 mq=>?_⟩
   have n1:=oT.ne mq
   have t1:=ao mq (.lst [V.str (Str.ofString "clash"),V.str (Str.ofString "peace"),V.str (Str.ofString "ask")])
   refine aU oT (Dr.refl.on t1) (by decide) (by decide) λi H9 i0 i1 d9 k9=>⟨i,rfl,_,by rw[k9 p1 n1,aj],?_⟩
   obtain⟨z,ez,lz⟩:∃z:Str,kb [V.str (Str.ofString "clash"),V.str (Str.ofString "peace"),V.str (Str.ofString "ask")] i=some (.str z)/\z.length<=100:=by
    have hi:i=0\/i=1\/i=2:=by omega
    rcases hi with rfl | rfl | rfl
    ·exact⟨_,rfl,by decide +kernel⟩
    ·exact⟨_,rfl,by decide +kernel⟩
    ·exact⟨_,rfl,by decide +kernel⟩
   exact⟨_,ez,_,yB d9 oT _ _ rR,v1,bH (j:=1) rfl,by decide,λp2 ka=>fin (d8.trans d9) ka (cv (nk z lz) (cv (r1.mono (Kp.dr oT d9)) ju)) (ib rfl)⟩
  refine bu (λ_=>⟨_,rR,.str x,bH (j:=0) rfl,rfl,bu (λhx=>?_) λ_=>I0⟩) λ_=>I0
  have hx:x≠Str.ofString "ask":=λz=>by rw[z]at hx;simp at hx
  obtain⟨b,s',rfl,hb8,lb⟩:=K8 hx
  refine⟨_,rR,.str x,bH (j:=0) rfl,_,rR,.ref b,bH (j:=1) rfl,by decide,λp1 mq=>⟨b,rfl,?_⟩⟩
  have t1:=ao mq (.tup [V.int (1+far)])
  generalize upd H8 p1 (.tup [V.int (1+far)])=H9 at t1 ⊢
  refine⟨_,t1 _ _ hb8,sz _ (by rw[aP];omega),λp2 lK t2 _ e2=>⟨by decide,λp3 nX=>?_⟩⟩
  have RN:lK p2=some (.tup (List.map V.int (s'++[1+far]))):=by rw[e2,dc];rfl
  exact fin ((d8.on t1).on t2) nX (cv (nk x lx) (cv (gM RN (by rw[dR,vO];omega)) ju)) (ib rfl)
 refine bu (λ_=>⟨sz _ (by omega),λp8 rR=>bu (λl1=>?_) λ_=>rest _ (ao rR _)⟩) λ_=>rest H7 (bF.refl H7)
 have t8:=ao rR (.lst (List.map V.int hs++List.map V.int ls))
 generalize upd H7 p8 (.lst (List.map V.int hs++List.map V.int ls))=H8 at t8 ⊢
 refine⟨_,t8 _ _ sL,_,t8 _ _ wI,sz _ (by rw[aP,aP];omega),λp9 Rl=>?_⟩
 have n9:=((d7.on t8).aK hd).ne Rl
 have t9:=ao Rl (.lst (List.map V.int hs++List.map V.int ls))
 have e9:=aj (H:=H8) (a:=p9) (o:=.lst (List.map V.int hs++List.map V.int ls))
 generalize upd H8 p9 (.lst (List.map V.int hs++List.map V.int ls))=H9 at t9 e9 ⊢
 refine⟨_,t9 _ _ (t8 _ _ sL),_,t9 _ _ (t8 _ _ wI),sz _ (by rw[aP,aP];omega),λOg Lk=>?_⟩
 have BL:=ao Lk (.lst (List.map V.int hs++List.map V.int ls))
 rw[dR,aP,aP]at *
 refine aU M7 (((Dr.refl.on t8).on t9).on BL) (by omega) (by omega) λi si i0 i1 Mp Gg=>⟨i,rfl,_,by rw[Gg p9 n9];exact BL _ _ e9,?_⟩
 have hi:i.toNat<(hs++ls).length:=by rw[dR];omega
 refine⟨.int (hs++ls)[i.toNat],?_,by decide,λRa L5=>?_⟩
 ·have:=bH (xs:=List.map V.int (hs++ls)) (j:=i.toNat) (v:=.int (hs++ls)[i.toNat]) (by rw[fO,bw hi];rfl)
  rw[y0 i0,dc]at this
  exact this
 ·have rn:=rn7.mono (Kp.dr M7 Mp)
  exact fin (d7.trans Mp) L5 (cv (nk _ (by decide +kernel)) (cv (d:=.int _) rfl (cv rn (cv rn ju)))) (ib rfl)
local macro_rules | `(tactic| walk_at "rd") => `(tactic| walk_at "rc")
local macro_rules | `(tactic| walk_at "rl") => `(tactic| first | (refine dX fun R hR => ?_) | walk_at "ry" | (refine Nx.to (by assumption) _ _ ?_))
def Ak(n:Nat):Sp:=λvs H Q _=>∃h U C Pc p hl ll,vs=[.ref h,.ref U,.ref C,.ref Pc,.ref p,.ref hl,.ref ll]/\∃(W:List Int) (cs ps:List (List Int)) (tr:Tr) (hs ls:List Int),cj H h/\oa H U C Pc W cs ps/\iS H tr p/\tr.ok/\H hl=some (.lst (List.map V.int hs))/\H ll=some (.lst (List.map V.int ls))/\hs.length+n<=60/\ls.length+n<=60/\0<cs.length+ps.length/\tr.deep<=n/\
 ∀v d H',Dr h H H'->Rep h H' d v->Q v H'
theorem Fi:∀tr:Tr,1<=tr.deep
 | .clash _=>cu _
 | .peace _=>cu _
 | .ask _ a b=>Nat.le_add_left _ _
theorem rG(T:Txt K mg t):∀n:Nat,cE P w K mg base jJ (n+4) t.iR t.iL ["_law_hand_here","_law_whole","_law_clashes","_law_peaces","_law_node","_law_held","_law_lacked"] (Ak n)
 | 0=>T.eD.nL (k:=3) dy (λvs H Q E h=>by obtain⟨h,U,C,Pc,z,y,x,rfl,_⟩:=h;rfl) (λeF A outer s H vs Q E hr h hc hf=>by
   obtain⟨h,U,C,Pc,p,hl,ll,rfl,W,cs,ps,tr,hs,ls,_,_,_,_,_,_,_,_,_,h1,_⟩:=h
   have:=Fi tr
   omega)
 | n+1=>by
  have ay:=ie (P:=P) (w:=w) (base:=base) T
  have vE:=DX (P:=P) (w:=w) (base:=base) T
  have fZ:=rG T n
  refine T.eD.nL (k:=n+4) dy (λvs H Q E h=>?_) (λeF A outer s H vs Q E hr h hc hf=>?_)
  ·obtain⟨h,U,C,Pc,z,y,x,rfl,_⟩:=h;rfl
  obtain⟨h,U,C,Pc,p,hl,ll,rfl,W,cs,ps,tr,hs,ls,hd,rd,ta,tok,rV,rT,lh,l9,l0,dn,q⟩:=h
  have hu:=ia hr
  have yu:=hr.eR
  refine⟨_,(by apply ak;exact(aW (gj (jc (aE cS (aB cx (ai hc 4) ah (λ_ _=>rfl)) aZ (aN _)) (gK (aE lA (aq ay hr.mono (aX hc) T.aC T.aA.kp T.aD .nil aI (ae (ai hc 0) (ae ah ag))) ah (aN _))))) (by apply ak;exact(aW (aE cS (aq ay hr.mono (aX hc) T.aC T.aA.kp T.aD .nil aI (ae (ai hc 0) (ae ah ag))) ah (aN _)) (by apply ak;exact(aH hc dy.nd hf 7 (by decide +kernel) (aq fZ hr.mono (aX hc) T.iH T.eD.kp T.iP .nil aI (ae (ai hc 0) (ae (ai hc 1) (ae (ai hc 2) (ae (ai hc 3) (ae (aB cx (ai hc 4) ah (λ_ _=>rfl)) (ae (aF eU (ai hc 5) (aV (ae (aB cx (ai hc 4) ah (λ_ _=>rfl)) ag))) (ae (ai hc 6) ag)))))))));exact au (aG (aY (ae aZ (ae (aB cx (ai hc 4) ah (λ_ _=>rfl)) (ae (ai hc 7) (ae (aB cx (ai hc 4) ah (λ_ _=>rfl)) ag))))))) aJ);apply ak;exact(aH hc dy.nd hf 6 (by decide +kernel) (aF eU (ai hc 6) (aV (ae (aB cx (ai hc 4) ah (λ_ _=>rfl)) ag))));apply ak;exact(aH hc dy.nd hf 7 (by decide +kernel) (aq fZ hr.mono (aX hc) T.iH T.eD.kp T.iP .nil aI (ae (ai hc 0) (ae (ai hc 1) (ae (ai hc 2) (ae (ai hc 3) (ae (aB cx (ai hc 4) ah (λ_ _=>rfl)) (ae (ai hc 5) (ae (ai hc 6) ag)))))))));exact au (aG (aY (ae aZ (ae (aB cx (ai hc 4) ah (λ_ _=>rfl)) (ae (aB cx (ai hc 4) ah (λ_ _=>rfl)) (ae (ai hc 7) ag))))))) aJ);exact au (aG (aq vE hr.mono (aX hc) T.vi T.oQ.kp T.vA .nil aI (ae (ai hc 0) (ae (ai hc 1) (ae (ai hc 2) (ae (ai hc 3) (ae (ai hc 4) (ae (ai hc 5) (ae (ai hc 6) ag)))))))))),?_⟩
  obtain⟨x,d1',dsn,v1,Aa,hp,lvn,lx,r1,N0,K8⟩:=zE (h:=h) ta tok
  repeat (first | walk_at "rl" | simp only[hp])
  rename_i R hR
  have rest:∀H1,Dr h H H1->R [some (.ref h),some (.ref U),some (.ref C),some (.ref Pc),some (.ref p),some (.ref hl),some (.ref ll),none] H1:=λH1 d1=>by
   walk_at "r"
   exact⟨h,U,C,Pc,p,hl,ll,rfl,W,cs,ps,tr,hs,ls,d1.aK hd,FH hd d1 rd,ta.mono (yB d1 hd),tok,d1.keep _ _ (mh hd rV) rV,d1.keep _ _ (mh hd rT) rT,by omega,by omega,l0,λv d H2 d2 r=>q v d H2 (d1.trans d2) r⟩
  refine bu (λhx=>?_) λ_=>rest H Dr.refl
  refine aU hd Dr.refl (by decide) (by decide) λi H1 i0 i1 d1 k1=>⟨i,rfl,bu (λ_=>?_) λ_=>rest H1 d1⟩
  clear rest
  have Wr:=d1.aK hd
  cases tr with
  | clash s'=>
   obtain⟨b,hb,_⟩:=ta
   rw[hp]at hb
   have hb:=dP hb
   injection hb with hb
   injection hb with hb _
   injection hb with hb
   rw[hb]at hx
   exact absurd hx (by decide +kernel)
  | peace s'=>
   obtain⟨b,hb,_⟩:=ta
   rw[hp]at hb
   have hb:=dP hb
   injection hb with hb
   injection hb with hb _
   injection hb with hb
   rw[hb]at hx
   exact absurd hx (by decide +kernel)
  | ask m a b=>
  obtain⟨pa,pb,Jm,ha,hb⟩:=ta
  clear hp r1 N0 K8
  have da:a.deep<=n:=by have:max a.deep b.deep+1<=n+1:=dn;omega
  have db:b.deep<=n:=by have:max a.deep b.deep+1<=n+1:=dn;omega
  walk_at "r"
  refine aU hd d1 (by decide) (by decide) λi2 H2 _ _ d2 k2=>?_
  have hd2:=d2.aK hd
  have kT:=yB d2 hd
  have ka:=kT _ _ Jm
  have M9:=ha.mono kT
  have zN:=hb.mono kT
  have rd2:=FH hd d2 rd
  have Lw:H2 hl=some (.lst (List.map V.int hs)):=d2.keep _ _ (mh hd rV) rV
  have Ls:H2 ll=some (.lst (List.map V.int ls)):=d2.keep _ _ (mh hd rT) rT
  refine⟨rfl,bu (λ_=>?_) λ_=>?_⟩
  ·repeat (first | walk_at "rl" | simp only[ka,Lw])
   refine⟨by decide,λp3 nX=>?_⟩
   have s3:=ao nX (.lst [V.int m])
   refine⟨_,s3 _ _ Lw,by rw[aP];exact aS (by omega),λp4 Be=>?_⟩
   have s4:=s3.trans (ao Be (.lst (List.map V.int hs++[V.int m])))
   have e4:upd (upd H2 p3 (.lst [V.int m])) p4 (.lst (List.map V.int hs++[V.int m])) p4=some (.lst (List.map V.int (hs++[m]))):=by rw[aj,dc];rfl
   generalize upd (upd H2 p3 (.lst [V.int m])) p4 (.lst (List.map V.int hs++[V.int m]))=H4 at s4 e4 ⊢
   have BP:=(d2.on s4).aK hd
   refine⟨h,U,C,Pc,pa,p4,ll,rfl,W,cs,ps,a,hs++[m],ls,BP,rd2.mono s4,M9.mono (aT s4),tok.1,e4,s4 _ _ Ls,by simp;omega,by omega,l0,da,λv d H5 d5 r=>?_⟩
   have xg:=yB d5 BP _ _ (s4 _ _ ka)
   repeat (first | walk_at "rl" | simp only[xg])
   refine⟨by decide,λp6 O0=>?_⟩
   have s6:=ao O0 (.tup [V.str (Str.ofString "ask"),V.int m,v,V.ref pb])
   have rb:=((iS.rep (h:=h) zN tok.2).mono (Kp.of s4)).mono (Kp.dr BP d5)
   exact q _ (.tup [.str (Str.ofString "ask"),.int m,d,b.dt]) _ (((d2.on s4).trans d5).on s6) ⟨p6,_,rfl,aj,ib rfl,cv ⟨rfl,by decide +kernel⟩ (cv (d:=.int m) rfl (cv (r.mono (Kp.of s6)) (cv (rb.mono (Kp.of s6)) ju)))⟩
  ·repeat (first | walk_at "rl" | simp only[ka,Ls])
   refine⟨by decide,λp3 nX=>?_⟩
   have s3:=ao nX (.lst [V.int m])
   refine⟨_,s3 _ _ Ls,by rw[aP];exact aS (by omega),λp4 Be=>?_⟩
   have s4:=s3.trans (ao Be (.lst (List.map V.int ls++[V.int m])))
   have e4:upd (upd H2 p3 (.lst [V.int m])) p4 (.lst (List.map V.int ls++[V.int m])) p4=some (.lst (List.map V.int (ls++[m]))):=by rw[aj,dc];rfl
   generalize upd (upd H2 p3 (.lst [V.int m])) p4 (.lst (List.map V.int ls++[V.int m]))=H4 at s4 e4 ⊢
   have BP:=(d2.on s4).aK hd
   have O1:=s4 _ _ ka
   repeat (first | walk_at "rl" | simp only[O1])
   refine⟨h,U,C,Pc,pb,hl,p4,rfl,W,cs,ps,b,hs,ls++[m],BP,rd2.mono s4,zN.mono (aT s4),tok.2,s4 _ _ Lw,e4,by omega,by simp;omega,l0,db,λv d H5 d5 r=>?_⟩
   have xg:=yB d5 BP _ _ O1
   repeat (first | walk_at "rl" | simp only[xg])
   refine⟨by decide,λp6 O0=>?_⟩
   have s6:=ao O0 (.tup [V.str (Str.ofString "ask"),V.int m,V.ref pa,v])
   have ra:=((iS.rep (h:=h) M9 tok.1).mono (Kp.of s4)).mono (Kp.dr BP d5)
   exact q _ (.tup [.str (Str.ofString "ask"),.int m,a.dt,d]) _ (((d2.on s4).trans d5).on s6) ⟨p6,_,rfl,aj,ib rfl,cv ⟨rfl,by decide +kernel⟩ (cv (d:=.int m) rfl (cv (ra.mono (Kp.of s6)) (cv (r.mono (Kp.of s6)) ju)))⟩
local macro_rules | `(tactic| walk_at "rd") => `(tactic| walk_at "rc")
local macro_rules | `(tactic| walk_at "rl") => `(tactic| first | (refine dX fun R hR => ?_) | walk_at "ry" | (refine Nx.to (by assumption) _ _ ?_))
def Oe(W:List Int):Dt:=.tup [.str (Str.ofString "peace"),.tup (W.map Dt.int)]
def Fd(m:Int)(W:List Int):Nat->Dt
 | 0=>Oe W
 | k+1=>.tup [.str (Str.ofString "ask"),.int m,Fd m W k,Oe W]
theorem Mg{m:Int}{W:List Int}{cs ps:List (List Int)}{k:Nat}:cK W cs ps 10 (Fd m W (k+2)) [] []=false:=by
 show cK W cs ps 10 (.tup [.str (Str.ofString "ask"),.int m,.tup [.str (Str.ofString "ask"),.int m,Fd m W k,Oe W],Oe W]) [] []=false
 rw[j6,j6]
 simp
def NC:Sp:=λvs H Q _=>∃h U,vs=[.ref h,.ref U]/\∃(m:Int) (W:List Int),cj H h/\H U=some (.tup (List.map V.int (m::W)))/\W.length<=90/\∀v k H',Dr h H H'->Rep h H' (Fd m (m::W) (k+2)) v->Q v H'
theorem K5(T:Txt K mg t):cE P w K mg base jJ 4 t.n8 t.n6 ["_law_hand_here","_law_whole"] NC:=by
 have ay:=ie (P:=P) (w:=w) (base:=base) T
 refine T.su.nL jf (λvs H Q E h=>?_) (λeF A outer s H vs Q E hr h hc hf=>?_)
 ·obtain⟨h,U,rfl,_⟩:=h;rfl
 obtain⟨h,U,rfl,m,W,hd,hU,lW,q⟩:=h
 have hu:=ia hr
 have yu:=hr.eR
 refine⟨_,(by apply ak;exact(aH hc jf.nd hf 2 (by decide +kernel) (aY (ae aZ (ae (ai hc 1) ag))));apply ak;exact(jb nv rfl (dU (aX hc) T.eH (ae (aF gx ah (aq ay hr.mono (aX hc) T.aC T.aA.kp T.aD .nil aI (ae (ai hc 0) (ae ah ag)))) ag)) (sC hc jf.nd hf 3 (by decide +kernel)) (by exact au (aH hc jf.nd hf 2 (by decide +kernel) (aY (ae aZ (ae (aB cx (ai hc 1) ah (λ_ _=>rfl)) (ae (ai hc 2) (ae (aY (ae aZ (ae (ai hc 1) ag))) ag))))))));exact au (aG (ai hc 2))),?_⟩
 walk_at "r"
 refine⟨by decide,λp1 mq=>?_⟩
 have t1:=ao mq (.tup [V.str (Str.ofString "peace"),V.ref U])
 have e1:=aj (H:=H) (a:=p1) (o:=.tup [V.str (Str.ofString "peace"),V.ref U])
 generalize upd H p1 (.tup [V.str (Str.ofString "peace"),V.ref U])=H1 at t1 e1 ⊢
 have rU:∀{H':Hp},Dr h H H'->Rep h H' (.tup ((m::W).map Dt.int)) (.ref U):=λd=>(gM hU (by rw[cR];omega)).mono (Kp.dr hd d)
 have rP:∀{H':Hp} {b:Addr},Dr h H H'->H' b=some (.tup [V.str (Str.ofString "peace"),V.ref U])->Rep h H' (Oe (m::W)) (.ref b):=λ{H' b} d e=>⟨b,_,rfl,e,ib rfl,cv ⟨rfl,by decide +kernel⟩ (cv (rU d) ju)⟩
 have d1:Dr h H H1:=Dr.refl.on t1
 walk_at "r"
 refine aU hd d1 (by decide) (by decide) λr H2 r0 r1 d2 k2=>?_
 have e2:H2 p1=some (.tup [V.str (Str.ofString "peace"),V.ref U]):=by rw[k2 p1 ((d1.aK hd).md e1)];exact e1
 walk_at "r"
 refine⟨by omega,by omega,?_⟩
 obtain⟨Pv,iI⟩:∃Pv:Nat->St->Hp->Prop,∀i σ' H',Pv i σ' H'↔∃(b:Addr) (x:Option V),σ'=[some (.ref h),some (.ref U),some (.ref b),x]/\Dr h H H'/\Rep h H' (Fd m (m::W) i) (.ref b):=⟨_,λ_ _ _=>du⟩
 refine gA Pv ((iI _ _ _).mpr ⟨p1,none,rfl,d2,rP d2 e2⟩) (λi σ' H3 hi pv=>?_) (λσ' H3 pv=>?_)
 ·obtain⟨b,x,rfl,d3,rb⟩:=(iI _ _ _).mp pv
  have Ry:H3 U=some (.tup (List.map V.int (m::W))):=yB d3 hd _ _ hU
  repeat (first | walk_at "rl" | simp only[Ry])
  refine⟨by decide,λp2 ka=>⟨by decide,λp3 nX=>?_⟩⟩
  have t2:=ao ka (.tup [V.str (Str.ofString "peace"),V.ref U])
  have RN:=aj (H:=H3) (a:=p2) (o:=.tup [V.str (Str.ofString "peace"),V.ref U])
  generalize upd H3 p2 (.tup [V.str (Str.ofString "peace"),V.ref U])=H4 at t2 RN nX ⊢
  have t3:=ao nX (.tup [V.str (Str.ofString "ask"),V.int m,V.ref b,V.ref p2])
  have d5:=(d3.on t2).on t3
  exact(iI _ _ _).mpr ⟨p3,_,rfl,d5,p3,_,rfl,aj,ib rfl,cv ⟨rfl,by decide +kernel⟩ (cv (d:=.int m) rfl (cv (rb.mono (Kp.of (t2.trans t3))) (cv (rP d5 (t3 _ _ RN)) ju)))⟩
 ·obtain⟨b,x,rfl,d3,rb⟩:=(iI _ _ _).mp pv
  walk_at "r"
  rw[show(2+r).toNat=r.toNat+2 by omega]at rb
  exact q _ _ H3 d3 rb
local macro_rules | `(tactic| walk_at "rd") => `(tactic| walk_at "rc")
local macro_rules | `(tactic| walk_at "rl") => `(tactic| first | (refine dX fun R hR => ?_) | walk_at "ry" | (refine Nx.to (by assumption) _ _ ?_))
theorem Fp{ms:List Int}{n:Nat}{ck pk:List Nat}{cs ps:List (List Int)}(r:fq ms)(ln:ms.length=n)(cov:pN n ck pk)(hc:∀x,x∈cs↔∃k∈ck,x=xh ms k)(hp:∀x,x∈ps↔∃k∈pk,x=xh ms k) :
  ∀S:List Int,(∀m∈S,m∈ms)->(∃s∈cs,∀m∈s,m∈S)\/∃s∈ps,∀m∈S,m∈s:=λS sub=>by
 subst ln
 obtain⟨k,hk,bits⟩:=zG (ms:=ms) (λj=>decide (ms.getD j 0∈S)) ms.length
 rcases cov k hk with ⟨c,hcm,e⟩ | ⟨p,hpm,e⟩
 ·refine .inl ⟨xh ms c,(hc _).mpr ⟨c,hcm,rfl⟩,λm hm=>?_⟩
  obtain⟨j,hj,b,rfl⟩:=oK.mp hm
  have b2:(c &&& k).testBit j=true:=by rw[e];exact b
  rw[Nat.testBit_and,bits j,eO,eO]at b2
  exact of_decide_eq_true b2.2.1
 ·refine .inr ⟨xh ms p,(hp _).mpr ⟨p,hpm,rfl⟩,λm hm=>?_⟩
  obtain⟨j,hj,rfl⟩:=qN.mp (sub m hm)
  have eg:ms.getD j 0=ms[j]:=by simp[List.getD,hj]
  have b1:k.testBit j=true:=by
   rw[bits j,decide_eq_true hj,Bool.and_true,eg];exact decide_eq_true hm
  have b2:(k &&& p).testBit j=true:=by rw[e];exact b1
  rw[Nat.testBit_and,eO]at b2
  exact oK.mpr ⟨j,hj,b2.2,eg.symm⟩
theorem pN.more{n:Nat}{ck pk ys zs:List Nat}(c:pN n ck pk):pN n (ck++ys) (pk++zs):=λk hk=>by
 rcases c k hk with ⟨x,hx,e⟩ | ⟨x,hx,e⟩
 ·exact .inl ⟨x,qM _ hx,e⟩
 ·exact .inr ⟨x,qM _ hx,e⟩
theorem YK{ms:List Int}{k:Nat}:∀m∈xh ms k,m∈ms:=λm hm=>by
 obtain⟨j,hj,_,rfl⟩:=oK.mp hm
 have eg:ms.getD j 0=ms[j]:=by simp[List.getD,hj]
 rw[eg];exact ny hj
theorem zK:∀s:List Int,fU (s.map Dt.int)=some s
 | []=>rfl
 | i::s=>by
  show(fU (s.map Dt.int)).map (i :: ·)=_
  rw[zK s]
  rfl
theorem CT{s:List Int}(r:fq s):oY (.tup (s.map Dt.int))=some s:=by
 show(fU (s.map Dt.int)).bind _=_
 rw[zK]
 show(if nJ s=true then some s else none)=_
 rw[aR (tN.mpr r)]
theorem vp{W:List Int}{cs ps:List (List Int)}(gc:∀s∈cs,fq s/\s.length<=100)(gp:∀s∈ps,fq s/\s.length<=100):∀{tr:Tr} {n:Nat} {hs ls:List Int},Good W cs ps tr hs ls->tr.deep<=n->cK W cs ps n tr.dt hs ls=true
 | .clash s,n+1,hs,ls,g,_=>by
  show cK W cs ps (n+1) (.tup [.str (Str.ofString "clash"),.tup (s.map Dt.int)]) hs ls=true
  rw[kJ,iD (CT (gc s g.1).1),decide_eq_true g.1,jK]
  exact fj.mpr g.2
 | .peace s,n+1,hs,ls,g,_=>by
  show cK W cs ps (n+1) (.tup [.str (Str.ofString "peace"),.tup (s.map Dt.int)]) hs ls=true
  rw[kI,iD (CT (gp s g.1).1),decide_eq_true g.1,jK]
  refine fj.mpr λm hm=>?_
  unfold gk at hm
  obtain⟨h1,h2⟩:=iW.mp hm
  exact g.2 m h1 (by simpa using h2)
 | .ask m a b,n+1,hs,ls,g,d=>by
  show cK W cs ps (n+1) (.tup [.str (Str.ofString "ask"),.int m,a.dt,b.dt]) hs ls=true
  have d:max a.deep b.deep+1<=n+1:=d
  rw[j6,vp gc gp g.2.2.2.1 (by omega),vp gc gp g.2.2.2.2 (by omega)]
  simp[g.1,g.2.1,g.2.2.1]
 | .clash _,0,_,_,_,d=>absurd d (by show ¬1<=0;decide)
 | .peace _,0,_,_,_,d=>absurd d (by show ¬1<=0;decide)
 | .ask _ _ _,0,_,_,_,d=>absurd d (Nat.not_succ_le_zero _)
theorem vq{W:List Int}{cs ps:List (List Int)}(gc:∀s∈cs,fq s/\s.length<=100)(gp:∀s∈ps,fq s/\s.length<=100):∀{tr:Tr} {hs ls:List Int},Good W cs ps tr hs ls->tr.ok
 | .clash s,_,_,g=>(gc s g.1).2
 | .peace s,_,_,g=>(gp s g.1).2
 | .ask _ a b,_,_,g=>⟨vq gc gp g.2.2.2.1,vq gc gp g.2.2.2.2⟩
theorem tO{K:PySem.W.Frag}{L h:Addr}{bs:List Addr}{ts:List (List Int)}{H:Hp}{σ:St}{Qk:VK}(hσ:bL σ [1]=[some (.ref h)])(hd:cj H h)(hL:H L=some (.lst (List.map V.ref bs)))(sa:bD H bs ts)(l:ts.length<=900)
  (q:∀D Gk BJ H',Dr h H H'->H D=none->H' D=some (.lst (List.map V.ref Gk))->bD H' Gk BJ->BJ.length<=ts.length->(∀t∈BJ,t∈ts)->Qk (.ref D) H') :
  ip (xj K L) 1 [1] (λ_=>cL 0) (λ_=>tI (BK (Ao λi j=>V.bl (decide (j<i))) (tK q0 [] E0 (qW (uC 1) (qW (tC (V.int 3)) Ad))) (tC (V.int 0)))) (λ_=>uC 0) σ Qk H:=by
 have Gi:=Eb hd hL
 have lb:=sa.1
 obtain⟨Pc,ig⟩:∃Pc:Addr->Nat->List V->Hp->Prop,∀Z i ys H',Pc Z i ys H'↔∃(Gk:List Addr) (BJ:List (List Int)),ys=List.map V.ref Gk/\Dr h H H'/\H' Z=some (.lst ys)/\bD H' Gk BJ/\BJ.length<=i/\∀t∈BJ,t∈ts:=⟨_,λ_ _ _ _=>du⟩
 refine ik (zs:=List.map V.ref bs) Pc (λZ hZ=>(ig _ _ _ _).mpr ⟨[],[],rfl,Dr.refl.new hZ,aj,⟨rfl,λi b t e=>by cases e⟩,lq _,by simp⟩) (λZ hZ i ys H' _ pv=>?_) (λZ hZ i z ys H' hz pv cb=>?_) (λZ hZ ys H' pv=>?_)
 ·obtain⟨_,_,_,d,_⟩:=(ig _ _ _ _).mp pv
  exact d.keep _ _ Gi hL
 ·obtain⟨Gk,BJ,rfl,d1,kG,sb,lt,mt⟩:=(ig _ _ _ _).mp pv
  obtain⟨b,eb,rfl⟩:=rq hz
  have Rr:i<bs.length:=(fP.mp eb).1
  have es:ts[i]?=some (ts[i]'(by omega)):=bw _
  have hb:=sa.2 i b _ eb es
  have hZh:Z≠h:=hd.ne hZ
  have Wr:=d1.aK hd
  rw[hσ]
  walk_at "rc"
  walk_at "r"
  refine aU hd d1 (by decide) (by decide) λr H2 r0 r1 d2 k2=>⟨r,rfl,?_⟩
  have qp:H2 Z=_:=(k2 Z hZh).trans kG
  have kt:mZ H' H2:=λb xs e=>by rw[k2 b (Wr.md e)];exact e
  have Z8:=sb.mono kt
  have zN:H2 b=some (.tup (List.map V.int (ts[i]'(by omega)))):=yB d2 hd _ _ hb
  have lsb:=sb.1
  refine bu (λ_=>⟨qp,aS (by omega),(ig _ _ _ _).mpr ⟨Gk++[b],BJ++[ts[i]'(by omega)],by rw[dc];rfl,d2.put hZ,aj,(Z8.snoc zN).mono (gL ⟨_,qp⟩),by rw[dR,vO];omega,λt ht=>?_⟩⟩) λ_=>(ig _ _ _ _).mpr ⟨Gk,BJ,rfl,d2,qp,Z8,by omega,mt⟩
  rcases fu.mp ht with ht | ht
  ·exact mt t ht
  ·rw[nE.mp ht];exact ny _
 ·obtain⟨Gk,BJ,rfl,d1,kG,sb,lt,mt⟩:=(ig _ _ _ _).mp pv
  rw[aP]at lt
  exact q Z Gk BJ H' d1 hZ kG sb (by omega) mt
local macro_rules | `(tactic| walk_at "rd") => `(tactic| walk_at "rc")
local macro_rules | `(tactic| walk_at "rl") => `(tactic| first | (refine dX fun R hR => ?_) | walk_at "ry" | (refine Nx.to (by assumption) _ _ ?_))
def v8(K:PySem.W.Frag):Sp:=λvs H Q _=>∃(a:Addr) (ns:List Int),vs=[.ref a]/\og K H a (List.map V.int ns)/\ns.length<=63/\∀H',Q (.bl true) H'
theorem Jy{H:Hp}{a b:Addr}{x y:List Addr}{cs ps:List (List Int)}(h1:H a=some (.lst (List.map V.ref x)))(h2:H b=some (.lst (List.map V.ref y)))(s1:bD H x cs)(s2:bD H y ps):sm H [a,b] [cs,ps]:=by
 refine⟨rfl,λi p f hp hf=>?_⟩
 match i,hp,hf with
 | 0,hp,hf=>cases hp;cases hf;exact⟨x,h1,s1⟩
 | 1,hp,hf=>cases hp;cases hf;exact⟨y,h2,s2⟩
 | _+2,hp,_=>cases hp
theorem MF.more{W:List Int}{cs ps:List (List Int)}{x y:List Int}(c:MF W cs ps):MF W (cs++[x]) (ps++[y]):=λS h=>by
 rcases c S h with ⟨s,h1,h2⟩ | ⟨s,h1,h2⟩
 ·exact .inl ⟨s,qM _ h1,h2⟩
 ·exact .inr ⟨s,qM _ h1,h2⟩
theorem K4(T:Txt K mg t):cE P w K mg base jJ 16 t.FW t.Fl ["_law_script"] (v8 K):=by
 have ay:=ie (P:=P) (w:=w) (base:=base) T
 have xc:=Hu (P:=P) (w:=w) (base:=base) T
 have sj:=yc (P:=P) (w:=w) (base:=base) T
 have w8:=Hr (P:=P) (w:=w) (base:=base) T
 have qe:=Ht (P:=P) (w:=w) (base:=base) T
 have oP:=D' (P:=P) (w:=w) (base:=base) T
 have ni:=Je (P:=P) (w:=w) (base:=base) T
 have gS:=zD (P:=P) (w:=w) (base:=base) T 10
 have jq:=zA (P:=P) (w:=w) (base:=base) T 10
 have fZ:=rG (P:=P) (w:=w) (base:=base) T 10
 have yT:=K5 (P:=P) (w:=w) (base:=base) T
 have j9:=Ar (P:=P) (w:=w) (base:=base) T
 refine T.QS.nL dY (λvs H Q E h=>?_) (λeF A outer s H vs Q E hr h hc hf=>?_)
 ·obtain⟨a,ns,rfl,_⟩:=h;rfl
 obtain⟨a,ns,rfl,hS,h63,q⟩:=h
 have hu:=ia hr
 have yu:=hr.eR
 refine⟨_,(by apply ak;exact(aH hc dY.nd hf 1 (by decide +kernel) (aq xc hr.mono (aX hc) T.wB T.qh.kp T.wX .nil aI (ae (ai hc 0) ag)));apply ak;exact(aH hc dY.nd hf 2 (by decide +kernel) (aq sj hr.mono (aX hc) T.rK T.m6.kp T.sd .nil aI (ae (ai hc 1) (ae (aq ay hr.mono (aX hc) T.aC T.aA.kp T.aD .nil aI (ae (ai hc 1) (ae ah ag))) ag))));apply ak;exact(jd (aq w8 hr.mono (aX hc) T.wA T.qg.kp T.wW .nil aI (ae (ai hc 1) (ae (az bh (aX hc) T.bY cA (ae (ai hc 2) ag)) ag))) (Gp rfl (tF (sC hc dY.nd hf 3 (by decide +kernel)) (tF (sC hc dY.nd hf 4 (by decide +kernel)) Cq))));apply gJ;exact(aW (aE cS (aq ay hr.mono (aX hc) T.aC T.aA.kp T.aD .nil aI (ae (ai hc 1) (ae ah ag))) ah (aN _)) (by apply ak;exact(cI (aq qe hr.mono (aX hc) T.pT T.m5.kp T.qc .nil aI (ae (ai hc 1) (ae (ai hc 3) (ae (az bh (aX hc) T.bY cA (ae (ai hc 2) ag)) (ae cy ag))))));exact au (cI (aq qe hr.mono (aX hc) T.pT T.m5.kp T.qc .nil aI (ae (ai hc 1) (ae (ai hc 4) (ae (az bh (aX hc) T.bY cA (ae (ai hc 2) ag)) (ae cy ag))))))) aJ);apply ak;exact(aH hc dY.nd hf 5 (by decide +kernel) (aq oP hr.mono (aX hc) T.oC T.kY.kp T.oM .nil aI (ae (ai hc 1) (ae (ai hc 2) (ae (ai hc 3) ag)))));apply ak;exact(aH hc dY.nd hf 6 (by decide +kernel) (aq oP hr.mono (aX hc) T.oC T.kY.kp T.oM .nil aI (ae (ai hc 1) (ae (ai hc 2) (ae (ai hc 4) ag)))));apply gJ;exact(aW (aE cS (aq ay hr.mono (aX hc) T.aC T.aA.kp T.aD .nil aI (ae (ai hc 1) (ae ah ag))) ah (aN _)) (by apply ak;exact(cI (js nH oq ot cY (ai hc 5) (ae (aq ni hr.mono (aX hc) T.pd T.nj.kp T.pG .nil aI (ae (ai hc 2) (ae (aq ay hr.mono (aX hc) T.aC T.aA.kp T.aD .nil aI (ae (ai hc 1) (ae (aF nT ah (az bh (aX hc) T.bY cA (ae (ai hc 2) ag))) ag))) ag))) ag)));exact au (cI (js nH oq ot cY (ai hc 6) (ae (aq ni hr.mono (aX hc) T.pd T.nj.kp T.pG .nil aI (ae (ai hc 2) (ae (aq ay hr.mono (aX hc) T.aC T.aA.kp T.aD .nil aI (ae (ai hc 1) (ae (aF nT ah (az bh (aX hc) T.bY cA (ae (ai hc 2) ag))) ag))) ag))) ag)))) aJ);apply ak;exact(aH hc dY.nd hf 7 (by decide +kernel) (bQ gQ (aX hc) T.eG il (ae (ai hc 2) ag)));apply ak;exact(aH hc dY.nd hf 8 (by decide +kernel) (aV (ae (bQ iN (aX hc) T.gq kP (ae (ai hc 5) ag)) (ae (bQ iN (aX hc) T.gq kP (ae (ai hc 6) ag)) ag))));apply ak;exact(aW (gj (jc (aE lA (az gC (aX hc) T.bY cA (ae (ai hc 7) ag)) ah (aN _)) (gK (aE zy (aq j9 hr.mono (aX hc) T.j3 T.iE.kp T.j8 .nil aI (ae (ai hc 7) (ae (aB cP (ai hc 8) ah (λ_ _=>rfl)) (ae (aB cP (ai hc 8) ah (λ_ _=>rfl)) (ae (aq yT hr.mono (aX hc) T.yn T.su.kp T.yN .nil aI (ae (ai hc 1) (ae (ai hc 7) ag))) ag))))) cy (aN _))))) (by exact au (aG cy)) aJ);apply ak;exact(jb nv rfl (dU (aX hc) T.eH (ae (aB cP (aV (ae ah (ae ah ag))) (aF wo (az bh (aX hc) T.bY cA (ae (ai hc 2) ag)) ah) (λ_ _=>rfl)) ag)) (sC hc dY.nd hf 9 (by decide +kernel)) (by apply ak;exact(aH hc dY.nd hf 10 (by decide +kernel) (aq jq hr.mono (aX hc) T.mn T.gT.kp T.mM .nil aI (ae (ai hc 1) (ae (ai hc 7) (ae (ai hc 5) (ae (ai hc 6) (ae (aV ag) (ae (aV ag) ag))))))));apply ak;exact(aW (aE zy (aq j9 hr.mono (aX hc) T.j3 T.iE.kp T.j8 .nil aI (ae (ai hc 7) (ae (aB cP (ai hc 8) ah (λ_ _=>rfl)) (ae (aB cP (ai hc 8) ah (λ_ _=>rfl)) (ae (ai hc 10) ag))))) cy (aN _)) (by exact au (aG cy)) aJ);apply ak;exact(iq hc dY.nd 11 (by decide +kernel) ["_law_one"] [1] rfl (by decide +kernel) (dv (ai hc 5)) (λ_ hc=>ic hc (by decide +kernel) 0 (by decide +kernel)) (λ_ hc=>dB (aE lA (aq ay hr.mono (aX hc) T.aC T.aA.kp T.aD .nil aI (ae (ai hc 1) (ae ah ag))) ah (aN _))) (λ_ hc=>(ai hc 0)) (by rfl));apply ak;exact(iq hc dY.nd 12 (by decide +kernel) ["_law_one"] [1] rfl (by decide +kernel) (dv (ai hc 6)) (λ_ hc=>ic hc (by decide +kernel) 0 (by decide +kernel)) (λ_ hc=>dB (aE lA (aq ay hr.mono (aX hc) T.aC T.aA.kp T.aD .nil aI (ae (ai hc 1) (ae ah ag))) ah (aN _))) (λ_ hc=>(ai hc 0)) (by rfl));apply ak;exact(aH hc dY.nd hf 13 (by decide +kernel) (aq j9 hr.mono (aX hc) T.j3 T.iE.kp T.j8 .nil aI (ae (ai hc 7) (ae (bQ iN (aX hc) T.gq kP (ae (ai hc 11) ag)) (ae (bQ iN (aX hc) T.gq kP (ae (ai hc 12) ag)) (ae (ai hc 10) ag))))));apply ak;exact(aW (gj (fQ (cU (bX (az cH (aX hc) T.bq bK (ae (ai hc 13) (ae (dw (v:=V.ty "bool") (aX hc) T.lT vz rfl) ag))))) (gD (aE tS (ai hc 13) (aq gS hr.mono (aX hc) T.jj T.fM.kp T.jo .nil aI (ae (ai hc 7) (ae (ai hc 11) (ae (ai hc 12) (ae (ai hc 10) (ae (aV ag) (ae (aV ag) ag))))))) (aN _))))) (by exact au (aG cy)) aJ);apply ak;exact(aH hc dY.nd hf 14 (by decide +kernel) (aq fZ hr.mono (aX hc) T.iH T.eD.kp T.iP .nil aI (ae (ai hc 1) (ae (ai hc 7) (ae (ai hc 5) (ae (ai hc 6) (ae (ai hc 10) (ae (aV ag) (ae (aV ag) ag)))))))));apply ak;exact(aH hc dY.nd hf 13 (by decide +kernel) (aq j9 hr.mono (aX hc) T.j3 T.iE.kp T.j8 .nil aI (ae (ai hc 7) (ae (aB cP (ai hc 8) ah (λ_ _=>rfl)) (ae (aB cP (ai hc 8) ah (λ_ _=>rfl)) (ae (ai hc 14) ag))))));apply ak;exact(aH hc dY.nd hf 15 (by decide +kernel) (aq gS hr.mono (aX hc) T.jj T.fM.kp T.jo .nil aI (ae (ai hc 7) (ae (ai hc 5) (ae (ai hc 6) (ae (ai hc 14) (ae (aV ag) (ae (aV ag) ag))))))));exact au (aW (gj (fQ (cU (bX (az cH (aX hc) T.bq bK (ae (ai hc 13) (ae (dw (v:=V.ty "bool") (aX hc) T.lT vz rfl) ag))))) (gD (aE tS (ai hc 13) (ai hc 15) (aN _))))) (by exact au (aG cy)) aJ)));exact au (aG (df (bP (Hk hr.units) (ai hc 8) (aV (ae (ai hc 5) (ae (ai hc 6) ag))) (aN _)) (gE (bP K0 (aq j9 hr.mono (aX hc) T.j3 T.iE.kp T.j8 .nil aI (ae (ai hc 7) (ae (aB cP (ai hc 8) ah (λ_ _=>rfl)) (ae (aB cP (ai hc 8) ah (λ_ _=>rfl)) (ae (bQ kO (aX hc) T.gq kP (ae (ai hc 7) ag)) ag))))) cy (aN _)))))),?_⟩
 walk_at "r"
 refine⟨a,ns,rfl,hS,λh H1 s1 h0 hd=>?_⟩
 walk_at "r"
 refine aU hd .refl (by decide) (by decide) λr H4 r0 r9 d4 k4=>?_
 obtain⟨n,rfl,hn⟩:∃n:Nat,r=(n:Int)/\n<=6:=⟨r.toNat,by omega,by omega⟩
 have BP:=d4.aK hd
 refine⟨h,_,rfl,n,rfl,by omega,BP,λM ms H5 d5 hM RG Ot rise=>?_⟩
 have yC:=d4.trans d5
 have hM1:=d4.free hd hM
 have yw:M≠h:=hd.ne hM1
 repeat (first | walk_at "rl" | simp only[RG])
 refine⟨h,_,rfl,n,by rw[Ot],by omega,yC.aK hd,λpr C Pc ck pk H6 d6 hpr hC ig hCP P9 hP6 lc lp bc bp cov=>?_⟩
 have X7:=yC.trans d6
 have hM6:=d6.keep _ _ yw RG
 have RM:=yC.free hd hC
 have RC:=yC.free hd ig
 refine⟨pr,rfl,[.ref C,.ref Pc],bR hpr,rfl,_,_,rfl,_,_,rfl,rfl,?_⟩
 walk_at "r"
 have hMC:M≠C:=aQ RG hC
 have hMP:M≠Pc:=aQ RG ig
 have W7:C≠h:=hd.ne RM
 have RB:Pc≠h:=hd.ne RC
 unfold Gv
 obtain⟨Bz,oG⟩:∃Bz:St->Hp->Prop,∀σ' H',Bz σ' H'↔∃ck pk:List Nat,σ'=[some (.ref a),some (.ref h),some (.ref M),some (.ref C),some (.ref Pc),none,none,none,none,none,none,none,none,none,none,none]/\Dr h H1 H'/\H' M=some (.lst (List.map V.int ms))/\H' C=some (.lst (List.map dZ ck))/\H' Pc=some (.lst (List.map dZ pk))/\ck.length<=150/\pk.length<=150/\pN n ck pk:=⟨_,λ_ _=>du⟩
 refine⟨Bz,?_,λσ' H7 hm=>?_⟩
 ·walk_at "r"
  refine aU hd X7 (by decide) (by decide) λr H7 r0 r9 d7 k7=>?_
  have Ia:H7 M=_:=(k7 M yw).trans hM6
  have Nh:H7 C=_:=(k7 C W7).trans P9
  have Nb:H7 Pc=_:=(k7 Pc RB).trans hP6
  by_cases e:r=1
  ·subst e
   repeat (first | walk_at "rl" | simp only[Ia])
   refine⟨h,C,_,_,rfl,H1,n,ck,by rw[Ot],by omega,hd,d7,RM,Nh,by omega,bc,λH8 ys d8 k8 hC8 ly _=>?_⟩
   have hM8:=k8 _ yw hMC _ Ia
   repeat (first | walk_at "rl" | simp only[hM8])
   refine⟨h,Pc,_,_,rfl,H1,n,pk,by rw[Ot],by omega,hd,d8,RC,k8 _ RB hCP.symm _ Nb,by omega,bp,λH9 zs d9 k9 hP9 lz _=>?_⟩
   exact(oG _ _).mpr ⟨ck++ys,pk++zs,rfl,d9,k9 _ yw hMP _ hM8,k9 _ W7 hCP _ hC8,hP9,by rw[dR];omega,by rw[dR];omega,cov.more⟩
  ·walk_at "r"
   rw[aO (by simpa using e)]
   exact(oG _ _).mpr ⟨ck,pk,rfl,d7,Ia,Nh,Nb,by omega,by omega,cov⟩
 obtain⟨ck,pk,rfl,d7,Ia,Nh,Nb,lc,lp,cov⟩:=(oG _ _).mp hm
 clear oG hm Bz
 walk_at "r"
 refine⟨h,M,C,rfl,d7.aK hd,yw,W7,ms,ck,Ia,by omega,Nh,by omega,λX bx cs H8 d8 hX hX8 sx lx mx=>?_⟩
 walk_at "r"
 refine⟨h,M,Pc,rfl,d8.aK (d7.aK hd),yw,RB,ms,pk,d8.keep _ _ yw Ia,by omega,d8.keep _ _ RB Nb,by omega,λY vH ps H9 d9 hY hY9 sy ly my=>?_⟩
 have hM9:H9 M=some (.lst (List.map V.int ms)):=d9.keep _ _ yw (d8.keep _ _ yw Ia)
 have Pt:X≠h:=(d7.aK hd).ne hX
 have Rx:Y≠h:=(d8.aK (d7.aK hd)).ne hY
 have hX1:=d7.free hd hX
 have hX9:=d9.keep _ _ Pt hX8
 have hY1:H1 Y=none:=(d7.trans d8).free hd hY
 have d19:=(d7.trans d8).trans d9
 have sx9:bD H9 bx cs:=Dr.sets (d8.aK (d7.aK hd)) d9 sx
 have hXY:X≠Y:=aQ hX8 hY
 have cover:MF ms cs ps:=Fp rise Ot cov mx my
 have Ic:∀k,fq (xh ms k)/\(xh ms k).length<=100:=λk=>⟨FG rise,by have:=Io (ms:=ms) (k:=k);omega⟩
 have gc:∀s∈cs,fq s/\s.length<=100:=λs hs=>by obtain⟨k,_,rfl⟩:=(mx s).mp hs;exact Ic k
 have gp:∀s∈ps,fq s/\s.length<=100:=λs hs=>by obtain⟨k,_,rfl⟩:=(my s).mp hs;exact Ic k
 clear cov mx my Nh Nb
 walk_at "r"
 obtain⟨N,hN⟩:∃N:St->Hp->Prop,∀σ' H',N σ' H'↔∃(bx vH:List Addr) (cs ps:List (List Int)),σ'=[some (.ref a),some (.ref h),some (.ref M),some (.ref C),some (.ref Pc),some (.ref X),some (.ref Y),none,none,none,none,none,none,none,none,none]/\Dr h H1 H'/\H' M=some (.lst (List.map V.int ms))/\H' X=some (.lst (List.map V.ref bx))/\bD H' bx cs/\H' Y=some (.lst (List.map V.ref vH))/\bD H' vH ps/\cs.length<=201/\ps.length<=201/\MF ms cs ps/\(∀s∈cs,fq s/\s.length<=100)/\∀s∈ps,fq s/\s.length<=100:=⟨_,λ_ _=>du⟩
 refine⟨N,?_,λσ' lK Rn=>?_⟩
 ·refine aU hd d19 (by decide) (by decide) λr lK r0 r1 BW Ji=>⟨rfl,?_⟩
  have Rw:=d19.aK hd
  have Bj:lK M=some (.lst (List.map V.int ms)):=by rw[Ji M yw];exact hM9
  have Bh:lK X=some (.lst (List.map V.ref bx)):=by rw[Ji X Pt];exact hX9
  have Ew:lK Y=some (.lst (List.map V.ref vH)):=by rw[Ji Y Rx];exact hY9
  have kt:mZ H9 lK:=λb xs e=>by rw[Ji b (Rw.md e)];exact e
  have Ah:=sx9.mono kt
  have Ag:=sy.mono kt
  refine bu (λ_=>?_) λ_=>(hN _ _).mpr ⟨bx,vH,cs,ps,rfl,BW,Bj,Bh,Ah,Ew,Ag,by omega,by omega,cover,gc,gp⟩
  have cp:yV 1 (ms.length:Int):=⟨by omega,by omega,by decide⟩
  have pw:(1:Int)<=1*2 ^ (ms.length:Int).toNat/\(1:Int)*2 ^ (ms.length:Int).toNat<2 ^ 300:=by
   rw[Ot,qK,uk]
   have h1:n=0\/n=1\/n=2\/n=3\/n=4\/n=5\/n=6:=by omega
   rcases h1 with rfl | rfl | rfl | rfl | rfl | rfl | rfl <;> exact⟨by decide,by decide⟩
  repeat (first | walk_at "rl" | simp only[Bj])
  have lb1:=Ah.1
  have lb2:=Ag.1
  refine⟨.inl ⟨rfl,_,bB Bh⟩,cp,aU hd BW pw.1 pw.2 λk si k0 k1 Mp Gg=>?_⟩
  obtain⟨kn,rfl⟩:∃kn:Nat,k=(kn:Int):=⟨k.toNat,by omega⟩
  have Ph:=BW.aK hd
  have kt1:mZ lK si:=λb xs e=>by rw[Gg b (Ph.md e)];exact e
  have PN:si M=some (.lst (List.map V.int ms)):=by rw[Gg M yw];exact Bj
  have HY:si X=some (.lst (List.map V.ref bx)):=by rw[Gg X Pt];exact Bh
  have HX:si Y=some (.lst (List.map V.ref vH)):=by rw[Gg Y Rx];exact Ew
  refine⟨M,_,rfl,ms,kn,rfl,PN,by omega,λb1 qd pP Lz Ww=>⟨_,pP _ _ HY,by rw[aP];exact aS (by omega),?_⟩⟩
  have Px:=pP _ _ HY
  have Ny:=((((Ah.mono kt1).mono (aT pP)).snoc Ww).mono (gL (F:=X) (o:=.lst (List.map V.ref bx++[V.ref b1])) ⟨_,Px⟩))
  have Nw:=((Ag.mono kt1).mono (aT pP)).mono (gL (F:=X) (o:=.lst (List.map V.ref bx++[V.ref b1])) ⟨_,Px⟩)
  have Ml:=(Mp.on pP).put (o':=.lst (List.map V.ref bx++[V.ref b1])) hX1
  have hXM:M≠X:=aQ Ia hX
  have LQ:upd qd X (.lst (List.map V.ref bx++[V.ref b1])) M=some (.lst (List.map V.int ms)):=by rw[aM hXM];exact pP _ _ PN
  have LK:upd qd X (.lst (List.map V.ref bx++[V.ref b1])) Y=some (.lst (List.map V.ref vH)):=by rw[aM hXY.symm];exact pP _ _ HX
  have Pw:upd qd X (.lst (List.map V.ref bx++[V.ref b1])) X=some (.lst (List.map V.ref (bx++[b1]))):=by rw[aj,dc];rfl
  generalize upd qd X (.lst (List.map V.ref bx++[V.ref b1]))=BZ at Ny Nw Ml LQ LK Pw ⊢
  repeat (first | walk_at "rl" | simp only[LQ])
  refine⟨.inl ⟨rfl,_,bB LK⟩,cp,aU hd Ml pw.1 pw.2 λk' vI k0' k1' Qj Gf=>?_⟩
  obtain⟨km,rfl⟩:∃km:Nat,k'=(km:Int):=⟨k'.toNat,by omega⟩
  have Wq:=Ml.aK hd
  have kt2:mZ BZ vI:=λb xs e=>by rw[Gf b (Wq.md e)];exact e
  have PL:vI M=some (.lst (List.map V.int ms)):=by rw[Gf M yw];exact LQ
  have WD:vI X=some (.lst (List.map V.ref (bx++[b1]))):=by rw[Gf X Pt];exact Pw
  have Pr:vI Y=some (.lst (List.map V.ref vH)):=by rw[Gf Y Rx];exact LK
  refine⟨M,_,rfl,ms,km,rfl,PL,by omega,λb2 oO Kc zN Wv=>⟨_,Kc _ _ Pr,by rw[aP];exact aS (by omega),?_⟩⟩
  have Wy:=Kc _ _ Pr
  have kp:=gL (H:=oO) (F:=Y) (o:=.lst (List.map V.ref vH++[V.ref b2])) ⟨_,Wy⟩
  have hYM:M≠Y:=aQ (d8.keep _ _ yw Ia) hY
  refine(hN _ _).mpr ⟨bx++[b1],vH++[b2],cs++[xh ms kn],ps++[xh ms km],rfl,(Qj.on Kc).put hY1,by rw[aM hYM];exact Kc _ _ PL,by rw[aM hXY];exact Kc _ _ WD,((Ny.mono kt2).mono (aT Kc)).mono kp,by rw[aj,dc];rfl,(((Nw.mono kt2).mono (aT Kc)).snoc Wv).mono kp,by rw[dR,vO];omega,by rw[dR,vO];omega,cover.more,λs hs=>?_,λs hs=>?_⟩
  ·rcases fu.mp hs with hs | hs
   ·exact gc s hs
   ·rw[nE.mp hs];exact Ic kn
  ·rcases fu.mp hs with hs | hs
   ·exact gp s hs
   ·rw[nE.mp hs];exact Ic km
 obtain⟨bx,vH,cs,ps,rfl,BW,Bj,Bh,Ah,Ew,Ag,lx,ly,cover,gc,gp⟩:=(hN _ _).mp Rn
 clear hN Rn N
 have Ph:=BW.aK hd
 repeat (first | walk_at "rl" | simp only[Bj])
 intro U hU
 have tU:=ao hU (.tup (List.map V.int ms))
 have Bi:=aj (H:=lK) (a:=U) (o:=.tup (List.map V.int ms))
 generalize upd lK U (.tup (List.map V.int ms))=si at tU Bi ⊢
 have HY:=tU _ _ Bh
 have HX:=tU _ _ Ew
 repeat (first | walk_at "rl" | simp only[HY,HX])
 intro E1 Nc
 have t1:=ao Nc (.lst (List.map V.ref bx))
 have e1:=aj (H:=si) (a:=E1) (o:=.lst (List.map V.ref bx))
 have nE1:=((BW.on tU).aK hd).ne Nc
 generalize upd si E1 (.lst (List.map V.ref bx))=qd at t1 e1 ⊢
 refine⟨_,t1 _ _ HX,λE2 Ju=>⟨by decide,λG hG=>?_⟩⟩
 have t2:=ao Ju (.lst (List.map V.ref vH))
 have e2:=aj (H:=qd) (a:=E2) (o:=.lst (List.map V.ref vH))
 have nE2:=(((BW.on tU).on t1).aK hd).ne Ju
 generalize upd qd E2 (.lst (List.map V.ref vH))=BZ at t2 e2 hG ⊢
 have nG:=((((BW.on tU).on t1).on t2).aK hd).ne hG
 have t3:=ao hG (.lst [V.ref E1,V.ref E2])
 have e3:=aj (H:=BZ) (a:=G) (o:=.lst [V.ref E1,V.ref E2])
 generalize upd BZ G (.lst [V.ref E1,V.ref E2])=vI at t3 e3 ⊢
 have MJ:=((tU.trans t1).trans t2).trans t3
 have Qj:=BW.on MJ
 have nr:=Qj.aK hd
 have lb1:=Ah.1
 have lb2:=Ag.1
 have st:∀H',Dr h vI H'->oa H' U X Y ms cs ps/\oa H' U E1 E2 ms cs ps/\H' G=some (.lst [V.ref E1,V.ref E2])/\H' M=some (.lst (List.map V.int ms))/\H' X=some (.lst (List.map V.ref bx))/\H' Y=some (.lst (List.map V.ref vH))/\bD H' bx cs/\bD H' vH ps:=λH' d'=>by
  have k:=yB d' nr
  have hUu:=k _ _ (t3 _ _ (t2 _ _ (t1 _ _ Bi)))
  have s1:=(Ah.mono (aT MJ)).mono k
  have s2:=(Ag.mono (aT MJ)).mono k
  have hX':=d'.keep _ _ Pt (MJ _ _ Bh)
  have hY':=d'.keep _ _ Rx (MJ _ _ Ew)
  exact⟨⟨⟨bx,vH,hUu,hX',s1,hY',s2⟩,by omega,by omega,by omega,gc,gp⟩,⟨⟨bx,vH,hUu,d'.keep _ _ nE1 (t3 _ _ (t2 _ _ e1)),s1,d'.keep _ _ nE2 (t3 _ _ e2),s2⟩,by omega,by omega,by omega,gc,gp⟩,d'.keep _ _ nG e3,d'.keep _ _ yw (MJ _ _ Bj),hX',hY',s1,s2⟩
 obtain⟨_,_,W2,_,_,_,_,_⟩:=st vI Dr.refl
 have Pz:=t3 _ _ (t2 _ _ (t1 _ _ Bi))
 repeat (first | walk_at "rl" | simp only[Pz,W2])
 rename_i R hR
 have rest:∀oO,Dr h vI oO->R [some (.ref a),some (.ref h),some (.ref M),some (.ref C),some (.ref Pc),some (.ref X),some (.ref Y),some (.ref U),some (.ref G),none,none,none,none,none,none,none] oO:=λoO yC=>by
  obtain⟨_,_,aAm,PK,_,_,_,_⟩:=st oO yC
  repeat (first | walk_at "rl" | simp only[PK])
  refine⟨by decide,λZ hZ=>?_⟩
  have tZ:=ao hZ (.lst [V.int 4,V.int 2])
  have eZ:=aj (H:=oO) (a:=Z) (o:=.lst [V.int 4,V.int 2])
  generalize upd oO Z (.lst [V.int 4,V.int 2])=ZQ at tZ eZ ⊢
  have X7:=yC.on tZ
  have WX:=tZ _ _ PK
  obtain⟨j,ej,j0,j4⟩:∃j:Int,kb [V.int 4,V.int 2] ((ms.length:Int) / 5)=some (.int j)/\0<=j/\j<=4:=by
   have hi:(ms.length:Int) / 5=0\/(ms.length:Int) / 5=1:=by omega
   rcases hi with e | e
   ·rw[e];exact⟨4,rfl,by decide,by decide⟩
   ·rw[e];exact⟨2,rfl,by decide,by decide⟩
  refine⟨_,WX,⟨by decide,by decide⟩,_,by rw[aP];exact ej,j,rfl,by omega,by omega,?_⟩
  have l0:0<cs.length+ps.length:=by
   rcases cover [] (λm hm=>nomatch hm) with ⟨s,h1,_⟩ | ⟨s,h1,_⟩
   ·have:=y7 h1;omega
   ·have:=y7 h1;omega
  have Mb:jk ms [] []<10:=by have:=vt ms [] [];omega
  obtain⟨Pv,iI⟩:∃Pv:Nat->St->Hp->Prop,∀i σ' H',Pv i σ' H'↔∃(x9 x10 R9 R8 R7 R6 R5:Option V),σ'=[some (.ref a),some (.ref h),some (.ref M),some (.ref C),some (.ref Pc),some (.ref X),some (.ref Y),some (.ref U),some (.ref G),x9,x10,R9,R8,R7,R6,R5]/\Dr h vI H':=⟨_,λ_ _ _=>du⟩
  refine gA Pv ((iI _ _ _).mpr ⟨none,none,none,none,none,none,none,rfl,X7⟩) (λi σ' Gn hi pv=>?_) (λσ' Gn pv=>?_)
  ·obtain⟨x9,x10,R9,R8,R7,R6,R5,rfl,Fm⟩:=(iI _ _ _).mp pv
   obtain⟨QG,_,_,_,_,_,_,_⟩:=st Gn Fm
   walk_at "r"
   refine⟨by decide,λk1 hk1=>⟨by decide,λk2 hk2=>?_⟩⟩
   have u1:=ao hk1 (.lst [])
   have f1:=aj (H:=Gn) (a:=k1) (o:=.lst [])
   generalize upd Gn k1 (.lst [])=JG at u1 f1 hk2 ⊢
   have u2:=ao hk2 (.lst [])
   have f2:=aj (H:=JG) (a:=k2) (o:=.lst [])
   generalize upd JG k2 (.lst [])=ZP at u2 f2 ⊢
   have Qi:=Fm.on (u1.trans u2)
   refine⟨h,U,X,Y,k1,k2,rfl,ms,cs,ps,[],[],Qi.aK nr,QG.mono (u1.trans u2),u2 _ _ f1,f2,cover,(λm hm=>nomatch hm),Mb,by decide,by decide,λp tr Nm d20 ta go de=>?_⟩
   have Mj:=Qi.trans d20
   have Pg:=Mj.aK nr
   have tok:=vq gc gp go
   have rt:∀{H':Hp},Dr h Nm H'->Rep h H' tr.dt (.ref p):=λd=>(ta.mono (yB d Pg)).rep tok
   obtain⟨_,YS,W0,_,_,_,_,_⟩:=st Nm Mj
   repeat (first | walk_at "rl" | simp only[W0])
   refine⟨U,E1,E2,_,rfl,h,ms,cs,ps,_,YS,rt Dr.refl,by omega,λZM s21=>⟨_,rfl,?_⟩⟩
   rw[vp gc gp go (by omega),aO (by decide)]
   have RV:=Mj.on s21
   obtain⟨_,_,_,_,Pu,_,Sn,_⟩:=st ZM RV
   walk_at "r"
   refine⟨⟨_,bB Pu⟩,tO rfl (RV.aK nr) Pu Sn (by omega) λF1 b1 c1 Nk Ni hF1 W3 S5 lc1 mc1=>?_⟩
   have Ik:=RV.trans Ni
   obtain⟨_,_,_,_,_,Pq,_,Sj⟩:=st Nk Ik
   have nF1:=(RV.aK nr).ne hF1
   walk_at "r"
   refine⟨⟨_,bB Pq⟩,tO rfl (Ik.aK nr) Pq Sj (by omega) λF2 b2 p2 QR RT hF2 LW Z7 lp2 mp2=>?_⟩
   have Qh:=Ik.trans RT
   have Pb:=Qh.aK nr
   have P5:QR F1=some (.lst (List.map V.ref b1)):=RT.keep _ _ nF1 W3
   have NR:=S5.mono (yB RT (Ik.aK nr))
   repeat (first | walk_at "rl" | simp only[P5,LW])
   intro l1 hl1
   have Sg:=ao hl1 (.lst (List.map V.ref b1))
   have e24:=aj (H:=QR) (a:=l1) (o:=.lst (List.map V.ref b1))
   generalize upd QR l1 (.lst (List.map V.ref b1))=Nj at Sg e24 ⊢
   refine⟨_,Sg _ _ LW,λl2 Jo=>?_⟩
   have Sf:=ao Jo (.lst (List.map V.ref b2))
   have e25:=aj (H:=Nj) (a:=l2) (o:=.lst (List.map V.ref b2))
   generalize upd Nj l2 (.lst (List.map V.ref b2))=R3 at Sf e25 ⊢
   have IK:=Sg.trans Sf
   have d25:=Qh.on IK
   have Qg:Dr h Nm R3:=(((Dr.refl.on s21).trans Ni).trans RT).on IK
   have gc1:∀s∈c1,fq s/\s.length<=100:=λs hs=>gc s (mc1 s hs)
   have gp2:∀s∈p2,fq s/\s.length<=100:=λs hs=>gp s (mp2 s hs)
   obtain⟨⟨⟨_,_,Py,_⟩,_⟩,_⟩:=st R3 d25
   have YQ:oa R3 U l1 l2 ms c1 p2:=⟨⟨b1,b2,Py,Sf _ _ e24,NR.mono (aT IK),e25,Z7.mono (aT IK)⟩,by omega,by omega,by omega,gc1,gp2⟩
   have QF:oa R3 U F1 F2 ms c1 p2:=⟨⟨b1,b2,Py,IK _ _ P5,NR.mono (aT IK),IK _ _ LW,Z7.mono (aT IK)⟩,by omega,by omega,by omega,gc1,gp2⟩
   refine⟨U,l1,l2,_,rfl,h,ms,c1,p2,tr.dt,YQ,rt Qg,by omega,λH26 s26=>?_⟩
   walk_at "r"
   refine⟨_,.bl _,true,dA _ _,?_⟩
   rw[aO (by decide)]
   walk_at "r"
   refine⟨by decide,λk3 hk3=>⟨by decide,λk4 hk4=>?_⟩⟩
   have u3:=ao hk3 (.lst [])
   have f3:=aj (H:=H26) (a:=k3) (o:=.lst [])
   generalize upd H26 k3 (.lst [])=H27 at u3 f3 hk4 ⊢
   have u4:=ao hk4 (.lst [])
   have f4:=aj (H:=H27) (a:=k4) (o:=.lst [])
   generalize upd H27 k4 (.lst [])=H28 at u4 f4 ⊢
   have Sd:=(s26.trans u3).trans u4
   have d28:=d25.on Sd
   have Qf:=Qg.on Sd
   refine⟨U,F1,F2,.ref p,k3,k4,rfl,h,ms,c1,p2,tr.dt,[],[],QF.mono Sd,rt Qf,u4 _ _ f3,f4,Mb,by decide,by decide,λZL Z'=>?_⟩
   refine⟨rfl,?_⟩
   rw[decide_eq_true rfl,aO (by decide)]
   have d29:=d28.on Z'
   have X6:=Qf.on Z'
   obtain⟨YM,_,_,_,_,_,_,_⟩:=st ZL d29
   walk_at "r"
   refine⟨by decide,λk5 hk5=>⟨by decide,λk6 hk6=>?_⟩⟩
   have u5:=ao hk5 (.lst [])
   have f5:=aj (H:=ZL) (a:=k5) (o:=.lst [])
   generalize upd ZL k5 (.lst [])=H30 at u5 f5 hk6 ⊢
   have u6:=ao hk6 (.lst [])
   have f6:=aj (H:=H30) (a:=k6) (o:=.lst [])
   generalize upd H30 k6 (.lst [])=H31 at u6 f6 ⊢
   have Sb:=u5.trans u6
   have d31:=d29.on Sb
   have X5:=X6.on Sb
   have Wo:=d31.aK nr
   refine⟨h,U,X,Y,p,k5,k6,rfl,ms,cs,ps,tr,[],[],Wo,YM.mono Sb,ta.mono (yB X5 Pg),tok,u6 _ _ f5,f6,by decide,by decide,l0,de,λv d H32 d32 rv=>?_⟩
   have Mi:=d31.trans d32
   have aAj:=Mi.aK nr
   obtain⟨YL,QD,WY,_,_,_,_,_⟩:=st H32 Mi
   repeat (first | walk_at "rl" | simp only[WY])
   refine⟨U,E1,E2,v,rfl,h,ms,cs,ps,d,QD,rv,by omega,λH33 s33=>?_⟩
   walk_at "r"
   refine⟨by decide,λk7 hk7=>⟨by decide,λk8 hk8=>?_⟩⟩
   have u7:=ao hk7 (.lst [])
   have f7:=aj (H:=H33) (a:=k7) (o:=.lst [])
   generalize upd H33 k7 (.lst [])=H34 at u7 f7 hk8 ⊢
   have u8:=ao hk8 (.lst [])
   have f8:=aj (H:=H34) (a:=k8) (o:=.lst [])
   generalize upd H34 k8 (.lst [])=H35 at u8 f8 ⊢
   have R':=(s33.trans u7).trans u8
   refine⟨U,X,Y,v,k7,k8,rfl,h,ms,cs,ps,d,[],[],YL.mono R',rv.mono (Kp.of R'),u8 _ _ f7,f8,Mb,by decide,by decide,λH36 s36=>?_⟩
   walk_at "r"
   refine⟨_,.bl _,true,dA _ _,?_⟩
   walk_at "r"
   exact(iI _ _ _).mpr ⟨_,_,_,_,_,_,_,rfl,Mi.on (R'.trans s36)⟩
  ·obtain⟨x9,x10,R9,R8,R7,R6,R5,rfl,Fm⟩:=(iI _ _ _).mp pv
   clear iI
   obtain⟨QG,JB,P4,_,Wz,Wx,Sq,Sl⟩:=st Gn Fm
   repeat (first | walk_at "rl" | simp only[P4])
   refine⟨by decide,λK1 hK1=>?_⟩
   have Af:=ao hK1 (.lst [V.ref X,V.ref Y])
   have e18:=aj (H:=Gn) (a:=K1) (o:=.lst [V.ref X,V.ref Y])
   generalize upd Gn K1 (.lst [V.ref X,V.ref Y])=JG at Af e18 ⊢
   obtain⟨bE,bE2,WM,Nc,sE1,Ju,sE2⟩:=JB.at_
   have LR:=Af _ _ P4
   refine⟨[E1,E2],LR,[X,Y],rfl,[cs,ps],Jy (Af _ _ Nc) (Af _ _ Ju) (sE1.mono (aT Af)) (sE2.mono (aT Af)),[cs,ps],Jy (Af _ _ Wz) (Af _ _ Wx) (Sq.mono (aT Af)) (Sl.mono (aT Af)),?_⟩
   rw[aR rfl]
   refine⟨_,LR,_,rfl,_,LR,_,rfl,_,Af _ _ WM,λl vm=>?_⟩
   have n19:=(((Fm.on Af)).aK nr).ne vm
   have Z3:=ao vm (.lst (List.map V.int ms))
   have e19:=aj (H:=JG) (a:=l) (o:=.lst (List.map V.int ms))
   generalize upd JG l (.lst (List.map V.int ms))=ZP at Z3 e19 ⊢
   refine⟨U,E1,E2,.ref l,rfl,h,ms,cs,ps,.lst (ms.map Dt.int),JB.mono (Af.trans Z3),⟨l,_,rfl,n19,e19,iG ms⟩,by omega,λNm s20=>⟨_,rfl,?_⟩⟩
   exact q Nm
 refine bu (λl0=>?_) λ_=>rest vI Dr.refl
 obtain⟨m,W,eW⟩:∃m W,ms=m::W:=by
  cases ms with
  | nil=>simp at l0
  | cons m W=>exact⟨m,W,rfl⟩
 refine⟨h,U,rfl,m,W,nr,by rw[<-eW];exact Pz,by have:=iU List.length eW;rw[cR]at this;omega,λv k oO yC rv=>?_⟩
 rw[<-eW]at rv
 obtain⟨_,by2,_⟩:=st oO yC
 refine⟨U,E1,E2,v,rfl,h,ms,cs,ps,_,by2,rv,by omega,λZQ s16=>⟨_,rfl,?_⟩⟩
 rw[Mg,aO (by decide)]
 exact rest ZQ (yC.on s16)
local macro_rules | `(tactic| walk_at "rd") => `(tactic| walk_at "rc")
local macro_rules | `(tactic| walk_at "rl") => `(tactic| first | (refine dX fun R hR => ?_) | walk_at "ry" | (refine Nx.to (by assumption) _ _ ?_))
theorem all_mk{l:PySem.W.OpenLaw}{w:World}{K:PySem.W.Frag}{h:Heap}{mg:Str->Option Value}{fa:Addr}(X:K.In h)(G:h.Ns mainGlobals mg)(hfa:mg "law" = some (.ref fa))(pk:Pk K)
  : ∃fd:FuncData,(∀(s:Shared) (v:Value),BindsTo s fd ⟨[v],[]⟩ [("_law_script",v)])/\∀base:Heap,K.In base->base.Ns mainGlobals mg->cE l.prog w K mg base jJ 16 fa fd ["_law_script"] (v8 K):=by
 obtain⟨a0,l0,c0,k0,a1,l1,c1,k1,a2,l2,c2,k2,a3,l3,c3,k3,a4,l4,c4,k4,a5,l5,c5,k5,a6,l6,c6,k6,a7,l7,c7,k7,a8,l8,c8,k8,a9,l9,c9,k9,Zw,l10,YJ,Ji,Zv,Vi,YH,Gg,Zu,Vh,YG,HB,Zt,Vg,YF,VP,Zr,Vf,YD,Gf,Zq,Ve,YC,Ba,Zo,Vd,c16,VN,Zn,Vc,YB,VM,Zm,Vb,Yz,VL,Zk,Va,Yy,VJ,Zj,U9,Yx,VH,Zi,U8,Yw,VG,Zh,U7,Yv,VF,Zg,U6,Yu,VD,Zf,U5,Yt,M3,RX,U4,Ys,VB,vR,lu,qU,lT,tH,bq,bY,gq,vQ,eH,lS,tG,eG,jz,jD,jC,jB,jA,eS,cO,cN,jy,jx,jw,jv,dh,dj,di,dH,dG,dI,dJ,cB⟩:=pk
 have e:=hfa.symm.trans (cQ X G RX)
 cases e
 have F0:=bT (st:=bZ) l0 c0 k0
 have b0:=F0.binds (ps:=["thing"]) λ_ _ _ _ _ _=>Hx λ_=>rfl
 have F1:=bT (st:=fA) l1 c1 k1
 have b1:=F1.binds (ps:=["thing","word","many"]) λ_ _ _ _ _ _=>T2 λ_ _ _=>rfl
 have F2:=bT (st:=jX) l2 c2 k2
 have b2:=F2.binds (ps:=["thing"]) λ_ _ _ _ _ _=>Hx λ_=>rfl
 have F3:=bT (st:=iz) l3 c3 k3
 have b3:=F3.binds (ps:=["one","other"]) λ_ _ _ _ _ _=>of2 λ_ _=>rfl
 have F4:=bT (st:=iw) l4 c4 k4
 have b4:=F4.binds (ps:=["whole","part"]) λ_ _ _ _ _ _=>of2 λ_ _=>rfl
 have F5:=bT (st:=iy) l5 c5 k5
 have b5:=F5.binds (ps:=["whole","clashes","peaces","thing"]) λ_ _ _ _ _ _=>Rf λ_ _ _ _=>rfl
 have F6:=bT (st:=fG) l6 c6 k6
 have b6:=F6.binds (ps:=["_law_script"]) λ_ _ _ _ _ _=>Hx λ_=>rfl
 have F7:=bT (st:=fE) l7 c7 k7
 have b7:=F7.binds (ps:=["_law_hand_here"]) λ_ _ _ _ _ _=>Hx λ_=>rfl
 have F8:=bT (st:=fC) l8 c8 k8
 have b8:=F8.binds (ps:=["_law_hand_here"]) λ_ _ _ _ _ _=>Hx λ_=>rfl
 have F9:=bT (st:=fJ) l9 c9 k9
 have b9:=F9.binds (ps:=["_law_hand_here","_law_many"]) λ_ _ _ _ _ _=>of2 λ_ _=>rfl
 have F10:=bT (st:=cF) l10 YJ Ji
 have b10:=F10.binds (ps:=["_law_thing"]) λ_ _ _ _ _ _=>Hx λ_=>rfl
 have F11:=bT (st:=dD) Vi YH Gg
 have b11:=F11.binds (ps:=["_law_thing"]) λ_ _ _ _ _ _=>Hx λ_=>rfl
 have F12:=bT (st:=cW) Vh YG HB
 have b12:=F12.binds (ps:=["_law_hand_here","_law_many"]) λ_ _ _ _ _ _=>of2 λ_ _=>rfl
 have F13:=bT (st:=iA) Vg YF VP
 have b13:=F13.binds (ps:=["_law_members_here","_law_mask"]) λ_ _ _ _ _ _=>of2 λ_ _=>rfl
 have F14:=bT (st:=eM) Vf YD Gf
 have b14:=F14.binds (ps:=["_law_hand_here","_law_many","_law_most"]) λ_ _ _ _ _ _=>T2 λ_ _ _=>rfl
 have F15:=bT (st:=cG) Ve YC Ba
 have b15:=F15.binds (ps:=["_law_masks_here"]) λ_ _ _ _ _ _=>Hx λ_=>rfl
 have F16:=bT (st:=fD) Vd c16 VN
 have b16:=F16.binds (ps:=["_law_hand_here","_law_many"]) λ_ _ _ _ _ _=>of2 λ_ _=>rfl
 have F17:=bT (st:=eN) Vc YB VM
 have b17:=F17.binds (ps:=["_law_hand_here","_law_members_here","_law_masks_here"]) λ_ _ _ _ _ _=>T2 λ_ _ _=>rfl
 have F18:=bT (st:=fH) Vb Yz VL
 have b18:=F18.binds (ps:=["_law_whole","_law_clashes","_law_peaces","_law_thing","_law_held","_law_lacked"]) λ_ _ _ _ _ _ us hl=>match us,hl with | [_,_,_,_,_,_],_=>rfl
 have F19:=bT (st:=fF) Va Yy VJ
 have b19:=F19.binds (ps:=["_law_hand_here","_law_masks_here","_law_many","_law_under"]) λ_ _ _ _ _ _=>Rf λ_ _ _ _=>rfl
 have F20:=bT (st:=fI) U9 Yx VH
 have b20:=F20.binds (ps:=["_law_whole","_law_clashes","_law_peaces","_law_held","_law_lacked"]) λ_ _ _ _ _ _ us hl=>match us,hl with | [_,_,_,_,_],_=>rfl
 have F21:=bT (st:=fB) U8 Yw VG
 have b21:=F21.binds (ps:=["_law_hand_here","_law_whole","_law_clashes","_law_peaces","_law_held","_law_lacked"]) λ_ _ _ _ _ _ us hl=>match us,hl with | [_,_,_,_,_,_],_=>rfl
 have F22:=bT (st:=eL) U7 Yv VF
 have b22:=F22.binds (ps:=["_law_hand_here","_law_whole","_law_clashes","_law_peaces","_law_node","_law_held","_law_lacked"]) λ_ _ _ _ _ _ us hl=>match us,hl with | [_,_,_,_,_,_,_],_=>rfl
 have F23:=bT (st:=cX) U6 Yu VD
 have b23:=F23.binds (ps:=["_law_hand_here","_law_whole","_law_clashes","_law_peaces","_law_node","_law_held","_law_lacked"]) λ_ _ _ _ _ _ us hl=>match us,hl with | [_,_,_,_,_,_,_],_=>rfl
 have F24:=bT (st:=gu) U5 Yt M3
 have b24:=F24.binds (ps:=["_law_hand_here","_law_whole"]) λ_ _ _ _ _ _=>of2 λ_ _=>rfl
 have F25:=bT (st:=tM) U4 Ys VB
 have b25:=F25.binds (ps:=["_law_script"]) λ_ _ _ _ _ _=>Hx λ_=>rfl
 have fX:=bT (st:=bJ) dh dj di
 have kW:=fX.binds (ps:=["self","whole","clashes","peaces"]) λ_ _ _ _ _ _=>Rf λ_ _ _ _=>rfl
 have gn:=bT (st:=bM) dI dJ cB
 have lJ:=gn.binds (ps:=["self","thing","held","lacked"]) λ_ _ _ _ _ _=>Rf λ_ _ _ _=>rfl
 have T:Txt K mg ⟨_,_,_,_,_,_,_,_,_,_,_,_,_,_,_,_,_,_,_,_,_,_,_,_,_,_,_,_,_,_,_,_,_,_,_,_,_,_,_,_,_,_,_,_,_,_,_,_,_,_,_,_,_,_,_,_,_⟩:=⟨F0,b0,cQ X G a0,F1,b1,cQ X G a1,F2,b2,cQ X G a2,F3,b3,cQ X G a3,F4,b4,cQ X G a4,F5,b5,cQ X G a5,F6,b6,cQ X G a6,F7,b7,cQ X G a7,F8,b8,cQ X G a8,F9,b9,cQ X G a9,F10,b10,cQ X G Zw,F11,b11,cQ X G Zv,F12,b12,cQ X G Zu,F13,b13,cQ X G Zt,F14,b14,cQ X G Zr,F15,b15,cQ X G Zq,F16,b16,cQ X G Zo,F17,b17,cQ X G Zn,F18,b18,cQ X G Zm,F19,b19,cQ X G Zk,F20,b20,cQ X G Zj,F21,b21,cQ X G Zi,F22,b22,cQ X G Zh,F23,b23,cQ X G Zg,F24,b24,cQ X G Zf,F25,b25,cQ X G RX,jM X G vR,jM X G lu,jM X G qU,jM X G lT,jM X G tH,jM X G bq,jM X G bY,jM X G gq,jM X G vQ,jM X G eH,jM X G lS,jM X G tG,jM X G eG,cQ X G jz,⟨jD,jC,jB,jA⟩,eS,cO,cN,⟨jy,jx,jw,jv⟩,fX,kW,gn,lJ,⟨dH,dG,cB⟩⟩
 refine⟨_,λs v=>?_,λbase _ _=>K4 (P:=l.prog) (w:=w) (base:=base) T⟩
 exact .of_eq rfl
theorem walk{l:PySem.W.OpenLaw}{q:Program}{loose:List Str}{XP:(Str->Option Value)->Heap->Prop}{YP:World->Heap->Prop}{d:DefRec}{K:Params->PySem.W.Frag}(hn:l.most=some 63)(Pa:d.params.defaults=[])
  (hY:∀(w:World) (h:Heap),YP w h->(K w.params).In h)
  (F:∀(w:World) (mg:Str->Option Value) (fa:Addr) (h:Heap),(K w.params).In h->h.Ns mainGlobals mg->mg d.name=some (.ref fa)->
   ∃fd:FuncData,(∀(s:Shared) (u:Value),BindsTo s fd ⟨[u],[]⟩ [("_law_script",u)])/\∀base:Heap,(K w.params).In base->base.Ns mainGlobals mg->cE l.prog w (K w.params) mg base jJ 16 fa fd ["_law_script"] (v8 (K w.params))) :
  PySem.W.WalkO q loose XP YP l.row.toRowW d [] (λf vs=>PySem.call f vs):=
 L2.Gq (n:=63) (k:=16) (x:="_law_script") (CX:=λ_=>jJ) (sp:=λw=>v8 (K w.params)) hn (by decide) Pa ⟨rfl,by decide,by decide⟩ hY F (λ_ _ a ns hl _ hS=>⟨a,ns,rfl,hS,hl,λ_=>rfl⟩) λ_ _ _ _ _ z=>z
end
end My
theorem PySem.Challenge.cw_truceroll_k48_whole_good_trees_alone_holds : PySem.Challenge.rw_truceroll_k48_whole_good_trees_alone.Holds := by
 exact My.head (λw K mg fa=>∃fd:PySem.FuncData,(∀(s:PySem.Shared) (v:PySem.Value),PySem.BindsTo s fd ⟨[v],[]⟩ [("_law_script",v)])/\∀base:PySem.Heap,K.In base->base.Ns PySem.mainGlobals mg->L2.cE PySem.Challenge.rw_truceroll_k48_whole_good_trees_alone.prog w K mg base L2.jJ 16 fa fd ["_law_script"] (My.v8 K)) (λhd hY F=>My.walk (l:=PySem.Challenge.rw_truceroll_k48_whole_good_trees_alone) rfl hd hY F) λX G hfa pk=>My.all_mk X G hfa pk
