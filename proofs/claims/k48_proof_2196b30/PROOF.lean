import PyProof.Rows.All
import Wide.All
import OpenK.AllK
import Wide.FinOn
import HandS.ForMost
import HandS.Property
import HandS.ClsMeth
import HandS.IsInst
import HandS.Wide
import HandS.StrMore
import HandS.FStr
import HandS.RaiseMore
import HandS.Codes
import HandS.Style
import HandS.Flow
import HandS.Defaults
import PyProof.ReprRoads
import PyProof.ReprLen
import PyProof.Rows.RegStrFacts
import HandS.MakeKwOnly
import KE.GoesEnum
import HandS.Star
import HandS.Walk
import HandS.OwnEq
import KE.KOpsOwn
import KE.KExcIs
import KE.KNest
import HandS.Exc
import HandS.ExcInit
import HandS.ExcField
import HandS.WordsExc
import HandS.ExcIs
import HandS.Dict
import HandS.Lambda
import HandS.Nested
import HandS.SortKw
import HandS.SortRule
import KE.DatumOrd
import HandS.Call
import HandS.DictComp
import PyProof.FitsInt
import HandS.EndTab
import KE.SortData
import PyProof.Rows.RuleDivmod
import HandS.Zip
import HandS.Gcd
import PyProof.DictUpdate
import PySem.Challenge.RW_paintposts_k48_share_of_those_who_never
set_option Elab.async false
set_option linter.all false
set_option maxRecDepth 100000
set_option maxHeartbeats 4000000
/-! Ur0: what every law of this program starts with: short forms of calls, the pen, wide division, static methods. -/
namespace Ur
open PySem PySem.Spec PyProof.Rows L2

/-! ### calls in short -/
/-- a def of the text, where it stands -/
def Dfn (K : PySem.W.Frag) (mg : Str → Option Value) (x : Str) (st : Stmt) (ps : List Str) : Prop :=
  ∃ (f : Addr) (fd : FuncData), Fun K x x st f fd ∧ Binds K fd ps [] ∧ mg x = some (.ref f)
/-- a name of the module that can be called: it keeps the promise sp at level k -/
def Cal (P : Program) (w : World) (K : PySem.W.Frag) (mg : Str → Option Value) (base : Heap) (k : Nat) (x : Str) (ps : List Str) (sp : Sp) : Prop :=
  ∃ (f : Addr) (fd : FuncData), FnOk P w K mg base CX0 k f fd ps sp ∧ PySem.W.keepIn K (.ref f) = true ∧ Binds K fd ps [] ∧ mg x = some (.ref f)
section
variable {P : Program} {w : World} {K : PySem.W.Frag} {mg : Str → Option Value} {base : Heap} {k : Nat} {x : Str} {ps : List Str} {sp : Sp} {st : Stmt}
theorem Cal.mono {j : Nat} (c : Cal P w K mg base j x ps sp) (h : j ≤ k) : Cal P w K mg base k x ps sp :=
  let ⟨f, fd, F, r⟩ := c
  ⟨f, fd, F.mono h, r⟩
theorem Dfn.cal {N : List Str} (D : Dfn K mg x st ps) (S : FnScope N ps (defScope st)) (len : ∀ vs H Q E, sp vs H Q E → vs.length = ps.length)
    (hbody : ∀ (f : Addr) (cdv : Value) (A : Around) (outer : List Env) (s : Shared) (H : Hp) (vs : List V) (Q : VK) (E : XK), Room k (A.deeper (envOfC x (defScope st) s.heap.objs.size f cdv)) → sp vs H Q E →
      ∃ t, PSs (cxOf CX0 P w K mg base N x (defScope st) f cdv A outer s H E).nox (defBody st) t ∧ t { nx := fun _ H' => Q .non H', rt := Q } (start N vs) H) :
    Cal P w K mg base (k + 1) x ps sp := by
  obtain ⟨f, fd, F, b, m⟩ := D
  exact ⟨f, fd, F.ok S len fun cdv A outer s H vs Q E hr h => hbody f cdv A outer s H vs Q E hr h, F.kp, b, m⟩
end
section
variable {X : Cx} {k : Nat} {x : Str} {ps : List Str} {sp : Sp} {e : Expr} {es : List Expr} {t : TA} {p pos : Pos}
theorem pe_cal (c : Cal X.prog X.w X.K X.mg X.base k x ps sp) (hr : Room k X.A) (ha : PA X (e :: es) t) (hg : Gl X x := by rfl) (hdb : (x == ("__debug__" : Str)) = false := by decide)
    (he : starEach (e :: es) X.env = (false, eval e X.env) :: starEach es X.env := by rfl) (hpl : (backTo pos (starEach es X.env)).any (·.1) = false := by rfl) :
    PE X (.Call (.Name x p) (e :: es) [] pos) (tCall sp [] E0 t) := by
  obtain ⟨f, fd, F, kp, b, m⟩ := c
  exact pe_call F hr hg m kp b .nil pass0 ha (hdb := hdb) (he := he) (hpl := hpl)
end

/-! ### heaps: all stands as it stood, but what is at p -/
def Keep (p : Addr) (H H' : Hp) : Prop := ∀ b o, H b = some o → b ≠ p → H' b = some o
theorem Keep.refl {p : Addr} {H : Hp} : Keep p H H := fun _ _ h _ => h
theorem Keep.trans {p : Addr} {H H1 H2 : Hp} (a : Keep p H H1) (b : Keep p H1 H2) : Keep p H H2 := fun c o h n => b c o (a c o h n) n
theorem Keep.of {p : Addr} {H H' : Hp} (s : Same H H') : Keep p H H' := fun b o h _ => s b o h
theorem Keep.at_ {p : Addr} {H : Hp} {o : HO} : Keep p H (upd H p o) := fun b u h n => by rw [upd_ne n]; exact h
theorem same_new {H : Hp} {p : Addr} (h : H p = none) (o : HO) : Same H (upd H p o) := fun b u q => by rw [upd_ne (ne_of_none q h)]; exact q
theorem Keep.new {p q : Addr} {H H' : Hp} {o : HO} (a : Keep p H H') (h : H' q = none) : Keep p H (upd H' q o) := a.trans (Keep.of (same_new h o))
theorem Keep.at_new {p a : Addr} {H H' : Hp} {o : HO} (k : Keep p H H') (h : H a = none) : Keep p H (upd H' a o) := fun b u e n => by rw [upd_ne (ne_of_none e h)]; exact k b u e n
theorem Keep.lst {p a : Addr} {K : PySem.W.Frag} {H H' : Hp} {xs : List V} {kvs : List (Key × V)} (k : Keep p H H') (hp : H p = some (.dK kvs)) (h : SqL K H a xs) : SqL K H' a xs := by
  rcases h with (h | ⟨o, h⟩) | h
  · exact .inl (.inl (k _ _ h (ne_of h hp (by intro z; cases z))))
  · exact .inl (.inr ⟨o, k _ _ h (ne_of h hp (by intro z; cases z))⟩)
  · exact .inr h
theorem Keep.tup {p a : Addr} {K : PySem.W.Frag} {H H' : Hp} {xs : List V} {kvs : List (Key × V)} (k : Keep p H H') (hp : H p = some (.dK kvs)) (h : SqT K H a xs) : SqT K H' a xs := by
  rcases h with (h | ⟨o, h⟩) | h
  · exact .inl (.inl (k _ _ h (ne_of h hp (by intro z; cases z))))
  · exact .inl (.inr ⟨o, k _ _ h (ne_of h hp (by intro z; cases z))⟩)
  · exact .inr h
/-- a new address is none of the old ones, also where things were kept -/
theorem Keep.none_of {p a : Addr} {H H' : Hp} (k : Keep p H H') (h : H' a = none) (n : a ≠ p) : H a = none := by
  cases q : H a with
  | none => rfl
  | some o => rw [k a o q n] at h; cases h

/-! ### // by any divisor but 0, of up to 9000 bits -/
def CDivX (_ j : Int) : Prop := j ≠ 0 ∧ j.natAbs.log2 < 9000
theorem op_fdivX {X : Cx} : OpR X (binaryOp .FloorDiv) (rI CDivX fun i j => .int (i.fdiv j)) := opI fun i j _ _ _ _ _ hc q => PyProof.Rows.floordiv_int hc.1 q (.inl (PyProof.noPylong_of_log2 hc.2))
theorem log2_small {i : Int} {b : Nat} (h : i.natAbs < 2 ^ b) (hb : 0 < b) : i.natAbs.log2 < b := PySem.Flt.log2_lt_of hb h

/-! ### a static method, read off its class -/
structure SMet (K : PySem.W.Frag) (C : Addr) (mc : Value) (m : Str) (p g : Addr) : Prop where
  at_ : PySem.W.findCls K (.ref C) mc m = some (.get (.builtin "staticmethod.__get__") (.ref p) .none (.ref C))
  rc : ∃ rest, PySem.W.recIn K p "staticmethod" = some (.ref g :: rest)
  kp : PySem.W.keepIn K (.ref g) = true
def tSMeth (C : Addr) (sp : Sp) (E : XK) (ta : TE) (t : TA) : TE := fun σ H Q => ta σ H fun x H1 => x = .ref C ∧ t σ H1 fun vs H2 => sp vs H2 Q E
section
variable {X : Cx} {CX : CXT} {k : Nat} {C p g : Addr} {mc : Value} {sp : Sp} {E : XK} {o e : Expr} {es : List Expr} {m : Str} {pos apos : Pos} {ta : TE} {t : TA} {pl : Sem Bool} {fd : FuncData} {ps : List Str}
theorem pe_smeth (he : PE X o ta) (r : ClX.CRead X.K C mc) (c : SMet X.K C mc m p g) (F : FnOk X.prog X.w X.K X.mg X.base CX k g fd ps sp) (hb : Binds X.K fd ps []) (hr : Room k X.A) (hx : Passes CX X E) (ha : PA X (e :: es) t)
    (hst : starEach (e :: es) X.env = (false, eval e X.env) :: starEach es X.env := by rfl) (hpl : (backTo pos (starEach es X.env)).any (·.1) = false := by rfl)
    (ht : eval (.Call (.Attribute o m apos) (e :: es) [] pos) X.env = (do let ov ← eval o X.env; standAt apos.atName; let (f, first) ← holding [ov] (getMethod ov m pl); callWith pos f first (backTo pos (starEach (e :: es) X.env)) (backToKw pos (keywordEach [] X.env))) := by rfl) :
    PE X (.Call (.Attribute o m apos) (e :: es) [] pos) (tSMeth C sp E ta t) := by
  refine ⟨fun pins s σ H Q I h => ?_⟩
  refine PySem.W.methodCall_KW (pl := pl) (thn (he.run pins s σ H _ I h) fun u s1 ⟨x, H1, I1, rx, ex, q⟩ => ?_) ht
  subst ex
  obtain rfl : u = Value.ref C := rx
  obtain ⟨rest, hp⟩ := c.rc
  refine PySem.W.method_cls I1.kIn r.ga ?_
  refine PySem.W.cls_bind I1.kIn r.rd c.at_ (wpAny_call (PySem.W.sm_get (s := { s1 with toks := s1.toks + 1 }) I1.kIn hp (PySem.W.handed_on rfl ?_)))
  refine PySem.W.callWith_K (h₀ := X.base) I.ok.mod.kin c.kp (thn (ha.run pos pins _ σ H1 _ (I1.tok _) q) fun us s3 ⟨vs, H2, I3, rv, q2⟩ => ⟨I3.kIn, ?_⟩) hst hpl
  exact run_fn F hr hb .nil hx I3 rv (by rw [List.append_nil]; exact q2)
end
end Ur
/-! K1: the law's own draws: the pen, draw, pick, around. -/
namespace Ur
open PySem PySem.Spec PyProof.Rows L2
def topS (i : Nat) : Stmt := PySem.Challenge.pw_paintposts_k48_share_of_those_who_never.main.body.getD i (.Pass ⟨0, 0, 0, 0⟩)

/-- the built-in names are not the module's -/
structure Blt (mg : Str → Option Value) : Prop where
  len_ : mg "len" = none
  int_ : mg "int" = none
  abs_ : mg "abs" = none
  list_ : mg "list" = none
  range_ : mg "range" = none
  min_ : mg "min" = none
  max_ : mg "max" = none
  repr_ : mg "repr" = none
  str_ : mg "str" = none
  bool_ : mg "bool" = none
  isinstance_ : mg "isinstance" = none
  any_ : mg "any" = none
  divmod_ : mg "divmod" = none

/-! ### the pen -/
def penK (l : Addr) (b r : Int) : List (Key × V) := [(Sum.inr "cells", .ref l), (Sum.inr "begun", .int b), (Sum.inr "rest", .int r)]
theorem pen_made (l : Addr) (b r : Int) : mergeK [] [(Sum.inr "cells", V.ref l), (Sum.inr "begun", V.int b), (Sum.inr "rest", V.int r)] = penK l b r := rfl
theorem pen_cells (l : Addr) (b r : Int) : valV (penK l b r) (Sum.inr "cells") = some (.ref l) := rfl
theorem pen_begun (l : Addr) (b r : Int) : valV (penK l b r) (Sum.inr "begun") = some (.int b) := rfl
theorem pen_rest (l : Addr) (b r : Int) : valV (penK l b r) (Sum.inr "rest") = some (.int r) := rfl
theorem pen_b (l : Addr) (b r c : Int) : putK (penK l b r) (Sum.inr "begun") (.int c) = penK l c r := rfl
theorem pen_r (l : Addr) (b r c : Int) : putK (penK l b r) (Sum.inr "rest") (.int c) = penK l b c := rfl
structure Pen (H : Hp) (p l : Addr) (n : Nat) : Prop where
  ex : ∃ (cs : List Int) (b r : Int), H p = some (.dK (penK l b r)) ∧ H l = some (.lst (cs.map V.int)) ∧ cs.length ≤ 63 ∧ 0 ≤ b ∧ b ≤ (n : Int) ∧ 0 ≤ r
section
variable {H H' : Hp} {p l q : Addr} {n m : Nat} {o : HO}
theorem Pen.dk (P : Pen H p l n) : ∃ kvs, H p = some (.dK kvs) := let ⟨cs, b, r, h, _⟩ := P.ex; ⟨_, h⟩
theorem Pen.same (P : Pen H p l n) (s : Same H H') : Pen H' p l n := let ⟨cs, b, r, h, h2, z⟩ := P.ex; ⟨cs, b, r, s _ _ h, s _ _ h2, z⟩
theorem Pen.new (P : Pen H p l n) (h : H q = none) : Pen (upd H q o) p l n := P.same (same_new h o)
theorem Pen.le (P : Pen H p l n) (h : n ≤ m) : Pen H p l m := let ⟨cs, b, r, h1, h2, h3, h4, h5, h6⟩ := P.ex; ⟨cs, b, r, h1, h2, h3, h4, by omega, h6⟩
/-- a place that was free is neither of the pen's two -/
theorem Pen.ne (P : Pen H p l n) (h : H q = none) : q ≠ p := let ⟨_, e⟩ := P.dk; (ne_of_none e h).symm
theorem Pen.nl (P : Pen H p l n) (h : H q = none) : q ≠ l := let ⟨_, _, _, _, e, _⟩ := P.ex; (ne_of_none e h).symm
theorem Pen.upd (P : Pen H p l n) (h1 : q ≠ p) (h2 : q ≠ l) : Pen (upd H q o) p l n := let ⟨cs, b, r, h, h3, z⟩ := P.ex; ⟨cs, b, r, by rw [upd_ne h1.symm]; exact h, by rw [upd_ne h2.symm]; exact h3, z⟩
end
theorem cut_all {xs : List V} {n : Nat} (h : xs.length ≤ n) : cutV xs none (some (n : Int)) = xs := by
  unfold cutV
  rw [HT.sIx_none, HT.sIx_nat, Nat.min_eq_right h, List.drop_zero, Nat.sub_zero, List.take_length]
abbrev s__law_pen : Stmt := (topS 50)
abbrev N_sc__law_pen : List Str := ["_law_script"]
abbrev P__law_pen : List Str := ["_law_script"]
theorem sc__law_pen : FnScope N_sc__law_pen P__law_pen (defScope s__law_pen) := ⟨rfl, rfl, rfl, by decide +kernel, rfl, by decide +kernel, by decide +kernel⟩
def spPen (K : PySem.W.Frag) : Sp := fun vs H Q _ => ∃ (a : Addr) (ns : List Int), vs = [.ref a] ∧ SqL K H a (ns.map V.int) ∧ ns.length ≤ 63 ∧ ∀ p l H', Pen H' p l 0 → H p = none → H l = none → Same H H' → Q (.ref p) H'
section
variable {P : Program} {w : World} {K : PySem.W.Frag} {mg : Str → Option Value} {base : Heap}
theorem ok_pen (D : Dfn K mg "_law_pen" s__law_pen P__law_pen) (B : Blt mg) : Cal P w K mg base 1 "_law_pen" P__law_pen (spPen K) := by
  refine D.cal sc__law_pen (fun vs H Q E h => ?_) fun f cdv A outer s H vs Q E hr h => ?_
  · obtain ⟨a, ns, rfl, _⟩ := h
    rfl
  obtain ⟨a, ns, rfl, hS, hlen, k⟩ := h
  have hu := hu_of hr
  refine ⟨_, (pss_one (ps_ret (pe_disp (pps_cons pe_str (pe_callTy call_list_of rfl B.list_ (by decide +kernel) (pa_cons (pe_slice sl_list (pv 0) po_none (po_some pe_int)) pa_nil)) (pps_cons pe_str pe_int (pps_cons pe_str pe_int pps_nil))) (by rfl) (by rfl) (fun z => by cases z) (by decide)))), ?_⟩
  intro p hp
  refine ⟨_, rfl, 63, rfl, a, _, rfl, (same_new hp _).seq hS, fun q hq => ?_⟩
  refine ⟨q, _, rfl, .inl (SqL.of upd_same), fun l hl => ?_⟩
  have npq : p ≠ q := ne_of_none upd_same hq
  have npl : p ≠ l := by
    intro e
    rw [← e, upd_ne npq, upd_same] at hl
    cases hl
  have nql : q ≠ l := ne_of_none upd_same hl
  refine ⟨by rw [upd_ne npl, upd_ne npq, upd_same], [(Sum.inr "cells", .ref l), (Sum.inr "begun", .int 0), (Sum.inr "rest", .int 0)], rfl, (by show 3 ≤ 15; decide), ?_⟩
  have hl0 : H l = none := by
    rw [upd_ne nql.symm, upd_ne npl.symm] at hl
    exact hl
  refine k p l _ ⟨ns, 0, 0, ?_, ?_, ?_, by decide, by decide, by decide⟩ hp hl0 ?_
  · rw [pen_made]; exact upd_same
  · rw [upd_ne npl.symm, upd_same]
    exact congrArg (fun z => some (HO.lst z)) (cut_all (n := 63) (by rw [List.length_map]; exact hlen))
  · exact hlen
  · intro b o e
    have n1 := ne_of_none e hp
    have e1 : (upd H p (.dK [])) b = some o := by rw [upd_ne n1]; exact e
    have n2 := ne_of_none e1 hq
    have e2 := (by rw [upd_ne n2]; exact e1 : (upd (upd H p (.dK [])) q (.lst (cutV (ns.map V.int) none (some 63)))) b = some o)
    rw [upd_ne n1, upd_ne (ne_of_none e2 hl)]
    exact e2
end

/-! ### draw -/
abbrev s__law_draw : Stmt := (topS 51)
abbrev N_sc__law_draw : List Str := ["_law_pen_here", "_law_many", "_law_digit", "_law_site", "_law_cell", "_law_mixed"]
abbrev P__law_draw : List Str := ["_law_pen_here", "_law_many"]
theorem sc__law_draw : FnScope N_sc__law_draw P__law_draw (defScope s__law_draw) := ⟨rfl, rfl, rfl, by decide +kernel, rfl, by decide +kernel, by decide +kernel⟩
/-- the greatest bound that k further calls can serve -/
def Bd : Nat → Int
  | 0 => 60000000
  | k + 1 => 60000000 * (Bd k - 1)
def spDraw (k : Nat) : Sp := fun vs H Q _ => ∃ (p l : Addr) (many : Int) (n : Nat), vs = [.ref p, .int many] ∧ Pen H p l n ∧ n + k ≤ 2 ^ 40 ∧ 1 ≤ many ∧ many ≤ Bd k ∧ k ≤ 16 ∧
  ∀ v H', 0 ≤ v → v < many → Pen H' p l (n + (k + 1)) → Keep p H H' → Q (.int v) H'
/-- what is promised with k calls left: nothing with none -/
def spD : Nat → Sp
  | 0 => fun _ _ _ _ => False
  | k + 1 => spDraw k
theorem Dfn.none_left {P : Program} {w : World} {K : PySem.W.Frag} {mg : Str → Option Value} {base : Heap} {x : Str} {st : Stmt} {ps : List Str} (D : Dfn K mg x st ps) : Cal P w K mg base 0 x ps (fun _ _ _ _ => False) := by
  obtain ⟨f, fd, F, b, m⟩ := D
  exact ⟨f, fd, ⟨fun _ _ _ _ h => h.elim, fun _ _ _ _ _ _ _ _ _ _ _ _ _ h => h.elim⟩, F.kp, b, m⟩
theorem dpI {K : PySem.W.Frag} {H : Hp} : ∀ cs : List Int, DpAll K H (cs.map V.int) (cs.map PyData.int)
  | [] => .nil
  | c :: cs => .cons (.int c) (dpI cs)
theorem shI0 : ∀ cs : List Int, PyData.canLayAll0 (cs.map PyData.int) = true
  | [] => rfl
  | c :: cs => by
    show (PyData.canLay0 (.int c) && PyData.canLayAll0 (cs.map PyData.int)) = true
    rw [shI0 cs]
    all_goals rfl
theorem shD0 : ∀ cs : List Int, PyData.depthAll (cs.map PyData.int) = 0
  | [] => rfl
  | c :: cs => by
    show max (PyData.depth (.int c)) (PyData.depthAll (cs.map PyData.int)) = 0
    rw [shD0 cs]
    all_goals rfl
theorem shI (cs : List Int) : SeqAt.shaped (.list (cs.map PyData.int)) = true := by
  show (PyData.canLayAll0 (cs.map PyData.int) && decide (PyData.depthAll (cs.map PyData.int) + 1 ≤ 64)) = true
  rw [shI0, shD0]
  all_goals rfl
theorem get_cells {H : Hp} {p l : Addr} {b r : Int} (h : H p = some (.dK (penK l b r))) : DGet H p (.str "cells") (some (.ref l)) := DGet.k (k := Sum.inr "cells") h
theorem get_begun {H : Hp} {p l : Addr} {b r : Int} (h : H p = some (.dK (penK l b r))) : DGet H p (.str "begun") (some (.int b)) := DGet.k (k := Sum.inr "begun") h
theorem get_rest {H : Hp} {p l : Addr} {b r : Int} (h : H p = some (.dK (penK l b r))) : DGet H p (.str "rest") (some (.int r)) := DGet.k (k := Sum.inr "rest") h
theorem put_begun {H : Hp} {p l : Addr} {b r c : Int} (h : H p = some (.dK (penK l b r))) : DPut H p (.str "begun") (.int c) (upd H p (.dK (penK l c r))) := DPut.k (k := Sum.inr "begun") h (by show 3 < sizeLine; decide)
theorem put_rest {H : Hp} {p l : Addr} {b r c : Int} (h : H p = some (.dK (penK l b r))) : DPut H p (.str "rest") (.int c) (upd H p (.dK (penK l b c))) := DPut.k (k := Sum.inr "rest") h (by show 3 < sizeLine; decide)
theorem Bd_le (k : Nat) (h : k ≤ 16) : Bd k < 2 ^ 480 := by
  have : k = 0 ∨ k = 1 ∨ k = 2 ∨ k = 3 ∨ k = 4 ∨ k = 5 ∨ k = 6 ∨ k = 7 ∨ k = 8 ∨ k = 9 ∨ k = 10 ∨ k = 11 ∨ k = 12 ∨ k = 13 ∨ k = 14 ∨ k = 15 ∨ k = 16 := by omega
  rcases this with rfl | rfl | rfl | rfl | rfl | rfl | rfl | rfl | rfl | rfl | rfl | rfl | rfl | rfl | rfl | rfl | rfl <;> decide +kernel
theorem em0 (a : Int) {m : Int} (h : 0 < m) : 0 ≤ a % m := Int.emod_nonneg a (by omega)
theorem em1 (a : Int) {m : Int} (h : 0 < m) : a % m < m := Int.emod_lt_of_pos a h
section
variable {P : Program} {w : World} {K : PySem.W.Frag} {mg : Str → Option Value} {base : Heap}
set_option maxHeartbeats 16000000 in
theorem draw_step {k : Nat} (D : Dfn K mg "_law_draw" s__law_draw P__law_draw) (B : Blt mg) (G : Cal P w K mg base k "_law_draw" P__law_draw (spD k)) : Cal P w K mg base (k + 1) "_law_draw" P__law_draw (spDraw k) := by
  refine D.cal sc__law_draw (fun vs H Q E h => ?_) fun f cdv A outer s H vs Q E hr h => ?_
  · obtain ⟨p, l, many, n, rfl, _⟩ := h
    rfl
  obtain ⟨p, l, many, n, rfl, Pn, hn, h1, hm, hk, q⟩ := h
  have hu := hu_of hr
  obtain ⟨cs, b, r, hp, hl, hcs, hb0, hbn, hr0⟩ := Pn.ex
  have hm2 : many.natAbs < 2 ^ 480 := by have := Bd_le k hk; omega
  have dv : ∀ r : Int, CDivW r many := fun r => wide_div (by omega) hm2 (by decide) (by decide)
  have nlp : l ≠ p := ne_of hl hp (by intro z; cases z)
  have pw : CPow 10 18 := ⟨by decide, by decide, by decide⟩
  refine ⟨_, (pss_cons (ps_if (pt_cmpR op_gt (pe_dget hu (pv 0) pe_str (fun _ _ => rfl)) pe_int (nomark _)) (pss_cons (ps_set (i := 2) sc__law_draw.nd rfl (Or.inl rfl) (pe_op op_mod (pe_callTy call_int1 rfl B.int_ (by decide +kernel) (pa_cons (pe_dget hu (pv 0) pe_str (fun _ _ => rfl)) pa_nil)) (pv 1))) (pss_cons (ps_dput hu (pv 0) pe_str (pe_op op_fdivW (pe_dget hu (pv 0) pe_str (fun _ _ => rfl)) (pv 1)) rfl) (pss_one (ps_ret (pv 2))))) pss_nil) (pss_cons (ps_set (i := 3) sc__law_draw.nd rfl (Or.inl rfl) (pe_dget hu (pv 0) pe_str (fun _ _ => rfl))) (pss_cons (ps_dput hu (pv 0) pe_str (pe_op op_add (pv 3) pe_int) rfl) (pss_cons (ps_set (i := 4) sc__law_draw.nd rfl (Or.inl rfl) (pe_op op_add (pe_op op_mul pe_int (pv 3)) pe_int)) (C8.pss_cut (ps_if (pt_cmpR (op_neD hr.units) (pe_dget hu (pv 0) pe_str (fun _ _ => rfl)) (pe_lst pa_nil) (nomark _)) (pss_one (ps_set (i := 4) sc__law_draw.nd rfl (Or.inl rfl) (pe_ix ix_list (pe_dget hu (pv 0) pe_str (fun _ _ => rfl)) (pe_op op_mod (pe_callTy call_int1 rfl B.int_ (by decide +kernel) (pa_cons (pv 3) pa_nil)) (pe_callB call_len_seq rfl B.len_ PySem.boot_len (pa_cons (pe_dget hu (pv 0) pe_str (fun _ _ => rfl)) pa_nil))) (fun _ _ => rfl)))) pss_nil) (C8.pss_cut (ps_if (PW.pt (pw_and (pt_cmpR op_lt (pv 3) (pe_callB call_len_seq rfl B.len_ PySem.boot_len (pa_cons (pe_dget hu (pv 0) pe_str (fun _ _ => rfl)) pa_nil)) (nomark _)) (pw_and1 (pt_cmpR op_ge (pe_callB call_abs rfl B.abs_ (by decide +kernel) (pa_cons (pv 4) pa_nil)) (pe_op op_pow pe_int pe_int) (nomark _))))) (pss_cons (ps_dput hu (pv 0) pe_str (pe_op op_fdivW (pe_op op_sub (pe_callB call_abs rfl B.abs_ (by decide +kernel) (pa_cons (pv 4) pa_nil)) (pe_op op_pow pe_int pe_int)) (pv 1)) rfl) (pss_one (ps_ret (pe_op op_mod (pe_op op_sub (pe_callB call_abs rfl B.abs_ (by decide +kernel) (pa_cons (pv 4) pa_nil)) (pe_op op_pow pe_int pe_int)) (pv 1))))) pss_nil) (C8.pss_cut (ps_set (i := 5) sc__law_draw.nd rfl (Or.inl rfl) (pe_op op_mod (pe_callTy call_int1 rfl B.int_ (by decide +kernel) (pa_cons (pe_op op_add (pe_op op_add (pe_op op_mul (pe_op op_mod (pe_callTy call_int1 rfl B.int_ (by decide +kernel) (pa_cons (pv 4) pa_nil)) pe_int) pe_int) (pe_op op_mul (pe_op op_mul pe_int (pv 3)) (pv 3))) pe_int) pa_nil)) pe_int)) (C8.pss_cut (ps_set (i := 5) sc__law_draw.nd rfl (Or.inl rfl) (pe_op op_mod (pe_callTy call_int1 rfl B.int_ (by decide +kernel) (pa_cons (pe_op op_add (pe_op op_add (pe_op op_add (pe_op op_mul (pv 5) (pv 5)) (pe_op op_mul pe_int (pv 5))) (pe_op op_mul pe_int (pv 3))) pe_int) pa_nil)) pe_int)) (C8.pss_cut (ps_set (i := 5) sc__law_draw.nd rfl (Or.inl rfl) (pe_op op_fdivW (pe_op op_mod (pe_callTy call_int1 rfl B.int_ (by decide +kernel) (pa_cons (pe_op op_mul (pv 5) (pe_op op_add (pv 5) pe_int)) pa_nil)) pe_int) pe_int)) (C8.pss_cut (ps_if (pt_cmpR op_gt (pv 1) pe_int (nomark _)) (pss_one (ps_set (i := 5) sc__law_draw.nd rfl (Or.inl rfl) (pe_op op_add (pe_op op_mod (pe_callTy call_int1 rfl B.int_ (by decide +kernel) (pa_cons (pv 5) pa_nil)) pe_int) (pe_op op_mul pe_int (pe_cal G hr (pa_cons (pv 0) (pa_cons (pe_op op_add (pe_op op_fdivW (pv 1) pe_int) pe_int) pa_nil))))))) pss_nil) (pss_one (ps_ret (pe_op op_mod (pe_callTy call_int1 rfl B.int_ (by decide +kernel) (pa_cons (pv 5) pa_nil)) (pv 1)))))))))))))), ?_⟩
  refine ⟨_, rfl, p, .int r, rfl, get_rest hp, _, _, rfl, rfl, _, rfl, ?_⟩
  refine ite2 (fun c => ?_) (fun c => ?_)
  · refine ⟨_, rfl, p, .int r, rfl, get_rest hp, .inl ⟨_, rfl, _, rfl, _, _, rfl, rfl, by omega, ?_⟩⟩
    refine ⟨_, rfl, p, .int r, rfl, get_rest hp, _, rfl, _, _, rfl, rfl, dv _, _, rfl, p, _, rfl, put_rest hp, ?_⟩
    refine ⟨_, rfl, ?_⟩
    exact q _ _ (em0 _ (by omega)) (em1 _ (by omega)) ⟨cs, b, r / many, upd_same, by rw [upd_ne nlp]; exact hl, hcs, hb0, by omega, Int.ediv_nonneg hr0 (by omega)⟩ Keep.at_
  refine ⟨_, rfl, p, .int b, rfl, get_begun hp, ?_⟩
  refine ⟨_, rfl, _, _, rfl, rfl, _, rfl, p, _, rfl, put_begun hp, ?_⟩
  refine ⟨_, rfl, _, _, rfl, rfl, .inl ⟨by decide, by decide⟩, _, _, rfl, rfl, ?_⟩
  have hp1 : (upd H p (.dK (penK l (b + 1) r))) p = some (.dK (penK l (b + 1) r)) := upd_same
  have hl1 : (upd H p (.dK (penK l (b + 1) r))) l = some (.lst (cs.map V.int)) := by rw [upd_ne nlp]; exact hl
  have kp1 : Keep p H (upd H p (.dK (penK l (b + 1) r))) := Keep.at_
  generalize upd H p (.dK (penK l (b + 1) r)) = H1 at hp1 hl1 kp1 ⊢
  refine ⟨fun σ' H' => ∃ c : Int, σ' = [some (.ref p), some (.int many), none, some (.int b), some (.int c), none] ∧ H' p = some (.dK (penK l (b + 1) r)) ∧ H' l = some (.lst (cs.map V.int)) ∧ Keep p H H', ?_, ?_⟩
  · refine ⟨_, rfl, p, .ref l, rfl, get_cells hp1, (by show 0 ≤ sizeLine; decide), fun e he => ?_⟩
    have hp2 := same_new he (.lst []) _ _ hp1
    have hl2 := same_new he (.lst []) _ _ hl1
    have kp2 := kp1.new (o := .lst []) he
    refine ⟨.list (cs.map PyData.int), .list [], .lst (SqL.of hl2) (dpI cs), .lst (SqL.of upd_same) .nil, shI cs, rfl, _, rfl, ?_⟩
    generalize upd H1 e (.lst []) = H2 at hp2 hl2 kp2 ⊢
    cases hcs0 : cs with
    | nil =>
      refine iteF ?_
      exact ⟨_, rfl, hp2, by rw [← hcs0]; exact hl2, kp2⟩
    | cons c0 cr =>
      refine iteT ?_
      have hlen : 0 < ((cs.map V.int).length : Int) := by rw [List.length_map, hcs0, List.length_cons]; omega
      obtain ⟨c, hc⟩ : ∃ c, atI (cs.map V.int) (b % ((cs.map V.int).length : Int)) = some (.int c) := by
        have h0 := em0 b hlen
        have h1 := em1 b hlen
        generalize b % ((cs.map V.int).length : Int) = i at h0 h1
        obtain ⟨j, rfl⟩ : ∃ j : Nat, i = (j : Int) := ⟨i.toNat, by omega⟩
        rw [List.length_map] at h1
        have hj : j < cs.length := by omega
        exact ⟨cs[j], atI_nat (by rw [List.getElem?_map, List.getElem?_eq_getElem hj]; all_goals rfl)⟩
      refine ⟨_, rfl, p, .ref l, rfl, get_cells hp2, _, rfl, .inl ⟨_, rfl, _, rfl, p, .ref l, rfl, get_cells hp2, l, _, rfl, .inl (SqL.of hl2), _, _, rfl, rfl, hlen, l, _, _, _, rfl, rfl, SqL.of hl2, hc, ?_⟩⟩
      exact ⟨c, rfl, hp2, by rw [← hcs0]; exact hl2, kp2⟩
  rintro σ' H3 ⟨c, rfl, hp3, hl3, kp3⟩
  refine ⟨fun σ' H' => σ' = [some (.ref p), some (.int many), none, some (.int b), some (.int c), none] ∧ H' = H3, ?_, ?_⟩
  · refine ⟨_, rfl, _, rfl, p, .ref l, rfl, get_cells hp3, l, _, rfl, .inl (SqL.of hl3), _, _, rfl, rfl, _, rfl, ?_⟩
    refine ite2 (fun _ => ?_) (fun _ => ?_)
    · refine ⟨_, rfl, _, rfl, _, _, rfl, rfl, pw, _, _, rfl, rfl, _, rfl, ?_⟩
      refine ite2 (fun c2 => ?_) (fun _ => ?_)
      · refine ⟨_, rfl, _, rfl, _, _, rfl, rfl, pw, _, _, rfl, rfl, _, rfl, _, _, rfl, rfl, dv _, _, rfl, p, _, rfl, put_rest hp3, ?_⟩
        refine ⟨_, rfl, _, rfl, _, _, rfl, rfl, pw, _, _, rfl, rfl, _, rfl, _, _, rfl, rfl, by omega, ?_⟩
        have c3 := of_decide_eq_true c2
        exact q _ _ (em0 _ (by omega)) (em1 _ (by omega)) ⟨cs, b + 1, _, upd_same, by rw [upd_ne nlp]; exact hl3, hcs, by omega, by omega, Int.ediv_nonneg (by omega) (by omega)⟩ (kp3.trans Keep.at_)
      · exact ⟨rfl, rfl⟩
    · exact iteF ⟨rfl, rfl⟩
  rintro σ' H' ⟨rfl, rfl⟩
  have c1 : -(2 ^ 64) < c % 4294967279 ∧ c % 4294967279 < 2 ^ 64 := by
    have := em0 c (m := 4294967279) (by decide)
    have := em1 c (m := 4294967279) (by decide)
    omega
  have c2 : -(2 ^ 64) < 40503 * b ∧ 40503 * b < 2 ^ 64 := by omega
  refine ⟨fun σ' H'' => ∃ m : Int, σ' = [some (.ref p), some (.int many), none, some (.int b), some (.int c), some (.int m)] ∧ 0 ≤ m ∧ m < 4294967291 ∧ H'' = H', ?_, ?_⟩
  · refine ⟨_, rfl, .inl ⟨_, rfl, _, _, rfl, rfl, by omega, _, _, rfl, rfl, .inl c1, _, rfl, _, _, rfl, rfl, .inl ⟨by decide, by decide⟩, _, rfl, _, _, rfl, rfl, .inl c2, _, _, rfl, rfl, _, _, rfl, rfl, .inl ⟨_, rfl, _, _, rfl, rfl, by omega, ?_⟩⟩⟩
    exact ⟨_, rfl, em0 _ (by decide), em1 _ (by decide), rfl⟩
  rintro σ' H' ⟨m1, rfl, d0, d1, rfl⟩
  have m1b : -(2 ^ 64) < m1 ∧ m1 < 2 ^ 64 := by omega
  refine ⟨fun σ' H'' => ∃ m : Int, σ' = [some (.ref p), some (.int many), none, some (.int b), some (.int c), some (.int m)] ∧ 0 ≤ m ∧ m < 4294967291 ∧ H'' = H', ?_, ?_⟩
  · refine ⟨_, rfl, _, rfl, _, _, rfl, rfl, .inl m1b, _, rfl, _, _, rfl, rfl, .inl ⟨by decide, by decide⟩, _, _, rfl, rfl, _, rfl, _, _, rfl, rfl, .inl ⟨by decide, by decide⟩, _, _, rfl, rfl, _, _, rfl, rfl, .inl ⟨_, rfl, _, _, rfl, rfl, by omega, ?_⟩⟩
    exact ⟨_, rfl, em0 _ (by decide), Int.lt_trans (em1 _ (by decide)) (by decide), rfl⟩
  rintro σ' H' ⟨m2, rfl, e0, e1, rfl⟩
  have m2b : -(2 ^ 64) < m2 ∧ m2 < 2 ^ 64 := by omega
  refine ⟨fun σ' H'' => ∃ m : Int, σ' = [some (.ref p), some (.int many), none, some (.int b), some (.int c), some (.int m)] ∧ H'' = H', ?_, ?_⟩
  · refine ⟨_, rfl, _, rfl, _, _, rfl, rfl, _, _, rfl, rfl, .inl m2b, .inl ⟨_, rfl, _, _, rfl, rfl, by omega, _, _, rfl, rfl, wide_div (b := 7) (by decide) (by decide) (by decide) (by decide), ?_⟩⟩
    exact ⟨_, rfl, rfl⟩
  rintro σ' H' ⟨m3, rfl, rfl⟩
  refine ⟨fun σ' H' => ∃ m : Int, σ' = [some (.ref p), some (.int many), none, some (.int b), some (.int c), some (.int m)] ∧ Pen H' p l (n + (k + 1)) ∧ Keep p H H', ?_, ?_⟩
  · have P3 : Pen H' p l (n + 1) := ⟨cs, b + 1, r, hp3, hl3, hcs, by omega, by omega, hr0⟩
    refine ⟨_, rfl, _, _, rfl, rfl, _, rfl, ?_⟩
    refine ite2 (fun c4 => ?_) (fun c4 => ?_)
    · have c5 := of_decide_eq_true c4
      have dk : ∃ j, k = j + 1 := by
        cases k with
        | zero => exact absurd hm (by show ¬ many ≤ 60000000; omega)
        | succ j => exact ⟨j, rfl⟩
      obtain ⟨j, rfl⟩ := dk
      have hB : many ≤ 60000000 * (Bd j - 1) := hm
      refine ⟨_, rfl, .inl ⟨_, rfl, _, _, rfl, rfl, by omega, _, rfl, _, rfl, _, _, rfl, rfl, wide_div (b := 26) (by decide) (by decide) (by decide) (by decide), _, _, rfl, rfl, p, l, _, n + 1, rfl, P3, by omega, by omega, by omega, by omega, fun v H4 v0 v1 P4 k4 => ?_⟩⟩
      refine ⟨_, _, rfl, rfl, .inl ⟨by decide, by decide⟩, _, _, rfl, rfl, ?_⟩
      exact ⟨_, rfl, P4.le (by omega), kp3.trans k4⟩
    · exact ⟨_, rfl, P3.le (by omega), kp3⟩
  rintro σ' H5 ⟨m, rfl, P5, k5⟩
  refine ⟨_, rfl, .inl ⟨_, rfl, _, rfl, _, _, rfl, rfl, by omega, ?_⟩⟩
  exact q _ _ (em0 _ (by omega)) (em1 _ (by omega)) P5 k5
theorem ok_drawN (D : Dfn K mg "_law_draw" s__law_draw P__law_draw) (B : Blt mg) : ∀ k : Nat, Cal P w K mg base k "_law_draw" P__law_draw (spD k)
  | 0 => D.none_left
  | k + 1 => draw_step D B (ok_drawN D B k)
/-- what callers use: bounds up to 10 ^ 81 -/
def spDr : Sp := fun vs H Q _ => ∃ (p l : Addr) (many : Int) (n : Nat), vs = [.ref p, .int many] ∧ Pen H p l n ∧ n ≤ 2 ^ 39 ∧ 1 ≤ many ∧ many ≤ 10 ^ 81 ∧
  ∀ v H', 0 ≤ v → v < many → Pen H' p l (n + 12) → Keep p H H' → Q (.int v) H'
theorem ok_draw (D : Dfn K mg "_law_draw" s__law_draw P__law_draw) (B : Blt mg) : Cal P w K mg base 12 "_law_draw" P__law_draw spDr := by
  obtain ⟨f, fd, F, r⟩ := ok_drawN (P := P) (w := w) (base := base) D B 12
  refine ⟨f, fd, F.imp fun vs H Q E h => ?_, r⟩
  obtain ⟨p, l, many, n, rfl, a, b, c, d, e⟩ := h
  exact ⟨p, l, many, n, rfl, a, (by show n + 11 ≤ 2 ^ 40; omega), c, Int.le_trans d (by decide +kernel), by decide, e⟩
end
end Ur
/-! K2: pick, around, power, great, names. -/
namespace Ur
open PySem PySem.Spec PyProof.Rows L2
/-! ### pick -/
abbrev s__law_pick : Stmt := (topS 52)
abbrev N_sc__law_pick : List Str := ["_law_pen_here", "_law_options"]
abbrev P__law_pick : List Str := ["_law_pen_here", "_law_options"]
theorem sc__law_pick : FnScope N_sc__law_pick P__law_pick (defScope s__law_pick) := ⟨rfl, rfl, rfl, by decide +kernel, rfl, by decide +kernel, by decide +kernel⟩
def spPickL (K : PySem.W.Frag) : Sp := fun vs H Q _ => ∃ (p l a : Addr) (xs : List V) (n : Nat), vs = [.ref p, .ref a] ∧ Pen H p l n ∧ n ≤ 2 ^ 39 ∧ SqL K H a xs ∧ 1 ≤ xs.length ∧ xs.length ≤ 1000000 ∧
  ∀ v H', v ∈ xs → Pen H' p l (n + 12) → Keep p H H' → Q v H'
def spPickS : Sp := fun vs H Q _ => ∃ (p l : Addr) (z : Str) (n : Nat), vs = [.ref p, .str z] ∧ Pen H p l n ∧ n ≤ 2 ^ 39 ∧ 1 ≤ z.length ∧ z.length ≤ 1000000 ∧
  ∀ c H', c ∈ z.cps.toList → Pen H' p l (n + 12) → Keep p H H' → Q (.str ⟨#[c]⟩) H'
theorem at_some {α : Type} {xs : List α} {i : Int} (h0 : 0 ≤ i) (h1 : i < (xs.length : Int)) : ∃ v, atI xs i = some v ∧ v ∈ xs := by
  obtain ⟨j, rfl⟩ : ∃ j : Nat, i = (j : Int) := ⟨i.toNat, by omega⟩
  have hj : j < xs.length := by omega
  exact ⟨xs[j], atI_nat (List.getElem?_eq_getElem hj), List.getElem_mem hj⟩
section
variable {P : Program} {w : World} {K : PySem.W.Frag} {mg : Str → Option Value} {base : Heap}
theorem ok_pickL (D : Dfn K mg "_law_pick" s__law_pick P__law_pick) (B : Blt mg) (CD : Cal P w K mg base 12 "_law_draw" P__law_draw spDr) : Cal P w K mg base 13 "_law_pick" P__law_pick (spPickL K) := by
  refine D.cal sc__law_pick (fun vs H Q E h => ?_) fun f cdv A outer s H vs Q E hr h => ?_
  · obtain ⟨p, l, a, xs, n, rfl, _⟩ := h
    rfl
  obtain ⟨p, l, a, xs, n, rfl, Pn, hn, hS, h1, h2, q⟩ := h
  obtain ⟨kvs, hp⟩ := Pn.dk
  refine ⟨_, (pss_one (ps_ret (pe_ix ix_list (pv 1) (pe_cal CD (hr.mono (by decide)) (pa_cons (pv 0) (pa_cons (pe_callB call_len_seq rfl B.len_ PySem.boot_len (pa_cons (pv 1) pa_nil)) pa_nil))) (fun _ _ => rfl)))), ?_⟩
  refine ⟨_, rfl, _, rfl, _, rfl, a, _, rfl, .inl hS, p, l, _, n, rfl, Pn, hn, by omega, by omega, fun v H1 v0 v1 P1 k1 => ?_⟩
  obtain ⟨x, hx, hm⟩ := at_some v0 v1
  exact ⟨a, xs, v, x, rfl, rfl, k1.lst hp hS, hx, q _ _ hm P1 k1⟩
theorem ok_pickS (D : Dfn K mg "_law_pick" s__law_pick P__law_pick) (B : Blt mg) (CD : Cal P w K mg base 12 "_law_draw" P__law_draw spDr) : Cal P w K mg base 13 "_law_pick" P__law_pick spPickS := by
  refine D.cal sc__law_pick (fun vs H Q E h => ?_) fun f cdv A outer s H vs Q E hr h => ?_
  · obtain ⟨p, l, z, n, rfl, _⟩ := h
    rfl
  obtain ⟨p, l, z, n, rfl, Pn, hn, h1, h2, q⟩ := h
  have hz : z.length ≤ sizeLine := Nat.le_trans h2 (by decide)
  refine ⟨_, (pss_one (ps_ret (pe_ix ix_str (pv 1) (pe_cal CD (hr.mono (by decide)) (pa_cons (pv 0) (pa_cons (pe_callB call_len_str rfl B.len_ PySem.boot_len (pa_cons (pv 1) pa_nil)) pa_nil))) (fun _ _ => rfl)))), ?_⟩
  refine ⟨_, rfl, _, rfl, _, rfl, _, rfl, hz, p, l, _, n, rfl, Pn, hn, by omega, by omega, fun v H1 v0 v1 P1 k1 => ?_⟩
  have e : z.length = z.cps.toList.length := by show z.cps.size = _; rw [Array.length_toList]
  obtain ⟨x, hx, hm⟩ := at_some (xs := z.cps.toList) v0 (by omega)
  exact ⟨z, v, x, rfl, rfl, hz, hx, q _ _ hm P1 k1⟩
end
/-! ### around -/
abbrev s__law_around : Stmt := (topS 53)
abbrev N_sc__law_around : List Str := ["_law_pen_here", "_law_most"]
abbrev P__law_around : List Str := ["_law_pen_here", "_law_most"]
theorem sc__law_around : FnScope N_sc__law_around P__law_around (defScope s__law_around) := ⟨rfl, rfl, rfl, by decide +kernel, rfl, by decide +kernel, by decide +kernel⟩
def spAround : Sp := fun vs H Q _ => ∃ (p l : Addr) (most : Int) (n : Nat), vs = [.ref p, .int most] ∧ Pen H p l n ∧ n ≤ 2 ^ 39 ∧ 0 ≤ most ∧ most ≤ 10 ^ 80 ∧
  ∀ v H', -most ≤ v → v ≤ most → Pen H' p l (n + 12) → Keep p H H' → Q (.int v) H'
section
variable {P : Program} {w : World} {K : PySem.W.Frag} {mg : Str → Option Value} {base : Heap}
theorem ok_around (D : Dfn K mg "_law_around" s__law_around P__law_around) (CD : Cal P w K mg base 12 "_law_draw" P__law_draw spDr) : Cal P w K mg base 13 "_law_around" P__law_around spAround := by
  refine D.cal sc__law_around (fun vs H Q E h => ?_) fun f cdv A outer s H vs Q E hr h => ?_
  · obtain ⟨p, l, most, n, rfl, _⟩ := h
    rfl
  obtain ⟨p, l, most, n, rfl, Pn, hn, h1, h2, q⟩ := h
  refine ⟨_, (pss_one (ps_ret (pe_op op_sub (pe_cal CD (hr.mono (by decide)) (pa_cons (pv 0) (pa_cons (pe_op op_add (pe_op op_mul pe_int (pv 1)) pe_int) pa_nil))) (pv 1)))), ?_⟩
  refine ⟨_, rfl, _, rfl, _, _, rfl, rfl, .inl ⟨by decide, by decide⟩, _, _, rfl, rfl, p, l, _, n, rfl, Pn, hn, by omega, by omega, fun v H1 v0 v1 P1 k1 => ?_⟩
  exact ⟨_, rfl, _, _, rfl, rfl, q _ _ (by omega) (by omega) P1 k1⟩
end
/-! ### power, great -/
abbrev s__law_power : Stmt := (topS 54)
abbrev N_sc__law_power : List Str := ["_law_figures", "_law_found", "_law_k"]
abbrev P__law_power : List Str := ["_law_figures"]
theorem sc__law_power : FnScope N_sc__law_power P__law_power (defScope s__law_power) := ⟨rfl, rfl, rfl, by decide +kernel, rfl, by decide +kernel, by decide +kernel⟩
def spPower : Sp := fun vs H Q _ => ∃ (g : Nat), vs = [.int (g : Int)] ∧ g ≤ 100 ∧ Q (.int (10 ^ g)) H
theorem pow_bits {i : Nat} (h : i ≤ 100) : ((10 : Int) ^ i).natAbs < 2 ^ 400 := by
  have e : ((10 : Int) ^ i).natAbs = 10 ^ i := by rw [Int.natAbs_pow]; rfl
  rw [e]
  exact Nat.lt_of_le_of_lt (Nat.pow_le_pow_right (by decide) h) (by decide +kernel)
section
variable {P : Program} {w : World} {K : PySem.W.Frag} {mg : Str → Option Value} {base : Heap}
theorem ok_power (D : Dfn K mg "_law_power" s__law_power P__law_power) (B : Blt mg) : Cal P w K mg base 1 "_law_power" P__law_power spPower := by
  refine D.cal sc__law_power (fun vs H Q E h => ?_) fun f cdv A outer s H vs Q E hr h => ?_
  · obtain ⟨g, rfl, _⟩ := h
    rfl
  obtain ⟨g, rfl, hg, q⟩ := h
  refine ⟨_, (pss_cons (ps_set (i := 1) sc__law_power.nd rfl (Or.inl rfl) pe_int) (pss_cons (ps_for PassesOwn.never rfl (pi_range1 rfl B.range_ (pa_cons (pv 0) pa_nil)) (pg_name (i := 2) sc__law_power.nd rfl (Or.inl rfl)) (pss_one (ps_set (i := 1) sc__law_power.nd rfl (Or.inl rfl) (pe_op op_mulW (pv 1) pe_int)))) (pss_one (ps_ret (pv 1))))), ?_⟩
  refine ⟨_, rfl, (g : Int), rfl, by omega, by omega, for_range (lo := 0) (n := (g : Int).toNat) (fun i σ H' => i ≤ g ∧ H' = H ∧ ∃ v, σ = [some (.int (g : Int)), some (.int (10 ^ i)), v]) ⟨by omega, rfl, _, rfl⟩ ?_ ?_⟩
  · rintro i σ H' hi ⟨hi2, rfl, v, rfl⟩
    refine ⟨_, rfl, _, _, rfl, rfl, wide_mul (a := 400) (b := 4) (pow_bits (by omega)) (by decide) (by decide) (by decide) (by decide), ?_⟩
    exact ⟨by omega, rfl, _, by rw [Int.pow_succ]; rfl⟩
  · rintro σ H' ⟨hi2, rfl, v, rfl⟩
    exact ⟨_, rfl, q⟩
end
theorem pow10_le {a b : Nat} (h : a ≤ b) : (10 : Int) ^ a ≤ 10 ^ b := by
  have z := Nat.pow_le_pow_right (n := 10) (by decide) h
  exact_mod_cast z
abbrev s__law_great : Stmt := (topS 55)
abbrev N_sc__law_great : List Str := ["_law_pen_here", "_law_figures", "_law_most", "_law_some"]
abbrev P__law_great : List Str := ["_law_pen_here", "_law_figures"]
theorem sc__law_great : FnScope N_sc__law_great P__law_great (defScope s__law_great) := ⟨rfl, rfl, rfl, by decide +kernel, rfl, by decide +kernel, by decide +kernel⟩
def spGreat : Sp := fun vs H Q _ => ∃ (p l : Addr) (g n : Nat), vs = [.ref p, .int (g : Int)] ∧ Pen H p l n ∧ n + 72 ≤ 2 ^ 39 ∧ 1 ≤ g ∧ g ≤ 80 ∧
  ∀ v H', 0 ≤ v → v < 10 ^ g → Pen H' p l (n + 72) → Keep p H H' → Q (.int v) H'
section
variable {P : Program} {w : World} {K : PySem.W.Frag} {mg : Str → Option Value} {base : Heap}
theorem ok_great (D : Dfn K mg "_law_great" s__law_great P__law_great) (CW : Cal P w K mg base 1 "_law_power" P__law_power spPower) (CD : Cal P w K mg base 12 "_law_draw" P__law_draw spDr) (CP : Cal P w K mg base 13 "_law_pick" P__law_pick (spPickL K)) :
    Cal P w K mg base 14 "_law_great" P__law_great spGreat := by
  refine D.cal sc__law_great (fun vs H Q E h => ?_) fun f cdv A outer s H vs Q E hr h => ?_
  · obtain ⟨p, l, g, n, rfl, _⟩ := h
    rfl
  obtain ⟨p, l, g, n, rfl, Pn, hn, g1, g2, q⟩ := h
  obtain ⟨kvs, hp⟩ := Pn.dk
  have big : (10 : Int) ≤ 10 ^ g := pow10_le g1
  have top : (10 : Int) ^ g ≤ 10 ^ 81 := pow10_le (by omega)
  refine ⟨_, (pss_cons (ps_set (i := 2) sc__law_great.nd rfl (Or.inl rfl) (pe_cal CW (hr.mono (by decide)) (pa_cons (pv 1) pa_nil))) (pss_cons (ps_set (i := 3) sc__law_great.nd rfl (Or.inl rfl) (pe_lst (pa_cons (pe_cal CD (hr.mono (by decide)) (pa_cons (pv 0) (pa_cons pe_int pa_nil))) (pa_cons (pe_cal CD (hr.mono (by decide)) (pa_cons (pv 0) (pa_cons (pv 2) pa_nil))) (pa_cons (pe_cal CD (hr.mono (by decide)) (pa_cons (pv 0) (pa_cons (pv 2) pa_nil))) pa_nil))))) (pss_one (ps_ret (pe_cal CP (hr.mono (by decide)) (pa_cons (pv 0) (pa_cons (pe_op op_cat (pv 3) (pe_lst (pa_cons (pe_op op_add (pe_op op_fdivW (pv 2) pe_int) (pe_cal CD (hr.mono (by decide)) (pa_cons (pv 0) (pa_cons pe_int pa_nil)))) (pa_cons (pe_op op_sub (pe_op op_sub (pv 2) pe_int) (pe_cal CD (hr.mono (by decide)) (pa_cons (pv 0) (pa_cons pe_int pa_nil)))) pa_nil)))) pa_nil))))))), ?_⟩
  refine ⟨_, rfl, g, rfl, by omega, ?_⟩
  generalize (10 : Int) ^ g = most at big top q ⊢
  refine ⟨_, rfl, p, l, _, n, rfl, Pn, by omega, by omega, by omega, fun v1 H1 a1 b1 P1 k1 => ?_⟩
  refine ⟨_, rfl, _, rfl, p, l, _, _, rfl, P1, by omega, by omega, by omega, fun v2 H2 a2 b2 P2 k2 => ?_⟩
  refine ⟨_, rfl, _, rfl, p, l, _, _, rfl, P2, by omega, by omega, by omega, fun v3 H3 a3 b3 P3 k3 => ?_⟩
  refine ⟨(by show 3 ≤ sizeLine; decide), fun t ht => ?_⟩
  have P4 := P3.new (o := .lst [.int v1, .int v2, .int v3]) ht
  have k4 := ((k1.trans k2).trans k3).new (o := .lst [.int v1, .int v2, .int v3]) ht
  have ht4 : (upd H3 t (.lst [.int v1, .int v2, .int v3])) t = some (.lst [.int v1, .int v2, .int v3]) := upd_same
  have tp := P3.ne ht
  have tl := P3.nl ht
  generalize upd H3 t (.lst [.int v1, .int v2, .int v3]) = H4 at P4 k4 ht4 ⊢
  refine ⟨_, rfl, _, rfl, _, rfl, _, _, rfl, rfl, wide_div (b := 4) (by decide) (by decide) (by decide) (by decide), _, rfl, p, l, _, _, rfl, P4, by omega, by omega, by omega, fun v4 H5 a4 b4 P5 k5 => ?_⟩
  refine ⟨_, _, rfl, rfl, _, rfl, _, _, rfl, rfl, _, rfl, p, l, _, _, rfl, P5, by omega, by omega, by omega, fun v5 H6 a5 b5 P6 k6 => ?_⟩
  refine ⟨_, _, rfl, rfl, (by show 2 ≤ sizeLine; decide), fun u hu => ?_⟩
  have e6 := k6 _ _ (k5 _ _ ht4 tp) tp
  have e7 := same_new hu (.lst [.int (most / 10 + v4), .int (most - 1 - v5)]) _ _ e6
  refine ⟨t, u, _, _, rfl, rfl, e7, upd_same, (by show 5 ≤ sizeLine; decide), fun y hy => ?_⟩
  refine ⟨p, l, y, _, _, rfl, (P6.new hu).new hy, by omega, SqL.of upd_same, by show 1 ≤ 5; decide, by show 5 ≤ 1000000; decide, fun v H7 hv P7 k7 => ?_⟩
  have z : ∃ i : Int, v = .int i ∧ 0 ≤ i ∧ i < most := by
    simp only [List.mem_append, List.mem_cons, List.not_mem_nil, or_false] at hv
    rcases hv with (rfl | rfl | rfl) | (rfl | rfl) <;> exact ⟨_, rfl, by omega, by omega⟩
  obtain ⟨i, rfl, i0, i1⟩ := z
  exact q i H7 i0 i1 (P7.le (by omega)) ((((k4.trans k5).trans k6).new hu).new hy |>.trans k7)
end
end Ur
/-! K3: names. -/
namespace Ur
open PySem PySem.Spec PyProof.Rows L2
/-- small letters only -/
def LetOk (z : Str) : Prop := ∀ c ∈ z.cps.toList, 97 ≤ c ∧ c ≤ 122
def NameOk (z : Str) : Prop := 1 ≤ z.length ∧ z.length ≤ 8 ∧ LetOk z
theorem LetOk.app {a b : Str} (x : LetOk a) (y : LetOk b) : LetOk (a ++ b) := fun c h => by
  rw [Str.cps_append, Array.toList_append, List.mem_append] at h
  exact h.elim (x c) (y c)
theorem LetOk.empty : LetOk Str.empty := fun c h => by simp [Str.empty] at h
theorem LetOk.one {c : Nat} (h : 97 ≤ c ∧ c ≤ 122) : LetOk ⟨#[c]⟩ := fun d hd => by
  have e : d = c := by simpa using hd
  rw [e]; exact h
def lett : Str := Str.ofString "abcdefghijklmnopqrstuvwxyz"
theorem lett_ok : LetOk lett := by unfold LetOk; decide +kernel
theorem lett_len : lett.length = 26 := by decide +kernel
theorem lett_tl : lett.cps.toList.length = 26 := by decide +kernel
theorem join_ok : ∀ ss : List Str, (∀ z ∈ ss, z.length = 1 ∧ LetOk z) → (Txt.join Str.empty ss).length = ss.length ∧ LetOk (Txt.join Str.empty ss) := by
  intro ss h
  rw [show Txt.join Str.empty ss = Str.join Str.empty ss from PySem.StrLaws.glued_eq_join _ _]
  induction ss with
  | nil => exact ⟨rfl, LetOk.empty⟩
  | cons a r ih =>
    have ha := h a List.mem_cons_self
    have hr := ih fun z hz => h z (List.mem_cons_of_mem _ hz)
    cases r with
    | nil => exact ⟨ha.1, ha.2⟩
    | cons b r =>
      show (a ++ Str.empty ++ Str.join Str.empty (b :: r)).length = (b :: r).length + 1 ∧ LetOk (a ++ Str.empty ++ Str.join Str.empty (b :: r))
      rw [Str.append_empty, Str.length_append, hr.1, ha.1]
      exact ⟨by omega, ha.2.app hr.2⟩
theorem sum_ones : ∀ ss : List Str, (∀ z ∈ ss, z.length = 1 ∧ LetOk z) → (ss.map (·.length)).sum = ss.length
  | [], _ => rfl
  | a :: r, h => by
    rw [List.map_cons, List.sum_cons, sum_ones r fun z hz => h z (List.mem_cons_of_mem _ hz), (h a List.mem_cons_self).1, List.length_cons]
    omega
theorem mem_snoc {α : Type} {P : α → Prop} {l : List α} {a : α} (h : ∀ z ∈ l, P z) (ha : P a) : ∀ z ∈ l ++ [a], P z := fun z hz => by
  rcases List.mem_append.mp hz with q | q
  · exact h z q
  · rw [List.mem_singleton.mp q]; exact ha
abbrev s__law_names : Stmt := (topS 56)
abbrev N_sc__law_names : List Str := ["_law_pen_here", "_law_many", "_law_letters", "_law_stem", "_law_k", "_law_front", "_law_found", "_law_step", "_law_own", "_law_tail"]
abbrev P__law_names : List Str := ["_law_pen_here", "_law_many"]
theorem sc__law_names : FnScope N_sc__law_names P__law_names (defScope s__law_names) := ⟨rfl, rfl, rfl, by decide +kernel, rfl, by decide +kernel, by decide +kernel⟩
def spNames : Sp := fun vs H Q _ => ∃ (p l : Addr) (m n : Nat), vs = [.ref p, .int (m : Int)] ∧ Pen H p l n ∧ n + 12 * (m + 9) ≤ 2 ^ 39 ∧ m ≤ 1000 ∧
  ∀ (F : Addr) (ss : List Str) (H' : Hp), H' F = some (.lst (ss.map V.str)) → ss.length = m → (∀ z ∈ ss, NameOk z) → H F = none → Pen H' p l (n + 12 * (m + 9)) → Keep p H H' → Q (.ref F) H'
section
variable {P : Program} {w : World} {K : PySem.W.Frag} {mg : Str → Option Value} {base : Heap}
set_option maxHeartbeats 16000000 in
theorem ok_names (D : Dfn K mg "_law_names" s__law_names P__law_names) (B : Blt mg) (CD : Cal P w K mg base 12 "_law_draw" P__law_draw spDr) (CP : Cal P w K mg base 13 "_law_pick" P__law_pick (spPickL K)) (CS : Cal P w K mg base 13 "_law_pick" P__law_pick spPickS) :
    Cal P w K mg base 14 "_law_names" P__law_names spNames := by
  refine D.cal sc__law_names (fun vs H Q E h => ?_) fun f cdv A outer s H vs Q E hr h => ?_
  · obtain ⟨p, l, m, n, rfl, _⟩ := h
    rfl
  obtain ⟨p, l, m, n, rfl, Pn, hn, hm, q⟩ := h
  obtain ⟨kvs, hp⟩ := Pn.dk
  have small : ∀ x : Nat, x ≤ 1000 → x ≤ sizeLine := fun x h => Nat.le_trans h (by decide)
  refine ⟨_, (pss_cons (ps_set (i := 2) sc__law_names.nd rfl (Or.inr rfl) pe_str) (C8.pss_cut (ps_set (i := 3) sc__law_names.nd rfl (Or.inl rfl) (pe_join pe_str (pe_lc (own := [("_law_k", 4)]) (g := gName 4) (tt := tYes) rfl sc__law_names.nd (pi_range1 rfl B.range_ (pa_cons (pe_cal CD (hr.mono (by decide)) (pa_cons (pv 0) (pa_cons pe_int pa_nil))) pa_nil)) (blkOk_by (N := N_sc__law_names) (sc := defScope s__law_names) (by decide +kernel)) (fun _ _ _ _ _ => pg_name (i := 4) sc__law_names.nd rfl (Or.inl rfl)) (fun _ _ _ _ _ => pts_nil) (fun _ _ _ _ _ => (pe_cal CS (hr.mono (by decide)) (pa_cons (pv 0) (pa_cons (pv 2) pa_nil))))))) (pss_cons (ps_par (i := 5) (j := 6) rfl sc__law_names.nd rfl rfl (by decide) rfl rfl (pa_cons (pe_cal CD (hr.mono (by decide)) (pa_cons (pv 0) (pa_cons pe_int pa_nil))) (pa_cons (pe_lst pa_nil) pa_nil)) (by rfl)) (pss_cons (ps_set (i := 7) sc__law_names.nd rfl (Or.inl rfl) (pe_cal CP (hr.mono (by decide)) (pa_cons (pv 0) (pa_cons (pe_lst (pa_cons pe_int (pa_cons pe_int (pa_cons pe_int (pa_cons pe_int (pa_cons pe_int (pa_cons pe_int (pa_cons pe_int (pa_cons pe_int (pa_cons pe_int (pa_cons pe_int (pa_cons pe_int (pa_cons pe_int pa_nil))))))))))))) pa_nil)))) (pss_cons (ps_for PassesOwn.never rfl (pi_range1 rfl B.range_ (pa_cons (pv 1) pa_nil)) (pg_name (i := 4) sc__law_names.nd rfl (Or.inl rfl)) (pss_cons (ps_set (i := 8) sc__law_names.nd rfl (Or.inl rfl) (pe_ix ix_str (pv 2) (pe_op op_mod (pe_callTy call_int1 rfl B.int_ (by decide +kernel) (pa_cons (pe_op op_add (pv 5) (pe_op op_mul (pv 7) (pv 4))) pa_nil)) pe_int) (fun _ _ => rfl))) (C8.pss_cut (ps_set (i := 9) sc__law_names.nd rfl (Or.inl rfl) (pe_ifExp (pt_cmpR op_lt (pv 4) pe_int (nomark _)) pe_str (pe_cal CS (hr.mono (by decide)) (pa_cons (pv 0) (pa_cons (pv 2) pa_nil))))) (pss_one (ps_expr (pe_bm PySem.F.plainAttrs_list PySem.F.slot_list_append PySem.F.type_list_append mt_append (pv 6) (pa_cons (pe_op op_add_str (pe_ix ix_list (pe_lst (pa_cons (pe_op op_add_str (pv 3) (pv 8)) (pa_cons (pe_op op_add_str (pv 8) (pv 3)) pa_nil))) (pe_op op_mod (pe_callB call_len_str rfl B.len_ PySem.boot_len (pa_cons (pv 3) pa_nil)) pe_int) (fun _ _ => rfl)) (pv 9)) pa_nil))))))) (pss_one (ps_ret (pv 6)))))))), ?_⟩
  refine ⟨fun σ' H' => ∃ stem : Str, σ' = [some (.ref p), some (.int (m : Int)), some (.str lett), some (.str stem), none, none, none, none, none, none] ∧ stem.length ≤ 6 ∧ LetOk stem ∧ Pen H' p l (n + 84) ∧ Keep p H H', ?_, ?_⟩
  · refine ⟨⟨_, rfl⟩, _, rfl, p, l, 7, n, rfl, Pn, by omega, by omega, by omega, fun v0 H1 a0 b0 P1 k1 => ?_⟩
    refine ⟨v0, rfl, by omega, by omega, fun D hD => lc_range (lo := 0) (n := v0.toNat) (fun i H' => ∃ ss : List Str, H' D = some (.lst (ss.map V.str)) ∧ ss.length = i ∧ (∀ z ∈ ss, z.length = 1 ∧ LetOk z) ∧ Pen H' p l (n + 12 + 12 * i) ∧ Keep p H H')
      ⟨[], upd_same, rfl, fun z hz => absurd hz List.not_mem_nil, (P1.new hD).le (by omega), k1.new hD⟩ ?_ ?_⟩
    · rintro i H' hi ⟨ss, hs, hl, ho, Pi, ki⟩
      refine ⟨rfl, ?_⟩
      refine ⟨_, rfl, _, rfl, p, l, lett, _, rfl, Pi, by omega, by rw [lett_len]; decide, by rw [lett_len]; decide, fun c H3 hc P3 k3 => ?_⟩
      have nD := P1.ne hD
      have nDl := P1.nl hD
      have hD0 : H D = none := k1.none_of hD nD
      refine ⟨ss.map V.str, k3 _ _ hs nD, by rw [List.length_map]; exact small1000 (by omega), ss ++ [⟨#[c]⟩], by rw [upd_same, List.map_append]; rfl, by rw [List.length_append, hl]; rfl, mem_snoc ho ⟨rfl, LetOk.one (lett_ok c hc)⟩, (P3.le (by omega)).upd nD nDl, (ki.trans k3).at_new hD0⟩
    · rintro H' ⟨ss, hs, hl, ho, Pi, ki⟩
      refine ⟨_, D, ss, rfl, rfl, .inl (SqL.of hs), ?_, ?_⟩
      · rw [sum_ones ss ho]
        show ss.length + ss.length * 0 ≤ _
        omega
      · obtain ⟨j1, j2⟩ := join_ok ss ho
        exact ⟨_, rfl, by show (Txt.join Str.empty ss).length ≤ 6; omega, j2, Pi.le (by omega), ki⟩
  rintro σ' H1 ⟨stem, rfl, st1, st2, P1, k1⟩
  refine ⟨_, rfl, p, l, 26, _, rfl, P1, by omega, by omega, by omega, fun fr H2 f0 f1 P2 k2 => ?_⟩
  refine ⟨(by show 0 ≤ sizeLine; decide), fun F hF => ?_⟩
  have nF := P2.ne hF
  have nFl := P2.nl hF
  have hF0 : H F = none := (k1.trans k2).none_of hF nF
  refine ⟨_, _, rfl, ?_⟩
  refine ⟨_, rfl, (by show 12 ≤ sizeLine; decide), fun t ht => ?_⟩
  refine ⟨p, l, t, _, _, rfl, (P2.new hF).new ht, by omega, SqL.of upd_same, by show 1 ≤ 12; decide, by show 12 ≤ 1000000; decide, fun st H4 hst P4 k4 => ?_⟩
  obtain ⟨sp, hsp, rfl⟩ : ∃ i : Int, i ∈ ([1, 3, 5, 7, 9, 11, 15, 17, 19, 21, 23, 25] : List Int) ∧ V.int i = st := List.mem_map.mp (show st ∈ ([1, 3, 5, 7, 9, 11, 15, 17, 19, 21, 23, 25] : List Int).map V.int from hst)
  have sp1 : 1 ≤ sp ∧ sp ≤ 25 := (by decide : ∀ i ∈ ([1, 3, 5, 7, 9, 11, 15, 17, 19, 21, 23, 25] : List Int), 1 ≤ i ∧ i ≤ 25) sp hsp
  have hF4 : H4 F = some (.lst []) := k4 _ _ (same_new ht (.lst (([1, 3, 5, 7, 9, 11, 15, 17, 19, 21, 23, 25] : List Int).map V.int)) _ _ upd_same) nF
  have k5 : Keep p H H4 := (((k1.trans k2).new hF).new ht).trans k4
  refine ⟨_, rfl, (m : Int), rfl, by omega, by omega, for_range (lo := 0) (n := (m : Int).toNat) (fun i σ' H' => ∃ (ss : List Str) (k own tail : Option V), σ' = [some (.ref p), some (.int (m : Int)), some (.str lett), some (.str stem), k, some (.int fr), some (.ref F), some (.int sp), own, tail] ∧
      H' F = some (.lst (ss.map V.str)) ∧ ss.length = i ∧ i ≤ m ∧ (∀ z ∈ ss, NameOk z) ∧ Pen H' p l (n + 108 + 12 * i) ∧ Keep p H H') ⟨[], none, none, none, rfl, hF4, rfl, Nat.zero_le _, fun z hz => absurd hz List.not_mem_nil, P4.le (by omega), k5⟩ ?_ ?_⟩
  · rintro i σ' H' hi ⟨ss, k, own, tail, rfl, hFi, hl, him, ho, Pi, ki⟩
    have him : i < m := by omega
    obtain ⟨c, hc, hcm⟩ := at_some (xs := lett.cps.toList) (em0 (fr + sp * (0 + (i : Int))) (m := 26) (by decide)) (by rw [lett_tl]; exact em1 _ (by decide))
    refine ⟨_, rfl, _, rfl, _, rfl, _, rfl, _, _, rfl, rfl, .inl (by omega), _, _, rfl, rfl, .inl ⟨_, rfl, _, _, rfl, rfl, by omega, lett, _, c, rfl, rfl, by rw [lett_len]; decide, hc, ?_⟩⟩
    have hcl := lett_ok c hcm
    refine ⟨fun σ' H'' => ∃ t : Str, σ' = [some (.ref p), some (.int (m : Int)), some (.str lett), some (.str stem), some (.int (0 + (i : Int))), some (.int fr), some (.ref F), some (.int sp), some (.str ⟨#[c]⟩), some (.str t)] ∧ t.length ≤ 1 ∧ LetOk t ∧ Pen H'' p l (n + 108 + 12 * i + 12) ∧ Keep p H' H'', ?_, ?_⟩
    · refine ⟨_, rfl, _, _, rfl, rfl, _, rfl, ?_⟩
      refine ite2 (fun _ => ?_) (fun _ => ?_)
      · exact ⟨Str.empty, rfl, by decide, LetOk.empty, Pi.le (by omega), Keep.refl⟩
      · refine ⟨_, rfl, _, rfl, p, l, lett, _, rfl, Pi, by omega, by rw [lett_len]; decide, by rw [lett_len]; decide, fun c2 H3 hc2 P3 k3 => ?_⟩
        exact ⟨⟨#[c2]⟩, rfl, Nat.le_refl 1, LetOk.one (lett_ok c2 hc2), P3, k3⟩
    rintro σ' H3 ⟨t, rfl, t1, t2, P3, k3⟩
    have hF3 := k3 _ _ hFi nF
    have cl : (⟨#[c]⟩ : Str).length = 1 := rfl
    refine ⟨_, rfl, .inl ⟨rfl, _, SqL.of hF3⟩, ?_⟩
    refine ⟨_, rfl, _, rfl, _, _, rfl, rfl, small _ (by rw [cl]; omega), _, rfl, _, rfl, _, _, rfl, rfl, small _ (by rw [cl]; omega), (by show 2 ≤ sizeLine; decide), fun u hu => ?_⟩
    obtain ⟨v, hv, hvm⟩ := at_some (xs := [V.str (stem ++ ⟨#[c]⟩), V.str (⟨#[c]⟩ ++ stem)]) (em0 (stem.length : Int) (m := 2) (by decide)) (em1 (stem.length : Int) (m := 2) (by decide))
    obtain ⟨g, rfl, g1, g2⟩ : ∃ g : Str, v = .str g ∧ g.length = stem.length + 1 ∧ LetOk g := by
      simp only [List.mem_cons, List.not_mem_nil, or_false] at hvm
      rcases hvm with rfl | rfl
      · exact ⟨_, rfl, by rw [Str.length_append, cl], st2.app (LetOk.one hcl)⟩
      · exact ⟨_, rfl, by rw [Str.length_append, cl]; omega, (LetOk.one hcl).app st2⟩
    refine ⟨_, rfl, _, rfl, small _ (by omega), _, _, rfl, rfl, by omega, u, _, _, _, rfl, rfl, SqL.of upd_same, hv, _, rfl, _, _, rfl, rfl, small _ (by omega), ?_⟩
    have hF5 := same_new hu (.lst [V.str (stem ++ ⟨#[c]⟩), V.str (⟨#[c]⟩ ++ stem)]) _ _ hF3
    refine ⟨F, _, _, rfl, rfl, hF5, by rw [List.length_map]; exact small1000 (by omega), ?_⟩
    refine ⟨ss ++ [g ++ t], _, _, _, rfl, by rw [upd_same, List.map_append]; rfl, by rw [List.length_append, hl]; rfl, by omega, mem_snoc ho ⟨by rw [Str.length_append]; omega, by rw [Str.length_append]; omega, g2.app t2⟩, ((P3.new hu).le (by omega)).upd nF nFl, ((ki.trans k3).new hu).at_new hF0⟩
  · rintro σ' H' ⟨ss, k, own, tail, rfl, hFi, hl, him, ho, Pi, ki⟩
    refine ⟨_, rfl, ?_⟩
    exact q F ss H' hFi (by omega) ho hF0 (Pi.le (by omega)) ki
end
end Ur
/-! K4: the painter: is_integer, is_between, is_name, __init__, its fields. -/
namespace Ur
open PySem PySem.Spec PyProof.Rows L2
abbrev s_is_integer : Stmt := (topS 19)
abbrev N_sc_is_integer : List Str := ["value"]
abbrev P_is_integer : List Str := ["value"]
theorem sc_is_integer : FnScope N_sc_is_integer P_is_integer (defScope s_is_integer) := ⟨rfl, rfl, rfl, by decide +kernel, rfl, by decide +kernel, by decide +kernel⟩
def spIsInt : Sp := fun vs H Q _ => ∃ (i : Int), vs = [.int i] ∧ Q (.bl true) H
abbrev s_is_between : Stmt := (topS 20)
abbrev N_sc_is_between : List Str := ["value", "least", "most"]
abbrev P_is_between : List Str := ["value", "least", "most"]
theorem sc_is_between : FnScope N_sc_is_between P_is_between (defScope s_is_between) := ⟨rfl, rfl, rfl, by decide +kernel, rfl, by decide +kernel, by decide +kernel⟩
def spBetween : Sp := fun vs H Q _ => ∃ (v a b : Int), vs = [.int v, .int a, .int b] ∧ Q (.bl (decide (a ≤ v ∧ v ≤ b))) H
section
variable {P : Program} {w : World} {K : PySem.W.Frag} {mg : Str → Option Value} {base : Heap}
theorem ok_is_integer (D : Dfn K mg "is_integer" s_is_integer P_is_integer) (B : Blt mg) : Cal P w K mg base 1 "is_integer" P_is_integer spIsInt := by
  refine D.cal sc_is_integer (fun vs H Q E h => ?_) fun f cdv A outer s H vs Q E hr h => ?_
  · obtain ⟨i, rfl, _⟩ := h
    rfl
  obtain ⟨i, rfl, q⟩ := h
  refine ⟨_, (pss_one (ps_ret (pe_and (pe_callB call_isi rfl B.isinstance_ (by decide +kernel) (pa_cons (pv 0) (pa_cons (pe_bltn (v := .ty "int") rfl B.int_ (by decide +kernel) rfl) pa_nil))) (pe_one (pe_not (pe_callB call_isi rfl B.isinstance_ (by decide +kernel) (pa_cons (pv 0) (pa_cons (pe_bltn (v := .ty "bool") rfl B.bool_ (by decide +kernel) rfl) pa_nil)))))))), ?_⟩
  refine ⟨_, rfl, _, _, _, _, true, rfl, ClsV.ty "int", (TyX.base (TyOf.int i)), kit_ty (by decide +kernel), true, rfl, ?_⟩
  exact ⟨_, rfl, _, _, _, _, false, rfl, ClsV.ty "bool", (TyX.base (TyOf.int i)), kit_ty (by decide +kernel), false, rfl, q⟩
theorem ok_is_between (D : Dfn K mg "is_between" s_is_between P_is_between) (CI : Cal P w K mg base 1 "is_integer" P_is_integer spIsInt) : Cal P w K mg base 2 "is_between" P_is_between spBetween := by
  refine D.cal sc_is_between (fun vs H Q E h => ?_) fun f cdv A outer s H vs Q E hr h => ?_
  · obtain ⟨v, a, b, rfl, _⟩ := h
    rfl
  obtain ⟨v, a, b, rfl, q⟩ := h
  refine ⟨_, (pss_one (ps_ret (pe_and (pe_cal CI (hr.mono (by decide)) (pa_cons (pv 0) pa_nil)) (pe_one (pe_chain op_le op_le (pv 1) (pv 0) (pv 2)))))), ?_⟩
  refine ⟨_, rfl, v, rfl, true, rfl, ?_⟩
  refine ⟨_, rfl, _, rfl, _, _, rfl, rfl, _, rfl, ?_⟩
  refine ite2 (fun c => ?_) (fun c => ?_)
  · have c := of_decide_eq_true c
    refine ⟨_, rfl, _, _, rfl, rfl, ?_⟩
    have e : decide (a ≤ v ∧ v ≤ b) = decide (v ≤ b) := by simp [c]
    rw [e] at q
    exact q
  · have c : ¬ a ≤ v := of_decide_eq_false (Bool.eq_false_iff.mpr c)
    have e : decide (a ≤ v ∧ v ≤ b) = false := by simp [c]
    rw [e] at q
    exact q
end
/-! ### names -/
abbrev s_Painter_is_name : Stmt := (inClass (topS 46) 15)
abbrev N_sc_Painter_is_name : List Str := ["value"]
abbrev P_Painter_is_name : List Str := ["value"]
theorem sc_Painter_is_name : FnScope N_sc_Painter_is_name P_Painter_is_name (defScope s_Painter_is_name) := ⟨rfl, rfl, rfl, by decide +kernel, rfl, by decide +kernel, by decide +kernel⟩
theorem uni_alpha : ∀ c : Nat, 97 ≤ c → c ≤ 122 → Unicode.isAlpha c = true ∧ Unicode.isLower c = true ∧ Unicode.isUpper c = false ∧ Unicode.isTitle c = false := by
  intro c h1 h2
  have z : ∀ i : Fin 26, Unicode.isAlpha (97 + i.val) = true ∧ Unicode.isLower (97 + i.val) = true ∧ Unicode.isUpper (97 + i.val) = false ∧ Unicode.isTitle (97 + i.val) = false := by decide +kernel
  have := z ⟨c - 97, by omega⟩
  have e : 97 + (c - 97) = c := by omega
  simpa only [e] using this
theorem arr_all {a : Array Nat} {f : Nat → Bool} (h : ∀ c ∈ a.toList, f c = true) : a.all f = true := by
  rw [← Array.all_toList]
  exact List.all_eq_true.mpr h
theorem arr_none {a : Array Nat} {f : Nat → Bool} (h : ∀ c ∈ a.toList, f c = false) : a.any f = false := by
  rw [← Array.any_toList]
  exact List.any_eq_false.mpr fun x hx => by rw [h x hx]; decide
theorem arr_some {a : Array Nat} {f : Nat → Bool} (h : ∀ c ∈ a.toList, f c = true) (n : 1 ≤ a.toList.length) : a.any f = true := by
  rw [← Array.any_toList]
  cases e : a.toList with
  | nil => rw [e] at n; exact absurd n (by decide)
  | cons x r => rw [List.any_cons, h x (by rw [e]; exact List.mem_cons_self), Bool.true_or]
theorem name_len {z : Str} (h : NameOk z) : 1 ≤ z.cps.toList.length := by
  have e : z.length = z.cps.size := rfl
  have := h.1
  rw [Array.length_toList]
  omega
theorem name_ascii {z : Str} (h : NameOk z) : Txt.isascii z = true := arr_all fun c hc => decide_eq_true (by have := h.2.2 c hc; omega)
theorem name_alpha {z : Str} (h : NameOk z) : Txt.isalpha z = true := by
  show (decide (z.length > 0) && z.cps.all Unicode.isAlpha) = true
  rw [arr_all fun c hc => (uni_alpha c (h.2.2 c hc).1 (h.2.2 c hc).2).1, decide_eq_true (by have := h.1; omega)]
  rfl
theorem name_lower {z : Str} (h : NameOk z) : Txt.islower z = true := by
  show (z.cps.any Unicode.isLower && !(z.cps.any fun c => Unicode.isUpper c || Unicode.isTitle c)) = true
  rw [arr_some (fun c hc => (uni_alpha c (h.2.2 c hc).1 (h.2.2 c hc).2).2.1) (name_len h), arr_none fun c hc => by
    obtain ⟨_, _, a, b⟩ := uni_alpha c (h.2.2 c hc).1 (h.2.2 c hc).2
    rw [a, b]
    rfl]
  rfl
def spIsName : Sp := fun vs H Q _ => ∃ z : Str, vs = [.str z] ∧ NameOk z ∧ Q (.bl true) H
section
variable {P : Program} {w : World} {K : PySem.W.Frag} {mg : Str → Option Value} {base : Heap}
theorem ok_is_name {f : Addr} {fd : FuncData} (F : Fun K "is_name" "Painter.is_name" s_Painter_is_name f fd) (B : Blt mg) : FnOk P w K mg base CX0 1 f fd P_Painter_is_name spIsName := by
  refine F.ok sc_Painter_is_name (fun vs H Q E h => ?_) (fun cdv A outer s H vs Q E hr h => ?_)
  · obtain ⟨z, rfl, _⟩ := h
    rfl
  obtain ⟨z, rfl, ok, q⟩ := h
  have hl : z.length ≤ sizeLine := Nat.le_trans ok.2.1 (by decide)
  refine ⟨_, (pss_cons (ps_if (PW.pt (pw_or (pt_not (pt_val (pe_callB call_isi rfl B.isinstance_ (by decide +kernel) (pa_cons (pv 0) (pa_cons (pe_bltn (v := .ty "str") rfl B.str_ (by decide +kernel) rfl) pa_nil))))) (pw_or1 (pt_cmpR op_gt (pe_callB call_len_str rfl B.len_ PySem.boot_len (pa_cons (pv 0) pa_nil)) pe_int (nomark _))))) (pss_one (ps_ret pe_bl)) pss_nil) (pss_one (ps_ret (pe_and (pe_m0 PySem.F.slot_str_isascii PySem.F.type_str_isascii mt_isascii (pv 0)) (pe_and (pe_m0 PySem.F.slot_str_isalpha PySem.F.type_str_isalpha mt_isalpha (pv 0)) (pe_one (pe_m0 PySem.F.slot_str_islower PySem.F.type_str_islower mt_islower (pv 0)))))))), ?_⟩
  refine ⟨_, rfl, _, _, _, _, true, rfl, ClsV.ty "str", (TyX.base (TyOf.str z)), kit_ty (by decide +kernel), true, rfl, ?_⟩
  refine iteF ?_
  refine ⟨_, rfl, _, rfl, hl, _, _, rfl, rfl, _, rfl, ?_⟩
  have c : decide ((8 : Int) < (z.length : Int)) = false := decide_eq_false (by have := ok.2.1; omega)
  show (if decide ((8 : Int) < (z.length : Int)) = true then _ else _)
  rw [c]
  refine iteF ?_
  refine ⟨_, rfl, ⟨_, rfl⟩, z, rfl, rfl, trivial, true, by rw [name_ascii ok], ?_⟩
  refine ⟨_, rfl, ⟨_, rfl⟩, z, rfl, rfl, trivial, true, by rw [name_alpha ok], ?_⟩
  refine ⟨_, rfl, ⟨_, rfl⟩, z, rfl, rfl, trivial, ?_⟩
  rw [name_lower ok]
  exact q
end
/-! ### the class -/
def pfs (nm : Str) (d p s : Int) : List (Str × V) := [("_name", .str nm), ("_day", .int d), ("_post", .int p), ("_stride", .int s)]
theorem pfs_mk (nm : Str) (d p s : Int) : putF "_stride" (.int s) (putF "_post" (.int p) (putF "_day" (.int d) (putF "_name" (.str nm) []))) = pfs nm d p s := rfl
theorem pfs_name (nm : Str) (d p s : Int) : (pfs nm d p s).lookup ("_name" : Str) = some (V.str nm) := rfl
theorem pfs_day (nm : Str) (d p s : Int) : (pfs nm d p s).lookup ("_day" : Str) = some (V.int d) := rfl
theorem pfs_post (nm : Str) (d p s : Int) : (pfs nm d p s).lookup ("_post" : Str) = some (V.int p) := rfl
theorem pfs_stride (nm : Str) (d p s : Int) : (pfs nm d p s).lookup ("_stride" : Str) = some (V.int s) := rfl
structure PTxt (K : PySem.W.Frag) (mg : Str → Option Value) (C : Addr) : Prop where
  cl : Cls K C
  nN : NoAttr K C "_name"
  nD : NoAttr K C "_day"
  nP : NoAttr K C "_post"
  nS : NoAttr K C "_stride"
  mgP : mg "Painter" = some (.ref C)
  rd : ClX.CRead K C (.type "type")
  cD : ∃ u, ClX.CVal K C (.type "type") "MAX_DAY" (.int (10 ^ 30)) u
  cP : ∃ u, ClX.CVal K C (.type "type") "MAX_POST" (.int (10 ^ 30)) u
  cS : ∃ u, ClX.CVal K C (.type "type") "MAX_STRIDE" (.int (10 ^ 18)) u
/-- a painter's parts are as the document asks -/
structure PartOk (nm : Str) (d p s : Int) : Prop where
  nm : NameOk nm
  d0 : 0 ≤ d
  d1 : d ≤ 10 ^ 30
  p0 : -(10 ^ 30) ≤ p
  p1 : p ≤ 10 ^ 30
  s0 : -(10 ^ 18) ≤ s
  s1 : s ≤ 10 ^ 18
  sn : s ≠ 0
abbrev s_Painter_init : Stmt := (inClass (topS 46) 3)
abbrev N_sc_Painter_init : List Str := ["self", "name", "day", "post", "stride"]
abbrev P_Painter_init : List Str := ["self", "name", "day", "post", "stride"]
theorem sc_Painter_init : FnScope N_sc_Painter_init P_Painter_init (defScope s_Painter_init) := ⟨rfl, rfl, rfl, by decide +kernel, rfl, by decide +kernel, by decide +kernel⟩
def spInit (C : Addr) : Sp := fun vs H Q _ => ∃ (x dx : Addr) (nm : Str) (d p s : Int), vs = [.ref x, .str nm, .int d, .int p, .int s] ∧ H x = some (.ins C dx []) ∧ PartOk nm d p s ∧
  ∀ H', H' x = some (.ins C dx (pfs nm d p s)) → (∀ b o, H b = some o → b ≠ x → H' b = some o) → Q .non H'
section
variable {P : Program} {w : World} {K : PySem.W.Frag} {mg : Str → Option Value} {base : Heap}
set_option maxHeartbeats 16000000 in
theorem ok_init {C pN f fN : Addr} {fd fdN : FuncData} (F : Fun K "__init__" "Painter.__init__" s_Painter_init f fd) (T : PTxt K mg C) (smP : SMet K C (.type "type") "is_name" pN fN) (FN : FnOk P w K mg base CX0 1 fN fdN P_Painter_is_name spIsName) (bN : Binds K fdN P_Painter_is_name [])
    (CB : Cal P w K mg base 2 "is_between" P_is_between spBetween) : FnOk P w K mg base CX0 3 f fd P_Painter_init (spInit C) := by
  refine F.ok sc_Painter_init (fun vs H Q E h => ?_) (fun cdv A outer s H vs Q E hr h => ?_)
  · obtain ⟨x, dx, nm, d, p, st, rfl, _⟩ := h
    rfl
  obtain ⟨x, dx, nm, d, p, st, rfl, hx, ok, q⟩ := h
  obtain ⟨uD, cD⟩ := T.cD
  obtain ⟨uP, cP⟩ := T.cP
  obtain ⟨uS, cS⟩ := T.cS
  refine ⟨_, (pss_cons (ps_if (pt_not (pt_val (pe_smeth (pe_glob (v := .ref C) rfl T.mgP rfl) T.rd smP FN bN (hr.mono (by decide)) pass0 (pa_cons (pv 1) pa_nil)))) (pss_one ps_never) pss_nil) (pss_cons (ps_if (pt_not (pt_val (pe_cal CB (hr.mono (by decide)) (pa_cons (pv 2) (pa_cons pe_int (pa_cons (ClX.pe_cval (pe_glob (v := .ref C) rfl T.mgP rfl)) pa_nil)))))) (pss_one ps_never) pss_nil) (pss_cons (ps_if (pt_not (pt_val (pe_cal CB (hr.mono (by decide)) (pa_cons (pv 3) (pa_cons (pe_un un_neg (ClX.pe_cval (pe_glob (v := .ref C) rfl T.mgP rfl))) (pa_cons (ClX.pe_cval (pe_glob (v := .ref C) rfl T.mgP rfl)) pa_nil)))))) (pss_one ps_never) pss_nil) (pss_cons (ps_if (PW.pt (pw_or (pt_not (pt_val (pe_cal CB (hr.mono (by decide)) (pa_cons (pv 4) (pa_cons (pe_un un_neg (ClX.pe_cval (pe_glob (v := .ref C) rfl T.mgP rfl))) (pa_cons (ClX.pe_cval (pe_glob (v := .ref C) rfl T.mgP rfl)) pa_nil)))))) (pw_or1 (pt_cmpR op_eq (pv 4) pe_int (nomark _))))) (pss_one ps_never) pss_nil) (pss_cons (ps_fld (pv 0) (pv 1) rfl) (pss_cons (ps_fld (pv 0) (pv 2) rfl) (pss_cons (ps_fld (pv 0) (pv 3) rfl) (pss_one (ps_fld (pv 0) (pv 4) rfl))))))))), ?_⟩
  refine ⟨rfl, _, rfl, nm, rfl, ok.nm, true, rfl, iteF ?_⟩
  refine ⟨_, rfl, C, _, _, _, rfl, T.rd, cD, d, _, _, rfl, _, rfl, iteNS ⟨ok.d0, ok.d1⟩ ?_⟩
  refine ⟨_, rfl, C, _, _, _, rfl, T.rd, cP, _, rfl, C, _, _, _, rfl, T.rd, cP, p, _, _, rfl, _, rfl, iteNS ⟨ok.p0, ok.p1⟩ ?_⟩
  refine ⟨_, rfl, C, _, _, _, rfl, T.rd, cS, _, rfl, C, _, _, _, rfl, T.rd, cS, st, _, _, rfl, _, rfl, iteNS ⟨ok.s0, ok.s1⟩ ?_⟩
  have c : decide (V.int st = V.int 0) = false := decide_eq_false fun e => ok.sn (V.int.inj e)
  refine ⟨_, rfl, rfl, _, rfl, ?_⟩
  show (if decide (V.int st = V.int 0) = true then _ else _)
  rw [c]
  refine iteF ?_
  refine ⟨_, rfl, _, rfl, x, C, dx, [], rfl, hx, T.cl, T.nN, (by show 0 < 1000; decide), ?_⟩
  refine ⟨_, rfl, _, rfl, x, C, dx, _, rfl, upd_same, T.cl, T.nD, (by show 1 < 1000; decide), ?_⟩
  refine ⟨_, rfl, _, rfl, x, C, dx, _, rfl, upd_same, T.cl, T.nP, (by show 2 < 1000; decide), ?_⟩
  refine ⟨_, rfl, _, rfl, x, C, dx, _, rfl, upd_same, T.cl, T.nS, (by show 3 < 1000; decide), ?_⟩
  refine q _ upd_same fun b o e hb => ?_
  rw [upd_ne hb, upd_ne hb, upd_ne hb, upd_ne hb]
  exact e
/-- a painter stands at a -/
def PnAt (C : Addr) (H : Hp) (a : Addr) (nm : Str) (d p s : Int) : Prop := ∃ dx, H a = some (.ins C dx (pfs nm d p s))
/-- what is made and what it promises: Painter(..) -/
def MkP (P : Program) (w : World) (K : PySem.W.Frag) (mg : Str → Option Value) (base : Heap) (C : Addr) : Prop := ∃ f fd, Mk K C f ∧ FnOk P w K mg base CX0 3 f fd P_Painter_init (spInit C) ∧ Binds K fd P_Painter_init []
/-- a property that hands out the attribute -/
def PropC (P : Program) (w : World) (K : PySem.W.Frag) (mg : Str → Option Value) (base : Heap) (C : Addr) (f a : Str) : Prop := ∃ p g fd, PropOf K C f p g ∧ FnOk P w K mg base CX0 1 g fd ["self"] (getSp C a) ∧ Binds K fd ["self"] []
end
section
variable {X : Cx} {C : Addr} {e : Expr} {es : List Expr} {pos p : Pos} {ta : TE} {t : TA} {f a : Str}
theorem pe_prC (he : PE X e ta) (c : Cls X.K C) (hp : PropC X.prog X.w X.K X.mg X.base C f a) (hr : Room 2 X.A) (hab : attributeBase e f X.env (eval e X.env) = eval e X.env := by rfl) : PE X (.Attribute e f pos) (tProp C (getSp C a) [] E0 ta) := by
  obtain ⟨p, g, fd, h1, F, b⟩ := hp
  exact pe_prop he c h1 F hr b .nil pass0 hab
theorem pe_mkP (hp : MkP X.prog X.w X.K X.mg X.base C) (T : PTxt X.K X.mg C) (hr : Room 4 X.A) (ha : PA X (e :: es) t) (hg : Gl X "Painter" := by rfl)
    (he : starEach (e :: es) X.env = (false, eval e X.env) :: starEach es X.env := by rfl) (hpl : (backTo pos (starEach es X.env)).any (·.1) = false := by rfl) : PE X (.Call (.Name "Painter" p) (e :: es) [] pos) (tMake C (spInit C) [] E0 t) := by
  obtain ⟨f, fd, M, F, b⟩ := hp
  exact pe_make M F hr hg T.mgP b .nil pass0 ha (he := he) (hpl := hpl)
end
def AnyR (d p s : Int) : Prop := 0 ≤ d ∧ d ≤ 10 ^ 30 ∧ -(10 ^ 30) ≤ p ∧ p ≤ 10 ^ 30 ∧ -(10 ^ 18) ≤ s ∧ s ≤ 10 ^ 18 ∧ s ≠ 0
theorem AnyR.ok {nm : Str} {d p s : Int} (h : AnyR d p s) (z : NameOk nm) : PartOk nm d p s := by unfold AnyR at h; exact ⟨z, by omega, by omega, by omega, by omega, by omega, by omega, by omega⟩
end Ur
/-! UrG: defs that show things (repr of lists and tuples): their promise holds where nothing is being shown around them. -/
namespace Ur
open PySem PySem.Spec PyProof.Rows L2
/-- nothing is being shown around -/
def Still (A : Around) : Prop := A.guards = some []
theorem Still.deeper {A : Around} {e : Env} (h : Still A) : Still (A.deeper e) := h
structure FnG (P : Program) (w : World) (K : PySem.W.Frag) (mg : Str → Option Value) (base : Heap) (k : Nat) (f : Addr) (fd : FuncData) (ps : List Str) (sp : Sp) : Prop where
  ln : ∀ vs H Q E, sp vs H Q E → vs.length = ps.length
  go : ∀ (A : Around) (out : List Env) (s : Shared) (H : Hp) (args : Args) (us : List Value) (vs : List V) (Q : VK) (E : XK), Still A → Room k A → Env0 P w K mg base A out s H → BindsTo s fd args (ps.zip us) → Vals vs us → sp vs H Q E → codeAny (model P w) A (.call (.ref f) args) (CR CX0 out P w H s Q E) s
section
variable {P : Program} {w : World} {K : PySem.W.Frag} {mg : Str → Option Value} {base : Heap} {k : Nat} {f : Addr} {fd : FuncData} {ps : List Str} {sp : Sp} {x qual : Str} {st : Stmt}
theorem FnG.of (F : FnOk P w K mg base CX0 k f fd ps sp) : FnG P w K mg base k f fd ps sp := ⟨F.len, fun A o s H a us vs Q E _ => F.run A o s H a us vs Q E⟩
theorem FnG.mono {j : Nat} (F : FnG P w K mg base j f fd ps sp) (h : j ≤ k) : FnG P w K mg base k f fd ps sp := ⟨F.ln, fun A o s H a us vs Q E g r => F.go A o s H a us vs Q E g (r.mono h)⟩
theorem runG {N : List Str} (F : Fun K x qual st f fd) (S : FnScope N ps (defScope st)) (len : ∀ vs H Q E, sp vs H Q E → vs.length = ps.length)
    (hbody : ∀ (cdv : Value) (A : Around) (out : List Env) (s : Shared) (H : Hp) (vs : List V) (Q : VK) (E : XK), Still A → Room k (A.deeper (envOfC qual (defScope st) s.heap.objs.size f cdv)) → sp vs H Q E → ∃ t, PSs (cxOf CX0 P w K mg base N qual (defScope st) f cdv A out s H E).nox (defBody st) t ∧ t { nx := fun _ H' => Q .non H', rt := Q } (start N vs) H) :
    FnG P w K mg base (k + 1) f fd ps sp := by
  obtain ⟨oc, od, kV, doc, pm, an, cdv, ct, osl, efd, lk, hcd⟩ := F.ex
  subst efd
  constructor
  · exact len
  intro A out s H args us vs Q E still room e0 hb rel ask
  have old : ∀ b o, base.get? b = some o → s.heap.get? b = some o := fun b o e => (e0.bs b o e).1
  have kin : K.In s.heap := e0.mod.kin.keeps old
  have kinds : ∀ y ∈ ps.zip us, (defScope st).names.lookup y.1 = some .local ∨ ((defScope st).names.lookup y.1 = some .cell ∧ ((cellsFrom (s.heap.objs.size + 1) (defScope st).names []).lookup y.1).isSome = true) := by
    intro y hy
    cases S.par y.1 (List.of_mem_zip (a := y.1) (b := y.2) hy).1 with
    | inl h => exact Or.inl h
    | inr h => exact Or.inr ⟨h, PySem.W.cellsFrom_some _ _ _ (Or.inl h)⟩
  refine codeAny_call_function room.depth (kin _ _ lk) rfl S.co S.gen rfl (PySem.W.codeRec_of kin hcd) (hb _ _ _ _ (wpAny_newFunctionEnv_cells S.kind kinds fun env he s1 made => ?_))
  subst he
  refine ⟨(e0.mod.nolimit.keeps old).keeps made.toInCall.keep, codeAny_func ?_⟩
  obtain ⟨t, ht0, hq⟩ := hbody cdv A out s H vs Q E still (room.deeper _) ask
  have J : Inv (cxOf CX0 P w K mg base N qual (defScope st) f cdv A out s H E) [] (start N vs) H s1 := inv_start S room.hd e0 (len _ _ _ _ ask) rel made
  refine wpAny_mono (ht0.nox.run [] s1 (start N vs) H _ J hq) ?_ (fun _ _ z => z)
  intro fl s2 done
  match fl, done with
  | .ret u, ⟨v, σ', H', J', rv, q⟩ => exact ⟨v, H', J'.os, J'.bare, J'.base, J'.hok, rv, q⟩
  | .next, ⟨σ', H', J', q⟩ => exact ⟨V.non, H', J'.os, J'.bare, J'.base, J'.hok, rfl, q⟩
  | .brk, ⟨_, _, _, q⟩ => exact q.elim
  | .cont, ⟨_, _, _, q⟩ => exact q.elim
/-- a name of the module that can be called where nothing is being shown -/
def CalG (P : Program) (w : World) (K : PySem.W.Frag) (mg : Str → Option Value) (base : Heap) (k : Nat) (x : Str) (ps : List Str) (sp : Sp) : Prop :=
  ∃ (f : Addr) (fd : FuncData), FnG P w K mg base k f fd ps sp ∧ PySem.W.keepIn K (.ref f) = true ∧ Binds K fd ps [] ∧ mg x = some (.ref f)
theorem Dfn.calG {N : List Str} (D : Dfn K mg x st ps) (S : FnScope N ps (defScope st)) (len : ∀ vs H Q E, sp vs H Q E → vs.length = ps.length)
    (hbody : ∀ (f : Addr) (cdv : Value) (A : Around) (out : List Env) (s : Shared) (H : Hp) (vs : List V) (Q : VK) (E : XK), Still A → Room k (A.deeper (envOfC x (defScope st) s.heap.objs.size f cdv)) → sp vs H Q E → ∃ t, PSs (cxOf CX0 P w K mg base N x (defScope st) f cdv A out s H E).nox (defBody st) t ∧ t { nx := fun _ H' => Q .non H', rt := Q } (start N vs) H) :
    CalG P w K mg base (k + 1) x ps sp := by
  obtain ⟨f, fd, F, b, m⟩ := D
  exact ⟨f, fd, runG F S len (hbody f), F.kp, b, m⟩
end
section
variable {X : Cx} {k : Nat} {x : Str} {ps : List Str} {sp : Sp} {e : Expr} {es : List Expr} {t : TA} {p pos : Pos}
theorem pe_calG (c : CalG X.prog X.w X.K X.mg X.base k x ps sp) (hs : Still X.A) (hr : Room k X.A) (ha : PA X (e :: es) t) (hg : Gl X x := by rfl) (hdb : (x == ("__debug__" : Str)) = false := by decide)
    (he : starEach (e :: es) X.env = (false, eval e X.env) :: starEach es X.env := by rfl) (hpl : (backTo pos (starEach es X.env)).any (·.1) = false := by rfl) :
    PE X (.Call (.Name x p) (e :: es) [] pos) (tCall sp [] E0 t) := by
  obtain ⟨f, fd, F, kp, b, m⟩ := c
  constructor
  intro pins s σ H Q I h
  refine wpAny_Call_Name_kw (ld_glob I hg m ?_ hdb)
  refine PySem.W.callWith_K (h₀ := X.base) I.ok.mod.kin kp (thn (ha.run pos pins s σ H _ I h) ?_) he hpl
  intro us s1 ⟨vs, H1, J, r, q⟩
  refine ⟨J.kIn, ?_⟩
  have q : sp (vs ++ []) H1 Q E0 := q
  rw [List.append_nil] at q
  have hl : us.length = ps.length := by rw [← r.length]; exact F.ln _ _ _ _ q
  have bb := b s1 us J.kIn (by rw [List.append_nil]; exact hl)
  rw [List.append_nil] at bb
  refine wpAny_call (codeAny_mono (F.go X.A X.stack s1 H1 ⟨us, []⟩ us vs Q E0 hs hr J.env0 bb r q) ?_)
  intro rr s2 hq
  match rr, hq with
  | .ok (.ret u), hq => exact J.after hq
  | .ok .next, hq => exact False.elim hq
  | .ok .brk, hq => exact False.elim hq
  | .ok .cont, hq => exact False.elim hq
  | .error _, hq => exact False.elim hq
/-- repr(x) of data: its own text -/
def rRepr (K : PySem.W.Frag) : List V → Hp → VK → Prop := fun xs H Q => ∃ (x : V) (d : PyData), xs = [x] ∧ Dp K H x d ∧ d.showable = true ∧ d.hasDict = false ∧ d.depth ≤ 64 ∧ d.shown.length ≤ sizeLine ∧ Q (.str d.shown) H
/-- .. of a value that is no list and no tuple -/
def rReprF : List V → Hp → VK → Prop := fun xs H Q => (xs = [.non] ∧ Q (.str (PyData.shown .none)) H) ∨ (∃ b, xs = [.bl b] ∧ Q (.str (PyData.shown (.bool b))) H) ∨ (∃ i, xs = [.int i] ∧ i.natAbs.log2 < 1920 ∧ Q (.str (PyData.shown (.int i))) H) ∨
  ∃ x : Str, xs = [.str x] ∧ (reprText x).length ≤ sizeLine ∧ Q (.str (PyData.shown (.str x))) H
theorem call_reprF : CallR X (.builtin "repr") rReprF := by
  intro pins s σ H xs us Q I r h
  rcases h with ⟨rfl, q⟩ | ⟨b, rfl, q⟩ | ⟨i, rfl, hz, q⟩ | ⟨x, rfl, hz, q⟩
  · obtain ⟨u, rfl, ru⟩ := vals1 r
    obtain rfl : u = Value.none := ru
    exact PySem.P.repr_of_none ⟨.str _, H, I.tok _, ⟨_, rfl⟩, q⟩
  · obtain ⟨u, rfl, ru⟩ := vals1 r
    obtain rfl : u = Value.bool b := ru
    exact PySem.P.repr_of_bool ⟨.str _, H, I.tok _, ⟨_, rfl⟩, q⟩
  · obtain ⟨u, rfl, t, rfl⟩ := vals1 r
    exact PySem.P.repr_of_int hz ⟨.str _, H, I.tok _, ⟨_, rfl⟩, q⟩
  · obtain ⟨u, rfl, t, rfl⟩ := vals1 r
    exact PySem.P.repr_of_str ⟨.str _, H, I.tok _, ⟨_, rfl⟩, q⟩ hz
theorem call_reprD (hs : Still X.A) (hu : X.A.units + 66 < cLine) : CallR X (.builtin "repr") (rRepr X.K) := by
  intro pins s σ H xs us Q I r h
  obtain ⟨x, d, rfl, hd, sh, nd, dp, sz, q⟩ := h
  have flat : rReprF [x] H Q → wpAny (model X.prog X.w) X.A (call (.builtin "repr") us) (EP X pins σ Q) X.xe s := fun z => call_reprF pins s σ H [x] us Q I r z
  cases d with
  | none => cases hd; exact flat (Or.inl ⟨rfl, q⟩)
  | bool b => cases hd; exact flat (Or.inr (Or.inl ⟨b, rfl, q⟩))
  | int i => cases hd; exact flat (Or.inr (Or.inr (Or.inl ⟨i, rfl, of_decide_eq_true sh, q⟩)))
  | str y => cases hd; exact flat (Or.inr (Or.inr (Or.inr ⟨y, rfl, sz, q⟩)))
  | dict _ => cases hd
  | list ds =>
    obtain ⟨u, rfl, ru⟩ := vals1 r
    obtain ⟨as, rd⟩ := Dp.reads I _ x u hd ru
    obtain ⟨a, rfl⟩ : ∃ a, x = .ref a := by cases hd; exact ⟨_, rfl⟩
    obtain rfl : u = Value.ref a := ru
    exact repr_of_reads' rd sh (fun z => by rw [nd] at z; cases z) hs (by omega) (fun _ _ e => e) (fun h' v tk kp => ⟨.str _, H, I.kept kp, ⟨v, rfl⟩, q⟩) sz
  | tuple ds =>
    obtain ⟨u, rfl, ru⟩ := vals1 r
    obtain ⟨as, rd⟩ := Dp.reads I _ x u hd ru
    obtain ⟨a, rfl⟩ : ∃ a, x = .ref a := by cases hd; exact ⟨_, rfl⟩
    obtain rfl : u = Value.ref a := ru
    exact repr_of_reads' rd sh (fun z => by rw [nd] at z; cases z) hs (by omega) (fun _ _ e => e) (fun h' v tk kp => ⟨.str _, H, I.kept kp, ⟨v, rfl⟩, q⟩) sz
end
/-! ### the law's own call -/
theorem law_callG {P : Program} {w : World} {K : PySem.W.Frag} {mg mb : Str → Option Value} {k : Nat} {fa a : Addr} {fd : FuncData} {x : Str} {sp : Sp} {s1 : Shared} {vs : List Value} {ns : List Int}
    (kin : K.In s1.heap) (hns : s1.heap.Ns mainGlobals mg) (hb : s1.heap.Ns builtinsNs mb) (hbb : ∀ x : Str, x ≠ "__name__" → mb x = bootBuiltins x) (hlim : s1.heap.NoLimit) (hg : s1.gens = #[])
    (ha : s1.heap.get? a = some { cls := .type "list", data := .seq vs.toArray }) (hi : IntsAre vs ns) (hl : ns.length ≤ sizeLine) (hr : Room k callerA)
    (F : ∀ base : Heap, K.In base → base.Ns mainGlobals mg → FnG P w K mg base k fa fd [x] sp) (hbind : ∀ (s : Shared) (u : Value), BindsTo s fd ⟨[u], []⟩ [(x, u)])
    (hsp : ∀ H : Hp, SqL K H a (ns.map V.int) → sp [.ref a] H (fun v _ => v = .bl true) fun _ _ _ => False) :
    codeAny (model P w) callerA (.call (.ref fa) ⟨[.ref a], []⟩) (fun r s' => r = .ok (.ret (.bool true)) ∧ OldK s1.heap s'.heap ∧ s'.os = s1.os ∧ AllBare s'.gens) s1 := by
  have rv : Vals (ns.map V.int) vs := vals_ints hi
  have lenV : vs.length = ns.length := hi.length
  -- the abstract heap: the script alone, where it is none of the module's own objects
  let ob : Obj := { cls := .type "list", data := .seq vs.toArray }
  obtain ⟨H, hH, hS, only⟩ : ∃ H : Hp, (∀ b u, H b = some u → b = a ∧ u = .frz ob (.lst (ns.map V.int)) ∧ K.lookup a = none) ∧ SqL K H a (ns.map V.int) ∧ True := by
    cases hk : K.lookup a with
    | some o =>
      have e : s1.heap.get? a = some o := kin a o hk
      have e2 : o = ob := Option.some.inj (e.symm.trans ha)
      refine ⟨fun _ => none, fun b u z => (nomatch z), Or.inr ⟨o, vs.toArray, 0, hk, by rw [e2], by rw [e2], by rw [e2], ?_, ?_⟩, trivial⟩
      · rw [List.size_toArray, lenV]; exact hl
      · simpa using rv
    | none =>
      refine ⟨fun b => if b = a then some (.frz ob (.lst (ns.map V.int))) else none, fun b u z => ?_, Or.inl (Or.inr ⟨ob, if_pos rfl⟩), trivial⟩
      by_cases hba : b = a
      · refine ⟨hba, ?_, rfl⟩
        have z : (if b = a then some (HO.frz ob (.lst (ns.map V.int))) else none) = some u := z
        rw [if_pos hba] at z
        exact (Option.some.inj z).symm
      · have z : (if b = a then some (HO.frz ob (.lst (ns.map V.int))) else none) = some u := z
        rw [if_neg hba] at z
        cases z
  have hok : HOk P w H s1.heap := by
    intro b u z
    obtain ⟨rfl, rfl, _⟩ := hH b u z
    exact ⟨ha, by rw [List.length_map]; exact hl, vs, _, rv, ha⟩
  have free : ∀ {b : Addr} {o : Obj}, s1.heap.get? b = some o → (b = a → o = ob → K.lookup a ≠ none) → H b = none := by
    intro b o e n
    cases z : H b with
    | none => rfl
    | some u =>
      obtain ⟨h1, _, h3⟩ := hH b u z
      subst h1
      exact absurd h3 (n rfl (Option.some.inj (e.symm.trans ha)))
  have nsB : ∀ {b : Addr} {m : Str → Option Value}, s1.heap.Ns b m → (hidT s1.heap H).Ns b m := by
    intro b m ⟨o, es, ep, e, d, r⟩
    refine ⟨o, es, ep, hidT_get e (free e fun _ z => ?_), d, r⟩
    rw [z] at d
    cases d
  have kinB : K.In (hidT s1.heap H) := by
    intro b o e
    refine hidT_get (kin b o e) (free (kin b o e) fun z _ => ?_)
    subst z
    rw [e]
    exact fun q => nomatch q
  have modB : Mod K mg (hidT s1.heap H) := by
    obtain ⟨mc, l1, l2⟩ := hlim
    exact ⟨kinB, nsB hns, ⟨mb, nsB hb, hbb⟩, ⟨mc, nsB l1, l2⟩⟩
  have none_in : ∀ b : Addr, b ∉ ([] : List Addr) := fun b z => nomatch z
  have e0 : Env0 P w K mg (hidT s1.heap H) callerA [] s1 H := ⟨rfl, modB, fun b o e => of_hidT e, Nat.le_of_eq (hidT_size _ _), trivial, fun b z => absurd z (none_in b), hok, .of_eq hg⟩
  refine codeAny_mono ((F _ kinB (nsB hns)).go callerA [] s1 H ⟨[.ref a], []⟩ [.ref a] [.ref a] _ _ rfl hr e0 (hbind s1 (.ref a)) (.cons rfl .nil) (hsp H hS)) ?_
  intro r s2 h
  match r, h with
  | .error _, h => exact False.elim h
  | .ok .next, h => exact False.elim h
  | .ok .brk, h => exact False.elim h
  | .ok .cont, h => exact False.elim h
  | .ok (.ret u), h =>
    obtain ⟨v, H2, os, bare, un, hok2, rv2, q⟩ := h
    have q : v = .bl true := q
    subst q
    obtain rfl : u = Value.bool true := rv2
    refine ⟨rfl, OldK.of_keep ?_, os, bare⟩
    intro b o e
    cases z : H b with
    | none => exact un.keep b o e z (none_in b) (none_in b)
    | some u =>
      obtain ⟨rfl, rfl, _⟩ := hH b u z
      have z2 := un.frzs b ob _ z
      have e2 := (hok2 b _ z2).1
      rw [ha] at e
      rw [← Option.some.inj e]
      exact e2
theorem walk_ofG {l : PySem.W.OpenLaw} {n k : Nat} {q : Program} {loose : List Str} {XP : (Str → Option Value) → Heap → Prop} {YP : World → Heap → Prop} {d : DefRec} {K : Params → PySem.W.Frag} {sp : PySem.W.Frag → Sp} {x : Str}
    (hn : l.most = some n) (hn2 : n ≤ sizeLine) (hdf : d.params.defaults = []) (hr : Room k callerA) (hY : ∀ (w : World) (h : Heap), YP w h → (K w.params).In h)
    (F : ∀ (w : World) (mg : Str → Option Value) (fa : Addr) (h : Heap), (K w.params).In h → h.Ns mainGlobals mg → mg d.name = some (.ref fa) →
      ∃ fd : FuncData, (∀ (s : Shared) (u : Value), BindsTo s fd ⟨[u], []⟩ [(x, u)]) ∧ ∀ base : Heap, (K w.params).In base → base.Ns mainGlobals mg → FnG l.prog w (K w.params) mg base k fa fd [x] (sp (K w.params)))
    (hsp : ∀ (K : PySem.W.Frag) (H : Hp) (a : Addr) (ns : List Int), ns.length ≤ n → SqL K H a (ns.map V.int) → sp K [.ref a] H (fun v _ => v = .bl true) fun _ _ _ => False) :
    PySem.W.WalkO q loose XP YP l.row.toRowW d [] (fun f vs => PySem.call f vs) := by
  refine Att.attach_call hn hdf ?_
  intro w s0 s1 mg mb fa o pm cd doc a vs ns G Y ho hd hcd hmg hobj hints hlen hg
  have kin := hY w _ Y
  obtain ⟨fd, hb, hF⟩ := F w mg fa _ kin G.T.g hmg
  exact law_callG kin G.T.g G.T.b G.T.builtins G.T.nolimit hg hobj hints (Nat.le_trans hlen hn2) hr hF hb fun H hS => hsp _ H a ns hlen hS
end Ur
/-! UrS: what can be shown, by its parts. -/
namespace Ur
open PySem PySem.Spec PyProof.Rows L2
/-- d can be shown: its weight is at most n, its depth at most k -/
structure Shw (d : PyData) (n k : Nat) : Prop where
  sh : d.showable = true
  nd : d.hasDict = false
  dp : d.depth ≤ k
  lv : d.leavesShort 1930 = true
  wt : d.weight ≤ n
structure ShwAll (ds : List PyData) (n k : Nat) : Prop where
  sh : PyData.showableAll ds = true
  nd : PyData.hasDictAll ds = false
  dp : PyData.depthAll ds ≤ k
  lv : PyData.leavesShortAll 1930 ds = true
  wt : PyData.weightAll ds ≤ n
theorem Shw.mono {d : PyData} {n k m j : Nat} (s : Shw d n k) (h1 : n ≤ m) (h2 : k ≤ j) : Shw d m j := ⟨s.sh, s.nd, Nat.le_trans s.dp h2, s.lv, Nat.le_trans s.wt h1⟩
theorem Shw.non : Shw .none 0 0 := ⟨rfl, rfl, Nat.le_refl _, rfl, Nat.le_refl _⟩
theorem Shw.bl (b : Bool) : Shw (.bool b) 0 0 := ⟨rfl, rfl, Nat.le_refl _, rfl, Nat.le_refl _⟩
theorem Shw.int {i : Int} (h : i.natAbs.log2 < 1920) : Shw (.int i) 1921 0 := by
  refine ⟨decide_eq_true h, rfl, Nat.le_refl _, decide_eq_true ?_, ?_⟩
  · have e : PyData.shown (.int i) = Str.ofString (toString i) := by simp only [PyData.shown]
    rw [e]
    exact Nat.le_trans (PyProof.Rows.int_text_len_1921 h) (by decide)
  · show (if i == 0 then 0 else i.natAbs.log2 + 1) ≤ 1921
    split <;> omega
theorem Shw.intb {i : Int} {b : Nat} (h : i.natAbs < 2 ^ b) (h0 : 0 < b) (h1 : b ≤ 1920) : Shw (.int i) b 0 := by
  have z := PySem.Flt.log2_lt_of h0 h
  refine ⟨decide_eq_true (Nat.lt_of_lt_of_le z h1), rfl, Nat.le_refl _, (Shw.int (Nat.lt_of_lt_of_le z h1)).lv, ?_⟩
  show (if i == 0 then 0 else i.natAbs.log2 + 1) ≤ b
  split <;> omega
theorem Shw.str {x : Str} (h : ∀ c ∈ x.cps.toList, c < 16 ^ 8) : Shw (.str x) x.length 0 := ⟨rfl, rfl, Nat.le_refl _, List.all_eq_true.mpr fun c hc => decide_eq_true (h c hc), Nat.le_refl _⟩
theorem ShwAll.nil : ShwAll [] 0 0 := ⟨rfl, rfl, Nat.le_refl _, rfl, Nat.le_refl _⟩
theorem ShwAll.cons {d : PyData} {ds : List PyData} {n k m j : Nat} (a : Shw d n k) (b : ShwAll ds m j) : ShwAll (d :: ds) (n + 1 + m) (max k j) := by
  refine ⟨?_, ?_, ?_, ?_, ?_⟩
  · show (d.showable && PyData.showableAll ds) = true
    rw [a.sh, b.sh]; rfl
  · show (d.hasDict || PyData.hasDictAll ds) = false
    rw [a.nd, b.nd]; rfl
  · show max d.depth (PyData.depthAll ds) ≤ max k j
    have := a.dp; have := b.dp; omega
  · show (d.leavesShort 1930 && PyData.leavesShortAll 1930 ds) = true
    rw [a.lv, b.lv]; rfl
  · show d.weight + 1 + PyData.weightAll ds ≤ n + 1 + m
    have := a.wt; have := b.wt; omega
theorem ShwAll.lst {ds : List PyData} {n k : Nat} (a : ShwAll ds n k) : Shw (.list ds) n (k + 1) := ⟨a.sh, a.nd, Nat.succ_le_succ a.dp, a.lv, a.wt⟩
theorem ShwAll.tup {ds : List PyData} {n k : Nat} (a : ShwAll ds n k) : Shw (.tuple ds) n (k + 1) := ⟨a.sh, a.nd, Nat.succ_le_succ a.dp, a.lv, a.wt⟩
theorem Shw.fits {d : PyData} {n k : Nat} (s : Shw d n k) (h : n ≤ 8600) : d.shown.length ≤ sizeLine := by
  have z := PyData.shown_le 1930 (by decide) d s.lv
  have w : (1930 + 2) * d.weight ≤ 1932 * 8600 := Nat.mul_le_mul_left _ (Nat.le_trans s.wt h)
  have e : sizeLine = 16777216 := by decide
  omega
/-- d can be shown -/
def ShwOk (d : PyData) : Prop := ∃ n k, Shw d n k ∧ n ≤ 8600 ∧ k ≤ 64
theorem Shw.good {d : PyData} {n k : Nat} (s : Shw d n k) (h : n ≤ 8600) (h2 : k ≤ 64) : ShwOk d := ⟨n, k, s, h, h2⟩
theorem ShwOk.int {i : Int} (h : i.natAbs.log2 < 1920) : ShwOk (.int i) := (Shw.int h).good (by decide) (by decide)
theorem ShwOk.non : ShwOk .none := Shw.non.good (by decide) (by decide)
/-- repr(x), x data that can be shown -/
def rReprS (K : PySem.W.Frag) : List V → Hp → VK → Prop := fun xs H Q => ∃ (x : V) (d : PyData), xs = [x] ∧ Dp K H x d ∧ ShwOk d ∧ ∀ z : Str, z = d.shown → Q (.str z) H
section
variable {X : Cx}
theorem call_reprS (hs : Still X.A) (hu : X.A.units + 66 < cLine) : CallR X (.builtin "repr") (rReprS X.K) := by
  intro pins s σ H xs us Q I r h
  obtain ⟨x, d, rfl, hd, ⟨n, k, sh, hn, hk⟩, q⟩ := h
  exact call_reprD hs hu pins s σ H [x] us Q I r ⟨x, d, rfl, hd, sh.sh, sh.nd, Nat.le_trans sh.dp hk, sh.fits hn, q _ rfl⟩
/-- str(x) of a whole number or a text -/
def rStrB : List V → Hp → VK → Prop := fun xs H Q => (∃ i, xs = [.int i] ∧ i.natAbs.log2 < 1920 ∧ Q (.str (toString i)) H) ∨ ∃ a, xs = [.str a] ∧ Q (.str a) H
theorem call_strB : CallR X (.type "str") rStrB := by
  intro pins s σ H xs us Q I r h
  rcases h with ⟨i, rfl, hz, q⟩ | ⟨a, rfl, q⟩
  · exact call_str_int pins s σ H _ us Q I r ⟨i, rfl, hz, q⟩
  · exact SkE.call_str_str pins s σ H _ us Q I r ⟨a, rfl, q⟩
end
theorem log2_of {i : Int} {b : Nat} (h : i.natAbs < 2 ^ b) (h0 : 0 < b) (h1 : b ≤ 1920) : i.natAbs.log2 < 1920 := Nat.lt_of_lt_of_le (PySem.Flt.log2_lt_of h0 h) h1
end Ur
/-! K8: a painter's properties and methods: name, day, post, stride, text, post_after. -/
namespace Ur
open PySem PySem.Spec PyProof.Rows L2
/-- a property, a method, with what they promise -/
def PropS (P : Program) (w : World) (K : PySem.W.Frag) (mg : Str → Option Value) (base : Heap) (C : Addr) (f : Str) (k : Nat) (sp : Sp) : Prop := ∃ p g fd, PropOf K C f p g ∧ FnOk P w K mg base CX0 k g fd ["self"] sp ∧ Binds K fd ["self"] []
def MethS (P : Program) (w : World) (K : PySem.W.Frag) (mg : Str → Option Value) (base : Heap) (C : Addr) (m : Str) (k : Nat) (ps : List Str) (sp : Sp) : Prop := ∃ f fd, Meth K C m f ∧ FnOk P w K mg base CX0 k f fd ps sp ∧ Binds K fd ps []
section
variable {X : Cx} {C : Addr} {o e : Expr} {es : List Expr} {pos apos : Pos} {ta : TE} {t : TA} {f m : Str} {k : Nat} {sp : Sp} {ps : List Str} {pl : Sem Bool}
theorem pe_prS (he : PE X e ta) (c : Cls X.K C) (hp : PropS X.prog X.w X.K X.mg X.base C f k sp) (hr : Room (k + 1) X.A) (hab : attributeBase e f X.env (eval e X.env) = eval e X.env := by rfl) : PE X (.Attribute e f pos) (tProp C sp [] E0 ta) := by
  obtain ⟨p, g, fd, h1, F, b⟩ := hp
  exact pe_prop he c h1 F hr b .nil pass0 hab
theorem pe_meS (he : PE X o ta) (c : Cls X.K C) (hm : MethS X.prog X.w X.K X.mg X.base C m k ps sp) (hr : Room k X.A) (ha : PA X (e :: es) t)
    (hst : starEach (e :: es) X.env = (false, eval e X.env) :: starEach es X.env := by rfl) (hpl : (backTo pos (starEach es X.env)).any (·.1) = false := by rfl)
    (ht : eval (.Call (.Attribute o m apos) (e :: es) [] pos) X.env = (do let ov ← eval o X.env; standAt apos.atName; let (f, first) ← holding [ov] (getMethod ov m pl); callWith pos f first (backTo pos (starEach (e :: es) X.env)) (backToKw pos (keywordEach [] X.env))) := by rfl) :
    PE X (.Call (.Attribute o m apos) (e :: es) [] pos) (tMeth C m sp [] E0 ta t) := by
  obtain ⟨f, fd, h1, F, b⟩ := hm
  exact pe_meth he c h1 F hr b .nil pass0 ha hst hpl ht
end
def lineOf (nm : Str) (d p s : Int) : Str := nm ++ (" " ++ ((toString d : Str) ++ (" " ++ ((toString p : Str) ++ (" " ++ (toString s : Str))))))
theorem line_join (nm : Str) (d p s : Int) : Txt.join " " [nm, (toString d : Str), (toString p : Str), (toString s : Str)] = lineOf nm d p s := by
  rw [show Txt.join " " [nm, (toString d : Str), (toString p : Str), (toString s : Str)] = Str.join " " [nm, (toString d : Str), (toString p : Str), (toString s : Str)] from PySem.StrLaws.glued_eq_join _ _]
  show nm ++ " " ++ ((toString d : Str) ++ " " ++ ((toString p : Str) ++ " " ++ (toString s : Str))) = lineOf nm d p s
  unfold lineOf
  simp only [Str.append_assoc]
/-- whole numbers that can be written -/
structure Short (d p s : Int) : Prop where
  d : d.natAbs.log2 < 1920
  p : p.natAbs.log2 < 1920
  s : s.natAbs.log2 < 1920
theorem AnyR.short {d p s : Int} (h : AnyR d p s) : Short d p s := by
  unfold AnyR at h
  exact ⟨log2_of (b := 120) (by omega) (by decide) (by decide), log2_of (b := 120) (by omega) (by decide) (by decide), log2_of (b := 120) (by omega) (by decide) (by decide)⟩
theorem PartOk.short {nm : Str} {d p s : Int} (h : PartOk nm d p s) : Short d p s := by
  have := h.d0; have := h.d1; have := h.p0; have := h.p1; have := h.s0; have := h.s1
  exact ⟨log2_of (b := 120) (by omega) (by decide) (by decide), log2_of (b := 120) (by omega) (by decide) (by decide), log2_of (b := 120) (by omega) (by decide) (by decide)⟩
theorem ilen {i : Int} (h : i.natAbs.log2 < 1920) : (toString i : Str).length ≤ 1921 := PyProof.Rows.int_text_len_1921 h
theorem sameTup {K : PySem.W.Frag} {H H' : Hp} {a : Addr} {xs : List V} (e : Same H H') (h : SqT K H a xs) : SqT K H' a xs := by
  rcases h with (h | ⟨o, h⟩) | h
  · exact .inl (.inl (e _ _ h))
  · exact .inl (.inr ⟨o, e _ _ h⟩)
  · exact .inr h
theorem sameAt {H H' : Hp} {a : Addr} {o : HO} (k : Same H H') (h : H a = none) : Same H (upd H' a o) := fun b u e => by rw [upd_ne (ne_of_none e h)]; exact k b u e
/-! ### the properties -/
abbrev s_Painter_name : Stmt := (inClass (topS 46) 4)
abbrev N_sc_Painter_name : List Str := ["self"]
abbrev P_Painter_name : List Str := ["self"]
theorem sc_Painter_name : FnScope N_sc_Painter_name P_Painter_name (defScope s_Painter_name) := ⟨rfl, rfl, rfl, by decide +kernel, rfl, by decide +kernel, by decide +kernel⟩
section
variable {P : Program} {w : World} {K : PySem.W.Frag} {mg : Str → Option Value} {base : Heap} {C : Addr} {f : Addr} {fd : FuncData}
theorem ok_get_name (F : Fun K "name" "Painter.name" s_Painter_name f fd) (T : PTxt K mg C) : FnOk P w K mg base CX0 1 f fd ["self"] (getSp C "_name") := by
  refine F.ok sc_Painter_name (fun vs H Q E h => ?_) (fun cdv A outer s H vs Q E hr h => ?_)
  · obtain ⟨a, dx, fs, v, rfl, _⟩ := h
    rfl
  obtain ⟨a, dx, fs, v, rfl, ha, hl, q⟩ := h
  exact ⟨_, (pss_one (ps_ret (pe_fld (pv 0) rfl))), _, rfl, a, C, dx, fs, v, rfl, ha, T.cl, T.nN, hl, q⟩
end
abbrev s_Painter_day : Stmt := (inClass (topS 46) 5)
abbrev N_sc_Painter_day : List Str := ["self"]
abbrev P_Painter_day : List Str := ["self"]
theorem sc_Painter_day : FnScope N_sc_Painter_day P_Painter_day (defScope s_Painter_day) := ⟨rfl, rfl, rfl, by decide +kernel, rfl, by decide +kernel, by decide +kernel⟩
section
variable {P : Program} {w : World} {K : PySem.W.Frag} {mg : Str → Option Value} {base : Heap} {C : Addr} {f : Addr} {fd : FuncData}
theorem ok_get_day (F : Fun K "day" "Painter.day" s_Painter_day f fd) (T : PTxt K mg C) : FnOk P w K mg base CX0 1 f fd ["self"] (getSp C "_day") := by
  refine F.ok sc_Painter_day (fun vs H Q E h => ?_) (fun cdv A outer s H vs Q E hr h => ?_)
  · obtain ⟨a, dx, fs, v, rfl, _⟩ := h
    rfl
  obtain ⟨a, dx, fs, v, rfl, ha, hl, q⟩ := h
  exact ⟨_, (pss_one (ps_ret (pe_fld (pv 0) rfl))), _, rfl, a, C, dx, fs, v, rfl, ha, T.cl, T.nD, hl, q⟩
end
abbrev s_Painter_post : Stmt := (inClass (topS 46) 6)
abbrev N_sc_Painter_post : List Str := ["self"]
abbrev P_Painter_post : List Str := ["self"]
theorem sc_Painter_post : FnScope N_sc_Painter_post P_Painter_post (defScope s_Painter_post) := ⟨rfl, rfl, rfl, by decide +kernel, rfl, by decide +kernel, by decide +kernel⟩
section
variable {P : Program} {w : World} {K : PySem.W.Frag} {mg : Str → Option Value} {base : Heap} {C : Addr} {f : Addr} {fd : FuncData}
theorem ok_get_post (F : Fun K "post" "Painter.post" s_Painter_post f fd) (T : PTxt K mg C) : FnOk P w K mg base CX0 1 f fd ["self"] (getSp C "_post") := by
  refine F.ok sc_Painter_post (fun vs H Q E h => ?_) (fun cdv A outer s H vs Q E hr h => ?_)
  · obtain ⟨a, dx, fs, v, rfl, _⟩ := h
    rfl
  obtain ⟨a, dx, fs, v, rfl, ha, hl, q⟩ := h
  exact ⟨_, (pss_one (ps_ret (pe_fld (pv 0) rfl))), _, rfl, a, C, dx, fs, v, rfl, ha, T.cl, T.nP, hl, q⟩
end
abbrev s_Painter_stride : Stmt := (inClass (topS 46) 7)
abbrev N_sc_Painter_stride : List Str := ["self"]
abbrev P_Painter_stride : List Str := ["self"]
theorem sc_Painter_stride : FnScope N_sc_Painter_stride P_Painter_stride (defScope s_Painter_stride) := ⟨rfl, rfl, rfl, by decide +kernel, rfl, by decide +kernel, by decide +kernel⟩
section
variable {P : Program} {w : World} {K : PySem.W.Frag} {mg : Str → Option Value} {base : Heap} {C : Addr} {f : Addr} {fd : FuncData}
theorem ok_get_stride (F : Fun K "stride" "Painter.stride" s_Painter_stride f fd) (T : PTxt K mg C) : FnOk P w K mg base CX0 1 f fd ["self"] (getSp C "_stride") := by
  refine F.ok sc_Painter_stride (fun vs H Q E h => ?_) (fun cdv A outer s H vs Q E hr h => ?_)
  · obtain ⟨a, dx, fs, v, rfl, _⟩ := h
    rfl
  obtain ⟨a, dx, fs, v, rfl, ha, hl, q⟩ := h
  exact ⟨_, (pss_one (ps_ret (pe_fld (pv 0) rfl))), _, rfl, a, C, dx, fs, v, rfl, ha, T.cl, T.nS, hl, q⟩
end
abbrev s_Painter_text : Stmt := (inClass (topS 46) 8)
abbrev N_sc_Painter_text : List Str := ["self"]
abbrev P_Painter_text : List Str := ["self"]
theorem sc_Painter_text : FnScope N_sc_Painter_text P_Painter_text (defScope s_Painter_text) := ⟨rfl, rfl, rfl, by decide +kernel, rfl, by decide +kernel, by decide +kernel⟩
def spText (C : Addr) : Sp := fun vs H Q _ => ∃ (a : Addr) (nm : Str) (d p s : Int), vs = [.ref a] ∧ PnAt C H a nm d p s ∧ nm.length ≤ 1000 ∧ Short d p s ∧ Q (.str (lineOf nm d p s)) H
section
variable {P : Program} {w : World} {K : PySem.W.Frag} {mg : Str → Option Value} {base : Heap} {C : Addr} {f : Addr} {fd : FuncData}
theorem ok_text (F : Fun K "text" "Painter.text" s_Painter_text f fd) (T : PTxt K mg C) : FnOk P w K mg base CX0 1 f fd ["self"] (spText C) := by
  refine F.ok sc_Painter_text (fun vs H Q E h => ?_) (fun cdv A outer s H vs Q E hr h => ?_)
  · obtain ⟨a, nm, d, p, st, rfl, _⟩ := h
    rfl
  obtain ⟨a, nm, d, p, st, rfl, ⟨dx, ha⟩, hn, sh, q⟩ := h
  have a1 := ilen sh.d
  have a2 := ilen sh.p
  have a3 := ilen sh.s
  have big : (20000 : Nat) ≤ sizeLine := by decide
  have sp : (" " : Str).length = 1 := by decide +kernel
  refine ⟨_, (pss_one (ps_ret (pe_joined (.cons (pe_fmt (pe_fld (pv 0) rfl)) (.cons pe_str (.cons (pe_fmt (pe_fld (pv 0) rfl)) (.cons pe_str (.cons (pe_fmt (pe_fld (pv 0) rfl)) (.cons pe_str (.cons (pe_fmt (pe_fld (pv 0) rfl)) .nil)))))))))), ?_⟩
  refine ⟨_, rfl, a, C, dx, _, _, rfl, ha, T.cl, T.nN, pfs_name _ _ _ _, .inl ⟨nm, rfl, by omega, nm, rfl, by rw [Str.empty_append]; omega, ?_⟩⟩
  refine ⟨_, rfl, by rw [Str.empty_append, Str.length_append, sp]; omega, ?_⟩
  refine ⟨_, rfl, a, C, dx, _, _, rfl, ha, T.cl, T.nD, pfs_day _ _ _ _, .inr ⟨d, rfl, sh.d, _, rfl, by simp only [Str.empty_append, Str.length_append, sp]; omega, ?_⟩⟩
  refine ⟨_, rfl, by simp only [Str.empty_append, Str.length_append, sp]; omega, ?_⟩
  refine ⟨_, rfl, a, C, dx, _, _, rfl, ha, T.cl, T.nP, pfs_post _ _ _ _, .inr ⟨p, rfl, sh.p, _, rfl, by simp only [Str.empty_append, Str.length_append, sp]; omega, ?_⟩⟩
  refine ⟨_, rfl, by simp only [Str.empty_append, Str.length_append, sp]; omega, ?_⟩
  refine ⟨_, rfl, a, C, dx, _, _, rfl, ha, T.cl, T.nS, pfs_stride _ _ _ _, .inr ⟨st, rfl, sh.s, _, rfl, by simp only [Str.empty_append, Str.length_append, sp]; omega, ?_⟩⟩
  have e : Str.empty ++ nm ++ " " ++ (toString d : Str) ++ " " ++ (toString p : Str) ++ " " ++ (toString st : Str) = lineOf nm d p st := by
    unfold lineOf
    simp only [Str.empty_append, Str.append_assoc]
  rw [← e] at q
  exact q
end
abbrev s_check_count : Stmt := (topS 24)
abbrev N_sc_check_count : List Str := ["value"]
abbrev P_check_count : List Str := ["value"]
theorem sc_check_count : FnScope N_sc_check_count P_check_count (defScope s_check_count) := ⟨rfl, rfl, rfl, by decide +kernel, rfl, by decide +kernel, by decide +kernel⟩
def spCount : Sp := fun vs H Q _ => ∃ c : Int, vs = [.int c] ∧ 0 ≤ c ∧ c ≤ 10 ^ 80 ∧ Q .non H
section
variable {P : Program} {w : World} {K : PySem.W.Frag} {mg : Str → Option Value} {base : Heap} {C : Addr} {f : Addr} {fd : FuncData}
theorem ok_check_count (D : Dfn K mg "check_count" s_check_count P_check_count) {uM : Value} (hM : mg "MAX_ARGUMENT" = some uM) (rM : L2.RelV (.int (10 ^ 80)) uM) (CB : Cal P w K mg base 2 "is_between" P_is_between spBetween) : Cal P w K mg base 3 "check_count" P_check_count spCount := by
  refine D.cal sc_check_count (fun vs H Q E h => ?_) fun f cdv A outer s H vs Q E hr h => ?_
  · obtain ⟨c, rfl, _⟩ := h
    rfl
  obtain ⟨c, rfl, c0, c1, q⟩ := h
  refine ⟨_, (pss_one (ps_if (pt_not (pt_val (pe_cal CB (hr.mono (by decide)) (pa_cons (pv 0) (pa_cons pe_int (pa_cons (pe_glob (v := .int (10 ^ 80)) rfl hM rM) pa_nil)))))) (pss_one ps_never) pss_nil)), ?_⟩
  exact ⟨_, rfl, c, _, _, rfl, _, rfl, iteNS ⟨c0, c1⟩ q⟩
end
end Ur
/-! UrM: the mathematics of common posts, in plain numbers. -/
namespace Ur
/-! ### the divisor and its factor -/
structure Euc (n m d r f g : Int) : Prop where
  d0 : 0 ≤ d
  r0 : 0 ≤ r
  sg : (0 ≤ f ∧ g ≤ 0 ∧ f * r - g * d = m) ∨ (f ≤ 0 ∧ 0 ≤ g ∧ g * d - f * r = m)
  c1 : m ∣ n * f - d
  c2 : m ∣ n * g - r
  dv : ∀ c : Int, c ∣ d → c ∣ r → c ∣ n ∧ c ∣ m
  f0 : -m ≤ f
  f1 : f ≤ m
  g0 : -m ≤ g
  g1 : g ≤ m
theorem Euc.start {n m : Int} (hn : 0 ≤ n) (hm : 0 < m) : Euc n m n m 1 0 :=
  ⟨hn, by omega, Or.inl ⟨by omega, by omega, by omega⟩, ⟨0, by omega⟩, ⟨-1, by omega⟩, fun c a b => ⟨a, b⟩, by omega, by omega, by omega, by omega⟩
theorem le_of_mul {a b m : Int} (ha : 0 ≤ a) (hb : 1 ≤ b) (h : a * b ≤ m) : a ≤ m := by
  have := Int.mul_le_mul_of_nonneg_left hb ha
  omega
theorem Euc.step {n m d r f g : Int} (E : Euc n m d r f g) (hr : r ≠ 0) : Euc n m r (d - d / r * r) g (f - d / r * g) := by
  obtain ⟨d0, r0, sg, c1, c2, dv, f0, f1, g0, g1⟩ := E
  have rp : 0 < r := by omega
  have e : d - d / r * r = d % r := by
    have h := Int.mul_ediv_add_emod d r
    have h2 : r * (d / r) = d / r * r := Int.mul_comm _ _
    omega
  have m0 : 0 ≤ d % r := Int.emod_nonneg d (by omega)
  have t0 : 0 ≤ d / r := Int.ediv_nonneg d0 r0
  have q0 : 0 ≤ d - d / r * r := by omega
  generalize d / r = t at *
  have sg' : (0 ≤ g ∧ f - t * g ≤ 0 ∧ g * (d - t * r) - (f - t * g) * r = m) ∨ (g ≤ 0 ∧ 0 ≤ f - t * g ∧ (f - t * g) * r - g * (d - t * r) = m) := by
    rcases sg with ⟨a, b, c⟩ | ⟨a, b, c⟩
    · refine Or.inr ⟨b, ?_, by grind⟩
      have : t * g ≤ 0 := Int.mul_nonpos_of_nonneg_of_nonpos t0 b
      omega
    · refine Or.inl ⟨b, ?_, by grind⟩
      have : 0 ≤ t * g := Int.mul_nonneg t0 b
      omega
  refine ⟨r0, q0, sg', c2, ?_, fun c h1 h2 => dv c ?_ h1, g0, g1, ?_, ?_⟩
  · obtain ⟨a, ha⟩ := c1
    obtain ⟨b, hb⟩ := c2
    exact ⟨a - t * b, by grind⟩
  · obtain ⟨a, ha⟩ := h1
    obtain ⟨b, hb⟩ := h2
    exact ⟨b + t * a, by grind⟩
  · rcases sg' with ⟨a, b, c⟩ | ⟨a, b, c⟩
    · have z : 0 ≤ g * (d - t * r) := Int.mul_nonneg a q0
      have y : -(f - t * g) * r = -((f - t * g) * r) := Int.neg_mul _ _
      have := le_of_mul (a := -(f - t * g)) (b := r) (m := m) (by omega) (by omega) (by omega)
      omega
    · omega
  · rcases sg' with ⟨a, b, c⟩ | ⟨a, b, c⟩
    · omega
    · have z : g * (d - t * r) ≤ 0 := Int.mul_nonpos_of_nonpos_of_nonneg a q0
      exact le_of_mul (b := r) b (by omega) (by omega)
/-- what comes out: a divisor of both, and its factor -/
structure DivFac (n m d f : Int) : Prop where
  pos : 0 < d
  dn : d ∣ n
  dm : d ∣ m
  cg : m ∣ n * f - d
  f0 : -m ≤ f
  f1 : f ≤ m
theorem Euc.done {n m d f g : Int} (E : Euc n m d 0 f g) (hm : 0 < m) : DivFac n m d f := by
  have z := E.dv d (Int.dvd_refl d) (Int.dvd_zero d)
  refine ⟨?_, z.1, z.2, E.c1, E.f0, E.f1⟩
  have d0 := E.d0
  by_cases h : d = 0
  · have := z.2
    rw [h] at this
    have := Int.zero_dvd.mp this
    omega
  · omega
/-! ### common posts -/
/-- q is on the way that starts at p with the stride s -/
def On (p s q : Int) : Prop := ∃ j : Int, 0 ≤ j ∧ q = p + j * s
/-- how two strides meet: every step-th number of the first one -/
def Steps (s1 s2 step : Int) : Prop := 0 < step ∧ ∀ k : Int, s2 ∣ k * s1 ↔ step ∣ k
/-- the numbers of common posts, on the way of the first one -/
inductive Comm (p1 s1 p2 s2 : Int) : Option (Int × Option Int × Int) → Prop where
  | no : (∀ k : Int, 0 ≤ k → ¬ On p2 s2 (p1 + k * s1)) → Comm p1 s1 p2 s2 none
  | inf {first step : Int} : (0 < s1 ↔ 0 < s2) → Steps s1 s2 step → 0 ≤ first → first ≤ (p2 - p1).natAbs + step → (∀ k : Int, 0 ≤ k → (On p2 s2 (p1 + k * s1) ↔ first ≤ k ∧ step ∣ k - first)) → Comm p1 s1 p2 s2 (some (first, none, step))
  | fin {first last step : Int} : ¬ (0 < s1 ↔ 0 < s2) → Steps s1 s2 step → 0 ≤ first → first ≤ last → last ≤ (p2 - p1).natAbs → step ∣ last - first → (∀ k : Int, 0 ≤ k → (On p2 s2 (p1 + k * s1) ↔ first ≤ k ∧ k ≤ last ∧ step ∣ k - first)) → Comm p1 s1 p2 s2 (some (first, some last, step))
theorem dvd_abs {a b : Int} : (a.natAbs : Int) ∣ b ↔ a ∣ b := Int.natAbs_dvd
/-- n, m as the program has them: the first stride's remainder by the size of the second -/
structure Meet (s1 s2 gap d step res : Int) : Prop where
  d0 : 0 < d
  d1 : d ∣ s1
  d2 : d ∣ s2
  dg : d ∣ gap
  st : Steps s1 s2 step
  se : step * d = s2.natAbs
  /-- the numbers at which the two ways, taken as endless, have the same post -/
  at_ : ∀ k : Int, s2 ∣ k * s1 - gap ↔ step ∣ k - res
  r0 : 0 ≤ res
  r1 : res < step
theorem meet_of {s1 s2 gap d f : Int} (hs2 : s2 ≠ 0) (D : DivFac (s1 % (s2.natAbs : Int)) (s2.natAbs : Int) d f) (hg : d ∣ gap) :
    Meet s1 s2 gap d ((s2.natAbs : Int) / d) ((gap / d * f) % ((s2.natAbs : Int) / d)) := by
  obtain ⟨d0, dn, dm, cg, f0, f1⟩ := D
  generalize hm : (s2.natAbs : Int) = m at *
  have mp : 0 < m := by omega
  obtain ⟨st, hst⟩ := dm
  have est : m / d = st := by rw [hst]; exact Int.mul_ediv_cancel_left _ (by omega)
  rw [est]
  have stp : 0 < st := by
    by_cases h : 0 < st
    · exact h
    · have : d * st ≤ 0 := Int.mul_nonpos_of_nonneg_of_nonpos (by omega) (by omega)
      omega
  obtain ⟨gq, hgq⟩ := hg
  have egq : gap / d = gq := by rw [hgq]; exact Int.mul_ediv_cancel_left _ (by omega)
  rw [egq]
  -- d divides s1
  have e1 : s1 = m * (s1 / m) + s1 % m := (Int.mul_ediv_add_emod s1 m).symm
  obtain ⟨a, ha⟩ := dn
  have d1 : d ∣ s1 := ⟨st * (s1 / m) + a, by grind⟩
  obtain ⟨u, hu⟩ := d1
  -- u * f is 1 modulo st
  obtain ⟨b, hb⟩ := cg
  have uf : ∃ c, u * f - 1 = st * c := by
    refine ⟨b + f * (s1 / m), ?_⟩
    have z : d * (u * f - 1) = d * (st * (b + f * (s1 / m))) := by grind
    exact Int.eq_of_mul_eq_mul_left (by omega) z
  obtain ⟨c, hc⟩ := uf
  have key : ∀ x : Int, d * st ∣ d * x ↔ st ∣ x := fun x => ⟨fun h => Int.dvd_of_mul_dvd_mul_left (by omega) h, fun h => Int.mul_dvd_mul_left d h⟩
  have m2 : ∀ x : Int, s2 ∣ x ↔ m ∣ x := fun x => by rw [← hm]; exact Int.natAbs_dvd.symm
  refine ⟨d0, ⟨u, hu⟩, ?_, ⟨gq, hgq⟩, ⟨stp, fun k => ?_⟩, by rw [hm, hst]; exact Int.mul_comm _ _, fun k => ?_, Int.emod_nonneg _ (by omega), Int.emod_lt_of_pos _ stp⟩
  · have : d ∣ (s2.natAbs : Int) := by rw [hm]; exact ⟨st, hst⟩
    exact Int.dvd_natAbs.mp this
  · rw [m2, hst, hu, show k * (d * u) = d * (k * u) by grind, key]
    constructor
    · intro ⟨x, hx⟩
      exact ⟨x * f - k * c, by grind⟩
    · intro ⟨x, hx⟩
      exact ⟨x * u, by grind⟩
  · rw [m2, hst, hu, hgq, show k * (d * u) - d * gq = d * (k * u - gq) by grind, key]
    have er : gq * f = st * (gq * f / st) + gq * f % st := (Int.mul_ediv_add_emod _ _).symm
    generalize gq * f / st = w at er
    generalize gq * f % st = res at er
    constructor
    · intro ⟨x, hx⟩
      exact ⟨x * f - k * c + w, by grind⟩
    · intro ⟨x, hx⟩
      exact ⟨x * u + gq * c - w * u, by grind⟩
theorem le_fdiv {k a s : Int} (hs : s ≠ 0) : k ≤ a.fdiv s ↔ (0 < s → k * s ≤ a) ∧ (s < 0 → a ≤ k * s) := by
  by_cases h : 0 < s
  · rw [Int.fdiv_eq_ediv_of_nonneg a (by omega), Int.le_ediv_iff_mul_le h]
    exact ⟨fun z => ⟨fun _ => z, fun y => by omega⟩, fun z => z.1 h⟩
  · have h2 : 0 < -s := by omega
    have e : a.fdiv s = (-a) / (-s) := by
      rw [← Int.fdiv_eq_ediv_of_nonneg (-a) (by omega : (0 : Int) ≤ -s), Int.neg_fdiv_neg]
    rw [e, Int.le_ediv_iff_mul_le h2, Int.mul_neg]
    exact ⟨fun z => ⟨fun y => by omega, fun _ => by omega⟩, fun z => by have := z.2 (by omega); omega⟩
theorem on_iff {p1 s1 p2 s2 k : Int} (hs : s2 ≠ 0) : On p2 s2 (p1 + k * s1) ↔ s2 ∣ k * s1 - (p2 - p1) ∧ (0 < s2 → p2 - p1 ≤ k * s1) ∧ (s2 < 0 → k * s1 ≤ p2 - p1) := by
  generalize k * s1 = x
  constructor
  · rintro ⟨j, j0, h⟩
    refine ⟨⟨j, by grind⟩, fun z => ?_, fun z => ?_⟩
    · have : 0 ≤ j * s2 := Int.mul_nonneg j0 (by omega)
      omega
    · have : j * s2 ≤ 0 := Int.mul_nonpos_of_nonneg_of_nonpos j0 (by omega)
      omega
  · rintro ⟨⟨j, hj⟩, h1, h2⟩
    refine ⟨j, ?_, by grind⟩
    by_cases c : 0 ≤ j
    · exact c
    · exfalso
      by_cases z : 0 < s2
      · have := h1 z
        have : s2 * j ≤ s2 * (-1) := Int.mul_le_mul_of_nonneg_left (by omega) (by omega)
        omega
      · have := h2 (by omega)
        have : s2 * (-1) ≤ s2 * j := Int.mul_le_mul_of_nonpos_left (by omega) (by omega)
        omega
theorem abs_mul_ge {g s : Int} (hs : s ≠ 0) : (0 < s → (g.natAbs : Int) * 1 ≤ g.natAbs * s) ∧ (s < 0 → (g.natAbs : Int) * s ≤ g.natAbs * (-1)) :=
  ⟨fun h => Int.mul_le_mul_of_nonneg_left (by omega) (by omega), fun h => Int.mul_le_mul_of_nonneg_left (by omega) (by omega)⟩
/-- a number behind a bound, one of each step -/
theorem from_on {step res low k : Int} (hp : 0 < step) : (low ≤ k ∧ step ∣ k - res) ↔ (low + (res - low) % step ≤ k ∧ step ∣ k - (low + (res - low) % step)) := by
  have e : res - low = step * ((res - low) / step) + (res - low) % step := (Int.mul_ediv_add_emod _ _).symm
  have r0 : 0 ≤ (res - low) % step := Int.emod_nonneg _ (by omega)
  have r1 : (res - low) % step < step := Int.emod_lt_of_pos _ hp
  generalize (res - low) / step = q at e
  generalize (res - low) % step = r at *
  constructor
  · rintro ⟨h, x, hx⟩
    refine ⟨?_, x + q, by grind⟩
    by_cases c : low + r ≤ k
    · exact c
    · have z : step * (x + q) = k - (low + r) := by grind
      have : step * (x + q) ≤ step * (-1) := Int.mul_le_mul_of_nonneg_left (by
        by_cases y : x + q ≤ -1
        · exact y
        · have : 0 ≤ step * (x + q) := Int.mul_nonneg (by omega) (by omega)
          omega) (by omega)
      omega
  · rintro ⟨h, x, hx⟩
    exact ⟨by omega, x - q, by grind⟩
theorem comm_same {p1 s1 p2 s2 d step res : Int} (h1 : s1 ≠ 0) (h2 : s2 ≠ 0) (hs : 0 < s1 ↔ 0 < s2) (M : Meet s1 s2 (p2 - p1) d step res) :
    Comm p1 s1 p2 s2 (some ((if -((-(p2 - p1)).fdiv s1) > 0 then -((-(p2 - p1)).fdiv s1) else 0) + (res - (if -((-(p2 - p1)).fdiv s1) > 0 then -((-(p2 - p1)).fdiv s1) else 0)) % step, none, step)) := by
  have sp := M.st.1
  have low : ∀ k : Int, -((-(p2 - p1)).fdiv s1) ≤ k ↔ (0 < s2 → p2 - p1 ≤ k * s1) ∧ (s2 < 0 → k * s1 ≤ p2 - p1) := fun k => by
    have z := le_fdiv (k := -k) (a := -(p2 - p1)) h1
    have e : -k * s1 = -(k * s1) := Int.neg_mul _ _
    rw [e] at z
    constructor
    · intro y
      have z := z.mp (by omega)
      exact ⟨fun c => by have := z.1 (hs.mpr c); omega, fun c => by have := z.2 (by omega); omega⟩
    · intro y
      have z := z.mpr ⟨fun c => by have := y.1 (hs.mp c); omega, fun c => by have := y.2 (by omega); omega⟩
      omega
  have lowle : -((-(p2 - p1)).fdiv s1) ≤ (p2 - p1).natAbs := by
    rw [low]
    have z := abs_mul_ge (g := p2 - p1) h1
    exact ⟨fun c => by have := z.1 (hs.mpr c); omega, fun c => by have := z.2 (by omega); omega⟩
  generalize -((-(p2 - p1)).fdiv s1) = lo at low lowle ⊢
  have m0 : 0 ≤ (if lo > 0 then lo else 0) ∧ (if lo > 0 then lo else 0) ≤ ((p2 - p1).natAbs : Int) ∧ ∀ k : Int, 0 ≤ k → (lo ≤ k ↔ (if lo > 0 then lo else 0) ≤ k) := by
    split <;> exact ⟨by omega, by omega, fun k _ => by omega⟩
  generalize (if lo > 0 then lo else 0) = l at m0 ⊢
  have r0 : 0 ≤ (res - l) % step := Int.emod_nonneg _ (by omega)
  have r1 : (res - l) % step < step := Int.emod_lt_of_pos _ sp
  refine .inf hs M.st (by omega) (by omega) fun k hk => ?_
  rw [on_iff h2, M.at_ k, ← low k, m0.2.2 k hk, ← from_on sp]
  exact And.comm
theorem opp_low {p1 s1 p2 s2 : Int} (h1 : s1 ≠ 0) (h2 : s2 ≠ 0) (hs : ¬ (0 < s1 ↔ 0 < s2)) (k : Int) : k ≤ (p2 - p1).fdiv s1 ↔ (0 < s2 → p2 - p1 ≤ k * s1) ∧ (s2 < 0 → k * s1 ≤ p2 - p1) := by
  rw [le_fdiv h1]
  constructor
  · intro y
    exact ⟨fun c => y.2 (by omega), fun c => y.1 (by omega)⟩
  · intro y
    exact ⟨fun c => y.2 (by omega), fun c => y.1 (by omega)⟩
/-- beside one another modulo step, and neither below nought: the remainder is the least -/
theorem least_res {step res k : Int} (h0 : 0 ≤ k) (r1 : res < step) (hk : step ∣ k - res) : res ≤ k := by
  obtain ⟨x, hx⟩ := hk
  by_cases c : res ≤ k
  · exact c
  · exfalso
    by_cases y : 0 ≤ x
    · have : 0 ≤ step * x := Int.mul_nonneg (by omega) y
      omega
    · have : step * x ≤ step * (-1) := Int.mul_le_mul_of_nonneg_left (by omega) (by omega)
      omega
theorem comm_no {p1 s1 p2 s2 d step res : Int} (h1 : s1 ≠ 0) (h2 : s2 ≠ 0) (hs : ¬ (0 < s1 ↔ 0 < s2)) (M : Meet s1 s2 (p2 - p1) d step res) (hr : (p2 - p1).fdiv s1 < res) : Comm p1 s1 p2 s2 none := by
  refine .no fun k hk h => ?_
  rw [on_iff h2, M.at_ k, ← opp_low h1 h2 hs k] at h
  have := least_res hk M.r1 h.1
  omega
theorem comm_opp {p1 s1 p2 s2 d step res : Int} (h1 : s1 ≠ 0) (h2 : s2 ≠ 0) (hs : ¬ (0 < s1 ↔ 0 < s2)) (M : Meet s1 s2 (p2 - p1) d step res) (hr : res ≤ (p2 - p1).fdiv s1) :
    Comm p1 s1 p2 s2 (some (res, some ((p2 - p1).fdiv s1 - ((p2 - p1).fdiv s1 - res) % step), step)) := by
  have sp := M.st.1
  have low := opp_low (p1 := p1) (p2 := p2) h1 h2 hs
  have mle : (p2 - p1).fdiv s1 ≤ (p2 - p1).natAbs := by
    by_cases c : (p2 - p1).fdiv s1 ≤ (p2 - p1).natAbs
    · exact c
    · exfalso
      have y := (le_fdiv (k := ((p2 - p1).natAbs : Int) + 1) (a := p2 - p1) h1).mp (by omega)
      have z := abs_mul_ge (g := p2 - p1) h1
      have e : (((p2 - p1).natAbs : Int) + 1) * s1 = (p2 - p1).natAbs * s1 + s1 := by rw [Int.add_mul, Int.one_mul]
      by_cases c : 0 < s1
      · have := y.1 c
        have := z.1 c
        omega
      · have := y.2 (by omega)
        have := z.2 (by omega)
        omega
  generalize (p2 - p1).fdiv s1 = mo at low hr mle ⊢
  have e : mo - res = step * ((mo - res) / step) + (mo - res) % step := (Int.mul_ediv_add_emod _ _).symm
  have q0 : 0 ≤ (mo - res) / step := Int.ediv_nonneg (by omega) (by omega)
  have r0 : 0 ≤ (mo - res) % step := Int.emod_nonneg _ (by omega)
  have r1 : (mo - res) % step < step := Int.emod_lt_of_pos _ sp
  generalize (mo - res) / step = q at e q0
  generalize (mo - res) % step = r at *
  have sq : 0 ≤ step * q := Int.mul_nonneg (by omega) q0
  refine .fin hs M.st M.r0 (by omega) (by omega) ⟨q, by omega⟩ fun k hk => ?_
  rw [on_iff h2, M.at_ k, ← low k]
  constructor
  · rintro ⟨h, hm⟩
    refine ⟨least_res hk M.r1 h, ?_, h⟩
    obtain ⟨x, hx⟩ := h
    by_cases c : k ≤ mo - r
    · exact c
    · exfalso
      have : step * (q + 1) ≤ step * x := Int.mul_le_mul_of_nonneg_left (by
        by_cases y : q + 1 ≤ x
        · exact y
        · have : step * x ≤ step * q := Int.mul_le_mul_of_nonneg_left (by omega) (by omega)
          omega) (by omega)
      have : step * (q + 1) = step * q + step := by rw [Int.mul_add, Int.mul_one]
      omega
  · rintro ⟨_, h, hd⟩
    exact ⟨hd, by omega⟩
theorem comm_gap {p1 s1 p2 s2 d : Int} (h1 : d ∣ s1) (h2 : d ∣ s2) (hg : ¬ d ∣ p2 - p1) : Comm p1 s1 p2 s2 none := by
  refine .no fun k hk ⟨j, _, h⟩ => hg ?_
  obtain ⟨a, rfl⟩ := h1
  obtain ⟨b, rfl⟩ := h2
  exact ⟨k * a - j * b, by grind⟩
theorem mul_bd {a b A B : Int} (h0 : 0 ≤ a) (h1 : a ≤ A) (h2 : -B ≤ b) (h3 : b ≤ B) (hB : 0 ≤ B) : -(A * B) ≤ a * b ∧ a * b ≤ A * B := by
  have x1 : a * b ≤ a * B := Int.mul_le_mul_of_nonneg_left h3 h0
  have x2 : a * B ≤ A * B := Int.mul_le_mul_of_nonneg_right h1 hB
  have x3 : a * (-B) ≤ a * b := Int.mul_le_mul_of_nonneg_left h2 h0
  rw [Int.mul_neg] at x3
  omega
theorem mul_pos1 {a b : Int} (h0 : 1 ≤ a) (h1 : 1 ≤ b) : 1 ≤ a * b := by
  have := Int.mul_le_mul h0 h1 (by decide) (by omega)
  omega
/-- how many steps to a post, if it is on the way -/
def StepsTo (p s q : Int) (r : Option Int) : Prop := ∀ j : Int, r = some j ↔ (0 ≤ j ∧ q = p + j * s)
theorem steps_to_spec {p s q : Int} (hs : s ≠ 0) : StepsTo p s q (if (q - p).fmod s = 0 ∧ 0 ≤ (q - p).fdiv s then some ((q - p).fdiv s) else none) := by
  have e := Int.fmod_add_mul_fdiv (q - p) s
  intro j
  have uniq : q = p + j * s → (q - p).fmod s = 0 ∧ (q - p).fdiv s = j := by
    intro h
    have e2 : q - p = j * s := by omega
    rw [e2]
    exact ⟨Int.mul_fmod_left j s, Int.mul_fdiv_cancel j hs⟩
  constructor
  · intro h
    split at h
    · rename_i c
      obtain rfl := Option.some.inj h
      rw [c.1] at e
      refine ⟨c.2, ?_⟩
      have : s * (q - p).fdiv s = (q - p).fdiv s * s := Int.mul_comm _ _
      omega
    · cases h
  · rintro ⟨h0, h⟩
    obtain ⟨a, b⟩ := uniq h
    rw [if_pos ⟨a, by rw [b]; exact h0⟩, b]
theorem stepsTo_on {p s q : Int} {r : Option Int} (h : StepsTo p s q r) : On p s q ↔ r ≠ none := by
  constructor
  · rintro ⟨j, j0, e⟩ z
    have := (h j).mpr ⟨j0, e⟩
    rw [z] at this
    cases this
  · intro z
    cases r with
    | none => exact absurd rfl z
    | some j => exact ⟨j, (h j).mp rfl⟩
end Ur
/-! KC: common numbers, common posts. -/
namespace Ur
open PySem PySem.Spec PyProof.Rows L2
abbrev s_divisor_and_factor : Stmt := (topS 32)
abbrev N_sc_divisor_and_factor : List Str := ["number", "modulus", "divisor", "factor", "rest", "rest_factor", "times"]
abbrev P_divisor_and_factor : List Str := ["number", "modulus"]
theorem sc_divisor_and_factor : FnScope N_sc_divisor_and_factor P_divisor_and_factor (defScope s_divisor_and_factor) := ⟨rfl, rfl, rfl, by decide +kernel, rfl, by decide +kernel, by decide +kernel⟩
def spDF : Sp := fun vs H Q _ => ∃ n m : Int, vs = [.int n, .int m] ∧ 0 ≤ n ∧ n < m ∧ m < 2 ^ 100 ∧ ∀ (d f : Int) (t : Addr) (H' : Hp), DivFac n m d f → H' t = some (.tup [.int d, .int f]) → Same H H' → Q (.ref t) H'
def restOf (σ : List (Option L2.V)) : Nat := match σ[4]? with
  | some (some (L2.V.int r)) => r.toNat
  | _ => 0
section
variable {P : Program} {w : World} {K : PySem.W.Frag} {mg : Str → Option Value} {base : Heap}
theorem ok_df (D : Dfn K mg "divisor_and_factor" s_divisor_and_factor P_divisor_and_factor) : Cal P w K mg base 1 "divisor_and_factor" P_divisor_and_factor spDF := by
  refine D.cal sc_divisor_and_factor (fun vs H Q E h => ?_) fun f cdv A outer s H vs Q E hr h => ?_
  · obtain ⟨n, m, rfl, _⟩ := h
    rfl
  obtain ⟨n, m, rfl, n0, n1, m1, q⟩ := h
  refine ⟨_, (pss_cons (ps_par (i := 2) (j := 3) rfl sc_divisor_and_factor.nd rfl rfl (by decide) rfl rfl (pa_cons (pv 0) (pa_cons pe_int pa_nil)) (by rfl)) (pss_cons (ps_par (i := 4) (j := 5) rfl sc_divisor_and_factor.nd rfl rfl (by decide) rfl rfl (pa_cons (pv 1) (pa_cons pe_int pa_nil)) (by rfl)) (pss_cons (ps_while PassesOwn.never (pt_cmpR op_ne (pv 4) pe_int (nomark _)) (pss_cons (ps_set (i := 6) sc_divisor_and_factor.nd rfl (Or.inl rfl) (pe_op op_fdivW (pv 2) (pv 4))) (pss_cons (ps_par (i := 2) (j := 4) rfl sc_divisor_and_factor.nd rfl rfl (by decide) rfl rfl (pa_cons (pv 4) (pa_cons (pe_op op_sub (pv 2) (pe_op op_mulW (pv 6) (pv 4))) pa_nil)) (by rfl)) (pss_one (ps_par (i := 3) (j := 5) rfl sc_divisor_and_factor.nd rfl rfl (by decide) rfl rfl (pa_cons (pv 5) (pa_cons (pe_op op_sub (pv 3) (pe_op op_mulW (pv 6) (pv 5))) pa_nil)) (by rfl)))))) (pss_one (ps_ret (pe_tup (pa_cons (pv 2) (pa_cons (pv 3) pa_nil)))))))), ?_⟩
  refine ⟨_, rfl, _, _, rfl, _, rfl, _, _, rfl, ?_⟩
  refine while_by (fun σ' H' => ∃ (d f r g : Int) (t : Option V), σ' = [some (.int n), some (.int m), some (.int d), some (.int f), some (.int r), some (.int g), t] ∧ Euc n m d r f g ∧ d ≤ m ∧ r ≤ m ∧ H' = H) (fun σ _ => restOf σ) ⟨_, _, _, _, _, rfl, Euc.start n0 (by omega), by omega, by omega, rfl⟩ ?_ (fun σ H Q Q' k ⟨v, hv, hs, b, hb, q⟩ => ⟨v, hv, hs, b, hb, k _ _ q⟩)
  rintro σ' H' ⟨d, f, r, g, t, rfl, E, dm, rm, rfl⟩
  refine ⟨_, rfl, rfl, _, rfl, ?_⟩
  by_cases hr0 : r = 0
  · subst hr0
    refine iteNS rfl ?_
    refine ⟨_, rfl, _, rfl, (by show 2 ≤ sizeLine; decide), fun t ht => ?_⟩
    exact q d f t _ (E.done (by omega)) upd_same (same_new ht _)
  · have c : (!decide (V.int r = V.int 0)) = true := by
      rw [decide_eq_false fun e => hr0 (V.int.inj e)]
      rfl
    show (if (!decide (V.int r = V.int 0)) = true then _ else _)
    rw [if_pos c]
    have r0 := E.r0
    have d0 := E.d0
    have f0 := E.f0
    have f1 := E.f1
    have g0 := E.g0
    have g1 := E.g1
    have t0 : 0 ≤ d / r := Int.ediv_nonneg d0 r0
    have t1 : d / r ≤ d := Int.ediv_le_self r d0
    have em := Int.emod_lt_of_pos d (show 0 < r by omega)
    have en := Int.emod_nonneg d hr0
    have e : d - d / r * r = d % r := by
      have h := Int.mul_ediv_add_emod d r
      have h2 : r * (d / r) = d / r * r := Int.mul_comm _ _
      omega
    refine ⟨_, rfl, _, rfl, _, _, rfl, rfl, wide_div (b := 120) (by omega) (by omega) (by decide) (by decide), ?_⟩
    refine ⟨_, rfl, _, rfl, _, rfl, _, rfl, _, _, rfl, rfl, wide_mul (a := 120) (b := 120) (by omega) (by omega) (by decide) (by decide) (by decide), _, _, rfl, rfl, _, _, rfl, ?_⟩
    refine ⟨_, rfl, _, rfl, _, rfl, _, rfl, _, _, rfl, rfl, wide_mul (a := 120) (b := 120) (by omega) (by omega) (by decide) (by decide) (by decide), _, _, rfl, rfl, _, _, rfl, ?_⟩
    refine ⟨⟨_, _, _, _, _, rfl, E.step hr0, rm, by omega, rfl⟩, ?_⟩
    show (d - d / r * r).toNat < r.toNat
    omega
end
def optV : Option Int → V
  | none => .non
  | some i => .int i
/-- the numbers as the program hands them back -/
def CNval (H : Hp) (v : V) : Option (Int × Option Int × Int) → Prop
  | none => v = .non
  | some (a, l, s) => ∃ t, v = .ref t ∧ H t = some (.tup [.int a, optV l, .int s])
/-- two painters -/
structure Two (C : Addr) (H : Hp) (a1 a2 : Addr) (nm1 : Str) (d1 p1 s1 : Int) (nm2 : Str) (d2 p2 s2 : Int) : Prop where
  h1 : PnAt C H a1 nm1 d1 p1 s1
  h2 : PnAt C H a2 nm2 d2 p2 s2
  o1 : PartOk nm1 d1 p1 s1
  o2 : PartOk nm2 d2 p2 s2
theorem PnAt.same {C : Addr} {H H' : Hp} {a : Addr} {nm : Str} {d p s : Int} (h : PnAt C H a nm d p s) (k : Same H H') : PnAt C H' a nm d p s := let ⟨dx, e⟩ := h; ⟨dx, k _ _ e⟩
theorem Two.same {C : Addr} {H H' : Hp} {a1 a2 : Addr} {nm1 nm2 : Str} {d1 p1 s1 d2 p2 s2 : Int} (h : Two C H a1 a2 nm1 d1 p1 s1 nm2 d2 p2 s2) (k : Same H H') : Two C H' a1 a2 nm1 d1 p1 s1 nm2 d2 p2 s2 := ⟨h.h1.same k, h.h2.same k, h.o1, h.o2⟩
abbrev s_common_numbers : Stmt := (topS 30)
abbrev N_sc_common_numbers : List Str := ["one", "other", "size", "divisor", "factor", "gap", "step", "residue", "least", "most"]
abbrev P_common_numbers : List Str := ["one", "other"]
theorem sc_common_numbers : FnScope N_sc_common_numbers P_common_numbers (defScope s_common_numbers) := ⟨rfl, rfl, rfl, by decide +kernel, rfl, by decide +kernel, by decide +kernel⟩
def spCN (C : Addr) : Sp := fun vs H Q _ => ∃ (a1 a2 : Addr) (nm1 : Str) (d1 p1 s1 : Int) (nm2 : Str) (d2 p2 s2 : Int), vs = [.ref a1, .ref a2] ∧ Two C H a1 a2 nm1 d1 p1 s1 nm2 d2 p2 s2 ∧
  ∀ (r : Option (Int × Option Int × Int)) (v : V) (H' : Hp), Comm p1 s1 p2 s2 r → CNval H' v r → Same H H' → Q v H'
theorem df_both {s1 s2 d f : Int} (D : DivFac (s1 % (s2.natAbs : Int)) (s2.natAbs : Int) d f) : d ∣ s1 ∧ d ∣ s2 := by
  obtain ⟨d0, ⟨a, ha⟩, ⟨b, hb⟩, _⟩ := D
  have e1 : s1 = (s2.natAbs : Int) * (s1 / (s2.natAbs : Int)) + s1 % (s2.natAbs : Int) := (Int.mul_ediv_add_emod s1 _).symm
  refine ⟨⟨b * (s1 / (s2.natAbs : Int)) + a, by grind⟩, Int.dvd_natAbs.mp ⟨b, hb⟩⟩
section
variable {P : Program} {w : World} {K : PySem.W.Frag} {mg : Str → Option Value} {base : Heap} {C : Addr}
set_option maxHeartbeats 16000000 in
theorem ok_cn (D : Dfn K mg "common_numbers" s_common_numbers P_common_numbers) (B : Blt mg) (T : PTxt K mg C) (hPost : PropS P w K mg base C "post" 1 (getSp C "_post")) (hStride : PropS P w K mg base C "stride" 1 (getSp C "_stride"))
    (CDF : Cal P w K mg base 1 "divisor_and_factor" P_divisor_and_factor spDF) : Cal P w K mg base 3 "common_numbers" P_common_numbers (spCN C) := by
  refine D.cal sc_common_numbers (fun vs H Q E h => ?_) fun f cdv A outer s H vs Q E hr h => ?_
  · obtain ⟨a1, a2, _, _, _, _, _, _, _, _, rfl, _⟩ := h
    rfl
  obtain ⟨a1, a2, nm1, d1, p1, s1, nm2, d2, p2, s2, rfl, Tw, q⟩ := h
  obtain ⟨dx1, h1⟩ := Tw.h1
  obtain ⟨dx2, h2⟩ := Tw.h2
  obtain ⟨_, _, _, p10, p11, s10, s11, s1n⟩ := Tw.o1
  obtain ⟨_, _, _, p20, p21, s20, s21, s2n⟩ := Tw.o2
  refine ⟨_, (C8.pss_cut (ps_set (i := 2) sc_common_numbers.nd rfl (Or.inl rfl) (pe_callB call_abs rfl B.abs_ (by decide +kernel) (pa_cons (pe_prS (pv 1) T.cl hStride (hr.mono (by decide))) pa_nil))) (pss_cons (ps_asg (pe_cal CDF (hr.mono (by decide)) (pa_cons (pe_op op_mod (pe_prS (pv 0) T.cl hStride (hr.mono (by decide))) (pv 2)) (pa_cons (pv 2) pa_nil))) (pg_tup rfl (pgs_cons (pg_name (i := 3) sc_common_numbers.nd rfl (Or.inl rfl)) (pgs_cons (pg_name (i := 4) sc_common_numbers.nd rfl (Or.inl rfl)) pgs_nil)))) (pss_cons (ps_set (i := 5) sc_common_numbers.nd rfl (Or.inl rfl) (pe_op op_sub (pe_prS (pv 1) T.cl hPost (hr.mono (by decide))) (pe_prS (pv 0) T.cl hPost (hr.mono (by decide))))) (pss_cons (ps_if (pt_cmpR op_ne (pe_op op_mod (pv 5) (pv 3)) pe_int (nomark _)) (pss_one (ps_ret pe_non)) pss_nil) (pss_cons (ps_set (i := 6) sc_common_numbers.nd rfl (Or.inl rfl) (pe_op op_fdivW (pv 2) (pv 3))) (C8.pss_cut (ps_set (i := 7) sc_common_numbers.nd rfl (Or.inl rfl) (pe_op op_mod (pe_op op_mulW (pe_op op_fdivW (pv 5) (pv 3)) (pv 4)) (pv 6))) (pss_cons (ps_if (pt_cmpR op_eq (pe_cmpR op_gt (pe_prS (pv 0) T.cl hStride (hr.mono (by decide))) pe_int (nomark _)) (pe_cmpR op_gt (pe_prS (pv 1) T.cl hStride (hr.mono (by decide))) pe_int (nomark _)) (nomark _)) (pss_cons (ps_set (i := 8) sc_common_numbers.nd rfl (Or.inl rfl) (pe_callB (call_max2 rfl) rfl B.max_ (by decide +kernel) (pa_cons pe_int (pa_cons (pe_un un_neg (pe_op op_fdivX (pe_un un_neg (pv 5)) (pe_prS (pv 0) T.cl hStride (hr.mono (by decide))))) pa_nil)))) (pss_one (ps_ret (pe_tup (pa_cons (pe_op op_add (pv 8) (pe_op op_mod (pe_op op_sub (pv 7) (pv 8)) (pv 6))) (pa_cons pe_non (pa_cons (pv 6) pa_nil))))))) pss_nil) (pss_cons (ps_set (i := 9) sc_common_numbers.nd rfl (Or.inl rfl) (pe_op op_fdivX (pv 5) (pe_prS (pv 0) T.cl hStride (hr.mono (by decide))))) (pss_cons (ps_if (pt_cmpR op_gt (pv 7) (pv 9) (nomark _)) (pss_one (ps_ret pe_non)) pss_nil) (pss_one (ps_ret (pe_tup (pa_cons (pv 7) (pa_cons (pe_op op_sub (pv 9) (pe_op op_mod (pe_op op_sub (pv 9) (pv 7)) (pv 6))) (pa_cons (pv 6) pa_nil))))))))))))))), ?_⟩
  refine ⟨fun σ' H' => σ' = [some (.ref a1), some (.ref a2), some (.int (s2.natAbs : Int)), none, none, none, none, none, none, none] ∧ H' = H, ?_, ?_⟩
  · refine ⟨_, rfl, a2, dx2, _, rfl, h2, a2, dx2, _, _, rfl, h2, pfs_stride _ _ _ _, _, rfl, ?_⟩
    have e : (if s2 < 0 then -s2 else s2) = (s2.natAbs : Int) := by split <;> omega
    exact ⟨by rw [e]; rfl, rfl⟩
  rintro σ' H' ⟨rfl, rfl⟩
  have sz : 0 < (s2.natAbs : Int) := by omega
  refine ⟨_, rfl, a1, dx1, _, rfl, h1, a1, dx1, _, _, rfl, h1, pfs_stride _ _ _ _, _, rfl, _, _, rfl, rfl, sz, _, rfl, _, _, rfl, em0 _ sz, em1 _ sz, by omega, fun d f t H1 D ht sm1 => ?_⟩
  refine ⟨t, _, rfl, SqT.of ht, rfl, _, _, rfl, _, _, rfl, rfl, ?_⟩
  have h1' := sm1 _ _ h1
  have h2' := sm1 _ _ h2
  refine ⟨_, rfl, a2, dx2, _, rfl, h2', a2, dx2, _, _, rfl, h2', pfs_post _ _ _ _, _, rfl, a1, dx1, _, rfl, h1', a1, dx1, _, _, rfl, h1', pfs_post _ _ _ _, _, _, rfl, rfl, ?_⟩
  have dp := D.pos
  refine ⟨_, rfl, _, rfl, _, _, rfl, rfl, dp, rfl, _, rfl, ?_⟩
  by_cases hg : (p2 - p1) % d = 0
  · have c : (V.int ((p2 - p1) % d) = V.int 0) := by rw [hg]
    refine iteNS c ?_
    have M := meet_of (gap := p2 - p1) s2n D (Int.dvd_of_emod_eq_zero hg)
    have dle : d ≤ (s2.natAbs : Int) := Int.le_of_dvd sz D.dm
    refine ⟨_, rfl, _, rfl, _, _, rfl, rfl, wide_div (b := 120) dp (by omega) (by decide) (by decide), ?_⟩
    have stp := M.st.1
    have stl : (s2.natAbs : Int) / d ≤ s2.natAbs := Int.ediv_le_self d (by omega)
    have gq : ((p2 - p1) / d).natAbs < 2 ^ 200 := by
      have : ((p2 - p1) / d).natAbs ≤ (p2 - p1).natAbs := Int.natAbs_ediv_le_natAbs (p2 - p1) d
      omega
    have f0 := D.f0
    have f1 := D.f1
    refine ⟨fun σ' H' => ∃ st res : Int, σ' = [some (.ref a1), some (.ref a2), some (.int (s2.natAbs : Int)), some (.int d), some (.int f), some (.int (p2 - p1)), some (.int st), some (.int res), none, none] ∧ Meet s1 s2 (p2 - p1) d st res ∧ st ≤ s2.natAbs ∧ H' = H1, ?_, ?_⟩
    · refine ⟨_, rfl, _, rfl, _, _, rfl, rfl, wide_div (b := 120) dp (by omega) (by decide) (by decide), _, rfl, _, _, rfl, rfl, wide_mul (a := 200) (b := 120) gq (by omega) (by decide) (by decide) (by decide), _, rfl, _, _, rfl, rfl, stp, ?_⟩
      exact ⟨_, _, rfl, M, stl, rfl⟩
    rintro σ' H' ⟨st, res, rfl, M, stl, rfl⟩
    have stp := M.st.1
    refine ⟨_, rfl, a1, dx1, _, rfl, h1', a1, dx1, _, _, rfl, h1', pfs_stride _ _ _ _, _, _, rfl, rfl, _, rfl, a2, dx2, _, rfl, h2', a2, dx2, _, _, rfl, h2', pfs_stride _ _ _ _, _, _, rfl, rfl, rfl, _, rfl, ?_⟩
    have dvx : CDivX (p2 - p1) s1 := ⟨s1n, Nat.lt_of_lt_of_le (PySem.Flt.log2_lt_of (by decide) (show s1.natAbs < 2 ^ 120 by omega)) (by decide)⟩
    have dvy : CDivX (-(p2 - p1)) s1 := dvx
    refine ite2 (fun c => ?_) (fun c => ?_)
    · have hs : 0 < s1 ↔ 0 < s2 := by
        have e := V.bl.inj (of_decide_eq_true c)
        by_cases a : 0 < s1
        · rw [decide_eq_true a] at e
          exact ⟨fun _ => of_decide_eq_true e.symm, fun _ => a⟩
        · rw [decide_eq_false a] at e
          exact ⟨fun z => absurd z a, fun z => by rw [decide_eq_true z] at e; cases e⟩
      refine ⟨_, rfl, _, rfl, _, rfl, a1, dx1, _, rfl, h1', a1, dx1, _, _, rfl, h1', pfs_stride _ _ _ _, _, _, rfl, rfl, dvy, _, rfl, _, _, rfl, ?_⟩
      refine ⟨_, rfl, _, rfl, _, rfl, _, _, rfl, rfl, _, rfl, _, _, rfl, rfl, stp, _, _, rfl, rfl, _, rfl, (by show 3 ≤ sizeLine; decide), fun t ht => ?_⟩
      exact q _ _ _ (comm_same s1n s2n hs M) ⟨t, rfl, upd_same⟩ (sm1.trans (same_new ht _))
    · have hs : ¬ (0 < s1 ↔ 0 < s2) := by
        intro z
        have z2 : decide (0 < s1) = decide (0 < s2) := by
          by_cases a : 0 < s1
          · rw [decide_eq_true a, decide_eq_true (z.mp a)]
          · rw [decide_eq_false a, decide_eq_false fun y => a (z.mpr y)]
        exact c (decide_eq_true (congrArg V.bl z2))
      refine ⟨_, rfl, _, rfl, a1, dx1, _, rfl, h1', a1, dx1, _, _, rfl, h1', pfs_stride _ _ _ _, _, _, rfl, rfl, dvx, ?_⟩
      refine ⟨_, rfl, _, rfl, _, _, rfl, rfl, _, rfl, ?_⟩
      refine ite2 (fun c => ?_) (fun c => ?_)
      · have c := of_decide_eq_true c
        exact q _ _ _ (comm_no s1n s2n hs M c) rfl sm1
      · have c : ¬ (p2 - p1).fdiv s1 < res := of_decide_eq_false (Bool.eq_false_iff.mpr c)
        refine ⟨_, rfl, _, rfl, _, rfl, _, rfl, _, _, rfl, rfl, _, rfl, _, _, rfl, rfl, stp, _, _, rfl, rfl, _, rfl, (by show 3 ≤ sizeLine; decide), fun t ht => ?_⟩
        exact q _ _ _ (comm_opp s1n s2n hs M (by omega)) ⟨t, rfl, upd_same⟩ (sm1.trans (same_new ht _))
  · have c : (!decide (V.int ((p2 - p1) % d) = V.int 0)) = true := by
      rw [decide_eq_false fun e => hg (V.int.inj e)]
      rfl
    show (if (!decide (V.int ((p2 - p1) % d) = V.int 0)) = true then _ else _)
    rw [if_pos c]
    obtain ⟨y1, y2⟩ := df_both D
    exact q _ _ _ (comm_gap y1 y2 fun z => hg (Int.emod_eq_zero_of_dvd z)) rfl sm1
end
end Ur
/-! KP: common posts. -/
namespace Ur
open PySem PySem.Spec PyProof.Rows L2
/-- the posts as the program hands them back -/
def cpT (p1 s1 : Int) : Option (Int × Option Int × Int) → Option (Int × Option Int × Int)
  | none => none
  | some (a, l, s) => some (p1 + a * s1, l.map (fun x => p1 + x * s1), s * (s1.natAbs : Int))
def optD : Option Int → PyData
  | none => .none
  | some i => .int i
def cnD : Option (Int × Option Int × Int) → PyData
  | none => .none
  | some (a, l, s) => .tuple [.int a, optD l, .int s]
theorem optDp {K : PySem.W.Frag} {H : Hp} : ∀ o : Option Int, Dp K H (optV o) (optD o)
  | none => .non
  | some i => .int i
theorem CNval.dp {K : PySem.W.Frag} {H : Hp} {v : V} : ∀ {r : Option (Int × Option Int × Int)}, CNval H v r → Dp K H v (cnD r)
  | none, h => by
    have h : v = .non := h
    subst h
    exact .non
  | some (a, l, s), h => by
    obtain ⟨t, rfl, ht⟩ := h
    exact .tup (SqT.of ht) (.cons (.int _) (.cons (optDp l) (.cons (.int _) .nil)))
theorem CNval.same {H H' : Hp} {v : V} (k : Same H H') : ∀ {r : Option (Int × Option Int × Int)}, CNval H v r → CNval H' v r
  | none, h => h
  | some (a, l, s), h => let ⟨t, e, ht⟩ := h; ⟨t, e, k _ _ ht⟩
theorem Comm.first_le {p1 s1 p2 s2 a s : Int} {l : Option Int} (C : Comm p1 s1 p2 s2 (some (a, l, s))) : 0 ≤ a ∧ a ≤ (p2 - p1).natAbs + s ∧ Steps s1 s2 s ∧ ∀ x, l = some x → 0 ≤ x ∧ x ≤ (p2 - p1).natAbs := by
  cases C with
  | inf h1 h2 h3 h4 h5 => exact ⟨h3, h4, h2, fun x e => by cases e⟩
  | fin h1 h2 h3 h4 h5 h6 h7 => exact ⟨h3, by have := h2.1; omega, h2, fun x e => by cases e; omega⟩
theorem step_le {s1 s2 s : Int} (h : s2 ≠ 0) (S : Steps s1 s2 s) : s ≤ s2.natAbs := by
  have z := (S.2 (s2.natAbs : Int)).mp (Int.dvd_trans (Int.dvd_natAbs.mpr (Int.dvd_refl s2)) ⟨s1, rfl⟩)
  exact Int.le_of_dvd (by omega) z
end Ur
/-! UrL: lists of numbers that pass a test. -/
namespace Ur
theorem range_snoc (n : Nat) : List.range (n + 1) = List.range n ++ [n] := List.range_succ
theorem filt_none {f : Nat → Bool} : ∀ n, (∀ k, k < n → f k = false) → (List.range n).filter f = []
  | 0, _ => rfl
  | n + 1, h => by
    rw [range_snoc, List.filter_append, filt_none n fun k hk => h k (by omega), List.filter_cons, h n (by omega)]
    rfl
theorem filt_head {f : Nat → Bool} {a : Nat} (fa : f a = true) (lt : ∀ k, k < a → f k = false) : ∀ n, a < n → ∃ tl, (List.range n).filter f = a :: tl
  | 0, h => absurd h (Nat.not_lt_zero a)
  | n + 1, h => by
    rw [range_snoc, List.filter_append]
    by_cases c : a < n
    · obtain ⟨tl, e⟩ := filt_head fa lt n c
      rw [e]
      exact ⟨_, rfl⟩
    · have : n = a := by omega
      subst this
      rw [filt_none n lt, List.filter_cons, if_pos fa]
      exact ⟨[], rfl⟩
theorem filt_last {f : Nat → Bool} {b : Nat} (fb : f b = true) (gt : ∀ k, b < k → f k = false) : ∀ n, b < n → ∃ init, (List.range n).filter f = init ++ [b]
  | 0, h => absurd h (Nat.not_lt_zero b)
  | n + 1, h => by
    rw [range_snoc, List.filter_append]
    by_cases c : b < n
    · obtain ⟨i, e⟩ := filt_last fb gt n c
      rw [e, List.filter_cons, if_neg (by rw [gt n c]; decide)]
      exact ⟨i, by rw [List.filter_nil, List.append_nil]⟩
    · have : n = b := by omega
      subst this
      rw [List.filter_cons, if_pos fb]
      exact ⟨_, rfl⟩
/-- the numbers of r -/
def inR : Option (Int × Option Int × Int) → Nat → Bool
  | none, _ => false
  | some (a, none, s), k => decide (a ≤ (k : Int) ∧ s ∣ (k : Int) - a)
  | some (a, some l, s), k => decide (a ≤ (k : Int) ∧ (k : Int) ≤ l ∧ s ∣ (k : Int) - a)
theorem Comm.on_inR {p1 s1 p2 s2 : Int} {r : Option (Int × Option Int × Int)} (C : Comm p1 s1 p2 s2 r) (k : Nat) : On p2 s2 (p1 + (k : Int) * s1) ↔ inR r k = true := by
  cases C with
  | no h => exact ⟨fun z => absurd z (h k (by omega)), fun z => by cases z⟩
  | inf h1 h2 h3 h4 h5 => exact (h5 k (by omega)).trans ⟨fun z => decide_eq_true z, fun z => of_decide_eq_true z⟩
  | fin h1 h2 h3 h4 h5 h6 h7 => exact (h7 k (by omega)).trans ⟨fun z => decide_eq_true z, fun z => of_decide_eq_true z⟩
theorem Comm.head {p1 s1 p2 s2 a s : Int} {l : Option Int} (C : Comm p1 s1 p2 s2 (some (a, l, s))) {n : Nat} (hn : a < n) : ∃ tl, (List.range n).filter (inR (some (a, l, s))) = a.toNat :: tl := by
  cases C with
  | inf h1 h2 h3 h4 h5 =>
    refine filt_head (decide_eq_true ⟨by omega, ⟨0, by omega⟩⟩) (fun k hk => decide_eq_false fun z => ?_) n (by omega)
    have := z.1
    omega
  | fin h1 h2 h3 h4 h5 h6 h7 =>
    refine filt_head (decide_eq_true ⟨by omega, by omega, ⟨0, by omega⟩⟩) (fun k hk => decide_eq_false fun z => ?_) n (by omega)
    have := z.1
    omega
theorem Comm.last {p1 s1 p2 s2 a s l : Int} (C : Comm p1 s1 p2 s2 (some (a, some l, s))) {n : Nat} (hn : l < n) : ∃ i, (List.range n).filter (inR (some (a, some l, s))) = i ++ [l.toNat] := by
  cases C with
  | fin h1 h2 h3 h4 h5 h6 h7 =>
    have e : ((l.toNat : Nat) : Int) = l := by omega
    refine filt_last (decide_eq_true ⟨by omega, by omega, by rw [e]; exact h6⟩) (fun k hk => decide_eq_false fun z => ?_) n (by omega)
    have := z.2.1
    omega
theorem Comm.sign {p1 s1 p2 s2 a s : Int} {l : Option Int} (C : Comm p1 s1 p2 s2 (some (a, l, s))) (h1 : s1 ≠ 0) (h2 : s2 ≠ 0) : (l = none ↔ 0 < s1 * s2) := by
  have pos : (0 < s1 ↔ 0 < s2) ↔ 0 < s1 * s2 := by
    by_cases a : 0 < s1 <;> by_cases b : 0 < s2
    · exact ⟨fun _ => Int.mul_pos a b, fun _ => ⟨fun _ => b, fun _ => a⟩⟩
    · have : s1 * s2 < 0 := Int.mul_neg_of_pos_of_neg a (by omega)
      exact ⟨fun z => by omega, fun z => by omega⟩
    · have : s1 * s2 < 0 := Int.mul_neg_of_neg_of_pos (by omega) b
      exact ⟨fun z => by omega, fun z => by omega⟩
    · have : 0 < s1 * s2 := Int.mul_pos_of_neg_of_neg (by omega) (by omega)
      exact ⟨fun _ => this, fun _ => ⟨fun z => by omega, fun z => by omega⟩⟩
  cases C with
  | inf h => exact ⟨fun _ => pos.mp h, fun _ => rfl⟩
  | fin h => exact ⟨fun z => (nomatch z), fun z => absurd (pos.mpr z) h⟩
/-- the least common multiple by going: c strides of the first are one of the second -/
theorem steps_dvd {a b step c : Int} (S : Steps a b step) : (b.natAbs : Int) ∣ c * (a.natAbs : Int) ↔ step ∣ c := by
  rw [← S.2 c, Int.natAbs_dvd]
  by_cases h : 0 ≤ a
  · have e : (a.natAbs : Int) = a := by omega
    rw [e]
  · have e : (a.natAbs : Int) = -a := by omega
    rw [e, Int.mul_neg, Int.dvd_neg]
end Ur
/-! UrN: common numbers by remainders. -/
namespace Ur
/-- the numbers of common posts, without a word of their size -/
inductive CommW (p1 s1 p2 s2 : Int) : Option (Int × Option Int × Int) → Prop where
  | no : (∀ k : Int, 0 ≤ k → ¬ On p2 s2 (p1 + k * s1)) → CommW p1 s1 p2 s2 none
  | inf {first step : Int} : (0 < s1 ↔ 0 < s2) → Steps s1 s2 step → 0 ≤ first → (∀ k : Int, 0 ≤ k → (On p2 s2 (p1 + k * s1) ↔ first ≤ k ∧ step ∣ k - first)) → CommW p1 s1 p2 s2 (some (first, none, step))
  | fin {first last step : Int} : ¬ (0 < s1 ↔ 0 < s2) → Steps s1 s2 step → 0 ≤ first → first ≤ last → step ∣ last - first → (∀ k : Int, 0 ≤ k → (On p2 s2 (p1 + k * s1) ↔ first ≤ k ∧ k ≤ last ∧ step ∣ k - first)) → CommW p1 s1 p2 s2 (some (first, some last, step))
theorem Comm.weak {p1 s1 p2 s2 : Int} {r : Option (Int × Option Int × Int)} (C : Comm p1 s1 p2 s2 r) : CommW p1 s1 p2 s2 r := by
  cases C with
  | no h => exact .no h
  | inf h1 h2 h3 h4 h5 => exact .inf h1 h2 h3 h5
  | fin h1 h2 h3 h4 h5 h6 h7 => exact .fin h1 h2 h3 h4 h6 h7
theorem Steps.uniq {a b s t : Int} (S : Steps a b s) (T : Steps a b t) : s = t := by
  have h1 : s ∣ t := (S.2 t).mp ((T.2 t).mpr (Int.dvd_refl t))
  have h2 : t ∣ s := (T.2 s).mp ((S.2 s).mpr (Int.dvd_refl s))
  have a1 := Int.le_of_dvd T.1 h1
  have a2 := Int.le_of_dvd S.1 h2
  omega
theorem CommW.uniq {p1 s1 p2 s2 : Int} {r r' : Option (Int × Option Int × Int)} (C : CommW p1 s1 p2 s2 r) (D : CommW p1 s1 p2 s2 r') : r = r' := by
  have z0 : ∀ a s : Int, s ∣ a - a := fun a s => ⟨0, by omega⟩
  cases C with
  | no h =>
    cases D with
    | no _ => rfl
    | @inf f st g1 g2 g3 g4 => exact absurd ((g4 f g3).mpr ⟨by omega, z0 f st⟩) (h f g3)
    | @fin f l st g1 g2 g3 g4 g5 g6 => exact absurd ((g6 f g3).mpr ⟨by omega, g4, z0 f st⟩) (h f g3)
  | @inf f st h1 h2 h3 h4 =>
    cases D with
    | no g => exact absurd ((h4 f h3).mpr ⟨by omega, z0 f st⟩) (g f h3)
    | @inf f' st' g1 g2 g3 g4 =>
      obtain rfl := h2.uniq g2
      have a := ((g4 f h3).mp ((h4 f h3).mpr ⟨by omega, z0 f st⟩)).1
      have b := ((h4 f' g3).mp ((g4 f' g3).mpr ⟨by omega, z0 f' st⟩)).1
      obtain rfl : f = f' := by omega
      rfl
    | fin g1 => exact absurd h1 g1
  | @fin f l st h1 h2 h3 h4 h5 h6 =>
    cases D with
    | no g => exact absurd ((h6 f h3).mpr ⟨by omega, h4, z0 f st⟩) (g f h3)
    | inf g1 => exact absurd g1 h1
    | @fin f' l' st' g1 g2 g3 g4 g5 g6 =>
      obtain rfl := h2.uniq g2
      have a := ((g6 f h3).mp ((h6 f h3).mpr ⟨by omega, h4, z0 f st⟩)).1
      have b := ((h6 f' g3).mp ((g6 f' g3).mpr ⟨by omega, g4, z0 f' st⟩)).1
      have c := ((g6 l (by omega)).mp ((h6 l (by omega)).mpr ⟨h4, by omega, h5⟩)).2.1
      have d := ((h6 l' (by omega)).mp ((g6 l' (by omega)).mpr ⟨g4, by omega, g5⟩)).2.1
      obtain rfl : f = f' := by omega
      obtain rfl : l = l' := by omega
      rfl
/-- Meet from a common divisor and an inverse -/
theorem meet_by {s1 s2 gap d st u i : Int} (d0 : 0 < d) (hu : s1 = d * u) (hm : (s2.natAbs : Int) = d * st) (stp : 0 < st) (hi : st ∣ u * i - 1) (hg : d ∣ gap) : Meet s1 s2 gap d st ((gap / d * i) % st) := by
  obtain ⟨gq, hgq⟩ := hg
  have egq : gap / d = gq := by rw [hgq]; exact Int.mul_ediv_cancel_left _ (by omega)
  rw [egq]
  obtain ⟨c, hc⟩ := hi
  have key : ∀ x : Int, d * st ∣ d * x ↔ st ∣ x := fun x => ⟨fun h => Int.dvd_of_mul_dvd_mul_left (by omega) h, fun h => Int.mul_dvd_mul_left d h⟩
  have m2 : ∀ x : Int, s2 ∣ x ↔ d * st ∣ x := fun x => by rw [← hm]; exact Int.natAbs_dvd.symm
  refine ⟨d0, ⟨u, hu⟩, ?_, ⟨gq, hgq⟩, ⟨stp, fun k => ?_⟩, by rw [hm]; exact Int.mul_comm _ _, fun k => ?_, Int.emod_nonneg _ (by omega), Int.emod_lt_of_pos _ stp⟩
  · have : d ∣ (s2.natAbs : Int) := ⟨st, hm⟩
    exact Int.dvd_natAbs.mp this
  · rw [m2, hu, show k * (d * u) = d * (k * u) by grind, key]
    constructor
    · intro ⟨x, hx⟩
      exact ⟨x * i - k * c, by grind⟩
    · intro ⟨x, hx⟩
      exact ⟨x * u, by grind⟩
  · rw [m2, hu, hgq, show k * (d * u) - d * gq = d * (k * u - gq) by grind, key]
    have er : gq * i = st * (gq * i / st) + gq * i % st := (Int.mul_ediv_add_emod _ _).symm
    generalize gq * i / st = w at er
    generalize gq * i % st = res at er
    constructor
    · intro ⟨x, hx⟩
      exact ⟨x * i - k * c + w, by grind⟩
    · intro ⟨x, hx⟩
      exact ⟨x * u + gq * c - w * u, by grind⟩
section
variable {p1 s1 p2 s2 d st k j sp : Int}
theorem on_x (h2 : s2 ≠ 0) (hj : j * s2 = k * s1 - (p2 - p1)) (hs : sp * s2 = s1 * st) (x : Int) : On p2 s2 (p1 + (k + x * st) * s1) ↔ 0 ≤ j + x * sp := by
  have e : p1 + (k + x * st) * s1 = p2 + (j + x * sp) * s2 := by grind
  rw [e]
  constructor
  · rintro ⟨y, y0, h⟩
    have : (j + x * sp) * s2 = y * s2 := by omega
    have := Int.eq_of_mul_eq_mul_right h2 this
    omega
  · exact fun h => ⟨_, h, rfl⟩
theorem on_dvd (h2 : s2 ≠ 0) (M : Meet s1 s2 (p2 - p1) d st k) {n : Int} (h : On p2 s2 (p1 + n * s1)) : st ∣ n - k := (M.at_ n).mp ((on_iff h2).mp h).1
theorem sp_sign (h1 : s1 ≠ 0) (h2 : s2 ≠ 0) (stp : 0 < st) (hs : sp * s2 = s1 * st) : (0 < sp ↔ (0 < s1 ↔ 0 < s2)) ∧ sp ≠ 0 := by
  by_cases a : 0 < s1
  · have z : 0 < s1 * st := Int.mul_pos a stp
    by_cases b : 0 < s2
    · have : 0 < sp := by
        by_cases c : 0 < sp
        · exact c
        · have := Int.mul_nonpos_of_nonpos_of_nonneg (show sp ≤ 0 by omega) (show 0 ≤ s2 by omega)
          omega
      exact ⟨⟨fun _ => ⟨fun _ => b, fun _ => a⟩, fun _ => this⟩, by omega⟩
    · have : sp < 0 := by
        by_cases c : sp < 0
        · exact c
        · have := Int.mul_nonpos_of_nonneg_of_nonpos (show 0 ≤ sp by omega) (show s2 ≤ 0 by omega)
          omega
      exact ⟨⟨fun y => by omega, fun y => absurd (y.mp a) b⟩, by omega⟩
  · have z : s1 * st < 0 := Int.mul_neg_of_neg_of_pos (by omega) stp
    by_cases b : 0 < s2
    · have : sp < 0 := by
        by_cases c : sp < 0
        · exact c
        · have := Int.mul_nonneg (show 0 ≤ sp by omega) (show 0 ≤ s2 by omega)
          omega
      exact ⟨⟨fun y => by omega, fun y => absurd (y.mpr b) a⟩, by omega⟩
    · have : 0 < sp := by
        by_cases c : 0 < sp
        · exact c
        · have := Int.mul_nonneg_of_nonpos_of_nonpos (show sp ≤ 0 by omega) (show s2 ≤ 0 by omega)
          omega
      exact ⟨⟨fun _ => ⟨fun y => absurd y a, fun y => absurd y b⟩, fun _ => this⟩, by omega⟩
theorem ge_x (stp : 0 < st) (k0 : 0 ≤ k) (k1 : k < st) (x : Int) : 0 ≤ k + x * st ↔ 0 ≤ x := by
  constructor
  · intro h
    by_cases c : 0 ≤ x
    · exact c
    · have := Int.mul_le_mul_of_nonneg_right (show x ≤ -1 by omega) (show 0 ≤ st by omega)
      omega
  · intro h
    have := Int.mul_nonneg h (show 0 ≤ st by omega)
    omega
theorem mul_le_iff (stp : 0 < st) (x y : Int) : x * st ≤ y * st ↔ x ≤ y := ⟨fun h => Int.le_of_mul_le_mul_right h stp, fun h => Int.mul_le_mul_of_nonneg_right h (by omega)⟩
theorem due_inf (h1 : s1 ≠ 0) (h2 : s2 ≠ 0) (M : Meet s1 s2 (p2 - p1) d st k) (hj : j * s2 = k * s1 - (p2 - p1)) (hs : sp * s2 = s1 * st) (pos : 0 < sp) :
    CommW p1 s1 p2 s2 (some (k + (if 0 - j.fdiv sp > 0 then 0 - j.fdiv sp else 0) * st, none, st)) := by
  have stp := M.st.1
  have low0 : 0 ≤ (if 0 - j.fdiv sp > 0 then 0 - j.fdiv sp else 0) := by split <;> omega
  have lowx : ∀ x : Int, 0 ≤ x → (0 ≤ j + x * sp ↔ (if 0 - j.fdiv sp > 0 then 0 - j.fdiv sp else 0) ≤ x) := fun x x0 => by
    have z : 0 ≤ j + x * sp ↔ 0 - j.fdiv sp ≤ x := by
      rw [Int.fdiv_eq_ediv_of_nonneg j (by omega)]
      have z := Int.le_ediv_iff_mul_le (a := -x) (b := j) pos
      rw [Int.neg_mul] at z
      omega
    rw [z]
    split <;> omega
  generalize (if 0 - j.fdiv sp > 0 then 0 - j.fdiv sp else 0) = low at low0 lowx ⊢
  refine .inf ((sp_sign h1 h2 stp hs).1.mp pos) M.st ?_ fun n hn => ?_
  · have := (ge_x stp M.r0 M.r1 low).mpr low0
    omega
  constructor
  · intro h
    obtain ⟨x, hx⟩ := on_dvd h2 M h
    obtain rfl : n = k + x * st := by rw [Int.mul_comm] at hx; omega
    have x0 := (ge_x stp M.r0 M.r1 x).mp hn
    have := (lowx x x0).mp ((on_x h2 hj hs x).mp h)
    refine ⟨?_, x - low, by grind⟩
    have := (mul_le_iff stp low x).mpr this
    omega
  · rintro ⟨h, x, hx⟩
    obtain rfl : n = k + (low + x) * st := by grind
    rw [on_x h2 hj hs]
    have x0 := (ge_x stp M.r0 M.r1 _).mp hn
    refine (lowx _ x0).mpr ?_
    exact (mul_le_iff stp _ _).mp (by omega)
theorem due_no (h1 : s1 ≠ 0) (h2 : s2 ≠ 0) (M : Meet s1 s2 (p2 - p1) d st k) (hj : j * s2 = k * s1 - (p2 - p1)) (hs : sp * s2 = s1 * st) (neg : sp < 0) (j0 : j < 0) : CommW p1 s1 p2 s2 none := by
  have stp := M.st.1
  refine .no fun n hn h => ?_
  obtain ⟨x, hx⟩ := on_dvd h2 M h
  obtain rfl : n = k + x * st := by rw [Int.mul_comm] at hx; omega
  have x0 := (ge_x stp M.r0 M.r1 x).mp hn
  have := (on_x h2 hj hs x).mp h
  have := Int.mul_nonpos_of_nonneg_of_nonpos x0 (show sp ≤ 0 by omega)
  omega
theorem due_fin (h1 : s1 ≠ 0) (h2 : s2 ≠ 0) (M : Meet s1 s2 (p2 - p1) d st k) (hj : j * s2 = k * s1 - (p2 - p1)) (hs : sp * s2 = s1 * st) (neg : sp < 0) (j0 : 0 ≤ j) :
    CommW p1 s1 p2 s2 (some (k + 0 * st, some (k + j.fdiv (0 - sp) * st), st)) := by
  have stp := M.st.1
  have hx : ∀ x : Int, 0 ≤ j + x * sp ↔ x ≤ j.fdiv (0 - sp) := fun x => by
    rw [Int.fdiv_eq_ediv_of_nonneg j (by omega), Int.le_ediv_iff_mul_le (by omega), Int.mul_sub]
    omega
  have q0 : 0 ≤ j.fdiv (0 - sp) := by rw [← hx]; omega
  generalize j.fdiv (0 - sp) = q at hx q0 ⊢
  have k0 := M.r0
  have qs := Int.mul_nonneg q0 (show 0 ≤ st by omega)
  refine .fin (fun z => by have := (sp_sign h1 h2 stp hs).1.mpr z; omega) M.st (by omega) (by omega) ⟨q, by grind⟩ fun n hn => ?_
  constructor
  · intro h
    obtain ⟨x, hx'⟩ := on_dvd h2 M h
    obtain rfl : n = k + x * st := by rw [Int.mul_comm] at hx'; omega
    have x0 := (ge_x stp M.r0 M.r1 x).mp hn
    have y := (hx x).mp ((on_x h2 hj hs x).mp h)
    have := (mul_le_iff stp x q).mpr y
    have := (mul_le_iff stp 0 x).mpr x0
    exact ⟨by omega, by omega, x, by grind⟩
  · rintro ⟨h, h', x, hx'⟩
    obtain rfl : n = k + x * st := by grind
    rw [on_x h2 hj hs, hx]
    exact (mul_le_iff stp _ _).mp (by omega)
end
/-- a planted post -/
theorem Comm.planted {p1 s1 p2 s2 n : Int} {r : Option (Int × Option Int × Int)} (C : Comm p1 s1 p2 s2 r) (n0 : 0 ≤ n) (h : On p2 s2 (p1 + n * s1)) : ∃ a l st, r = some (a, l, st) ∧ a ≤ n ∧ st ∣ n - a := by
  cases C with
  | no g => exact absurd h (g n n0)
  | inf h1 h2 h3 h4 h5 => exact ⟨_, _, _, rfl, (h5 n n0).mp h⟩
  | fin h1 h2 h3 h4 h5 h6 h7 => exact ⟨_, _, _, rfl, ((h7 n n0).mp h).1, ((h7 n n0).mp h).2.2⟩
/-- dividing by the greatest common divisor -/
theorem gcd_parts {s1 s2 : Int} (h : s2 ≠ 0) : ∃ u st, s1 = (Int.gcd s1 s2 : Int) * u ∧ (s2.natAbs : Int) = (Int.gcd s1 s2 : Int) * st ∧ 0 < st ∧ 0 < (Int.gcd s1 s2 : Int) ∧ Int.gcd u st = 1 ∧ (Int.gcd s1 s2 : Int) ≤ s2.natAbs := by
  have g0 : 0 < Int.gcd s1 s2 := Int.gcd_pos_of_ne_zero_right s1 h
  obtain ⟨u, hu⟩ := Int.gcd_dvd_left s1 s2
  have dz : (Int.gcd s1 s2 : Int) ∣ (s2.natAbs : Int) := Int.dvd_natAbs.mpr (Int.gcd_dvd_right s1 s2)
  obtain ⟨st, hst⟩ := dz
  have g1 : (Int.gcd s1 s2 : Int) ≤ s2.natAbs := Int.le_of_dvd (by omega) ⟨st, hst⟩
  have stp : 0 < st := by
    by_cases c : 0 < st
    · exact c
    · have := Int.mul_nonpos_of_nonneg_of_nonpos (show 0 ≤ (Int.gcd s1 s2 : Int) by omega) (show st ≤ 0 by omega)
      omega
  refine ⟨u, st, hu, hst, stp, by omega, ?_, g1⟩
  have e : Int.gcd s1 s2 = Int.gcd s1 s2 * Int.gcd u st := by
    have z : Int.gcd ((Int.gcd s1 s2 : Int) * u) ((Int.gcd s1 s2 : Int) * st) = Int.gcd s1 s2 * Int.gcd u st := by rw [Int.gcd_mul_left]; rfl
    rw [← hu, ← hst] at z
    rw [← z]
    simp [Int.gcd]
  exact Nat.eq_of_mul_eq_mul_left g0 (by rw [Nat.mul_one]; exact e.symm)
end Ur
/-! UrF: the mathematics of first blocks. -/
namespace Ur
/-- at the n-th post of the one, the other one, with this count, was before -/
def Blk (p1 d1 s1 p2 d2 s2 : Int) (cnt : Option Int) (fl : Bool) (n : Int) : Prop := ∃ j : Int, 0 ≤ j ∧ p1 + n * s1 = p2 + j * s2 ∧ (∀ c, cnt = some c → j < c) ∧ (d2 + j < d1 + n ∨ fl = true ∧ d2 + j = d1 + n)
/-- the least number from 0 on, if there is one -/
def Least (P : Int → Prop) : Option Int → Prop
  | none => ∀ n, 0 ≤ n → ¬ P n
  | some n => 0 ≤ n ∧ P n ∧ ∀ m, 0 ≤ m → m < n → ¬ P m
theorem Least.uniq {P : Int → Prop} : ∀ {a b : Option Int}, Least P a → Least P b → a = b
  | none, none, _, _ => rfl
  | none, some b, h, g => absurd g.2.1 (h b g.1)
  | some a, none, h, g => absurd h.2.1 (g a h.1)
  | some a, some b, h, g => by
    have x : ¬ a < b := fun z => g.2.2 a h.1 z h.2.1
    have y : ¬ b < a := fun z => h.2.2 b g.1 z g.2.1
    obtain rfl : a = b := by omega
    rfl
theorem Least.congr {P Q : Int → Prop} (h : ∀ n, 0 ≤ n → (P n ↔ Q n)) : ∀ {r : Option Int}, Least P r → Least Q r
  | none, l => fun n n0 q => l n n0 ((h n n0).mpr q)
  | some a, l => ⟨l.1, (h a l.1).mp l.2.1, fun m m0 ml q => l.2.2 m m0 ml ((h m m0).mpr q)⟩
/-- no line is below nought at x -/
def Up (ls : List (Int × Int)) (x : Int) : Prop := ∀ z ∈ ls, 0 ≤ z.1 + x * z.2
/-- the index when the lines ws were looked at -/
structure Idx (M : Int) (ws : List (Int × Int)) (x : Int) : Prop where
  x0 : 0 ≤ x
  xM : x ≤ M
  ok : ∀ z ∈ ws, 0 < z.2 → 0 ≤ z.1 + x * z.2
  lt : ∀ y, 0 ≤ y → y < x → ∃ z ∈ ws, z.1 + y * z.2 < 0
theorem Idx.start {M : Int} (h : 0 ≤ M) : Idx M [] 0 := ⟨Int.le_refl 0, h, fun z hz => absurd hz List.not_mem_nil, fun y h1 h2 => by omega⟩
theorem ceil_iff {a b : Int} (hb : 0 < b) (x : Int) : -(a / b) ≤ x ↔ 0 ≤ a + x * b := by
  have z := Int.le_ediv_iff_mul_le (a := -x) (b := a) hb
  rw [Int.neg_mul] at z
  omega
theorem Idx.up {M a b x : Int} {ws : List (Int × Int)} (I : Idx M ws x) (hb : 0 < b) (hM : -M ≤ a ∧ a ≤ M) : Idx M (ws ++ [(a, b)]) (if -(a / b) > x then -(a / b) else x) := by
  have c := fun y => ceil_iff (a := a) hb y
  have up : ∀ x' : Int, x ≤ x' → ∀ z ∈ ws, 0 < z.2 → 0 ≤ z.1 + x' * z.2 := fun x' h z hz hp => by
    have := I.ok z hz hp
    have := Int.mul_le_mul_of_nonneg_right h (show 0 ≤ z.2 by omega)
    omega
  have q1 : -(a / b) ≤ M := by
    rw [c]
    have := Int.mul_le_mul_of_nonneg_left (show 1 ≤ b by omega) (show 0 ≤ M by have := I.x0; have := I.xM; omega)
    omega
  have x0 := I.x0
  have xM := I.xM
  split
  · rename_i h
    refine ⟨by omega, q1, fun z hz hp => ?_, fun y y0 yl => ?_⟩
    · rcases List.mem_append.mp hz with hz | hz
      · exact up _ (by omega) z hz hp
      · obtain rfl := List.mem_singleton.mp hz
        exact (c _).mp (Int.le_refl _)
    · refine ⟨(a, b), List.mem_append_right _ (List.mem_singleton.mpr rfl), ?_⟩
      have := mt (c y).mpr (by omega)
      show a + y * b < 0
      omega
  · rename_i h
    refine ⟨x0, xM, fun z hz hp => ?_, fun y y0 yl => ?_⟩
    · rcases List.mem_append.mp hz with hz | hz
      · exact I.ok z hz hp
      · obtain rfl := List.mem_singleton.mp hz
        exact (c x).mp (by omega)
    · obtain ⟨z, hz, h⟩ := I.lt y y0 yl
      exact ⟨z, List.mem_append_left _ hz, h⟩
theorem Idx.flat {M a b x : Int} {ws : List (Int × Int)} (I : Idx M ws x) (hb : ¬ 0 < b) : Idx M (ws ++ [(a, b)]) x := by
  refine ⟨I.x0, I.xM, fun z hz hp => ?_, fun y y0 yl => ?_⟩
  · rcases List.mem_append.mp hz with hz | hz
    · exact I.ok z hz hp
    · obtain rfl := List.mem_singleton.mp hz
      exact absurd hp hb
  · obtain ⟨z, hz, h⟩ := I.lt y y0 yl
    exact ⟨z, List.mem_append_left _ hz, h⟩
theorem Idx.bad {M x : Int} {ws : List (Int × Int)} (I : Idx M ws x) (h : ∃ z ∈ ws, z.1 + x * z.2 < 0) : Least (Up ws) none := by
  intro y y0 u
  by_cases c : y < x
  · obtain ⟨z, hz, g⟩ := I.lt y y0 c
    have := u z hz
    omega
  · obtain ⟨z, hz, g⟩ := h
    have v := u z hz
    have nb : ¬ 0 < z.2 := fun p => by have := I.ok z hz p; omega
    have := Int.mul_le_mul_of_nonpos_right (show x ≤ y by omega) (show z.2 ≤ 0 by omega)
    omega
theorem Idx.good {M x : Int} {ws : List (Int × Int)} (I : Idx M ws x) (h : ¬ ∃ z ∈ ws, z.1 + x * z.2 < 0) : Least (Up ws) (some x) := by
  refine ⟨I.x0, fun z hz => ?_, fun y y0 yl u => ?_⟩
  · by_cases c : 0 ≤ z.1 + x * z.2
    · exact c
    · exact absurd ⟨z, hz, by omega⟩ h
  · obtain ⟨z, hz, g⟩ := I.lt y y0 yl
    have := u z hz
    omega
/-! ### the lines of two painters -/
def fbLines (d1 d2 f st j0 o : Int) (l cnt : Option Int) (fl : Bool) : List (Int × Int) :=
  [((if fl = true then d1 + f - d2 - j0 else d1 + f - d2 - j0 - 1), st - o)] ++ cnt.toList.map (fun c => (c - 1 - j0, -o)) ++ l.toList.map (fun m => (m - f, -st))
theorem Comm.iff {p1 s1 p2 s2 f st : Int} {l : Option Int} (C : Comm p1 s1 p2 s2 (some (f, l, st))) (n : Int) (n0 : 0 ≤ n) : On p2 s2 (p1 + n * s1) ↔ f ≤ n ∧ (∀ m, l = some m → n ≤ m) ∧ st ∣ n - f := by
  cases C with
  | inf h1 h2 h3 h4 h5 => rw [h5 n n0]; exact ⟨fun z => ⟨z.1, fun m e => (by cases e), z.2⟩, fun z => ⟨z.1, z.2.2⟩⟩
  | fin h1 h2 h3 h4 h5 h6 h7 => rw [h7 n n0]; exact ⟨fun z => ⟨z.1, fun m e => by cases e; exact z.2.1, z.2.2⟩, fun z => ⟨z.1, z.2.1 _ rfl, z.2.2⟩⟩
theorem Comm.pos {p1 s1 p2 s2 f st : Int} {l : Option Int} (C : Comm p1 s1 p2 s2 (some (f, l, st))) : 0 ≤ f ∧ 0 < st ∧ (∀ m, l = some m → f ≤ m) ∧ Steps s1 s2 st := by
  cases C with
  | inf h1 h2 h3 h4 h5 => exact ⟨h3, h2.1, fun m e => (by cases e), h2⟩
  | fin h1 h2 h3 h4 h5 h6 h7 => exact ⟨h3, h2.1, fun m e => (by cases e; exact h4), h2⟩
section
variable {p1 d1 s1 p2 d2 s2 f st j0 o : Int} {l cnt : Option Int} {fl : Bool}
theorem fb_at (h2 : s2 ≠ 0) (C : Comm p1 s1 p2 s2 (some (f, l, st))) (hj : j0 * s2 = p1 + f * s1 - p2) (ho : o * s2 = st * s1) (x : Int) (x0 : 0 ≤ x) :
    Blk p1 d1 s1 p2 d2 s2 cnt fl (f + x * st) ↔ Up (fbLines d1 d2 f st j0 o l cnt fl) x := by
  obtain ⟨f0, stp, fm, S⟩ := C.pos
  have xs := Int.mul_nonneg x0 (show 0 ≤ st by omega)
  have ej : p1 + (f + x * st) * s1 = p2 + (j0 + x * o) * s2 := by grind
  have uj : ∀ j : Int, p1 + (f + x * st) * s1 = p2 + j * s2 → j = j0 + x * o := fun j h => Int.eq_of_mul_eq_mul_right h2 (by rw [ej] at h; omega)
  have e1 : x * (st - o) = x * st - x * o := Int.mul_sub x st o
  have e2 : x * (-o) = -(x * o) := Int.mul_neg x o
  have e3 : x * (-st) = -(x * st) := Int.mul_neg x st
  have iff := C.iff (f + x * st) (by omega)
  have dv : st ∣ f + x * st - f := ⟨x, by rw [Int.mul_comm]; omega⟩
  unfold Up fbLines
  constructor
  · rintro ⟨j, j0', e, hc, hd⟩ z hz
    obtain rfl := uj j e
    have lm := (iff.mp ⟨_, j0', e⟩).2.1
    rw [List.mem_append, List.mem_append] at hz
    rcases hz with (hz | hz) | hz
    · obtain rfl := List.mem_singleton.mp hz
      show 0 ≤ (if fl = true then d1 + f - d2 - j0 else d1 + f - d2 - j0 - 1) + x * (st - o)
      rw [e1]
      split
      · omega
      · rcases hd with hd | ⟨hd, _⟩
        · omega
        · contradiction
    · obtain ⟨c, hc', rfl⟩ := List.mem_map.mp hz
      have := hc c (Option.mem_toList.mp hc')
      show 0 ≤ c - 1 - j0 + x * (-o)
      omega
    · obtain ⟨m, hm, rfl⟩ := List.mem_map.mp hz
      have := lm m (Option.mem_toList.mp hm)
      show 0 ≤ m - f + x * (-st)
      omega
  · intro h
    have h0 := h _ (List.mem_append_left _ (List.mem_append_left _ (List.mem_singleton.mpr rfl)))
    have h0 : 0 ≤ (if fl = true then d1 + f - d2 - j0 else d1 + f - d2 - j0 - 1) + x * (st - o) := h0
    have lm : ∀ m, l = some m → f + x * st ≤ m := fun m e => by
      have := h (m - f, -st) (List.mem_append_right _ (List.mem_map.mpr ⟨m, Option.mem_toList.mpr e, rfl⟩))
      have : 0 ≤ m - f + x * (-st) := this
      omega
    obtain ⟨j, jn, ejj⟩ := iff.mpr ⟨by omega, lm, dv⟩
    obtain rfl := uj j ejj
    refine ⟨_, jn, ej, fun c e => ?_, ?_⟩
    · have := h (c - 1 - j0, -o) (List.mem_append_left _ (List.mem_append_right _ (List.mem_map.mpr ⟨c, Option.mem_toList.mpr e, rfl⟩)))
      have : 0 ≤ c - 1 - j0 + x * (-o) := this
      omega
    · rw [e1] at h0
      by_cases c : fl = true
      · rw [if_pos c] at h0
        by_cases y : d2 + (j0 + x * o) < d1 + (f + x * st)
        · exact .inl y
        · exact .inr ⟨c, by omega⟩
      · rw [if_neg c] at h0
        exact .inl (by omega)
theorem Blk.on {n : Int} (h : Blk p1 d1 s1 p2 d2 s2 cnt fl n) : On p2 s2 (p1 + n * s1) := let ⟨j, a, b, _⟩ := h; ⟨j, a, b⟩
theorem fb_least (h2 : s2 ≠ 0) (C : Comm p1 s1 p2 s2 (some (f, l, st))) (hj : j0 * s2 = p1 + f * s1 - p2) (ho : o * s2 = st * s1) : ∀ {rx : Option Int}, Least (Up (fbLines d1 d2 f st j0 o l cnt fl)) rx →
    Least (Blk p1 d1 s1 p2 d2 s2 cnt fl) (rx.map fun x => f + x * st) := by
  obtain ⟨f0, stp, fm, S⟩ := C.pos
  have at_ : ∀ n, 0 ≤ n → Blk p1 d1 s1 p2 d2 s2 cnt fl n → ∃ x, 0 ≤ x ∧ n = f + x * st ∧ Up (fbLines d1 d2 f st j0 o l cnt fl) x := fun n n0 h => by
    obtain ⟨a, b, x, hx⟩ := (C.iff n n0).mp h.on
    have x0 : 0 ≤ x := by
      by_cases c : 0 ≤ x
      · exact c
      · have := Int.mul_le_mul_of_nonneg_left (show x ≤ -1 by omega) (show 0 ≤ st by omega)
        omega
    obtain rfl : n = f + x * st := by rw [Int.mul_comm] at hx; omega
    exact ⟨x, x0, rfl, (fb_at h2 C hj ho x x0).mp h⟩
  intro rx hx
  cases rx with
  | none => exact fun n n0 h => let ⟨x, x0, _, u⟩ := at_ n n0 h; hx x x0 u
  | some x =>
    obtain ⟨x0, u, lt⟩ := hx
    have := Int.mul_nonneg x0 (show 0 ≤ st by omega)
    refine ⟨show 0 ≤ f + x * st by omega, (fb_at h2 C hj ho x x0).mpr u, fun m m0 ml h => ?_⟩
    obtain ⟨y, y0, rfl, v⟩ := at_ m m0 h
    have ml : f + y * st < f + x * st := ml
    refine lt y y0 ?_ v
    by_cases c : y < x
    · exact c
    · have := Int.mul_le_mul_of_nonneg_right (show x ≤ y by omega) (show 0 ≤ st by omega)
      omega
theorem fb_none (C : Comm p1 s1 p2 s2 none) : Least (Blk p1 d1 s1 p2 d2 s2 cnt fl) none := by
  cases C with
  | no h => exact fun n n0 b => h n n0 b.on
end
end Ur
/-! UrB: first blocks by bounds from below and from above. -/
namespace Ur
/-- (factor, free): no line is below nought at x -/
def UpF (ls : List (Int × Int)) (x : Int) : Prop := ∀ z ∈ ls, 0 ≤ z.2 + x * z.1
theorem UpF.snoc {ws : List (Int × Int)} {a b x : Int} : UpF (ws ++ [(a, b)]) x ↔ UpF ws x ∧ 0 ≤ b + x * a := by
  constructor
  · exact fun h => ⟨fun z hz => h z (List.mem_append_left _ hz), h (a, b) (List.mem_append_right _ (List.mem_singleton.mpr rfl))⟩
  · rintro ⟨h, g⟩ z hz
    rcases List.mem_append.mp hz with hz | hz
    · exact h z hz
    · obtain rfl := List.mem_singleton.mp hz
      exact g
structure LH (M : Int) (ws : List (Int × Int)) (low : Int) (high : Option Int) : Prop where
  l0 : 0 ≤ low
  lM : low ≤ M
  hM : ∀ h, high = some h → -M ≤ h ∧ h ≤ M
  iff : ∀ x, 0 ≤ x → (UpF ws x ↔ low ≤ x ∧ ∀ h, high = some h → x ≤ h)
theorem LH.start {M : Int} (h : 0 ≤ M) : LH M [] 0 none := ⟨Int.le_refl 0, h, fun h e => (by cases e), fun x x0 => ⟨fun _ => ⟨x0, fun h e => (by cases e)⟩, fun _ z hz => absurd hz List.not_mem_nil⟩⟩
theorem LH.zero {M low b : Int} {high : Option Int} {ws : List (Int × Int)} (I : LH M ws low high) (hb : 0 ≤ b) : LH M (ws ++ [(0, b)]) low high :=
  ⟨I.l0, I.lM, I.hM, fun x x0 => by rw [UpF.snoc, I.iff x x0]; exact ⟨fun h => h.1, fun h => ⟨h, by omega⟩⟩⟩
theorem div_bd {a b M : Int} (ha : 0 < a) (hM : -M ≤ b ∧ b ≤ M) : -M ≤ b / a ∧ b / a ≤ M := by
  have z : (b / a).natAbs ≤ b.natAbs := Int.natAbs_ediv_le_natAbs b a
  omega
theorem LH.pos {M low a b : Int} {high : Option Int} {ws : List (Int × Int)} (I : LH M ws low high) (ha : 0 < a) (hM : -M ≤ b ∧ b ≤ M) : LH M (ws ++ [(a, b)]) (if 0 - b / a > low then 0 - b / a else low) high := by
  have l0 := I.l0
  have lM := I.lM
  have bd := div_bd ha hM
  refine ⟨by split <;> omega, by split <;> omega, I.hM, fun x x0 => ?_⟩
  rw [UpF.snoc, I.iff x x0, ← ceil_iff ha x]
  constructor
  · rintro ⟨⟨h1, h2⟩, h3⟩
    exact ⟨by split <;> omega, h2⟩
  · rintro ⟨h1, h2⟩
    split at h1 <;> exact ⟨⟨by omega, h2⟩, by omega⟩
theorem floor_iff {a b : Int} (ha : a < 0) (x : Int) : x ≤ b / (0 - a) ↔ 0 ≤ b + x * a := by
  rw [Int.le_ediv_iff_mul_le (by omega), Int.mul_sub]
  omega
theorem LH.neg {M low a b : Int} {high : Option Int} {ws : List (Int × Int)} (I : LH M ws low high) (ha : a < 0) (hM : -M ≤ b ∧ b ≤ M) (hh : ∀ h, high = some h → b / (0 - a) < h) : LH M (ws ++ [(a, b)]) low (some (b / (0 - a))) := by
  refine ⟨I.l0, I.lM, fun h e => (by cases e; exact div_bd (by omega) hM), fun x x0 => ?_⟩
  rw [UpF.snoc, I.iff x x0, ← floor_iff ha x]
  constructor
  · rintro ⟨⟨h1, h2⟩, h3⟩
    exact ⟨h1, fun h e => by cases e; exact h3⟩
  · rintro ⟨h1, h2⟩
    have := h2 _ rfl
    exact ⟨⟨h1, fun h e => by have := hh h e; omega⟩, this⟩
theorem LH.neg2 {M low a b h : Int} {ws : List (Int × Int)} (I : LH M ws low (some h)) (ha : a < 0) (hh : ¬ b / (0 - a) < h) : LH M (ws ++ [(a, b)]) low (some h) := by
  refine ⟨I.l0, I.lM, I.hM, fun x x0 => ?_⟩
  rw [UpF.snoc, I.iff x x0, ← floor_iff ha x]
  constructor
  · exact fun h => h.1
  · rintro ⟨h1, h2⟩
    have := h2 _ rfl
    exact ⟨⟨h1, h2⟩, by omega⟩
theorem upF_no {ls : List (Int × Int)} {b : Int} (hz : (0, b) ∈ ls) (h : b < 0) : Least (UpF ls) none := fun x x0 u => by
  have := u _ hz
  have : 0 ≤ b + x * 0 := this
  omega
theorem LH.done {M low : Int} {high : Option Int} {ls : List (Int × Int)} (I : LH M ls low high) (h : ∀ h, high = some h → low ≤ h) : Least (UpF ls) (some low) :=
  ⟨I.l0, (I.iff low I.l0).mpr ⟨Int.le_refl _, h⟩, fun m m0 ml u => by have := ((I.iff m m0).mp u).1; omega⟩
theorem LH.fail {M low h : Int} {ls : List (Int × Int)} (I : LH M ls low (some h)) (g : ¬ low ≤ h) : Least (UpF ls) none := fun m m0 u => by
  obtain ⟨a, b⟩ := (I.iff m m0).mp u
  have := b h rfl
  omega
def bkLines (d1 d2 k st j sp : Int) (cnt : Option Int) (fl : Bool) : List (Int × Int) :=
  [(sp, j), (st - sp, d1 + k - d2 - j - (if (!fl) = true then 1 else 0))] ++ cnt.toList.map (fun c => (0 - sp, c - 1 - j))
section
variable {p1 d1 s1 p2 d2 s2 d st k j sp : Int} {cnt : Option Int} {fl : Bool}
theorem bk_at (h2 : s2 ≠ 0) (hj : j * s2 = k * s1 - (p2 - p1)) (hs : sp * s2 = s1 * st) (x : Int) : Blk p1 d1 s1 p2 d2 s2 cnt fl (k + x * st) ↔ UpF (bkLines d1 d2 k st j sp cnt fl) x := by
  have ej : p1 + (k + x * st) * s1 = p2 + (j + x * sp) * s2 := by grind
  have uj : ∀ y : Int, p1 + (k + x * st) * s1 = p2 + y * s2 → y = j + x * sp := fun y h => Int.eq_of_mul_eq_mul_right h2 (by rw [ej] at h; omega)
  have e1 : x * (st - sp) = x * st - x * sp := Int.mul_sub x st sp
  have e2 : x * (0 - sp) = 0 - x * sp := by rw [Int.mul_sub, Int.mul_zero]
  unfold UpF bkLines
  constructor
  · rintro ⟨y, y0, e, hc, hd⟩ z hz
    obtain rfl := uj y e
    rcases List.mem_append.mp hz with hz | hz
    · rcases List.mem_cons.mp hz with rfl | hz
      · exact y0
      · obtain rfl := List.mem_singleton.mp hz
        show 0 ≤ d1 + k - d2 - j - (if (!fl) = true then 1 else 0) + x * (st - sp)
        rw [e1]
        cases fl with
        | true =>
          rw [if_neg (by decide)]
          omega
        | false =>
          rw [if_pos (by decide)]
          rcases hd with hd | ⟨hd, _⟩
          · omega
          · cases hd
    · obtain ⟨c, hc', rfl⟩ := List.mem_map.mp hz
      have := hc c (Option.mem_toList.mp hc')
      show 0 ≤ c - 1 - j + x * (0 - sp)
      omega
  · intro h
    have h0 : 0 ≤ j + x * sp := h (sp, j) (List.mem_append_left _ List.mem_cons_self)
    have h1 : 0 ≤ d1 + k - d2 - j - (if (!fl) = true then 1 else 0) + x * (st - sp) := h (st - sp, _) (List.mem_append_left _ (List.mem_cons_of_mem _ List.mem_cons_self))
    rw [e1] at h1
    refine ⟨_, h0, ej, fun c e => ?_, ?_⟩
    · have : 0 ≤ c - 1 - j + x * (0 - sp) := h (0 - sp, c - 1 - j) (List.mem_append_right _ (List.mem_map.mpr ⟨c, Option.mem_toList.mpr e, rfl⟩))
      omega
    · cases fl with
      | true =>
        rw [if_neg (by decide)] at h1
        by_cases y : d2 + (j + x * sp) < d1 + (k + x * st)
        · exact .inl y
        · exact .inr ⟨rfl, by omega⟩
      | false =>
        rw [if_pos (by decide)] at h1
        exact .inl (by omega)
theorem bk_least (h2 : s2 ≠ 0) (M : Meet s1 s2 (p2 - p1) d st k) (hj : j * s2 = k * s1 - (p2 - p1)) (hs : sp * s2 = s1 * st) : ∀ {rx : Option Int}, Least (UpF (bkLines d1 d2 k st j sp cnt fl)) rx →
    Least (Blk p1 d1 s1 p2 d2 s2 cnt fl) (rx.map fun x => k + x * st) := by
  have stp := M.st.1
  have at_ : ∀ n, 0 ≤ n → Blk p1 d1 s1 p2 d2 s2 cnt fl n → ∃ x, 0 ≤ x ∧ n = k + x * st ∧ UpF (bkLines d1 d2 k st j sp cnt fl) x := fun n n0 h => by
    obtain ⟨x, hx⟩ := on_dvd h2 M h.on
    obtain rfl : n = k + x * st := by rw [Int.mul_comm] at hx; omega
    exact ⟨x, (ge_x stp M.r0 M.r1 x).mp n0, rfl, (bk_at h2 hj hs x).mp h⟩
  intro rx hx
  cases rx with
  | none => exact fun n n0 h => let ⟨x, x0, _, u⟩ := at_ n n0 h; hx x x0 u
  | some x =>
    obtain ⟨x0, u, lt⟩ := hx
    refine ⟨(ge_x stp M.r0 M.r1 x).mpr x0, (bk_at h2 hj hs x).mpr u, fun m m0 ml h => ?_⟩
    obtain ⟨y, y0, rfl, v⟩ := at_ m m0 h
    have ml : k + y * st < k + x * st := ml
    refine lt y y0 ?_ v
    by_cases c : y < x
    · exact c
    · have := Int.mul_le_mul_of_nonneg_right (show x ≤ y by omega) (show 0 ≤ st by omega)
      omega
theorem bk_none (C : CommW p1 s1 p2 s2 none) : Least (Blk p1 d1 s1 p2 d2 s2 cnt fl) none := by
  cases C with
  | no h => exact fun n n0 b => h n n0 b.on
end
end Ur
/-! UrP: the numbers at which several lines are not below nought; the common numbers within bounds. -/
namespace Ur
open PySem PySem.Spec PyProof.Rows L2
/-- at most, if there is a bound -/
def Le (b : Option Int) (x : Int) : Prop := ∀ m, b = some m → x ≤ m
/-- from a on, up to b -/
structure Spn (M : Int) (ws : List (Int × Int)) (a : Int) (b : Option Int) : Prop where
  a0 : 0 ≤ a
  aM : a ≤ M
  iff : ∀ x, 0 ≤ x → (Up ws x ↔ a ≤ x ∧ Le b x)
theorem Up.snoc {ws : List (Int × Int)} {s k x : Int} : Up (ws ++ [(s, k)]) x ↔ Up ws x ∧ 0 ≤ s + x * k := by
  unfold Up
  constructor
  · exact fun h => ⟨fun z hz => h z (List.mem_append_left _ hz), h (s, k) (List.mem_append_right _ (List.mem_singleton.mpr rfl))⟩
  · rintro ⟨h, g⟩ z hz
    rcases List.mem_append.mp hz with hz | hz
    · exact h z hz
    · obtain rfl := List.mem_singleton.mp hz
      exact g
theorem Spn.start {M : Int} (h : 0 ≤ M) : Spn M [] 0 none := ⟨Int.le_refl 0, h, fun x x0 => ⟨fun _ => ⟨x0, fun m e => (by cases e)⟩, fun _ z hz => absurd hz List.not_mem_nil⟩⟩
theorem Spn.pos {M s k a : Int} {b : Option Int} {ws : List (Int × Int)} (I : Spn M ws a b) (hk : 0 < k) (hM : -M ≤ s) : Spn M (ws ++ [(s, k)]) (max a (-(s / k))) b := by
  have q1 : -(s / k) ≤ M := by
    rw [ceil_iff hk]
    have := Int.mul_le_mul_of_nonneg_left (show 1 ≤ k by omega) (show 0 ≤ M by have := I.a0; have := I.aM; omega)
    omega
  have a0 := I.a0
  have aM := I.aM
  refine ⟨by omega, by omega, fun x x0 => ?_⟩
  rw [Up.snoc, I.iff x x0, ← ceil_iff hk]
  constructor
  · rintro ⟨⟨h1, h2⟩, h3⟩
    exact ⟨by omega, h2⟩
  · rintro ⟨h1, h2⟩
    exact ⟨⟨by omega, h2⟩, by omega⟩
theorem Spn.neg {M s k a : Int} {b : Option Int} {ws : List (Int × Int)} (I : Spn M ws a b) (hk : k < 0) : Spn M (ws ++ [(s, k)]) a (some (match b with | none => s / (-k) | some m => min m (s / (-k)))) := by
  refine ⟨I.a0, I.aM, fun x x0 => ?_⟩
  have e := floor_iff (a := k) (b := s) hk x
  rw [show (0 : Int) - k = -k by omega] at e
  rw [Up.snoc, I.iff x x0, ← e]
  cases b with
  | none =>
    constructor
    · rintro ⟨⟨h1, h2⟩, h3⟩
      exact ⟨h1, fun m em => by cases em; exact h3⟩
    · rintro ⟨h1, h2⟩
      exact ⟨⟨h1, fun m em => by cases em⟩, h2 _ rfl⟩
  | some m =>
    constructor
    · rintro ⟨⟨h1, h2⟩, h3⟩
      have := h2 m rfl
      exact ⟨h1, fun n en => by have en : min m (s / (-k)) = n := Option.some.inj en; omega⟩
    · rintro ⟨h1, h2⟩
      have h2 : x ≤ min m (s / (-k)) := h2 _ rfl
      exact ⟨⟨h1, fun n en => by have en := Option.some.inj en; omega⟩, by omega⟩
theorem Spn.flat {M s a : Int} {b : Option Int} {ws : List (Int × Int)} (I : Spn M ws a b) (hs : 0 ≤ s) : Spn M (ws ++ [(s, 0)]) a b :=
  ⟨I.a0, I.aM, fun x x0 => by rw [Up.snoc, I.iff x x0, Int.mul_zero]; exact ⟨fun h => h.1, fun h => ⟨h, by omega⟩⟩⟩
/-- what is answered of lines -/
def SpnOf (ls : List (Int × Int)) : Option (Int × Option Int) → Prop
  | none => ∀ x, 0 ≤ x → ¬ Up ls x
  | some (a, b) => 0 ≤ a ∧ (∀ m, b = some m → a ≤ m) ∧ ∀ x, 0 ≤ x → (Up ls x ↔ a ≤ x ∧ Le b x)
theorem spn_zero {ls : List (Int × Int)} {s : Int} (h : (s, 0) ∈ ls) (hs : s < 0) : SpnOf ls none := fun x x0 u => by
  have := u _ h
  rw [Int.mul_zero] at this
  omega
theorem Spn.done {M a : Int} {b : Option Int} {ws : List (Int × Int)} (I : Spn M ws a b) (h : ∀ m, b = some m → a ≤ m) : SpnOf ws (some (a, b)) := ⟨I.a0, h, I.iff⟩
theorem Spn.fail {M a m : Int} {ws : List (Int × Int)} (I : Spn M ws a (some m)) (h : m < a) : SpnOf ws none := fun x x0 u => by
  obtain ⟨h1, h2⟩ := (I.iff x x0).mp u
  have := h2 m rfl
  omega
/-! ### two painters -/
/-- of the common posts: among the first c1 of one, the first c2 of the other, the other there L days before -/
def CrP (p1 d1 s1 p2 d2 s2 : Int) (c1 c2 L : Option Int) (n : Int) : Prop := ∃ j : Int, 0 ≤ j ∧ p1 + n * s1 = p2 + j * s2 ∧ (∀ c, c1 = some c → n < c) ∧ (∀ c, c2 = some c → j < c) ∧ (∀ k, L = some k → d2 + j + k ≤ d1 + n)
def CrR (p1 d1 s1 p2 d2 s2 : Int) (c1 c2 L : Option Int) : Option (Int × Int × Option Int) → Prop
  | none => ∀ n, 0 ≤ n → ¬ CrP p1 d1 s1 p2 d2 s2 c1 c2 L n
  | some (f, st, m) => 0 ≤ f ∧ 0 < st ∧ (∀ k, m = some k → 1 ≤ k) ∧ ∀ n, 0 ≤ n → (CrP p1 d1 s1 p2 d2 s2 c1 c2 L n ↔ ∃ k, 0 ≤ k ∧ n = f + k * st ∧ ∀ mm, m = some mm → k < mm)
def crLines (d1 d2 f st j0 o : Int) (l c1 c2 L : Option Int) : List (Int × Int) :=
  l.toList.map (fun m => (m - f, -st)) ++ c1.toList.map (fun c => (c - 1 - f, -st)) ++ c2.toList.map (fun c => (c - 1 - j0, -o)) ++ L.toList.map (fun k => (d1 + f - d2 - j0 - k, st - o))
theorem mem_opt {α β : Type} {o : Option α} {g : α → β} {P : β → Prop} : (∀ z ∈ o.toList.map g, P z) ↔ ∀ m, o = some m → P (g m) := by
  cases o with
  | none => exact ⟨fun _ m e => (by cases e), fun _ z hz => absurd hz List.not_mem_nil⟩
  | some a => exact ⟨fun h m e => (by cases e; exact h _ (List.mem_singleton.mpr rfl)), fun h z hz => by obtain rfl := List.mem_singleton.mp hz; exact h a rfl⟩
theorem up_app {xs ys : List (Int × Int)} {x : Int} : Up (xs ++ ys) x ↔ Up xs x ∧ Up ys x := by
  unfold Up
  exact ⟨fun h => ⟨fun z hz => h z (List.mem_append_left _ hz), fun z hz => h z (List.mem_append_right _ hz)⟩, fun ⟨h, g⟩ z hz => (List.mem_append.mp hz).elim (h z) (g z)⟩
theorem up_opt {o : Option Int} {g : Int → Int × Int} {x : Int} : Up (o.toList.map g) x ↔ ∀ m, o = some m → 0 ≤ (g m).1 + x * (g m).2 := mem_opt
section
variable {p1 d1 s1 p2 d2 s2 f st j0 o : Int} {l c1 c2 L : Option Int}
theorem cr_at (h2 : s2 ≠ 0) (C : Comm p1 s1 p2 s2 (some (f, l, st))) (hj : j0 * s2 = p1 + f * s1 - p2) (ho : o * s2 = st * s1) (x : Int) (x0 : 0 ≤ x) :
    CrP p1 d1 s1 p2 d2 s2 c1 c2 L (f + x * st) ↔ Up (crLines d1 d2 f st j0 o l c1 c2 L) x := by
  obtain ⟨f0, stp, fm, S⟩ := C.pos
  have xs := Int.mul_nonneg x0 (show 0 ≤ st by omega)
  have ej : p1 + (f + x * st) * s1 = p2 + (j0 + x * o) * s2 := by grind
  have uj : ∀ j : Int, p1 + (f + x * st) * s1 = p2 + j * s2 → j = j0 + x * o := fun j h => Int.eq_of_mul_eq_mul_right h2 (by rw [ej] at h; omega)
  have e1 : x * (st - o) = x * st - x * o := Int.mul_sub x st o
  have e2 : x * (-o) = -(x * o) := Int.mul_neg x o
  have e3 : x * (-st) = -(x * st) := Int.mul_neg x st
  have iff := C.iff (f + x * st) (by omega)
  have dv : st ∣ f + x * st - f := ⟨x, by rw [Int.mul_comm]; omega⟩
  unfold crLines
  rw [up_app, up_app, up_app, up_opt, up_opt, up_opt, up_opt]
  constructor
  · rintro ⟨j, jn, e, h1, h2', h3⟩
    obtain rfl := uj j e
    have lm := (iff.mp ⟨_, jn, e⟩).2.1
    refine ⟨⟨⟨fun m em => ?_, fun c ec => ?_⟩, fun c ec => ?_⟩, fun k ek => ?_⟩
    · have := lm m em
      show 0 ≤ m - f + x * (-st)
      omega
    · have := h1 c ec
      show 0 ≤ c - 1 - f + x * (-st)
      omega
    · have := h2' c ec
      show 0 ≤ c - 1 - j0 + x * (-o)
      omega
    · have := h3 k ek
      show 0 ≤ d1 + f - d2 - j0 - k + x * (st - o)
      omega
  · rintro ⟨⟨⟨g0, g1⟩, g2⟩, g3⟩
    have lm : ∀ m, l = some m → f + x * st ≤ m := fun m e => by
      have : 0 ≤ m - f + x * (-st) := g0 m e
      omega
    obtain ⟨j, jn, e⟩ := iff.mpr ⟨by omega, lm, dv⟩
    obtain rfl := uj j e
    refine ⟨_, jn, ej, fun c ec => ?_, fun c ec => ?_, fun k ek => ?_⟩
    · have : 0 ≤ c - 1 - f + x * (-st) := g1 c ec
      omega
    · have : 0 ≤ c - 1 - j0 + x * (-o) := g2 c ec
      omega
    · have : 0 ≤ d1 + f - d2 - j0 - k + x * (st - o) := g3 k ek
      omega
theorem cr_span (h2 : s2 ≠ 0) (C : Comm p1 s1 p2 s2 (some (f, l, st))) (hj : j0 * s2 = p1 + f * s1 - p2) (ho : o * s2 = st * s1) : ∀ {r : Option (Int × Option Int)}, SpnOf (crLines d1 d2 f st j0 o l c1 c2 L) r →
    CrR p1 d1 s1 p2 d2 s2 c1 c2 L (r.map fun z => (f + z.1 * st, st, z.2.map fun m => m - z.1 + 1)) := by
  obtain ⟨f0, stp, fm, S⟩ := C.pos
  have at_ : ∀ n, 0 ≤ n → CrP p1 d1 s1 p2 d2 s2 c1 c2 L n → ∃ x, 0 ≤ x ∧ n = f + x * st ∧ Up (crLines d1 d2 f st j0 o l c1 c2 L) x := fun n n0 h => by
    obtain ⟨j, jn, e, _⟩ := id h
    obtain ⟨a, b, x, hx⟩ := (C.iff n n0).mp ⟨j, jn, e⟩
    have x0 : 0 ≤ x := by
      by_cases c : 0 ≤ x
      · exact c
      · have := Int.mul_le_mul_of_nonneg_left (show x ≤ -1 by omega) (show 0 ≤ st by omega)
        omega
    obtain rfl : n = f + x * st := by rw [Int.mul_comm] at hx; omega
    exact ⟨x, x0, rfl, (cr_at h2 C hj ho x x0).mp h⟩
  intro r hr
  cases r with
  | none => exact fun n n0 h => let ⟨x, x0, _, u⟩ := at_ n n0 h; hr x x0 u
  | some z =>
    obtain ⟨a, b⟩ := z
    obtain ⟨a0, ab, iff⟩ := hr
    have as := Int.mul_nonneg a0 (show 0 ≤ st by omega)
    refine ⟨show 0 ≤ f + a * st by omega, stp, fun k e => ?_, fun n n0 => ⟨fun h => ?_, ?_⟩⟩
    · cases b with
      | none => cases e
      | some m =>
        have e : m - a + 1 = k := Option.some.inj e
        have := ab m rfl
        omega
    · obtain ⟨x, x0, rfl, u⟩ := at_ n n0 h
      obtain ⟨g1, g2⟩ := (iff x x0).mp u
      refine ⟨x - a, by omega, ?_, fun mm e => ?_⟩
      · show f + x * st = f + a * st + (x - a) * st
        rw [Int.sub_mul]
        omega
      · cases b with
        | none => cases e
        | some m =>
          have e : m - a + 1 = mm := Option.some.inj e
          have := g2 m rfl
          omega
    · rintro ⟨k, k0, e, hm⟩
      have e : n = f + (a + k) * st := by rw [Int.add_mul]; have : n = f + a * st + k * st := e; omega
      subst e
      refine (cr_at h2 C hj ho (a + k) (by omega)).mpr ((iff (a + k) (by omega)).mpr ⟨by omega, fun m em => ?_⟩)
      subst em
      have : k < m - a + 1 := hm _ rfl
      omega
theorem cr_none (C : Comm p1 s1 p2 s2 none) : CrR p1 d1 s1 p2 d2 s2 c1 c2 L none := by
  cases C with
  | no h => exact fun n n0 b => let ⟨j, a, e, _⟩ := b; h n n0 ⟨j, a, e⟩
/-- the first block out of it -/
theorem cr_block {cnt : Option Int} {fl : Bool} : ∀ {r : Option (Int × Int × Option Int)}, CrR p1 d1 s1 p2 d2 s2 none cnt (some (if fl = true then 0 else 1)) r → Least (Blk p1 d1 s1 p2 d2 s2 cnt fl) (r.map fun z => z.1) := by
  have key : ∀ n, CrP p1 d1 s1 p2 d2 s2 none cnt (some (if fl = true then 0 else 1)) n ↔ Blk p1 d1 s1 p2 d2 s2 cnt fl n := fun n => by
    constructor
    · rintro ⟨j, jn, e, _, h2, h3⟩
      refine ⟨j, jn, e, h2, ?_⟩
      have h3 := h3 _ rfl
      cases fl with
      | true =>
        have h3 : d2 + j + 0 ≤ d1 + n := h3
        by_cases c : d2 + j < d1 + n
        · exact .inl c
        · exact .inr ⟨rfl, by omega⟩
      | false =>
        have h3 : d2 + j + 1 ≤ d1 + n := h3
        exact .inl (by omega)
    · rintro ⟨j, jn, e, h2, h3⟩
      refine ⟨j, jn, e, (fun c ec => by cases ec), h2, fun k ek => ?_⟩
      have ek := Option.some.inj ek
      subst ek
      rcases h3 with h3 | ⟨rfl, h3⟩
      · split <;> omega
      · show d2 + j + 0 ≤ d1 + n
        omega
  intro r hr
  cases r with
  | none => exact fun n n0 h => hr n n0 ((key n).mpr h)
  | some z =>
    obtain ⟨f, st, m⟩ := z
    obtain ⟨f0, stp, m1, iff⟩ := hr
    refine ⟨f0, (key f).mp ((iff f f0).mpr ⟨0, Int.le_refl 0, by omega, fun mm e => by have := m1 mm e; omega⟩), fun n n0 nl h => ?_⟩
    obtain ⟨k, k0, e, _⟩ := (iff n n0).mp ((key n).mpr h)
    have := Int.mul_nonneg k0 (show 0 ≤ st by omega)
    have nl : n < f := nl
    omega
end
end Ur
/-! K4B: picks of whole numbers, rows. -/
namespace Ur
open PySem PySem.Spec PyProof.Rows L2
/-- a pick out of whole numbers -/
def spPickI (K : PySem.W.Frag) : Sp := fun vs H Q _ => ∃ (p l a : Addr) (ns : List Int) (n : Nat), vs = [.ref p, .ref a] ∧ Pen H p l n ∧ n ≤ 2 ^ 39 ∧ SqL K H a (ns.map V.int) ∧ 1 ≤ ns.length ∧ ns.length ≤ 1000000 ∧
  ∀ i H', i ∈ ns → Pen H' p l (n + 12) → Keep p H H' → Q (.int i) H'
/-- one painter's row: a tuple of four -/
def Row (H : Hp) (t : Addr) (R : Int → Int → Int → Prop) : Prop := ∃ nm d p s, H t = some (.tup [.str nm, .int d, .int p, .int s]) ∧ NameOk nm ∧ R d p s
theorem Row.same {H H' : Hp} {t : Addr} {R : Int → Int → Int → Prop} (r : Row H t R) (h : Same H H') : Row H' t R := let ⟨nm, d, p, s, e, z⟩ := r; ⟨nm, d, p, s, h _ _ e, z⟩
theorem Row.keep {H H' : Hp} {t p : Addr} {R : Int → Int → Int → Prop} {kvs : List (Key × V)} (r : Row H t R) (k : Keep p H H') (hp : H p = some (.dK kvs)) : Row H' t R :=
  let ⟨nm, d, q, s, e, z⟩ := r; ⟨nm, d, q, s, k _ _ e (ne_of e hp (by intro z; cases z)), z⟩
theorem Row.updL {H : Hp} {t F : Addr} {R : Int → Int → Int → Prop} {xs ys : List V} (r : Row H t R) (hF : H F = some (.lst xs)) : Row (upd H F (.lst ys)) t R :=
  let ⟨nm, d, q, s, e, z⟩ := r; ⟨nm, d, q, s, by rw [upd_ne (ne_of e hF (by intro z; cases z))]; exact e, z⟩
theorem cut_mem {xs : List V} {lo hi : Option Int} {v : V} (h : v ∈ cutV xs lo hi) : v ∈ xs := List.mem_of_mem_drop (List.mem_of_mem_take h)
theorem cut_last {xs : List V} (h : 1 ≤ xs.length) : (cutV xs none (some (-1))).length = xs.length - 1 := by
  unfold cutV
  rw [HT.sIx_none, List.drop_zero, Nat.sub_zero, List.length_take]
  show min (if (-1 : Int) < 0 then (-1 + (xs.length : Int)).toNat else min (-1 : Int).toNat xs.length) xs.length = _
  rw [if_pos (by decide)]
  omega
theorem ix_last {n : Nat} (h : 1 ≤ n) : ixN n (-1) = some (n - 1) := by
  unfold ixN
  rw [if_neg (by decide), if_pos (by omega)]
  congr 1
  omega
theorem mem_set_or {α : Type} : ∀ {l : List α} {j : Nat} {a x : α}, x ∈ l.set j a → x = a ∨ x ∈ l := fun h => (List.mem_or_eq_of_mem_set h).elim Or.inr Or.inl
section
variable {P : Program} {w : World} {K : PySem.W.Frag} {mg : Str → Option Value} {base : Heap}
theorem ok_pickI (C : Cal P w K mg base 13 "_law_pick" P__law_pick (spPickL K)) : Cal P w K mg base 13 "_law_pick" P__law_pick (spPickI K) := by
  obtain ⟨f, fd, F, r⟩ := C
  refine ⟨f, fd, F.imp fun vs H Q E h => ?_, r⟩
  obtain ⟨p, l, a, ns, n, rfl, h1, h2, h3, h4, h5, q⟩ := h
  refine ⟨p, l, a, _, n, rfl, h1, h2, h3, by rw [List.length_map]; exact h4, by rw [List.length_map]; exact h5, fun v H' hv P' k' => ?_⟩
  obtain ⟨i, hi, rfl⟩ := List.mem_map.mp hv
  exact q i H' hi P' k'
end
theorem iteDT {c A B : Prop} [Decidable c] (hc : c) (h : A) : if decide c = true then A else B := by
  rw [decide_eq_true hc]
  exact iteT h
theorem iteDF {c A B : Prop} [Decidable c] (hc : ¬ c) (h : B) : if decide c = true then A else B := by
  rw [decide_eq_false hc]
  exact iteF h
theorem iteNN {c A B : Prop} [Decidable c] (hc : ¬ c) (h : A) : if (!decide c) = true then A else B := by
  rw [decide_eq_false hc]
  exact iteT h
theorem at_last {α : Type} (ws : List α) (x : α) : atI (ws ++ [x]) (-1) = some x := by
  unfold atI
  rw [ix_last (by rw [List.length_append]; exact Nat.le_add_left _ _), List.length_append]
  show (ws ++ [x])[ws.length + 1 - 1]? = some x
  rw [Nat.add_sub_cancel, List.getElem?_append_right (Nat.le_refl _), Nat.sub_self]
  rfl
end Ur
/-! KF: spans of lines, crossings, first blocks. -/
namespace Ur
open PySem PySem.Spec PyProof.Rows L2
abbrev s__span_of : Stmt := (topS 33)
abbrev N_sc__span_of : List Str := ["lines", "least", "most", "start", "slope", "end"]
abbrev P__span_of : List Str := ["lines"]
theorem sc__span_of : FnScope N_sc__span_of P__span_of (defScope s__span_of) := ⟨rfl, rfl, rfl, by decide +kernel, rfl, by decide +kernel, by decide +kernel⟩
/-- the span as the program hands it back -/
def SpV (H : Hp) (v : V) : Option (Int × Option Int) → Prop
  | none => v = .non
  | some (a, b) => ∃ t, v = .ref t ∧ H t = some (.tup [.int a, optV b])
def spSpan : Sp := fun vs H Q _ => ∃ (L : Addr) (zs : List (Addr × Int × Int)) (M : Int), vs = [.ref L] ∧ H L = some (.lst (zs.map fun z => V.ref z.1)) ∧ (∀ z ∈ zs, H z.1 = some (.tup [.int z.2.1, .int z.2.2])) ∧ zs.length ≤ 4 ∧ 0 ≤ M ∧
  (∀ z ∈ zs, -M ≤ z.2.1 ∧ -(10 ^ 40) ≤ z.2.2 ∧ z.2.2 ≤ 10 ^ 40) ∧ ∀ r v H', SpnOf (zs.map (·.2)) r → (∀ a b, r = some (a, b) → a ≤ M) → SpV H' v r → Same H H' → Q v H'
section
variable {P : Program} {w : World} {K : PySem.W.Frag} {mg : Str → Option Value} {base : Heap} {C : Addr}
set_option maxHeartbeats 16000000 in
theorem ok_span (D : Dfn K mg "_span_of" s__span_of P__span_of) (B : Blt mg) : Cal P w K mg base 1 "_span_of" P__span_of spSpan := by
  refine D.cal sc__span_of (fun vs H Q E h => ?_) fun f cdv A outer s H vs Q E hr h => ?_
  · obtain ⟨L, zs, M, rfl, _⟩ := h
    rfl
  obtain ⟨L, zs, M, rfl, hL, hz, lz, M0, bd, q⟩ := h
  refine ⟨_, (pss_cons (ps_asg (pe_tup (pa_cons pe_int (pa_cons pe_non pa_nil))) (pg_tup rfl (pgs_cons (pg_name (i := 1) sc__span_of.nd rfl (Or.inl rfl)) (pgs_cons (pg_name (i := 2) sc__span_of.nd rfl (Or.inl rfl)) pgs_nil)))) (pss_cons (ps_for PassesOwn.never rfl (pi_list (pv 0)) (pg_tup rfl (pgs_cons (pg_name (i := 3) sc__span_of.nd rfl (Or.inl rfl)) (pgs_cons (pg_name (i := 4) sc__span_of.nd rfl (Or.inl rfl)) pgs_nil))) (pss_one (ps_if (pt_cmpR op_gt (pv 4) pe_int (nomark _)) (pss_one (ps_set (i := 1) sc__span_of.nd rfl (Or.inl rfl) (pe_callB (call_max2 rfl) rfl B.max_ (by decide +kernel) (pa_cons (pv 1) (pa_cons (pe_un un_neg (pe_op op_fdivW (pv 3) (pv 4))) pa_nil))))) (pss_one (ps_if (pt_cmpR op_lt (pv 4) pe_int (nomark _)) (pss_cons (ps_set (i := 5) sc__span_of.nd rfl (Or.inl rfl) (pe_op op_fdivW (pv 3) (pe_un un_neg (pv 4)))) (pss_one (ps_set (i := 2) sc__span_of.nd rfl (Or.inl rfl) (pe_ifExp (pt_cmpR op_isN (pv 2) pe_non (nomark _)) (pv 5) (pe_callB (call_min2 rfl) rfl B.min_ (by decide +kernel) (pa_cons (pv 2) (pa_cons (pv 5) pa_nil))))))) (pss_one (ps_if (pt_cmpR op_lt (pv 3) pe_int (nomark _)) (pss_one (ps_ret pe_non)) pss_nil))))))) (pss_cons (ps_if (PW.pt (pw_and (pt_cmpR op_notN (pv 2) pe_non (nomark _)) (pw_and1 (pt_cmpR op_lt (pv 2) (pv 1) (nomark _))))) (pss_one (ps_ret pe_non)) pss_nil) (pss_one (ps_ret (pe_tup (pa_cons (pv 1) (pa_cons (pv 2) pa_nil)))))))), ?_⟩
  have zget : ∀ (i : Nat) (x : V), (zs.map fun z => V.ref z.1)[i]? = some x → ∃ z, z ∈ zs ∧ x = V.ref z.1 ∧ (zs.map (·.2)).take (i + 1) = (zs.map (·.2)).take i ++ [z.2] := fun i x hx => by
    rw [List.getElem?_map] at hx
    cases e : zs[i]? with
    | none => rw [e] at hx; cases hx
    | some z =>
      rw [e] at hx
      refine ⟨z, List.mem_of_getElem? e, (Option.some.inj hx).symm, ?_⟩
      rw [List.take_succ, List.getElem?_map, e]
      rfl
  refine ⟨(by show 2 ≤ sizeLine; decide), fun u0 hu0 => ⟨u0, _, rfl, SqT.of upd_same, rfl, _, _, rfl, _, _, rfl, rfl, ?_⟩⟩
  obtain ⟨H0, eH0, s0, _⟩ := (show ∃ H', H' = upd H u0 (.tup [.int 0, .non]) ∧ Same H H' ∧ True from ⟨_, rfl, same_new hu0 _, trivial⟩)
  rw [← eH0]
  refine ⟨_, rfl, L, rfl, ⟨_, SqL.of (s0 _ _ hL)⟩, for_list (K := K) (a := L) (xs := zs.map fun z => V.ref z.1) (fun i σ' H' => ∃ (a : Int) (b : Option Int) (o3 o4 o5 : Option V), σ' = [some (.ref L), some (.int a), some (optV b), o3, o4, o5] ∧ Spn M ((zs.map (·.2)).take i) a b ∧ Same H H') ⟨0, none, none, none, none, rfl, Spn.start M0, s0⟩ (fun i σ' H' _ h => by obtain ⟨_, _, _, _, _, _, _, h⟩ := h; exact SqL.of (h _ _ hL)) ?_ ?_⟩
  · rintro i v σ' H' hv ⟨a, b, o3, o4, o5, rfl, I, sm⟩
    obtain ⟨z, zm, rfl, tk⟩ := zget i v hv
    obtain ⟨t, s1, k⟩ := z
    have ht : H' t = some (.tup [.int s1, .int k]) := sm _ _ (hz _ zm)
    obtain ⟨a0, b0, b1⟩ : -M ≤ s1 ∧ -(10 ^ 40) ≤ k ∧ k ≤ 10 ^ 40 := bd _ zm
    have tk : (zs.map (·.2)).take (i + 1) = (zs.map (·.2)).take i ++ [(s1, k)] := tk
    refine ⟨t, _, rfl, SqT.of ht, rfl, _, _, rfl, _, _, rfl, rfl, ?_⟩
    refine ⟨_, rfl, _, _, rfl, rfl, _, rfl, ?_⟩
    by_cases pos : 0 < k
    · refine iteDT pos ?_
      refine ⟨_, rfl, _, rfl, _, rfl, _, _, rfl, rfl, wide_div (b := 200) pos (by omega) (by decide) (by decide), _, rfl, _, _, rfl, ?_⟩
      have e : (if -(s1 / k) > a then -(s1 / k) else a) = max a (-(s1 / k)) := by split <;> omega
      exact ⟨_, b, _, _, _, rfl, by rw [tk, e]; exact I.pos pos a0, sm⟩
    · refine iteDF pos ⟨_, rfl, _, _, rfl, rfl, _, rfl, ?_⟩
      by_cases neg : k < 0
      · refine iteDT neg ?_
        refine ⟨_, rfl, _, rfl, _, rfl, _, _, rfl, rfl, wide_div (i := s1) (j := -k) (b := 200) (by omega) (by omega) (by decide) (by decide), ?_⟩
        cases b with
        | none => exact ⟨_, rfl, rfl, _, rfl, iteDT rfl ⟨_, rfl, a, some (s1 / -k), _, _, _, rfl, by rw [tk]; exact I.neg neg, sm⟩⟩
        | some m =>
          have e : (if s1 / -k < m then s1 / -k else m) = min m (s1 / -k) := by split <;> omega
          exact ⟨_, rfl, rfl, _, rfl, iteDF (by intro z; cases z) ⟨_, rfl, _, rfl, m, _, rfl, a, some _, _, _, _, rfl, by rw [tk, e]; exact I.neg neg, sm⟩⟩
      · refine iteDF neg ⟨_, rfl, _, _, rfl, rfl, _, rfl, ?_⟩
        obtain rfl : k = 0 := by omega
        by_cases c : s1 < 0
        · refine iteDT c ?_
          exact q none .non H' (spn_zero (List.mem_map.mpr ⟨_, zm, rfl⟩) c) (fun a b e => by cases e) rfl sm
        · exact iteDF c ⟨a, b, _, _, _, rfl, by rw [tk]; exact I.flat (by omega), sm⟩
  rintro σ' H' ⟨a, b, o3, o4, o5, rfl, I, sm⟩
  rw [List.length_map, ← List.length_map (f := fun z : Addr × Int × Int => z.2), List.take_length] at I
  refine ⟨_, rfl, rfl, _, rfl, ?_⟩
  cases b with
  | none =>
    refine ⟨_, rfl, _, rfl, (by show 2 ≤ sizeLine; decide), fun u hu => ?_⟩
    exact q (some (a, none)) _ _ (I.done fun m e => by cases e) (fun a' b' e => by cases e; exact I.aM) ⟨u, rfl, upd_same⟩ (sm.trans (same_new hu _))
  | some m =>
    refine ⟨_, rfl, _, rfl, _, _, rfl, rfl, _, rfl, ?_⟩
    by_cases c : m < a
    · exact iteDT c (q none .non H' (I.fail c) (fun a b e => by cases e) rfl sm)
    · refine iteDF c ⟨_, rfl, _, rfl, (by show 2 ≤ sizeLine; decide), fun u hu => ?_⟩
      exact q (some (a, some m)) _ _ (I.done fun n e => by cases e; omega) (fun a' b' e => by cases e; exact I.aM) ⟨u, rfl, upd_same⟩ (sm.trans (same_new hu _))
end
theorem none_of_new {H : Hp} {u L : Addr} {o : HO} (hu : H u = none) (hL : (upd H u o) L = none) : H L = none := by
  cases e : H L with
  | none => rfl
  | some z => rw [same_new hu o _ _ e] at hL; cases hL
/-- the list of lines, as it stands -/
structure LinesAt (H1 H' : Hp) (L : Addr) (zs : List (Addr × Int × Int)) (ls : List (Int × Int)) : Prop where
  nw : H1 L = none
  at_ : H' L = some (.lst (zs.map fun z => V.ref z.1))
  tp : ∀ z ∈ zs, H' z.1 = some (.tup [.int z.2.1, .int z.2.2])
  mp : zs.map (·.2) = ls
  sm : Same H1 H'
theorem LinesAt.snoc {H1 H' : Hp} {L t : Addr} {zs : List (Addr × Int × Int)} {ls : List (Int × Int)} {a b : Int} (h : LinesAt H1 H' L zs ls) (ht : H' t = none) :
    LinesAt H1 (upd (upd H' t (.tup [.int a, .int b])) L (.lst ((zs.map fun z => V.ref z.1) ++ [.ref t]))) L (zs ++ [(t, a, b)]) (ls ++ [(a, b)]) := by
  have nL : t ≠ L := fun e => by rw [e, h.at_] at ht; cases ht
  refine ⟨h.nw, by rw [upd_same, List.map_append]; rfl, fun z hz => ?_, by rw [List.map_append, h.mp]; rfl, sameAt (h.sm.trans (same_new ht _)) h.nw⟩
  rcases List.mem_append.mp hz with hz | hz
  · have e := h.tp z hz
    rw [upd_ne (ne_of e h.at_ (by intro z; cases z)), upd_ne (ne_of_none e ht)]
    exact e
  · obtain rfl := List.mem_singleton.mp hz
    show upd _ L _ t = _
    rw [upd_ne nL, upd_same]
theorem abs_of_mul {j s x : Int} (h : s ≠ 0) (e : j * s = x) : j.natAbs ≤ x.natAbs := by
  rw [← e, Int.natAbs_mul]
  exact Nat.le_mul_of_pos_right _ (by omega)
theorem abs_mul_lt {a b : Int} {A B : Nat} (h1 : a.natAbs ≤ A) (h2 : b.natAbs ≤ B) : (a * b).natAbs ≤ A * B := by
  rw [Int.natAbs_mul]
  exact Nat.mul_le_mul h1 h2
theorem LinesAt.nil {H1 : Hp} {L : Addr} (h : H1 L = none) : LinesAt H1 (upd H1 L (.lst [])) L [] [] := ⟨h, upd_same, (fun z hz => nomatch hz), rfl, same_new h _⟩
theorem LinesAt.len {H1 H' : Hp} {L : Addr} {zs : List (Addr × Int × Int)} {ls : List (Int × Int)} (h : LinesAt H1 H' L zs ls) : zs.length = ls.length := by rw [← h.mp, List.length_map]
theorem optl {o : Option Int} {g : Int → Int × Int} : (o.toList.map g).length ≤ 1 := by cases o <;> simp
/-! ### crossing -/
abbrev s_crossing : Stmt := (topS 31)
abbrev N_sc_crossing : List Str := ["one", "other", "count", "other_count", "lead", "numbers", "first", "last", "step", "other_first", "other_step", "lines", "span", "least", "most"]
abbrev P_crossing : List Str := ["one", "other", "count", "other_count", "lead"]
theorem sc_crossing : FnScope N_sc_crossing P_crossing (defScope s_crossing) := ⟨rfl, rfl, rfl, by decide +kernel, rfl, by decide +kernel, by decide +kernel⟩
def CrV (H : Hp) (v : V) : Option (Int × Int × Option Int) → Prop
  | none => v = .non
  | some (f, st, m) => ∃ t, v = .ref t ∧ H t = some (.tup [.int f, .int st, optV m])
def InB (o : Option Int) : Prop := ∀ c, o = some c → 0 ≤ c ∧ c ≤ 10 ^ 80
/-- days ahead -/
def InL (o : Option Int) : Prop := ∀ c, o = some c → -(10 ^ 80) ≤ c ∧ c ≤ 10 ^ 40
def spCr (C : Addr) : Sp := fun vs H Q _ => ∃ (a1 a2 : Addr) (nm1 : Str) (d1 p1 s1 : Int) (nm2 : Str) (d2 p2 s2 : Int) (c1 c2 L : Option Int), vs = [.ref a1, .ref a2, optV c1, optV c2, optV L] ∧ Two C H a1 a2 nm1 d1 p1 s1 nm2 d2 p2 s2 ∧ InB c1 ∧ InB c2 ∧ InL L ∧
  ∀ r v H', CrR p1 d1 s1 p2 d2 s2 c1 c2 L r → (∀ f st m, r = some (f, st, m) → f ≤ 10 ^ 70 ∧ st ≤ 10 ^ 18) → CrV H' v r → Same H H' → Q v H'
def CrF (K : PySem.W.Frag) (f : Addr) (fd : FuncData) : Prop := FunD K "crossing" "crossing" (defArgs s_crossing) (defBody s_crossing) (defScope s_crossing) [] [("count", .non), ("other_count", .non), ("lead", .non)] f fd
section
variable {P : Program} {w : World} {K : PySem.W.Frag} {mg : Str → Option Value} {base : Heap} {C : Addr}
set_option maxHeartbeats 40000000 in
theorem ok_cr {f : Addr} {fd : FuncData} (F : CrF K f fd) (B : Blt mg) (T : PTxt K mg C) (hDay : PropS P w K mg base C "day" 1 (getSp C "_day")) (hPost : PropS P w K mg base C "post" 1 (getSp C "_post")) (hStride : PropS P w K mg base C "stride" 1 (getSp C "_stride"))
    (CCN : Cal P w K mg base 3 "common_numbers" P_common_numbers (spCN C)) (CSp : Cal P w K mg base 1 "_span_of" P__span_of spSpan) : FnOk P w K mg base CX0 5 f fd P_crossing (spCr C) := by
  refine FunD.ok F sc_crossing (fun vs H Q E h => ?_) (fun cdv A outer s H vs Q E hr h => ?_)
  · obtain ⟨a1, a2, _, _, _, _, _, _, _, _, _, _, _, rfl, _⟩ := h
    rfl
  obtain ⟨a1, a2, nm1, d1, p1, s1, nm2, d2, p2, s2, c1, c2, Ld, rfl, Tw, hc1, hc2, hLd, q⟩ := h
  obtain ⟨dx1, h1⟩ := Tw.h1
  obtain ⟨dx2, h2⟩ := Tw.h2
  obtain ⟨_, d10, d11, p10, p11, s10, s11, s1n⟩ := Tw.o1
  obtain ⟨_, d20, d21, p20, p21, s20, s21, s2n⟩ := Tw.o2
  refine ⟨_, PSs.nox (pss_cons (ps_set (i := 5) sc_crossing.nd rfl (Or.inl rfl) (pe_cal CCN (hr.mono (by decide)) (pa_cons (pv 0) (pa_cons (pv 1) pa_nil)))) (pss_cons (ps_if (pt_cmpR op_isN (pv 5) pe_non (nomark _)) (pss_one (ps_ret pe_non)) pss_nil) (pss_cons (ps_asg (pv 5) (pg_tup rfl (pgs_cons (pg_name (i := 6) sc_crossing.nd rfl (Or.inl rfl)) (pgs_cons (pg_name (i := 7) sc_crossing.nd rfl (Or.inl rfl)) (pgs_cons (pg_name (i := 8) sc_crossing.nd rfl (Or.inl rfl)) pgs_nil))))) (C8.pss_cut (ps_set (i := 9) sc_crossing.nd rfl (Or.inl rfl) (pe_op op_fdivX (pe_op op_sub (pe_op op_add (pe_prS (pv 0) T.cl hPost (hr.mono (by decide))) (pe_op op_mulW (pv 6) (pe_prS (pv 0) T.cl hStride (hr.mono (by decide))))) (pe_prS (pv 1) T.cl hPost (hr.mono (by decide)))) (pe_prS (pv 1) T.cl hStride (hr.mono (by decide))))) (C8.pss_cut (ps_set (i := 10) sc_crossing.nd rfl (Or.inl rfl) (pe_op op_fdivX (pe_op op_mulW (pv 8) (pe_prS (pv 0) T.cl hStride (hr.mono (by decide)))) (pe_prS (pv 1) T.cl hStride (hr.mono (by decide))))) (C8.pss_cut (ps_set (i := 11) sc_crossing.nd rfl (Or.inl rfl) (pe_lst pa_nil)) (C8.pss_cut (ps_if (pt_cmpR op_notN (pv 7) pe_non (nomark _)) (pss_one (ps_expr (pe_bm PySem.F.plainAttrs_list PySem.F.slot_list_append PySem.F.type_list_append mt_append (pv 11) (pa_cons (pe_tup (pa_cons (pe_op op_sub (pv 7) (pv 6)) (pa_cons (pe_un un_neg (pv 8)) pa_nil))) pa_nil)))) pss_nil) (C8.pss_cut (ps_if (pt_cmpR op_notN (pv 2) pe_non (nomark _)) (pss_one (ps_expr (pe_bm PySem.F.plainAttrs_list PySem.F.slot_list_append PySem.F.type_list_append mt_append (pv 11) (pa_cons (pe_tup (pa_cons (pe_op op_sub (pe_op op_sub (pv 2) pe_int) (pv 6)) (pa_cons (pe_un un_neg (pv 8)) pa_nil))) pa_nil)))) pss_nil) (C8.pss_cut (ps_if (pt_cmpR op_notN (pv 3) pe_non (nomark _)) (pss_one (ps_expr (pe_bm PySem.F.plainAttrs_list PySem.F.slot_list_append PySem.F.type_list_append mt_append (pv 11) (pa_cons (pe_tup (pa_cons (pe_op op_sub (pe_op op_sub (pv 3) pe_int) (pv 9)) (pa_cons (pe_un un_neg (pv 10)) pa_nil))) pa_nil)))) pss_nil) (C8.pss_cut (ps_if (pt_cmpR op_notN (pv 4) pe_non (nomark _)) (pss_one (ps_expr (pe_bm PySem.F.plainAttrs_list PySem.F.slot_list_append PySem.F.type_list_append mt_append (pv 11) (pa_cons (pe_tup (pa_cons (pe_op op_sub (pe_op op_sub (pe_op op_sub (pe_op op_add (pe_prS (pv 0) T.cl hDay (hr.mono (by decide))) (pv 6)) (pe_prS (pv 1) T.cl hDay (hr.mono (by decide)))) (pv 9)) (pv 4)) (pa_cons (pe_op op_sub (pv 8) (pv 10)) pa_nil))) pa_nil)))) pss_nil) (pss_cons (ps_set (i := 12) sc_crossing.nd rfl (Or.inl rfl) (pe_cal CSp (hr.mono (by decide)) (pa_cons (pv 11) pa_nil))) (pss_cons (ps_if (pt_cmpR op_isN (pv 12) pe_non (nomark _)) (pss_one (ps_ret pe_non)) pss_nil) (pss_cons (ps_asg (pv 12) (pg_tup rfl (pgs_cons (pg_name (i := 13) sc_crossing.nd rfl (Or.inl rfl)) (pgs_cons (pg_name (i := 14) sc_crossing.nd rfl (Or.inl rfl)) pgs_nil)))) (pss_one (ps_ret (pe_tup (pa_cons (pe_op op_add (pv 6) (pe_op op_mulW (pv 13) (pv 8))) (pa_cons (pv 8) (pa_cons (pe_ifExp (pt_cmpR op_isN (pv 14) pe_non (nomark _)) pe_non (pe_op op_add (pe_op op_sub (pv 14) (pv 13)) pe_int)) pa_nil))))))))))))))))))), ?_⟩
  refine ⟨_, rfl, _, rfl, a1, a2, nm1, d1, p1, s1, nm2, d2, p2, s2, rfl, Tw, fun r v H1 Cm hv sm => ?_⟩
  refine ⟨_, rfl, rfl, _, rfl, ?_⟩
  cases r with
  | none =>
    have hv : v = .non := hv
    subst hv
    exact q none .non _ (cr_none Cm) (fun f st m e => by cases e) rfl sm
  | some x =>
    obtain ⟨a, l, st⟩ := x
    obtain ⟨t, rfl, ht⟩ := hv
    have h1' := sm _ _ h1
    have h2' := sm _ _ h2
    obtain ⟨a0, ab, S, lb⟩ := Cm.first_le
    have sl := step_le s2n S
    have sp := S.1
    have fb : (a * s1).natAbs ≤ 10 ^ 31 * 10 ^ 18 := abs_mul_lt (by omega) (by omega)
    have ob : (st * s1).natAbs ≤ 10 ^ 18 * 10 ^ 18 := abs_mul_lt (by omega) (by omega)
    have dvx : CDivX (p1 + a * s1 - p2) s2 := ⟨s2n, Nat.lt_of_lt_of_le (PySem.Flt.log2_lt_of (by decide) (show s2.natAbs < 2 ^ 120 by omega)) (by decide)⟩
    have dvy : CDivX (st * s1) s2 := dvx
    refine ⟨_, rfl, t, _, rfl, SqT.of ht, rfl, _, _, rfl, _, _, rfl, _, _, rfl, rfl, ?_⟩
    refine ⟨fun σ' H' => ∃ j0 : Int, σ' = [some (.ref a1), some (.ref a2), some (optV c1), some (optV c2), some (optV Ld), some (.ref t), some (.int a), some (optV l), some (.int st), some (.int j0), none, none, none, none, none] ∧ j0 * s2 = p1 + a * s1 - p2 ∧ H' = H1, ?_, ?_⟩
    · refine ⟨_, rfl, a1, dx1, _, rfl, h1', a1, dx1, _, _, rfl, h1', pfs_post _ _ _ _, _, rfl, _, rfl, a1, dx1, _, rfl, h1', a1, dx1, _, _, rfl, h1', pfs_stride _ _ _ _, _, _, rfl, rfl, wide_mul (a := 200) (b := 120) (by omega) (by omega) (by decide) (by decide) (by decide), _, _, rfl, rfl, _, rfl, a2, dx2, _, rfl, h2', a2, dx2, _, _, rfl, h2', pfs_post _ _ _ _, _, _, rfl, rfl, _, rfl, a2, dx2, _, rfl, h2', a2, dx2, _, _, rfl, h2', pfs_stride _ _ _ _, _, _, rfl, rfl, dvx, ?_⟩
      refine ⟨_, rfl, ?_, rfl⟩
      obtain ⟨j, jn, e⟩ := (Cm.iff a a0).mpr ⟨Int.le_refl _, fun m e => (Cm.pos).2.2.1 m e, ⟨0, by omega⟩⟩
      have e2 : p1 + a * s1 - p2 = j * s2 := by omega
      rw [e2, Int.mul_fdiv_cancel j s2n]
    rintro σ' H' ⟨j0, rfl, hj, rfl⟩
    refine ⟨fun σ' H2 => ∃ o : Int, σ' = [some (.ref a1), some (.ref a2), some (optV c1), some (optV c2), some (optV Ld), some (.ref t), some (.int a), some (optV l), some (.int st), some (.int j0), some (.int o), none, none, none, none] ∧ o * s2 = st * s1 ∧ H2 = H', ?_, ?_⟩
    · refine ⟨_, rfl, _, rfl, a1, dx1, _, rfl, h1', a1, dx1, _, _, rfl, h1', pfs_stride _ _ _ _, _, _, rfl, rfl, wide_mul (a := 120) (b := 120) (by omega) (by omega) (by decide) (by decide) (by decide), _, rfl, a2, dx2, _, rfl, h2', a2, dx2, _, _, rfl, h2', pfs_stride _ _ _ _, _, _, rfl, rfl, dvy, ?_⟩
      refine ⟨_, rfl, ?_, rfl⟩
      obtain ⟨j, e⟩ := (S.2 st).mpr (Int.dvd_refl st)
      rw [e, Int.mul_comm s2 j, Int.mul_fdiv_cancel j s2n]
    rintro σ' H2 ⟨o, rfl, ho, rfl⟩
    have jb := abs_of_mul s2n hj
    have obb := abs_of_mul s2n ho
    obtain ⟨g0, eg0⟩ : ∃ g : Int → Int × Int, g = fun m => (m - a, -st) := ⟨_, rfl⟩
    obtain ⟨g1, eg1⟩ : ∃ g : Int → Int × Int, g = fun c => (c - 1 - a, -st) := ⟨_, rfl⟩
    obtain ⟨g2, eg2⟩ : ∃ g : Int → Int × Int, g = fun c => (c - 1 - j0, -o) := ⟨_, rfl⟩
    obtain ⟨g3, eg3⟩ : ∃ g : Int → Int × Int, g = fun k => (d1 + a - d2 - j0 - k, st - o) := ⟨_, rfl⟩
    have eLn : crLines d1 d2 a st j0 o l c1 c2 Ld = l.toList.map g0 ++ c1.toList.map g1 ++ c2.toList.map g2 ++ Ld.toList.map g3 := by rw [eg0, eg1, eg2, eg3]; rfl
    have l0 := optl (o := l) (g := g0)
    have l1 := optl (o := c1) (g := g1)
    have l2 := optl (o := c2) (g := g2)
    have l3 := optl (o := Ld) (g := g3)
    refine ⟨fun σ' H3 => ∃ L : Addr, σ' = [some (.ref a1), some (.ref a2), some (optV c1), some (optV c2), some (optV Ld), some (.ref t), some (.int a), some (optV l), some (.int st), some (.int j0), some (.int o), some (.ref L), none, none, none] ∧ LinesAt H2 H3 L [] [], ?_, ?_⟩
    · exact ⟨(by show 0 ≤ sizeLine; decide), fun L hL => ⟨L, rfl, LinesAt.nil hL⟩⟩
    rintro σ' H3 ⟨L, rfl, z0⟩
    refine ⟨fun σ' H4 => ∃ zs : List (Addr × Int × Int), σ' = [some (.ref a1), some (.ref a2), some (optV c1), some (optV c2), some (optV Ld), some (.ref t), some (.int a), some (optV l), some (.int st), some (.int j0), some (.int o), some (.ref L), none, none, none] ∧ LinesAt H2 H4 L zs (l.toList.map g0), ?_, ?_⟩
    · refine ⟨_, rfl, rfl, _, rfl, ?_⟩
      cases l with
      | none => exact ⟨[], rfl, z0⟩
      | some m =>
        refine ⟨_, rfl, .inl ⟨rfl, _, SqL.of z0.at_⟩, ?_⟩
        refine ⟨_, rfl, _, rfl, _, _, rfl, rfl, _, rfl, _, rfl, (by show 2 ≤ sizeLine; decide), fun u hu => ?_⟩
        refine ⟨L, _, _, rfl, rfl, same_new hu _ _ _ z0.at_, by decide, ?_⟩
        exact ⟨_, rfl, by rw [eg0]; exact z0.snoc hu⟩
    rintro σ' H4 ⟨zs, rfl, z1⟩
    have n1 := z1.len
    refine ⟨fun σ' H5 => ∃ zs : List (Addr × Int × Int), σ' = [some (.ref a1), some (.ref a2), some (optV c1), some (optV c2), some (optV Ld), some (.ref t), some (.int a), some (optV l), some (.int st), some (.int j0), some (.int o), some (.ref L), none, none, none] ∧ LinesAt H2 H5 L zs (l.toList.map g0 ++ c1.toList.map g1), ?_, ?_⟩
    · refine ⟨_, rfl, rfl, _, rfl, ?_⟩
      cases c1 with
      | none => exact ⟨zs, rfl, (List.append_nil _).symm ▸ z1⟩
      | some c =>
        refine ⟨_, rfl, .inl ⟨rfl, _, SqL.of z1.at_⟩, ?_⟩
        refine ⟨_, rfl, _, _, rfl, rfl, _, rfl, _, _, rfl, rfl, _, rfl, _, rfl, (by show 2 ≤ sizeLine; decide), fun u hu => ?_⟩
        refine ⟨L, _, _, rfl, rfl, same_new hu _ _ _ z1.at_, by rw [List.length_map]; exact small1000 (by omega), ?_⟩
        exact ⟨_, rfl, by rw [eg1]; exact z1.snoc hu⟩
    rintro σ' H5 ⟨zs1, rfl, z2⟩
    have n2 := z2.len
    rw [List.length_append] at n2
    refine ⟨fun σ' H6 => ∃ zs : List (Addr × Int × Int), σ' = [some (.ref a1), some (.ref a2), some (optV c1), some (optV c2), some (optV Ld), some (.ref t), some (.int a), some (optV l), some (.int st), some (.int j0), some (.int o), some (.ref L), none, none, none] ∧ LinesAt H2 H6 L zs (l.toList.map g0 ++ c1.toList.map g1 ++ c2.toList.map g2), ?_, ?_⟩
    · refine ⟨_, rfl, rfl, _, rfl, ?_⟩
      cases c2 with
      | none => exact ⟨zs1, rfl, (List.append_nil _).symm ▸ z2⟩
      | some c =>
        refine ⟨_, rfl, .inl ⟨rfl, _, SqL.of z2.at_⟩, ?_⟩
        refine ⟨_, rfl, _, _, rfl, rfl, _, rfl, _, _, rfl, rfl, _, rfl, _, rfl, (by show 2 ≤ sizeLine; decide), fun u hu => ?_⟩
        refine ⟨L, _, _, rfl, rfl, same_new hu _ _ _ z2.at_, by rw [List.length_map]; exact small1000 (by omega), ?_⟩
        exact ⟨_, rfl, by rw [eg2]; exact z2.snoc hu⟩
    rintro σ' H6 ⟨zs2, rfl, z3⟩
    have n3 := z3.len
    rw [List.length_append, List.length_append] at n3
    have h1z := z3.sm _ _ h1'
    have h2z := z3.sm _ _ h2'
    refine ⟨fun σ' H7 => ∃ zs : List (Addr × Int × Int), σ' = [some (.ref a1), some (.ref a2), some (optV c1), some (optV c2), some (optV Ld), some (.ref t), some (.int a), some (optV l), some (.int st), some (.int j0), some (.int o), some (.ref L), none, none, none] ∧ LinesAt H2 H7 L zs (crLines d1 d2 a st j0 o l c1 c2 Ld), ?_, ?_⟩
    · rw [eLn]
      refine ⟨_, rfl, rfl, _, rfl, ?_⟩
      cases Ld with
      | none => exact ⟨zs2, rfl, (List.append_nil _).symm ▸ z3⟩
      | some k =>
        refine ⟨_, rfl, .inl ⟨rfl, _, SqL.of z3.at_⟩, ?_⟩
        refine ⟨_, rfl, a1, dx1, _, rfl, h1z, a1, dx1, _, _, rfl, h1z, pfs_day _ _ _ _, _, rfl, _, _, rfl, rfl, _, rfl, a2, dx2, _, rfl, h2z, a2, dx2, _, _, rfl, h2z, pfs_day _ _ _ _, _, _, rfl, rfl, _, rfl, _, _, rfl, rfl, _, rfl, _, _, rfl, rfl, _, rfl, _, rfl, _, _, rfl, rfl, (by show 2 ≤ sizeLine; decide), fun u hu => ?_⟩
        refine ⟨L, _, _, rfl, rfl, same_new hu _ _ _ z3.at_, by rw [List.length_map]; exact small1000 (by omega), ?_⟩
        exact ⟨_, rfl, by rw [eg3]; exact z3.snoc hu⟩
    rintro σ' H7 ⟨ws, rfl, hw⟩
    have nw := hw.len
    rw [eLn, List.length_append, List.length_append, List.length_append] at nw
    have bds : ∀ y ∈ crLines d1 d2 a st j0 o l c1 c2 Ld, -(10 ^ 50) ≤ y.1 ∧ -(10 ^ 40) ≤ y.2 ∧ y.2 ≤ 10 ^ 40 := by
      intro y hy
      unfold crLines at hy
      rw [List.mem_append, List.mem_append, List.mem_append] at hy
      rcases hy with ((hy | hy) | hy) | hy
      · obtain ⟨m, hm, rfl⟩ := List.mem_map.mp hy
        obtain ⟨m0, m1⟩ := lb m (Option.mem_toList.mp hm)
        show -(10 ^ 50) ≤ m - a ∧ -(10 ^ 40) ≤ -st ∧ -st ≤ 10 ^ 40
        omega
      · obtain ⟨c, hc', rfl⟩ := List.mem_map.mp hy
        obtain ⟨c0, c1⟩ := hc1 c (Option.mem_toList.mp hc')
        show -(10 ^ 50) ≤ c - 1 - a ∧ -(10 ^ 40) ≤ -st ∧ -st ≤ 10 ^ 40
        omega
      · obtain ⟨c, hc', rfl⟩ := List.mem_map.mp hy
        obtain ⟨c0, c1⟩ := hc2 c (Option.mem_toList.mp hc')
        show -(10 ^ 50) ≤ c - 1 - j0 ∧ -(10 ^ 40) ≤ -o ∧ -o ≤ 10 ^ 40
        omega
      · obtain ⟨c, hc', rfl⟩ := List.mem_map.mp hy
        obtain ⟨c0, c1⟩ := hLd c (Option.mem_toList.mp hc')
        show -(10 ^ 50) ≤ d1 + a - d2 - j0 - c ∧ -(10 ^ 40) ≤ st - o ∧ st - o ≤ 10 ^ 40
        omega
    refine ⟨_, rfl, L, ws, 10 ^ 50, rfl, hw.at_, hw.tp, by omega, by decide, fun z hz => bds z.2 (by rw [← hw.mp]; exact List.mem_map.mpr ⟨z, hz, rfl⟩), fun rx v8 H8 lx xm hv8 sm8 => ?_⟩
    rw [hw.mp] at lx
    have R9 := cr_span s2n Cm hj ho lx
    have sm9 := sm.trans (hw.sm.trans sm8)
    refine ⟨_, rfl, rfl, _, rfl, ?_⟩
    cases rx with
    | none =>
      have hv8 : v8 = .non := hv8
      subst hv8
      exact q none .non _ R9 (fun f st m e => by cases e) rfl sm9
    | some y =>
      obtain ⟨x, b⟩ := y
      obtain ⟨t8, rfl, ht8⟩ := hv8
      have x0 : 0 ≤ x := lx.1
      have x1 := xm x b rfl
      have xb := mul_bd (a := x) (b := st) (A := 10 ^ 50) (B := 10 ^ 18) x0 x1 (by omega) (by omega) (by decide)
      refine ⟨_, rfl, t8, _, rfl, SqT.of ht8, rfl, _, _, rfl, _, _, rfl, rfl, ?_⟩
      refine ⟨_, rfl, _, rfl, _, rfl, _, _, rfl, rfl, wide_mul (a := 400) (b := 64) (by omega) (by omega) (by decide) (by decide) (by decide), _, _, rfl, rfl, _, rfl, _, rfl, rfl, _, rfl, ?_⟩
      have fin : ∀ (u : Addr) (m' : Option Int), H8 u = none → m' = b.map (fun m => m - x + 1) → Q (.ref u) (upd H8 u (.tup [.int (a + x * st), .int st, optV m'])) := by
        intro u m' hu em
        subst em
        exact q _ _ _ R9 (fun f st' m e => by
          have e := Option.some.inj e
          have e1 : a + x * st = f := congrArg (·.1) e
          have e2 : st = st' := congrArg (·.2.1) e
          omega) ⟨u, rfl, upd_same⟩ (sm9.trans (same_new hu _))
      cases b with
      | none => exact ⟨(by show 3 ≤ sizeLine; decide), fun u hu => fin u none hu rfl⟩
      | some m => exact ⟨_, rfl, _, rfl, _, _, rfl, rfl, _, _, rfl, rfl, (by show 3 ≤ sizeLine; decide), fun u hu => fin u (some (m - x + 1)) hu rfl⟩
end
/-! ### first_block -/
/-- crossing, as first_block calls it -/
def CrC (P : Program) (w : World) (K : PySem.W.Frag) (mg : Str → Option Value) (base : Heap) (C : Addr) : Prop := ∃ (f : Addr) (fd : FuncData), FnOk P w K mg base CX0 5 f fd P_crossing (spCr C) ∧ PySem.W.keepIn K (.ref f) = true ∧ mg "crossing" = some (.ref f) ∧
  ∃ g, KBn K fd P_crossing 2 ["other_count", "lead"] g (fun vs zs => vs ++ ([.non] ++ zs))
theorem CrC.of {P : Program} {w : World} {K : PySem.W.Frag} {mg : Str → Option Value} {base : Heap} {C : Addr} {f : Addr} {fd : FuncData} (F : CrF K f fd) (h : FnOk P w K mg base CX0 5 f fd P_crossing (spCr C)) (m : mg "crossing" = some (.ref f)) : CrC P w K mg base C := by
  refine ⟨f, fd, h, F.kp, m, ?_⟩
  obtain ⟨mv, h⟩ := FunD.kbinds0 F (ps := P_crossing) 2 ["other_count", "lead"] [("count", .non)] (fun us mv ws => us ++ (mv ++ ws)) (by simp) (fun q hq => by simp only [List.mem_cons, List.not_mem_nil, or_false] at hq; subst hq; exact List.mem_cons_self) (fun r1 r2 r3 => r1.append (r2.append r3)) fun D doc pm an cdv ct us mv ws h1 h2 h3 => match us, mv, ws, h1, h2, h3 with | [_, _], [_], [_, _], _, _, _ => ⟨_, _, _, _, _, _, rfl, rfl, rfl⟩
  exact ⟨_, h⟩
theorem pe_crOL {X : Cx} {C : Addr} {e : Expr} {es : List Expr} {kws : List Keyword} {t tk : TA} {p pos : Pos} (c : CrC X.prog X.w X.K X.mg X.base C) (hr : Room 5 X.A) (ha : PA X (e :: es) t) (hkw : PK X kws tk) (hg : Gl X "crossing" := by rfl)
    (hall : (backToKw pos (keywordEach kws X.env)).all (·.1.isSome) = true := by rfl) (hks : (backToKw pos (keywordEach kws X.env)).filterMap (·.1) = (["other_count", "lead"] : List Str) := by rfl)
    (he : starEach (e :: es) X.env = (false, eval e X.env) :: starEach es X.env := by rfl)
    (hpl : ((backTo pos (starEach (e :: es) X.env)).any (·.1) || (backToKw pos (keywordEach kws X.env)).any (·.1.isNone)) = false := by rfl) :
    PE X (.Call (.Name "crossing" p) (e :: es) kws pos) (tCallN 2 2 (spCr C) (fun vs zs => vs ++ ([.non] ++ zs)) E0 t tk) := by
  obtain ⟨f, fd, F, kp, m, g, b⟩ := c
  exact pe_callN F hr hg m kp b pass0 ha hkw hall hks (he := he) (hpl := hpl)
abbrev s_first_block : Stmt := (topS 35)
abbrev N_sc_first_block : List Str := ["one", "other", "count", "is_earlier", "numbers"]
abbrev P_first_block : List Str := ["one", "other", "count", "is_earlier"]
theorem sc_first_block : FnScope N_sc_first_block P_first_block (defScope s_first_block) := ⟨rfl, rfl, rfl, by decide +kernel, rfl, by decide +kernel, by decide +kernel⟩
def spFB (C : Addr) : Sp := fun vs H Q _ => ∃ (a1 a2 : Addr) (nm1 : Str) (d1 p1 s1 : Int) (nm2 : Str) (d2 p2 s2 : Int) (cnt : Option Int) (fl : Bool), vs = [.ref a1, .ref a2, optV cnt, .bl fl] ∧ Two C H a1 a2 nm1 d1 p1 s1 nm2 d2 p2 s2 ∧ (∀ c, cnt = some c → 0 ≤ c ∧ c ≤ 10 ^ 80) ∧
  ∀ (r : Option Int) (H' : Hp), Least (Blk p1 d1 s1 p2 d2 s2 cnt fl) r → (∀ n, r = some n → n ≤ 10 ^ 70) → Same H H' → Q (optV r) H'
/-- first_block, as it can be called -/
def FBk (K : PySem.W.Frag) (f : Addr) (fd : FuncData) : Prop := FunD K "first_block" "first_block" (defArgs s_first_block) (defBody s_first_block) (defScope s_first_block) [] [("count", .non), ("is_earlier", .bl false)] f fd
section
variable {P : Program} {w : World} {K : PySem.W.Frag} {mg : Str → Option Value} {base : Heap} {C : Addr}
theorem ok_fb {f : Addr} {fd : FuncData} (F : FBk K f fd) (B : Blt mg) (T : PTxt K mg C) (CC : Cal P w K mg base 3 "check_count" P_check_count spCount) (CCr : CrC P w K mg base C) : FnOk P w K mg base CX0 6 f fd P_first_block (spFB C) := by
  refine FunD.ok F sc_first_block (fun vs H Q E h => ?_) (fun cdv A outer s H vs Q E hr h => ?_)
  · obtain ⟨a1, a2, _, _, _, _, _, _, _, _, _, _, rfl, _⟩ := h
    rfl
  obtain ⟨a1, a2, nm1, d1, p1, s1, nm2, d2, p2, s2, cnt, fl, rfl, Tw, hc, q⟩ := h
  refine ⟨_, PSs.nox (C8.pss_cut (ps_if (pt_cmpR op_notN (pv 2) pe_non (nomark _)) (pss_one (ps_expr (pe_cal CC (hr.mono (by decide)) (pa_cons (pv 2) pa_nil)))) pss_nil) (pss_cons (ps_set (i := 4) sc_first_block.nd rfl (Or.inl rfl) (pe_crOL CCr (hr.mono (by decide)) (pa_cons (pv 0) (pa_cons (pv 1) pa_nil)) (pk_cons (pv 2) (pk_cons (pe_ifExp (pt_val (pv 3)) pe_int pe_int) pk_nil)))) (pss_one (ps_ret (pe_ifExp (pt_cmpR op_isN (pv 4) pe_non (nomark _)) pe_non (pe_ix (show IxR _ (rIxT K) from ix_tup) (pv 4) pe_int (fun _ _ => rfl))))))), ?_⟩
  refine ⟨fun σ' H' => σ' = [some (.ref a1), some (.ref a2), some (optV cnt), some (.bl fl), none] ∧ H' = H, ?_, ?_⟩
  · refine ⟨_, rfl, rfl, _, rfl, ?_⟩
    cases cnt with
    | none => exact ⟨rfl, rfl⟩
    | some c => exact ⟨_, rfl, c, rfl, (hc c rfl).1, (hc c rfl).2, rfl, rfl⟩
  rintro σ' H' ⟨rfl, rfl⟩
  have ic : InB cnt := hc
  cases fl
  all_goals
    refine ⟨_, rfl, _, rfl, _, rfl, _, rfl, _, rfl, ?_⟩
    first | refine iteT ?_ | refine iteF ?_
    refine ⟨rfl, rfl, a1, a2, nm1, d1, p1, s1, nm2, d2, p2, s2, none, cnt, some _, rfl, Tw, (fun c e => by cases e), ic, (fun c e => by cases e; decide), fun r v H1 R bd hv sm => ?_⟩
    refine ⟨_, rfl, rfl, _, rfl, ?_⟩
    cases r with
    | none =>
      have hv : v = .non := hv
      subst hv
      exact q none H1 (cr_block (fl := _) (r := none) R) (fun n e => by cases e) sm
    | some z =>
      obtain ⟨f, st, m⟩ := z
      obtain ⟨t, rfl, ht⟩ := hv
      have b := (bd f st m rfl).1
      exact ⟨_, rfl, t, _, _, _, rfl, rfl, SqT.of ht, atI_nat (j := 0) rfl, q (some f) H1 (cr_block (fl := _) (r := some (f, st, m)) R) (fun n e => by cases e; exact b) sm⟩
end
end Ur
/-! KFC: the ways first_block is called. -/
namespace Ur
open PySem PySem.Spec PyProof.Rows L2
/-- first_block, with all the ways its arguments are bound -/
def FBC (P : Program) (w : World) (K : PySem.W.Frag) (mg : Str → Option Value) (base : Heap) (C : Addr) : Prop := ∃ (f : Addr) (fd : FuncData), FnOk P w K mg base CX0 6 f fd P_first_block (spFB C) ∧ PySem.W.keepIn K (.ref f) = true ∧ mg "first_block" = some (.ref f) ∧
  (∃ ds, Vals [.non, .bl false] ds ∧ Binds K fd P_first_block ds) ∧ (∃ g, KBn K fd P_first_block 2 ["count", "is_earlier"] g (fun vs zs => vs ++ ([] ++ zs))) ∧ (∃ g, KBn K fd P_first_block 2 ["is_earlier"] g (fun vs zs => vs ++ ([.non] ++ zs))) ∧ (∃ g, KBn K fd P_first_block 2 ["count"] g (fun vs zs => vs ++ (zs ++ [.bl false])))
theorem FBC.of {P : Program} {w : World} {K : PySem.W.Frag} {mg : Str → Option Value} {base : Heap} {C : Addr} {f : Addr} {fd : FuncData} (F : FBk K f fd) (h : FnOk P w K mg base CX0 6 f fd P_first_block (spFB C)) (m : mg "first_block" = some (.ref f)) : FBC P w K mg base C := by
  refine ⟨f, fd, h, F.kp, m, ?_, ?_, ?_, ?_⟩
  · exact FunD.binds0 F 2 (by simp) rfl fun D doc pm an cdv ct us ks h1 h2 => match us, ks, h1, h2 with | [_, _], [_, _], _, _ => ⟨_, _, _, _, _, _, rfl, rfl, ⟨_, _, _, _, _, _, rfl, rfl, rfl⟩⟩
  · obtain ⟨mv, h⟩ := FunD.kbinds0 F (ps := P_first_block) 2 ["count", "is_earlier"] [] (fun us mv ws => us ++ (mv ++ ws)) (by simp) (fun q hq => by cases hq) (fun r1 r2 r3 => r1.append (r2.append r3)) fun D doc pm an cdv ct us mv ws h1 h2 h3 => match us, mv, ws, h1, h2, h3 with | [_, _], [], [_, _], _, _, _ => rfl
    exact ⟨_, h⟩
  · obtain ⟨mv, h⟩ := FunD.kbinds0 F (ps := P_first_block) 2 ["is_earlier"] [("count", .non)] (fun us mv ws => us ++ (mv ++ ws)) (by simp) (fun q hq => by simp only [List.mem_cons, List.not_mem_nil, or_false] at hq; subst hq; exact List.mem_cons_self) (fun r1 r2 r3 => r1.append (r2.append r3)) fun D doc pm an cdv ct us mv ws h1 h2 h3 => match us, mv, ws, h1, h2, h3 with | [_, _], [_], [_], _, _, _ => ⟨_, _, _, _, _, _, rfl, rfl, rfl⟩
    exact ⟨_, h⟩
  · obtain ⟨mv, h⟩ := FunD.kbinds0 F (ps := P_first_block) 2 ["count"] [("is_earlier", .bl false)] (fun us mv ws => us ++ (ws ++ mv)) (by simp) (fun q hq => by simp only [List.mem_cons, List.not_mem_nil, or_false] at hq; subst hq; exact List.mem_cons_of_mem _ List.mem_cons_self) (fun r1 r2 r3 => r1.append (r3.append r2)) fun D doc pm an cdv ct us mv ws h1 h2 h3 => match us, mv, ws, h1, h2, h3 with | [_, _], [_], [_], _, _, _ => ⟨_, _, _, _, _, _, rfl, rfl, rfl⟩
    exact ⟨_, h⟩
section
variable {X : Cx} {C : Addr} {e : Expr} {es : List Expr} {kws : List Keyword} {t tk : TA} {p pos : Pos}
theorem pe_fb0 (c : FBC X.prog X.w X.K X.mg X.base C) (hr : Room 6 X.A) (ha : PA X (e :: es) t) (hg : Gl X "first_block" := by rfl)
    (he : starEach (e :: es) X.env = (false, eval e X.env) :: starEach es X.env := by rfl) (hpl : (backTo pos (starEach es X.env)).any (·.1) = false := by rfl) :
    PE X (.Call (.Name "first_block" p) (e :: es) [] pos) (tCall (spFB C) [.non, .bl false] E0 t) := by
  obtain ⟨f, fd, F, kp, m, ⟨ds, hd, b⟩, _⟩ := c
  exact pe_call F hr hg m kp b hd pass0 ha (he := he) (hpl := hpl)
theorem pe_fbCE (c : FBC X.prog X.w X.K X.mg X.base C) (hr : Room 6 X.A) (ha : PA X (e :: es) t) (hkw : PK X kws tk) (hg : Gl X "first_block" := by rfl)
    (hall : (backToKw pos (keywordEach kws X.env)).all (·.1.isSome) = true := by rfl) (hks : (backToKw pos (keywordEach kws X.env)).filterMap (·.1) = (["count", "is_earlier"] : List Str) := by rfl)
    (he : starEach (e :: es) X.env = (false, eval e X.env) :: starEach es X.env := by rfl)
    (hpl : ((backTo pos (starEach (e :: es) X.env)).any (·.1) || (backToKw pos (keywordEach kws X.env)).any (·.1.isNone)) = false := by rfl) :
    PE X (.Call (.Name "first_block" p) (e :: es) kws pos) (tCallN 2 2 (spFB C) (fun vs zs => vs ++ ([] ++ zs)) E0 t tk) := by
  obtain ⟨f, fd, F, kp, m, _, ⟨g, b⟩, _⟩ := c
  exact pe_callN F hr hg m kp b pass0 ha hkw hall hks (he := he) (hpl := hpl)
theorem pe_fbE (c : FBC X.prog X.w X.K X.mg X.base C) (hr : Room 6 X.A) (ha : PA X (e :: es) t) (hkw : PK X kws tk) (hg : Gl X "first_block" := by rfl)
    (hall : (backToKw pos (keywordEach kws X.env)).all (·.1.isSome) = true := by rfl) (hks : (backToKw pos (keywordEach kws X.env)).filterMap (·.1) = (["is_earlier"] : List Str) := by rfl)
    (he : starEach (e :: es) X.env = (false, eval e X.env) :: starEach es X.env := by rfl)
    (hpl : ((backTo pos (starEach (e :: es) X.env)).any (·.1) || (backToKw pos (keywordEach kws X.env)).any (·.1.isNone)) = false := by rfl) :
    PE X (.Call (.Name "first_block" p) (e :: es) kws pos) (tCallN 2 1 (spFB C) (fun vs zs => vs ++ ([.non] ++ zs)) E0 t tk) := by
  obtain ⟨f, fd, F, kp, m, _, _, ⟨g, b⟩, _⟩ := c
  exact pe_callN F hr hg m kp b pass0 ha hkw hall hks (he := he) (hpl := hpl)
theorem pe_fbC (c : FBC X.prog X.w X.K X.mg X.base C) (hr : Room 6 X.A) (ha : PA X (e :: es) t) (hkw : PK X kws tk) (hg : Gl X "first_block" := by rfl)
    (hall : (backToKw pos (keywordEach kws X.env)).all (·.1.isSome) = true := by rfl) (hks : (backToKw pos (keywordEach kws X.env)).filterMap (·.1) = (["count"] : List Str) := by rfl)
    (he : starEach (e :: es) X.env = (false, eval e X.env) :: starEach es X.env := by rfl)
    (hpl : ((backTo pos (starEach (e :: es) X.env)).any (·.1) || (backToKw pos (keywordEach kws X.env)).any (·.1.isNone)) = false := by rfl) :
    PE X (.Call (.Name "first_block" p) (e :: es) kws pos) (tCallN 2 1 (spFB C) (fun vs zs => vs ++ (zs ++ [.bl false])) E0 t tk) := by
  obtain ⟨f, fd, F, kp, m, _, _, _, ⟨g, b⟩⟩ := c
  exact pe_callN F hr hg m kp b pass0 ha hkw hall hks (he := he) (hpl := hpl)
end
end Ur
/-! UrE: for i, x in enumerate(t), t a tuple; instances made with a star among the arguments. -/
namespace Ur
open PySem PySem.Spec PyProof.Rows L2
theorem meets_enumerate_newB1 {v : Value} {o : Obj} {H : Heap → Prop} (B : Begins v o H) :
    Meets (Builtin.«enumerate.__new__» ⟨[.type "enumerate", v], []⟩) (fun _ R s => H s.heap ∧
      R (.ok (.ret (.ref (s.heap.push o).objs.size))) { s with heap := (s.heap.push o).push { cls := .type "enumerate", data := .fields #[.none, .bool false, .ref s.heap.objs.size, rawInt 0, .none, .none] } }) :=
  .of_wp fun prog w A R s h => by
    obtain ⟨hp, g, d, tk, os⟩ := s; obtain ⟨h1, h⟩ := h
    have hsub := sub_enumerate
    have q1 : ∀ {A' : Around} {E : Value → Shared → Prop} {Q : Value → Shared → Prop}, Q (.ref hp.objs.size) ⟨hp.push o, g, d, tk, os⟩ → wpAny (model prog w) A' (pyIter v) Q E ⟨hp, g, d, tk, os⟩ :=
      fun q => B.iter prog w _ _ ⟨hp, g, d, tk, os⟩ _ h1 q
    wp_walk using q1
    refine wpAny_stack_any fun st => wpAny_pure ?_
    split
    · rename_i c _ _ _ _ _
      cases (c == Value.type "enumerate")
      · wp_walk using q1
        exact ⟨_, rfl, h⟩
      · wp_walk using q1
        exact ⟨_, rfl, h⟩
    · wp_walk using q1
      exact ⟨_, rfl, h⟩
section
variable {prog : Program} {w : World} {A : Around} {E : Value → Shared → Prop} {s : Shared}
theorem enum_begins1 {v : Value} {o : Obj} {H : Heap → Prop} {Q : Value → Shared → Prop} (B : Begins v o H) (h1 : H s.heap)
    (h : ∀ h', IsEnum h' (s.heap.objs.size + 1) s.heap.objs.size 0 .none → h'.get? s.heap.objs.size = some o → h'.objs.size = s.heap.objs.size + 2 →
      (∀ b o, s.heap.get? b = some o → h'.get? b = some o) → Q (.ref (s.heap.objs.size + 1)) { s with heap := h' }) :
    wpAny (model prog w) A (call (.type "enumerate") [v]) Q E s := by
  refine callType_new F.called_enumerate (by decide) (F.typeCall_enumerate_1 _) (F.newCall_enumerate_1 _) (fun obj => F.args_object_init_2 obj _) F.entry_enumerate_new
    (meets_enumerate_newB1 B) ⟨h1, ?_⟩
  have hz : (s.heap.push o).objs.size = s.heap.objs.size + 1 := Heap.size_push ..
  show _ ∧ _
  rw [hz]
  have he : IsEnum ((s.heap.push o).push { cls := .type "enumerate", data := .fields #[.none, .bool false, .ref s.heap.objs.size, rawInt 0, .none, .none] }) (s.heap.objs.size + 1) s.heap.objs.size 0 .none := by
    have := Heap.get?_push_size (s.heap.push o) (o := { cls := .type "enumerate", data := .fields #[.none, .bool false, .ref s.heap.objs.size, rawInt 0, .none, .none] }) rfl
    rw [hz] at this; exact this
  refine ⟨⟨_, he, rfl⟩, h _ he (Heap.get?_push_of_some _ (Heap.get?_push_size _ B.free)) (by rw [Heap.size_push, hz]) fun b o x => Heap.get?_push_of_some _ (Heap.get?_push_of_some _ x)⟩
end
/-- the tuple at a, each item in a new pair -/
def Ient (K : PySem.W.Frag) (a : Addr) : It :=
  ⟨fun i H => ∃ (xs : List V) (x : V), SqT K H a xs ∧ xs[i]? = some x, fun i H v H' => ∃ T x, v = .ref T ∧ H T = none ∧ H' = upd H T (.tup [.int (i : Nat), x]) ∧ ∀ xs, SqT K H a xs → xs[i]? = some x, fun i H => ∃ xs : List V, SqT K H a xs ∧ xs.length = i⟩
theorem turn_enumT {P : Program} {w : World} {K : PySem.W.Frag} {elts : List Expr} {kk : Nat} {tpos : Pos} (a e it : Addr) :
    Turn P w K (.Tuple elts kk tpos) (Ient K a) [e, it] e (fun i h => (∃ old, IsEnum h e it ((i : Nat) : Int) old) ∧ h.IsTupleIter it a i ∧ e ≠ it ∧ a ≠ it ∧ e ≠ a) where
  mem := by simp
  obj := fun i h st b hb => by
    obtain ⟨⟨old, he⟩, ⟨o, ho, hc, hd⟩, _⟩ := st
    have e' : b = e ∨ b = it := by simpa using hb
    rcases e' with z | z
    · rw [z]; exact ⟨_, he, fun v q => nomatch q⟩
    · rw [z]; exact ⟨o, ho, fun v q => by rw [hd] at q; cases q⟩
  keep := fun i h h' st k => let ⟨⟨old, he⟩, hi, hne⟩ := st; ⟨⟨old, k e (by simp) _ he⟩, hi.at fun o q => k it (by simp) o q, hne⟩
  item := by
    intro X hP hw hK hc i pins s σ H E I hf st hg
    subst hP hw hK
    obtain ⟨⟨old, he⟩, hit, hne, hai, hea⟩ := st
    obtain ⟨xs, x, hq, hx⟩ := hg
    obtain ⟨its, rv, p, hz⟩ := I.tuple hq
    obtain ⟨u, hu, ru⟩ := rv.get hx
    have hi : i < its.toArray.size := by
      have := (List.getElem?_eq_some_iff.mp hu).1
      simpa using this
    have hel : e < s.heap.objs.size := Heap.lt_size he
    have hil : it < s.heap.objs.size := by obtain ⟨_, q, _⟩ := hit; exact Heap.lt_size q
    have D := Draws.tuple (prog := X.prog) (w := X.w) (A := X.A.in1) (I.ok.hd hc) it a hai its.toArray
    refine wpAny_pyNext_enum_itemD D he ⟨hit, p⟩ hi hne (by simp [hne, hea]) fun x0 h' tk hP ho hst' hT hsz hk => ?_
    have ex : x0 = u := by
      have hP : its.toArray[i]? = some x0 := hP
      have h2 : its.toArray[i]? = some u := by simpa using hu
      rw [hP] at h2
      exact Option.some.inj h2
    subst ex
    refine ⟨_, rfl, wpAny_letOwnedTupleGo_enum (s := { s with heap := h', toks := tk + 1 }) ho fun h'' he' sb => ?_⟩
    have hT2 : h''.get? s.heap.objs.size = some { cls := .type "tuple", data := .seq #[.int i tk, x0] } := (sb.2 _ (Nat.ne_of_gt hel)).trans hT
    have new : ObjOk X.prog X.w (upd H s.heap.objs.size (.tup [.int (i : Nat), x])) h'' s.heap.objs.size (.tup [.int (i : Nat), x]) :=
      ⟨by show 2 ≤ sizeLine; decide, [.int i tk, x0], .cons ⟨_, rfl⟩ (.cons ru .nil), ⟨_, hT2, rfl, _, rfl⟩⟩
    have I1 : Inv X pins σ (upd H s.heap.objs.size (.tup [.int (i : Nat), x])) { s with heap := h'', toks := tk + 1 } :=
      I.turnedNew (ch := [e, it]) (fun b ob hb q => (sb.2 b (fun z => hb (by simp [z]))).trans (hk b ob (fun z => hb (by simp [z])) (fun z => hb (by simp [z])) q)) hf (Nat.le_refl _) new
    refine ⟨.ref s.heap.objs.size, _, I1, rfl, ⟨_, x, rfl, I.hok.fresh (Nat.le_refl _), rfl, fun ys hy => by rw [I.tuple_inj hy hq]; exact hx⟩, ⟨⟨x0, ?_⟩, hst'.1.at fun o q => (sb.2 it (Ne.symm hne)).trans q, hne, hai, hea⟩, fun b hb => ?_⟩
    · have e1 : ((i + 1 : Nat) : Int) = (i : Int) + 1 := by omega
      rw [e1]; exact he'
    · have hb' : b < s.heap.objs.size := by
        have e' : b = e ∨ b = it := by simpa using hb
        rcases e' with z | z
        · rw [z]; exact hel
        · rw [z]; exact hil
      rw [upd_ne (Nat.ne_of_lt hb')]
      exact (hf b hb).1
  done := by
    intro X hP hw hK hc i pins s σ H E I hf st hg
    subst hP hw hK
    obtain ⟨⟨old, he⟩, hit, hne, hai, hea⟩ := st
    obtain ⟨xs, hq, hx⟩ := hg
    obtain ⟨its, rv, p, hz⟩ := I.tuple hq
    obtain ⟨f0, f1, f2, f3, f4, f5⟩ := hf it (by simp)
    have hl := rv.length
    have D := Draws.tuple (prog := X.prog) (w := X.w) (A := X.A.in1) (I.ok.hd hc) it a hai its.toArray
    have en : i = its.toArray.size := by simp; omega
    rw [en] at hit
    exact wpAny_pyNext_enum_endD D he ⟨hit, p⟩ fun h' eb => ⟨rfl, I.turned (t' := s.toks) (fun b o hb q => eb b o hb q) f0 f1 f3 f4 f5⟩
  self := fun A i s Q E st h => let ⟨⟨_, he⟩, _⟩ := st; wpAny_pyIter_enum he h
def iEnumT (K : PySem.W.Frag) (ta : TA) : TI := fun σ H R => ta σ H fun vs H1 => ∃ a xs, vs = [.ref a] ∧ SqT K H1 a xs ∧ R (Ient K a) H1
theorem pi_enumT {X : Cx} {e : Expr} {ta : TA} {p pos tpos : Pos} {elts : List Expr} {kk : Nat} (hg : Gl X "enumerate") (hm : X.mg "enumerate" = none) (ha : PA X [e] ta) (hs : starEach [e] X.env = [(false, eval e X.env)] := by rfl) :
    PI X (.Tuple elts kk tpos) (.Call (.Name "enumerate" p) [e] [] pos) (iEnumT X.K ta) := by
  refine ⟨fun pins s σ H R I h => ?_⟩
  refine Call_ (ld_blt I hg hm boot_enumerate (PyProof.Rows.callWith_type1 (thn (ha.run pos pins s σ H _ I h) fun us s1 ⟨vs, H1, I1, r1, q1⟩ => ?_) hs rfl))
  obtain ⟨a, xs, ex, hq, q⟩ := q1
  subst ex
  cases r1 with
  | cons r rr =>
    cases rr
    cases r
    obtain ⟨its, rv, p', hz⟩ := I1.tuple hq
    have p' : s1.heap.IsTuple a its.toArray := p'
    have hal : a < s1.heap.objs.size := by obtain ⟨_, q, _⟩ := p'; exact Heap.lt_size q
    refine enum_begins1 (begins_tuple a its.toArray) p' fun h' he hit hsz hk => wpAny_pyIter_enum he ?_
    have I2 : Inv X pins σ H1 { s1 with heap := h' } := I1.kept (t' := s1.toks) hk
    refine ⟨s1.heap.objs.size + 1, [s1.heap.objs.size + 1, s1.heap.objs.size], _, _, H1, rfl, I2, turn_enumT a (s1.heap.objs.size + 1) s1.heap.objs.size, ⟨⟨.none, he⟩, ⟨_, hit, rfl, rfl⟩, Nat.succ_ne_self _, Nat.ne_of_lt hal, ?_⟩, fun b hb => ?_, q⟩
    · exact fun z => absurd (show s1.heap.objs.size + 1 < s1.heap.objs.size from z ▸ hal) (by omega)
    have e' : b = s1.heap.objs.size + 1 ∨ b = s1.heap.objs.size := by simpa using hb
    have hle : s1.heap.objs.size ≤ b := by
      rcases e' with z | z
      · rw [z]; exact Nat.le_add_right _ _
      · rw [z]; exact Nat.le_refl _
    exact I1.fpOk hle (I1.hok.fresh hle)
theorem walk_enumT {K : PySem.W.Frag} {a : Addr} {xs : List V} : Walk (Ient K a) xs.length (fun H => SqT K H a xs) (YPair (fun i => some (.int (i : Nat))) (fun i => xs[i]?)) := by
  refine ⟨fun i _ hi q => ⟨xs, xs[i], q, by simp [hi]⟩, fun _ q => ⟨xs, q, rfl⟩, fun i H v H' _ q y => ?_⟩
  obtain ⟨T, x, h1, h2, h3, h4⟩ := y
  exact ⟨T, .int (i : Nat), x, h1, h2, h3, rfl, h4 xs q⟩
/-! ### C( *y), C( *y, e) -/
theorem evalArgs_star2 {M : Model} {A : Around} {E : Value → Shared → Prop} {s : Shared} {f : Value} {x : Sem Value} {y : Bool × Sem Value} {rest : List (Bool × Sem Value)} {Q : Args → Shared → Prop}
    (h : wpAny M A (spliced ((true, x) :: y :: rest)) (fun vs s' => Q ⟨vs, []⟩ s') E s) : wpAny M A (evalArgs f true ((true, x) :: y :: rest) []) Q E s := by
  unfold evalArgs
  show wpAny M A (spliced ((true, x) :: y :: rest) >>= _) Q E s
  refine wpAny_bind (wpAny_mono h (fun vs s' h' => ?_) fun _ _ x => x)
  refine wpAny_holding ?_
  exact wpAny_bind (wpAny_pure (wpAny_bind (wpAny_pure (wpAny_pure h'))))
section
variable {X : Cx} {CX : CXT} {k : Nat} {f C : Addr} {sp : Sp} {E : XK} {x : Str} {e e2 : Expr} {te : TE} {t : TA} {p sp_ pos : Pos}
/-- C( *y): a tuple or a list -/
theorem pe_makeS1 (M : Mk X.K C f) (F : FnR X.prog X.w X.K X.mg X.base CX k f sp) (hr : Room (k + 1) X.A) (hg : Gl X x) (hm : X.mg x = some (.ref C)) (hx : Passes CX X E) (he : PE X e te) (hd : (x == ("__debug__" : Str)) = false := by decide)
    (hst : starEach [.Starred e sp_] X.env = [(true, eval e X.env)] := by rfl) :
    PE X (.Call (.Name x p) [.Starred e sp_] [] pos) (fun σ H Q => te σ H fun y H1 => ∃ a xs, y = V.ref a ∧ (SqT X.K H1 a xs ∨ SqL X.K H1 a xs) ∧ ∀ x dx, H1 x = Option.none → H1 dx = Option.none → dx ≠ x →
      sp (V.ref x :: xs) (upd (upd H1 dx (.own x)) x (.ins C dx [])) (fun v H2 => v = .non ∧ Q (.ref x) H2) E) := by
  refine ⟨fun pins s σ H Q I h => ?_⟩
  refine wpAny_Call_Name_kw (ld_glob I hg hm ?_ hd)
  refine PySem.W.callWith_S (h₀ := X.base) I.ok.mod.kin M.kp (thn (he.run pins s σ H _ I h) fun v s1 ⟨y, H1, I1, ry, a, xs, ey, hxs, q⟩ => ?_) hst
  subst ey
  obtain rfl : v = Value.ref a := ry
  exact StX.star_any I1 hxs fun us s2 I2 rv => ⟨I2.kIn, StX.run_makeR M F hr hx I2 rv q⟩
/-- C( *y, e) -/
theorem pe_makeS2 (M : Mk X.K C f) (F : FnR X.prog X.w X.K X.mg X.base CX k f sp) (hr : Room (k + 1) X.A) (hg : Gl X x) (hm : X.mg x = some (.ref C)) (hx : Passes CX X E) (ha : PA X [.Starred e sp_, e2] t) (hd : (x == ("__debug__" : Str)) = false := by decide)
    (hst : starEach [.Starred e sp_, e2] X.env = [(true, eval e X.env), (false, eval e2 X.env)] := by rfl) :
    PE X (.Call (.Name x p) [.Starred e sp_, e2] [] pos) (StX.tMakeR C sp E t) := by
  refine ⟨fun pins s σ H Q I h => ?_⟩
  refine wpAny_Call_Name_kw (ld_glob I hg hm ?_ hd)
  have z := thn (ha.run pos pins s σ H _ I h) fun us s1 ⟨vs, H1, I1, r, q⟩ => (⟨I1.kIn, StX.run_makeR M F hr hx I1 r q⟩ : X.K.In s1.heap ∧ wpAny (model X.prog X.w) X.A (call (.ref C) ([] ++ us)) (EP X pins σ Q) X.xe s1)
  rw [hst] at z ⊢
  exact PySem.W.ks_call rfl (PySem.W.keeps_K M.kp) (evalArgs_star2 z)
/-- C() -/
theorem pe_makeR0 (M : Mk X.K C f) (F : FnR X.prog X.w X.K X.mg X.base CX k f sp) (hr : Room (k + 1) X.A) (hg : Gl X x) (hm : X.mg x = some (.ref C)) (hx : Passes CX X E) (hd : (x == ("__debug__" : Str)) = false := by decide) :
    PE X (.Call (.Name x p) [] [] pos) (fun σ H1 Q => ∀ x dx, H1 x = Option.none → H1 dx = Option.none → dx ≠ x → sp [V.ref x] (upd (upd H1 dx (.own x)) x (.ins C dx [])) (fun v H2 => v = .non ∧ Q (.ref x) H2) E) := by
  refine ⟨fun pins s σ H Q I h => ?_⟩
  refine wpAny_Call_Name_kw (ld_glob I hg hm ?_ hd)
  exact PySem.W.callWith_K0 I.kIn M.kp (StX.run_makeR (us := []) M F hr hx I .nil h)
end
end Ur
/-! FA: a fence is made: Fence.__init__. -/
namespace Ur
open PySem PySem.Spec PyProof.Rows L2
/-- a painter as it stands -/
structure Pt where
  a : Addr
  nm : Str
  d : Int
  p : Int
  s : Int
def PtAt (C : Addr) (H : Hp) (x : Pt) : Prop := PnAt C H x.a x.nm x.d x.p x.s ∧ PartOk x.nm x.d x.p x.s
def refsOf (L : List Pt) : List V := L.map fun x => V.ref x.a
def kvOf (L : List Pt) : List (Key × V) := L.map fun x => (Sum.inr x.nm, V.ref x.a)
def ffs (t d : Addr) : List (Str × V) := [("_painters", .ref t), ("_by_name", .ref d)]
theorem ffs_p (t d : Addr) : (ffs t d).lookup ("_painters" : Str) = some (V.ref t) := rfl
theorem ffs_b (t d : Addr) : (ffs t d).lookup ("_by_name" : Str) = some (V.ref d) := rfl
/-- painters that can stand in a fence -/
structure Crew (C : Addr) (H : Hp) (L : List Pt) : Prop where
  at_ : ∀ x ∈ L, PtAt C H x
  nd : (L.map Pt.nm).Nodup
  few : L.length ≤ 40
/-- a fence stands at f -/
structure FcAt (C CF : Addr) (H : Hp) (f : Addr) (L : List Pt) : Prop where
  ex : ∃ dx t d, H f = some (.ins CF dx (ffs t d)) ∧ H t = some (.tup (refsOf L)) ∧ H d = some (.dK (kvOf L))
  crew : Crew C H L
theorem PtAt.same {C : Addr} {H H' : Hp} {x : Pt} (h : PtAt C H x) (s : Same H H') : PtAt C H' x := let ⟨⟨dx, e⟩, z⟩ := h; ⟨⟨dx, s _ _ e⟩, z⟩
theorem Crew.same {C : Addr} {H H' : Hp} {L : List Pt} (h : Crew C H L) (s : Same H H') : Crew C H' L := ⟨fun x hx => (h.at_ x hx).same s, h.nd, h.few⟩
theorem FcAt.same {C CF : Addr} {H H' : Hp} {f : Addr} {L : List Pt} (h : FcAt C CF H f L) (s : Same H H') : FcAt C CF H' f L :=
  let ⟨dx, t, d, h1, h2, h3⟩ := h.ex
  ⟨⟨dx, t, d, s _ _ h1, s _ _ h2, s _ _ h3⟩, h.crew.same s⟩
theorem valV_of {L : List Pt} {nm : Str} (h : nm ∉ L.map Pt.nm) : valV (kvOf L) (Sum.inr nm : Key) = none := by
  induction L with
  | nil => rfl
  | cons x r ih =>
    have h1 : ¬ nm = x.nm := fun e => h (by rw [e]; exact List.mem_cons_self)
    have h2 : nm ∉ r.map Pt.nm := fun e => h (List.mem_cons_of_mem _ e)
    show valV ((Sum.inr x.nm, V.ref x.a) :: kvOf r) _ = none
    rw [valV_neg (fun e => h1 (Sum.inr.inj e).symm)]
    exact ih h2
theorem valV_at {L : List Pt} (nd : (L.map Pt.nm).Nodup) {x : Pt} (h : x ∈ L) : valV (kvOf L) (Sum.inr x.nm : Key) = some (V.ref x.a) := by
  induction L with
  | nil => cases h
  | cons y r ih =>
    have nd' := List.nodup_cons.mp nd
    show valV ((Sum.inr y.nm, V.ref y.a) :: kvOf r) _ = _
    rcases List.mem_cons.mp h with rfl | h
    · exact valV_pos rfl
    · have ne : ¬ y.nm = x.nm := fun e => nd'.1 (by rw [e]; exact List.mem_map_of_mem h)
      rw [valV_neg (fun e => ne (Sum.inr.inj e))]
      exact ih nd'.2 h
/-- what the class of fences must have -/
structure FTxt (K : PySem.W.Frag) (mg : Str → Option Value) (CF : Addr) : Prop where
  cl : Cls K CF
  nP : NoAttr K CF "_painters"
  nB : NoAttr K CF "_by_name"
  mgF : mg "Fence" = some (.ref CF)
theorem fun_star {K : PySem.W.Frag} {P : Program} {w : World} {mg : Str → Option Value} {base : Heap} {x qual : Str} {st : Stmt} {f : Addr} {fd : FuncData} {N : List Str} {p1 pv : Str} {k : Nat} {sp : Sp} (F : Fun K x qual st f fd) (S : FnScope N [p1, pv] (defScope st))
    (h0 : ∀ (kV doc pm : Value) (an : Option Addr) (cdv ct : Value) (a : Value), bindArgs (PySem.W.fnOf x qual (defArgs st) (defBody st) (defScope st) .none kV doc pm an cdv ct) ⟨[a], []⟩ = (newTuple [] >>= fun t => pure [(p1, a), (pv, t)]))
    (h1 : ∀ (kV doc pm : Value) (an : Option Addr) (cdv ct : Value) (a r : Value) (rs : List Value), bindArgs (PySem.W.fnOf x qual (defArgs st) (defBody st) (defScope st) .none kV doc pm an cdv ct) ⟨a :: r :: rs, []⟩ = (newTuple (r :: rs) >>= fun t => pure [(p1, a), (pv, t)]))
    (hbody : ∀ (cdv : Value) (A : Around) (outer : List Env) (s : Shared) (H : Hp) (vs : List V) (Q : VK) (E : XK), Room k (A.deeper (envOfC qual (defScope st) s.heap.objs.size f cdv)) → sp vs H Q E →
      ∃ t, PSs (cxOf CX0 P w K mg base N qual (defScope st) f cdv A outer s H E).nox (defBody st) t ∧ t { nx := fun _ H' => Q .non H', rt := Q } (start N vs) H) :
    FnR P w K mg base CX0 (k + 1) f (fun vs H Q E => ∃ w rest, vs = w :: rest ∧ rest.length ≤ sizeLine ∧ ∀ p, H p = Option.none → sp [w, V.ref p] (upd H p (.tup rest)) Q E) := by
  obtain ⟨oc, od, kV, doc, pm, an, cdv, ct, osl, rfl, lk, hcd⟩ := F.ex
  refine (StX.fn_star (ps := [p1]) (pv := pv) (sp := sp) lk hcd S StX.cxUp_none (StX.bind_star1 (B := fun us => bindArgs (PySem.W.fnOf x qual (defArgs st) (defBody st) (defScope st) .none kV doc pm an cdv ct) ⟨us, []⟩) (h0 kV doc pm an cdv ct) (h1 kV doc pm an cdv ct)) fun A outer s H vs Q E hr hsp => ?_).imp ?_
  · obtain ⟨t, h, q⟩ := hbody cdv A outer s H vs Q E hr hsp
    exact ⟨t, h.nox, q⟩
  · rintro vs H Q E ⟨w, rest, rfl, hl, q⟩
    exact ⟨[w], rest, rfl, rfl, hl, q⟩
abbrev s_Fence_init : Stmt := (inClass (topS 48) 0)
abbrev N_sc_Fence_init : List Str := ["self", "painters", "index", "painter", "by_name"]
abbrev P_Fence_init : List Str := ["self", "painters"]
theorem sc_Fence_init : FnScope N_sc_Fence_init P_Fence_init (defScope s_Fence_init) := ⟨rfl, rfl, rfl, by decide +kernel, rfl, by decide +kernel, by decide +kernel⟩
def spFInit (C CF : Addr) : Sp := fun vs H Q _ => ∃ (x dx t : Addr) (L : List Pt), vs = [.ref x, .ref t] ∧ H x = some (.ins CF dx []) ∧ H t = some (.tup (refsOf L)) ∧ Crew C H L ∧
  ∀ H' d, H' x = some (.ins CF dx (ffs t d)) → H' d = some (.dK (kvOf L)) → Keep x H H' → Q .non H'
section
variable {P : Program} {w : World} {K : PySem.W.Frag} {mg : Str → Option Value} {base : Heap}
theorem refs_at {L : List Pt} {i : Nat} {v : V} (h : (refsOf L)[i]? = some v) : ∃ x, L[i]? = some x ∧ v = V.ref x.a := by
  unfold refsOf at h
  rw [List.getElem?_map] at h
  cases e : L[i]? with
  | none => rw [e] at h; cases h
  | some x => rw [e] at h; exact ⟨x, rfl, (Option.some.inj h).symm⟩
theorem take_snoc {α : Type} {L : List α} {i : Nat} {x : α} (h : L[i]? = some x) : L.take (i + 1) = L.take i ++ [x] := by
  rw [List.take_add_one, h]
  rfl
set_option maxHeartbeats 16000000 in
theorem ok_finit {C CF f : Addr} {fd : FuncData} (F : Fun K "__init__" "Fence.__init__" s_Fence_init f fd) (B : Blt mg) (hEn : mg "enumerate" = none) (T : PTxt K mg C) (U : FTxt K mg CF) (hI : C8.InsC K C) (hName : PropS P w K mg base C "name" 1 (getSp C "_name"))
    {uM : Value} (hMP : mg "MAX_PAINTERS" = some uM) (rMP : L2.RelV (.int 40) uM) :
    FnR P w K mg base CX0 3 f (fun vs H Q E => ∃ w rest, vs = w :: rest ∧ rest.length ≤ sizeLine ∧ ∀ p, H p = Option.none → spFInit C CF [w, V.ref p] (upd H p (.tup rest)) Q E) := by
  refine fun_star F (k := 2) sc_Fence_init (fun _ _ _ _ _ _ _ => rfl) (fun _ _ _ _ _ _ _ _ _ => rfl) (fun cdv A outer s H vs Q E hr h => ?_)
  obtain ⟨x, dx, t, L, rfl, hx, ht, cr, q⟩ := h
  have hu := hu_of hr
  refine ⟨_, (pss_cons (ps_for PassesOwn.never rfl (pi_enumT rfl hEn (pa_cons (pv 1) pa_nil)) (pg_tup rfl (pgs_cons (pg_name (i := 2) sc_Fence_init.nd rfl (Or.inl rfl)) (pgs_cons (pg_name (i := 3) sc_Fence_init.nd rfl (Or.inl rfl)) pgs_nil))) (pss_one (ps_if (pt_not (pt_val (pe_callB (C8.call_isC hI) rfl B.isinstance_ (by decide +kernel) (pa_cons (pv 3) (pa_cons (pe_glob (v := V.ref C) rfl T.mgP rfl) pa_nil))))) (pss_one ps_never) pss_nil))) (pss_cons (ps_set (i := 4) sc_Fence_init.nd rfl (Or.inl rfl) pe_dnewK) (pss_cons (ps_for PassesOwn.never rfl (pi_tup (pv 1)) (pg_name (i := 3) sc_Fence_init.nd rfl (Or.inl rfl)) (pss_cons (ps_if (pt_cmp (pc_din hu (pe_prS (pv 3) T.cl hName (hr.mono (by decide))) (pv 4))) (pss_one ps_never) pss_nil) (pss_one (ps_dput hu (pv 4) (pe_prS (pv 3) T.cl hName (hr.mono (by decide))) (pv 3) rfl)))) (pss_cons (ps_if (pt_cmpR op_gt (pe_callB call_len_seq rfl B.len_ PySem.boot_len (pa_cons (pv 1) pa_nil)) (pe_glob (v := .int 40) rfl hMP rMP) (nomark _)) (pss_one ps_never) pss_nil) (pss_cons (ps_fld (pv 0) (pv 1) rfl) (pss_one (ps_fld (pv 0) (pv 4) rfl))))))), ?_⟩
  refine ⟨_, rfl, t, _, rfl, .inl (.inl ht), ?_⟩
  refine for_it walk_enumT (fun i σ H1 => ∃ o2 o3, σ = [some (.ref x), some (.ref t), o2, o3, none] ∧ Same H H1) ⟨_, _, rfl, Same.refl _⟩ (fun i σ H1 _ h => by obtain ⟨_, _, _, h⟩ := h; exact sameTup h (.inl (.inl ht))) ?_ ?_
  · rintro i v σ H1 H2 hi ⟨o2, o3, rfl, s1⟩ ⟨T0, y1, y2, rfl, hT, rfl, e1, e2⟩
    obtain rfl := Option.some.inj e1
    obtain ⟨z, hz, rfl⟩ := refs_at e2
    refine ⟨T0, _, rfl, .inl (.inl upd_same), rfl, _, _, rfl, _, _, rfl, rfl, ?_⟩
    have pz := ((cr.at_ z (List.mem_of_getElem? hz)).same s1).same (same_new hT (.tup [V.int (i : Int), V.ref z.a]))
    obtain ⟨dz, ez⟩ := pz.1
    refine ⟨_, rfl, z.a, dz, _, rfl, ez, true, rfl, iteF ?_⟩
    exact ⟨_, _, rfl, s1.trans (same_new hT _)⟩
  · rintro σ H1 ⟨o2, o3, rfl, s1⟩
    refine fun d hd => ?_
    have ht1 := s1 _ _ ht
    have cr1 := cr.same s1
    have hx1 := s1 _ _ hx
    refine ⟨_, rfl, t, rfl, ⟨_, .inl (.inl (same_new hd _ _ _ ht1))⟩, for_tup (K := K) (a := t) (xs := refsOf L) (fun i σ H2 => ∃ o3, σ = [some (.ref x), some (.ref t), o2, o3, some (.ref d)] ∧ H2 d = some (.dK (kvOf (L.take i))) ∧ Same H1 H2) ⟨_, rfl, upd_same, same_new hd _⟩ (fun i σ H2 _ h => by obtain ⟨_, _, _, h⟩ := h; exact .inl (.inl (h _ _ ht1))) ?_ ?_⟩
    · rintro i v σ H2 e2 ⟨o3, rfl, hd2, s2⟩
      obtain ⟨z, hz, rfl⟩ := refs_at e2
      have hi : i < L.length := (List.getElem?_eq_some_iff.mp hz).1
      have pz := (cr1.at_ z (List.mem_of_getElem? hz)).same s2
      obtain ⟨dz, ez⟩ := id pz.1
      have nk : z.nm ∉ (L.take i).map Pt.nm := by
        have h1 := cr.nd
        have h2 : L = L.take i ++ z :: L.drop (i + 1) := by
          have h3 : L.drop i = z :: L.drop (i + 1) := by
            rw [List.drop_eq_getElem_cons hi]
            congr 1
            exact Option.some.inj ((List.getElem?_eq_getElem hi).symm.trans hz)
          rw [← h3, List.take_append_drop]
        rw [h2, List.map_append, List.map_cons] at h1
        exact fun e => (List.nodup_append.mp h1).2.2 _ e _ List.mem_cons_self rfl
      have vn := valV_of nk
      refine ⟨_, rfl, z.a, dz, _, rfl, ez, z.a, dz, _, _, rfl, ez, pfs_name _ _ _ _, ?_⟩
      refine ⟨_, rfl, d, none, rfl, ?_, _, rfl, iteF ?_⟩
      · have g := DGet.k (k := (Sum.inr z.nm : Key)) hd2
        rw [vn] at g
        exact g
      refine ⟨_, rfl, _, rfl, _, rfl, z.a, dz, _, rfl, ez, z.a, dz, _, _, rfl, ez, pfs_name _ _ _ _, d, _, rfl, DPut.k (k := (Sum.inr z.nm : Key)) hd2 (by show (kvOf (L.take i)).length < sizeLine; unfold kvOf; rw [List.length_map, List.length_take]; exact Nat.lt_of_le_of_lt (Nat.le_trans (Nat.min_le_right _ _) cr.few) (by decide)), ?_⟩
      refine ⟨_, rfl, ?_, fun b o e => ?_⟩
      · rw [upd_same, putK_new _ vn, take_snoc hz]
        show some (HO.dK (kvOf (L.take i) ++ [(Sum.inr z.nm, V.ref z.a)])) = some (HO.dK (kvOf (L.take i ++ [z])))
        unfold kvOf
        rw [List.map_append]
        rfl
      · have nb : b ≠ d := ne_of_none e hd
        rw [upd_ne nb]
        exact s2 _ _ e
    · rintro σ H2 ⟨o3, rfl, hd2, s2⟩
      have hl : (refsOf L).length = L.length := by unfold refsOf; rw [List.length_map]
      rw [hl, List.take_length] at hd2
      have ht2 := s2 _ _ ht1
      have hx2 := s2 _ _ hx1
      refine ⟨_, rfl, t, _, rfl, .inr (SqT.of ht2), _, _, rfl, rfl, _, rfl, ?_⟩
      have c : decide ((40 : Int) < ((refsOf L).length : Int)) = false := decide_eq_false (by have := cr.few; rw [hl]; omega)
      show (if decide ((40 : Int) < ((refsOf L).length : Int)) = true then _ else _)
      rw [c]
      refine iteF ?_
      refine ⟨_, rfl, _, rfl, x, CF, dx, [], rfl, hx2, U.cl, U.nP, (by show 0 < 1000; decide), ?_⟩
      refine ⟨_, rfl, _, rfl, x, CF, dx, _, rfl, upd_same, U.cl, U.nB, (by show 1 < 1000; decide), ?_⟩
      have nd : d ≠ x := fun e => by rw [e] at hd; rw [hx1] at hd; cases hd
      refine q _ d upd_same ?_ fun b o e nb => ?_
      · rw [upd_ne nd, upd_ne nd]
        exact hd2
      · rw [upd_ne nb, upd_ne nb]
        exact s2 _ _ (s1 _ _ e)
end
end Ur
/-! UrO: operators of own classes: + with another own class at its right, ==, != with both answers, in, len, [..]; == and != of tuples whose items have an own ==. -/
namespace PySem.W
open PySem PySem.Calls PyProof.Rows Builtin
section
variable {prog : Program} {w : World} {A : Around} {E : Value → Shared → Prop} {s : Shared} {K : Frag} {x C C2 L f f2 : Addr} {h₀ : Heap} {m : Str → Option Value} {ox : Obj} {od : Option Obj} {b tb : Value}
/-- a + b, b of another own class that has the operator too, but not the reflected one -/
theorem ur_binC {op : Operator} {Q : Value → Shared → Prop} (F : Fr h₀ L s.heap m) (X₀ : K.In h₀) (I : InstAt s.heap x ox C od) (hb : Looks (model prog w) s.heap (typeOf b) (.ref C2)) (hc : selfFirst K C = true) (hc2 : selfFirst K C2 = true) (hne : C ≠ C2)
    (hs : findIn K (.ref C) (PySem.dunder op.info.2) = some (some (.ref f))) (hf : isFn K (.ref f) = true) (hr : findIn K (.ref C) (dunderR op.info.2) = some none)
    (hs2 : findIn K (.ref C2) (PySem.dunder op.info.2) = some (some (.ref f2))) (hr2 : findIn K (.ref C2) (dunderR op.info.2) = some none) (hsub : subIn K (.ref C2) (.ref C) = some false)
    (h : wpAny (model prog w) A (call (.ref f) [.ref x, b]) (CmpBack Q) E s) : wpAny (model prog w) A (binaryOp op (.ref x) b) Q E s := by
  have X := X₀.keeps F.keep
  obtain ⟨cd, rest, hcd, hm⟩ := ksp_first hc
  obtain ⟨cd2, rest2, hcd2, hm2⟩ := ksp_first hc2
  rcases hi : op.info with ⟨sym, nm'⟩
  rw [hi] at hs hr hs2 hr2
  dsimp only at hs hr hs2 hr2
  have one := ksp_try X I hs hf h
  obtain ⟨hh, g, d, tt, os⟩ := s
  have L1 : Looks (model prog w) hh (typeOf (.ref x)) (.ref C) := I.type
  have L2 : Looks (model prog w) hh (typeOf b) (.ref C2) := hb
  have L3 : Looks (model prog w) hh (fillsNumberSlot (.ref C) nm') true := fills_K X hcd hm hs
  have L4 : Looks (model prog w) hh (fillsNumberSlot (.ref C2) nm') true := fills_K X hcd2 hm2 hs2
  have L5 : Looks (model prog w) hh (isSubtype (.ref C2) (.ref C)) false := looks_subIn X hsub
  have L6 : Looks (model prog w) hh (numberSlotInPython (.ref C) nm') true := ksp_inPy X hs hr (.inl rfl)
  have L7 : Looks (model prog w) hh (numberSlotInPython (.ref C2) nm') true := ksp_inPy X hs2 hr2 (.inl rfl)
  have hne : (Value.ref C == Value.ref C2) = false := Bool.eq_false_iff.mpr fun q => by cases beq_iff_eq.mp q; exact hne rfl
  simp only [binaryOp, hi]
  refine wpAny_holding (wpAny_bind ?_)
  unfold binaryOp1
  refine wpAny_bind (L1.at (wpAny_bind (L2.at (wpAny_bind (L3.at ?_)))))
  simp only [hne, Bool.false_eq_true, if_false]
  ksp_lk
  refine wpAny_mono one (fun r s' hr' => ?_) fun _ _ e => e
  obtain ⟨v, rfl, hq⟩ := hr'
  ksp_lk
  exact hq
/-- a builtin slot of an own class, asked for -/
theorem ur_ifBound {name : Str} {id : String} {args : List Value} {M : Model} {Q : Option Value → Shared → Prop} (X : K.In s.heap) (I : InstAt s.heap x ox C od) (hs : findIn K (.ref C) name = some (some (.builtin id)))
    (hb : ∀ self, bindSpecial (.builtin id) self = pure (.builtin id, [self])) (h : wpAny M A (call (.builtin id) (.ref x :: args)) (fun v => Q (some v)) E s) : wpAny M A (callSpecialIfBound? (.ref x) name args) Q E s := by
  simp only [callSpecialIfBound?, bindSpecialIfBound?]
  refine wpAny_holding (wpAny_bind (wpAny_bind (wpAny_bind (I.type.here ((looks_findIn X hs).here ?_)))))
  refine wpAny_bind (wpAny_askSetting (wpAny_ite ?_))
  have fin : wpAny M A (call (.builtin id) ([.ref x] ++ args) >>= fun v => pure (some v)) Q E s := wpAny_bind (wpAny_mono h (fun v s' h' => wpAny_pure h') fun _ _ h' => h')
  split
  · exact wpAny_bind (wpAny_of_eq (hb _) (wpAny_pure (by exact fin)))
  · exact wpAny_tryCatch (wpAny_bind (wpAny_of_eq (hb _) (wpAny_pure (by exact fin))))
/-- a != b by an own == that answers True or False -/
theorem ur_ne {Q : Value → Shared → Prop} (hu : A.units + 1 < cLine) (X : K.In s.heap) (I : InstAt s.heap x ox C od) (hb : Looks (model prog w) s.heap (typeOf b) tb) (hn : notFirst K C tb = true) (hm : mroIn K C (.type "object") = some true)
    (hs : findIn K (.ref C) "__eq__" = some (some (.ref f))) (hf : isFn K (.ref f) = true) (hne : findIn K (.ref C) "__ne__" = some (some (.builtin "object.__ne__")))
    (h : wpAny (model prog w) A.in1 (call (.ref f) [.ref x, b]) (fun v s' => ∃ c, v = .bool c ∧ Q (.bool (!c)) s') E s) : wpAny (model prog w) A (richCompare .NotEq (.ref x) b) Q E s := by
  have one : wpAny (model prog w) A (tryCompare (.ref x) "__ne__" b) (fun r s' => ∃ v, r = some v ∧ Q v s') E s := by
    unfold tryCompare
    refine wpAny_bind (ur_ifBound X I hne (fun self => F.cmp_object.ne.bind self) (wpAny_call (codeAny_call_builtin F.cmp_object.ne.plain F.cmpEntry_ne (check_slot F.cmpKind_ne F.cmpSplit_ne (I.type.andThen (looks_mroIn X hm)) (F.cmpArgs_ne _ _) ?_))))
    unfold Builtin.«object.__ne__»
    refine wpAny_bind (m := slotArgs "__ne__" 1 _) (wpAny_pure ?_)
    refine wpAny_bind (m := cRoomFor _ _) (wpAny_cRoomFor (Nat.lt_of_le_of_lt (by first | exact Nat.le_refl _ | exact Nat.le_succ _) hu) ?_)
    refine wpAny_bind (m := callSpecialIfBound? (.ref x) (Str.ofString "__eq__") [b]) (ifBound_K X I hs hf (wpAny_mono h (fun r s' hq => ?_) fun _ _ y => y))
    obtain ⟨c, rfl, q⟩ := hq
    refine wpAny_bind (m := truthy (.bool c)) (wpAny_truthy_bool ?_)
    exact wpAny_pure (wpAny_pure ⟨_, rfl, q⟩)
  unfold richCompare
  simp only [oneThing_ref]
  refine wpAny_holding (wpAny_bind (wpAny_cRoomFor (Nat.lt_of_succ_lt hu) ?_))
  refine wpAny_bind (I.type.here (wpAny_bind (hb.here ?_)))
  split
  · rename_i q
    have e : subIn K tb (.ref C) = some false := by
      rcases Bool.or_eq_true_iff.mp hn with e | e
      · rw [beq_iff_eq.mp e] at q; simp at q
      · exact beq_iff_eq.mp e
    refine wpAny_bind ((looks_subIn X e).here ?_)
    simp only [Bool.false_eq_true, if_false]
    refine wpAny_bind (wpAny_mono one (fun r s' z => ?_) fun _ _ e => e)
    obtain ⟨v, rfl, hq⟩ := z
    exact wpAny_pure hq
  · refine wpAny_bind (wpAny_pure ?_)
    simp only [Bool.false_eq_true, if_false]
    refine wpAny_bind (wpAny_mono one (fun r s' z => ?_) fun _ _ e => e)
    obtain ⟨v, rfl, hq⟩ := z
    exact wpAny_pure hq
end
end PySem.W
/-! UrQ: == and != of tuples whose items have an own ==, with both answers. -/
namespace GQ
open PySem PySem.SeqAt
open AutoSeq1 (wpAny_loadPart')
open MeetsSeq MeetsSeq2 MeetsSeq3 SeqRoads2
section
variable {prog : Program} {w : World} {A : Around} {R : Result → Shared → Prop}
theorem tuple_eqB (l b : Addr) (items items2 : Array Value) (n n2 : Nat) (dd dd2 : Option Addr) (sl sl2 : Array (Option Value)) (e : Nat → Bool) (I : Nat → Shared → Prop)
    (turn : ∀ i (h1 : i < items.size) (h2 : i < items2.size) s, I i s → wpAny (model prog w) A.in1 (eqBool items[i] items2[i]) (fun r s' => r = e i ∧ I (i + 1) s') (fun e s' => R (.error e) s') s)
    (fin : ∀ i s, I i s → R (.ok (.ret (.bool ((List.range (min items.size items2.size)).all e && items.size == items2.size)))) s) {s : Shared}
    (hl : s.heap.get? l = some { cls := .type "tuple", dict := dd, data := .seq items n, slots := sl }) (hb : s.heap.get? b = some { cls := .type "tuple", dict := dd2, data := .seq items2 n2, slots := sl2 }) (h : I 0 s) :
    wpAny (model prog w) A.in1 (Builtin.«tuple.__eq__» ⟨[.ref l, .ref b], []⟩) (FinOf prog w A R) (fun e s' => R (.error e) s') s := by
  have f2 := AutoSeq1.sub_tuple_tuple
  have hZ : (items.toList.zip items2.toList).length = min items.size items2.size := by simp
  have h0 := h
  obtain ⟨hp, g, d, tk, os⟩ := s
  wp_walk using wpAny_loadPart' hl, wpAny_loadPart' hb, wpAny_forIn_list _ (fun rest b s' => b.1 = none ∧ ∃ i, rest = (items.toList.zip items2.toList).drop i ∧ I i s' ∧
    ((List.range (min items.size items2.size)).all e && items.size == items2.size) = (((List.range (min items.size items2.size)).drop i).all e && items.size == items2.size)) _
  case turn =>
    rintro ⟨y, x⟩ rest b s' ⟨hb', i, hz, hI, hR⟩
    have hlt : i < (items.toList.zip items2.toList).length := by
      rcases Nat.lt_or_ge i (items.toList.zip items2.toList).length with h' | h'
      · exact h'
      · rw [List.drop_of_length_le h'] at hz; cases hz
    have hm : i < min items.size items2.size := hZ ▸ hlt
    have h1 : i < items.size := Nat.lt_of_lt_of_le hm (Nat.min_le_left _ _)
    have h2 : i < items2.size := Nat.lt_of_lt_of_le hm (Nat.min_le_right _ _)
    rw [List.drop_eq_getElem_cons hlt] at hz
    injection hz with hyx hrest
    have hy : y = items[i] := by have := congrArg Prod.fst hyx; simpa using this
    have hx : x = items2[i] := by have := congrArg Prod.snd hyx; simpa using this
    subst hy hx
    have hd : (List.range (min items.size items2.size)).drop i = i :: (List.range (min items.size items2.size)).drop (i + 1) := by simp [List.drop_eq_getElem_cons, hm]
    rw [hd, List.all_cons] at hR
    refine wpAny_bind (wpAny_mono (turn i h1 h2 s' hI) (fun r s2 q2 => ?_) fun _ _ x => x)
    obtain ⟨hr, q2⟩ := q2
    subst hr
    cases hy : e i with
    | true =>
      rw [hy] at hR
      wp_walk
      exact ⟨rfl, i + 1, hrest, q2, by simpa using hR⟩
    | false =>
      rw [hy] at hR
      wp_walk
      have z := fin _ _ q2
      rw [hR] at z
      simpa using z
  case fin =>
    rintro ⟨b1, b2⟩ s' ⟨hb', i, hz, hI, hR⟩
    simp only at hb'
    subst hb'
    have hge : min items.size items2.size ≤ i := by
      rcases Nat.lt_or_ge i (items.toList.zip items2.toList).length with h' | h'
      · rw [List.drop_eq_getElem_cons h'] at hz; cases hz
      · exact hZ ▸ h'
    rw [List.drop_of_length_le (by simpa using hge)] at hR
    wp_walk
    have z := fin _ _ hI
    rw [hR] at z
    simpa [Builtin.Tuple.tupleCompareSizes] using z
  case h =>
    exact ⟨rfl, 0, rfl, h0, by simp⟩
theorem tuple_neB (l b : Addr) (items items2 : Array Value) (n n2 : Nat) (dd dd2 : Option Addr) (sl sl2 : Array (Option Value)) (e : Nat → Bool) (I : Nat → Shared → Prop)
    (turn : ∀ i (h1 : i < items.size) (h2 : i < items2.size) s, I i s → wpAny (model prog w) A.in1 (eqBool items[i] items2[i]) (fun r s' => r = e i ∧ I (i + 1) s') (fun e s' => R (.error e) s') s)
    (fin : ∀ i s, I i s → R (.ok (.ret (.bool (!((List.range (min items.size items2.size)).all e && items.size == items2.size))))) s) {s : Shared}
    (hl : s.heap.get? l = some { cls := .type "tuple", dict := dd, data := .seq items n, slots := sl }) (hb : s.heap.get? b = some { cls := .type "tuple", dict := dd2, data := .seq items2 n2, slots := sl2 }) (h : I 0 s) :
    wpAny (model prog w) A.in1 (Builtin.«tuple.__ne__» ⟨[.ref l, .ref b], []⟩) (FinOf prog w A R) (fun e s' => R (.error e) s') s := by
  have f2 := AutoSeq1.sub_tuple_tuple
  have hZ : (items.toList.zip items2.toList).length = min items.size items2.size := by simp
  have h0 := h
  obtain ⟨hp, g, d, tk, os⟩ := s
  wp_walk using wpAny_loadPart' hl, wpAny_loadPart' hb, wpAny_forIn_list _ (fun rest b s' => b.1 = none ∧ ∃ i, rest = (items.toList.zip items2.toList).drop i ∧ I i s' ∧
    ((List.range (min items.size items2.size)).all e && items.size == items2.size) = (((List.range (min items.size items2.size)).drop i).all e && items.size == items2.size)) _
  case turn =>
    rintro ⟨y, x⟩ rest b s' ⟨hb', i, hz, hI, hR⟩
    have hlt : i < (items.toList.zip items2.toList).length := by
      rcases Nat.lt_or_ge i (items.toList.zip items2.toList).length with h' | h'
      · exact h'
      · rw [List.drop_of_length_le h'] at hz; cases hz
    have hm : i < min items.size items2.size := hZ ▸ hlt
    have h1 : i < items.size := Nat.lt_of_lt_of_le hm (Nat.min_le_left _ _)
    have h2 : i < items2.size := Nat.lt_of_lt_of_le hm (Nat.min_le_right _ _)
    rw [List.drop_eq_getElem_cons hlt] at hz
    injection hz with hyx hrest
    have hy : y = items[i] := by have := congrArg Prod.fst hyx; simpa using this
    have hx : x = items2[i] := by have := congrArg Prod.snd hyx; simpa using this
    subst hy hx
    have hd : (List.range (min items.size items2.size)).drop i = i :: (List.range (min items.size items2.size)).drop (i + 1) := by simp [List.drop_eq_getElem_cons, hm]
    rw [hd, List.all_cons] at hR
    refine wpAny_bind (wpAny_mono (turn i h1 h2 s' hI) (fun r s2 q2 => ?_) fun _ _ x => x)
    obtain ⟨hr, q2⟩ := q2
    subst hr
    cases hy : e i with
    | true =>
      rw [hy] at hR
      wp_walk
      exact ⟨rfl, i + 1, hrest, q2, by simpa using hR⟩
    | false =>
      rw [hy] at hR
      wp_walk
      have z := fin _ _ q2
      rw [hR] at z
      simpa using z
  case fin =>
    rintro ⟨b1, b2⟩ s' ⟨hb', i, hz, hI, hR⟩
    simp only at hb'
    subst hb'
    have hge : min items.size items2.size ≤ i := by
      rcases Nat.lt_or_ge i (items.toList.zip items2.toList).length with h' | h'
      · rw [List.drop_eq_getElem_cons h'] at hz; cases hz
      · exact hZ ▸ h'
    rw [List.drop_of_length_le (by simpa using hge)] at hR
    wp_walk
    have z := fin _ _ hI
    rw [hR] at z
    simpa [Builtin.Tuple.tupleCompareSizes, bne] using z
  case h =>
    exact ⟨rfl, 0, rfl, h0, by simp⟩
end
section
variable {prog : Program} {w : World} {A : Around} {E : Value → Shared → Prop} {s : Shared}
theorem rc_tupEqB {l b : Addr} {items items2 : Array Value} {Q : Value → Shared → Prop} (e : Nat → Bool) (hu : A.units < cLine) (I : Nat → Shared → Prop) (hl : s.heap.IsTuple l items) (hb : s.heap.IsTuple b items2)
    (turn : ∀ i (h1 : i < items.size) (h2 : i < items2.size) s, I i s → wpAny (model prog w) A.in1 (eqBool items[i] items2[i]) (fun r s' => r = e i ∧ I (i + 1) s') E s)
    (fin : ∀ i s, I i s → Q (.bool ((List.range (min items.size items2.size)).all e && items.size == items2.size)) s) (h : I 0 s) : wpAny (model prog w) A (richCompare .Eq (.ref l) (.ref b)) Q E s := by
  obtain ⟨⟨cls, dd, data, sl⟩, ho, hc, n, hd⟩ := id hl
  obtain ⟨⟨cls2, dd2, data2, sl2⟩, ho2, hc2, n2, hd2⟩ := id hb
  simp only at hc hd hc2 hd2
  subst hc hd hc2 hd2
  refine wpAny_richCompare_same_room (op := .Eq) ⟨_, ho, rfl⟩ ⟨_, ho2, rfl⟩ F.slot_tuple_eq (call_here F.slot_tuple_eq ⟨_, ho, rfl⟩ F.entry_tuple_eq (F.args_tuple_eq_2 _ _) ?_) hu
  exact tuple_eqB (R := wants (fun v s' => v ≠ .notImplemented ∧ Q v s') E) l b items items2 n n2 dd dd2 sl sl2 e I turn (fun i s' q => ⟨(fun x => nomatch x), fin i s' q⟩) ho ho2 h
theorem rc_tupNeB {l b : Addr} {items items2 : Array Value} {Q : Value → Shared → Prop} (e : Nat → Bool) (hu : A.units < cLine) (I : Nat → Shared → Prop) (hl : s.heap.IsTuple l items) (hb : s.heap.IsTuple b items2)
    (turn : ∀ i (h1 : i < items.size) (h2 : i < items2.size) s, I i s → wpAny (model prog w) A.in1 (eqBool items[i] items2[i]) (fun r s' => r = e i ∧ I (i + 1) s') E s)
    (fin : ∀ i s, I i s → Q (.bool (!((List.range (min items.size items2.size)).all e && items.size == items2.size))) s) (h : I 0 s) : wpAny (model prog w) A (richCompare .NotEq (.ref l) (.ref b)) Q E s := by
  obtain ⟨⟨cls, dd, data, sl⟩, ho, hc, n, hd⟩ := id hl
  obtain ⟨⟨cls2, dd2, data2, sl2⟩, ho2, hc2, n2, hd2⟩ := id hb
  simp only at hc hd hc2 hd2
  subst hc hd hc2 hd2
  refine wpAny_richCompare_same_room (op := .NotEq) ⟨_, ho, rfl⟩ ⟨_, ho2, rfl⟩ F.slot_tuple_ne (call_here F.slot_tuple_ne ⟨_, ho, rfl⟩ F.entry_tuple_ne (F.args_tuple_ne_2 _ _) ?_) hu
  exact tuple_neB (R := wants (fun v s' => v ≠ .notImplemented ∧ Q v s') E) l b items items2 n n2 dd dd2 sl sl2 e I turn (fun i s' q => ⟨(fun x => nomatch x), fin i s' q⟩) ho ho2 h
end
end GQ
/-! UrV: the rules for == and != of own instances and of tuples of them, for in, len and [..] of own instances. -/
namespace Ur
open PySem PySem.Spec PyProof.Rows L2
/-- x == y is b, by the abstract heap -/
abbrev EqvB := V → V → Bool → Hp → Prop
def MonB (D : EqvB) : Prop := ∀ x y b H H', Ext H H' → D x y b H → D x y b H'
def EqB (X : Cx) (n : Nat) (D : EqvB) : Prop :=
  ∀ (A : Around) (pins : List (Addr × Obj)) (s : Shared) (σ : L2.St) (H : Hp) (x y : V) (b : Bool) (u v : Value), Sub X n A → Inv X pins σ H s → L2.RelV x u → L2.RelV y v → D x y b H →
    wpAny (model X.prog X.w) A (eqBool u v) (fun r s' => r = b ∧ ∃ H', Inv X pins σ H' s' ∧ Ext H H') X.xe s
def RcB (X : Cx) (n : Nat) (op : CmpOp) (g : Bool → Bool) (D : EqvB) : Prop :=
  ∀ (A : Around) (pins : List (Addr × Obj)) (s : Shared) (σ : L2.St) (H : Hp) (x y : V) (b : Bool) (u v : Value), Sub X n A → Inv X pins σ H s → L2.RelV x u → L2.RelV y v → D x y b H →
    wpAny (model X.prog X.w) A (richCompare op u v) (fun r s' => r = .bool (g b) ∧ ∃ H', Inv X pins σ H' s' ∧ Ext H H') X.xe s
section
variable {X : Cx} {n m : Nat} {D : EqvB}
theorem look_ref {M : Model} {h : Heap} {a : Addr} {o : Obj} {t : Value} (ho : h.get? a = some o) (hc : o.cls = t) : PySem.W.Looks M h (typeOf (.ref a)) t := fun A Q E s k q => wpAny_typeOf_ref (k _ _ ho) (by rw [hc]; exact q)
/-- of what kind a value is -/
inductive Knd (H : Hp) : V → Value → Prop where
  | non : Knd H .non (.type "NoneType")
  | bl (x : Bool) : Knd H (.bl x) (.type "bool")
  | int (i : Int) : Knd H (.int i) (.type "int")
  | str (x : Str) : Knd H (.str x) (.type "str")
  | lst {a : Addr} {xs : List V} (e : H a = some (.lst xs)) : Knd H (.ref a) (.type "list")
  | tup {a : Addr} {xs : List V} (e : H a = some (.tup xs)) : Knd H (.ref a) (.type "tuple")
  | dK {a : Addr} {kvs : List (Key × V)} (e : H a = some (.dK kvs)) : Knd H (.ref a) (.type "dict")
  | ins {a C dx : Addr} {fs : List (Str × V)} (e : H a = some (.ins C dx fs)) : Knd H (.ref a) (.ref C)
theorem Knd.ext {H H' : Hp} {y : V} {t : Value} (k : Knd H y t) (e : Ext H H') : Knd H' y t := by
  cases k with
  | non => exact .non
  | bl x => exact .bl x
  | int i => exact .int i
  | str x => exact .str x
  | lst h => exact .lst (e _ _ h)
  | tup h => exact .tup (e _ _ h)
  | dK h => exact .dK (e _ _ h)
  | ins h => exact .ins (e _ _ h)
theorem ty_looks {M : Model} {pins : List (Addr × Obj)} {s : Shared} {σ : L2.St} {H : Hp} {y : V} {v t : Value} (I : Inv X pins σ H s) (r : L2.RelV y v) (ty : Knd H y t) : PySem.W.Looks M s.heap (typeOf v) t := by
  cases ty with
  | non => obtain rfl : v = Value.none := r; exact PySem.W.Looks.of_pure rfl
  | bl x => obtain rfl : v = Value.bool x := r; exact PySem.W.Looks.of_pure rfl
  | int i => obtain ⟨tk, rfl⟩ := (show ∃ tk, v = Value.int i tk from r); exact PySem.W.Looks.of_pure rfl
  | str z => obtain ⟨tk, rfl⟩ := (show ∃ tk, v = Value.str z tk from r); exact PySem.W.Looks.of_pure rfl
  | @lst a xs e =>
    obtain rfl : v = Value.ref a := r
    obtain ⟨_, its, m, rv, g⟩ := (show ObjOk X.prog X.w H s.heap a (.lst xs) from I.hok a _ e)
    exact look_ref g rfl
  | @tup a xs e =>
    obtain rfl : v = Value.ref a := r
    obtain ⟨_, its, rv, o, g, gc, m, gd⟩ := (show ObjOk X.prog X.w H s.heap a (.tup xs) from I.hok a _ e)
    exact look_ref g gc
  | @dK a kvs e =>
    obtain rfl : v = Value.ref a := r
    obtain ⟨_, nsys, kv, rk, o, es0, ep, g, ex, gd, _, prs, _⟩ := dk_of I.hok e
    exact look_ref g ex.1
  | @ins a C dx fs e =>
    obtain rfl : v = Value.ref a := r
    obtain ⟨mA, J0, _⟩ := ins_get I.hok e
    obtain ⟨od, J, _⟩ := J0.look
    exact J.type
/-- what the own == of a class says of a and y -/
abbrev Says := Addr → V → Bool → Hp → Prop
def spEqB (R : Says) : Sp := fun vs H Q _ => ∃ a y b, vs = [.ref a, y] ∧ R a y b H ∧ ∀ H', Ext H H' → Q (.bl b) H'
/-- a class with an own ==, without an own != -/
def EqC (P : Program) (w : World) (K : PySem.W.Frag) (mg : Str → Option Value) (base : Heap) (C : Addr) (k : Nat) (R : Says) : Prop :=
  ∃ f fd ps, PySem.W.findIn K (.ref C) "__eq__" = some (some (.ref f)) ∧ PySem.W.isFn K (.ref f) = true ∧ FnOk P w K mg base CX0 k f fd ps (spEqB R) ∧ Binds K fd ps [] ∧
    PySem.W.findIn K (.ref C) "__ne__" = some (some (.builtin "object.__ne__")) ∧ PySem.W.mroIn K C (.type "object") = some true
def DOwn (K : PySem.W.Frag) (C : Addr) (R : Says) : EqvB := fun x y b H => ∃ a dx fs t, x = .ref a ∧ H a = some (.ins C dx fs) ∧ Knd H y t ∧ PySem.W.notFirst K C t = true ∧ R a y b H
theorem own_run {f : Addr} {fd : FuncData} {ps : List Str} {R : Says} (F : FnOk X.prog X.w X.K X.mg X.base CX0 n f fd ps (spEqB R)) (hb : Binds X.K fd ps []) {A : Around} {pins : List (Addr × Obj)} {s : Shared} {σ : L2.St} {H : Hp} {a : Addr} {y : V} {b : Bool} {v : Value} (sb : Sub X n A) (I : Inv X pins σ H s) (ry : L2.RelV y v) (hr : R a y b H)
    {Q : Value → Shared → Prop} (q : ∀ s' H', Inv X pins σ H' s' → Ext H H' → Q (.bool b) s') : wpAny (model X.prog X.w) A (call (.ref f) [.ref a, v]) Q X.xe s := by
  have hsp : spEqB R [.ref a, y] H (fun v H' => v = .bl b ∧ Ext H H') E0 := ⟨a, y, b, rfl, hr, fun H' e => ⟨rfl, e⟩⟩
  have e0 : Env0 X.prog X.w X.K X.mg X.base A X.stack s H := by
    have e := I.env0
    exact ⟨by rw [sb.fr]; exact e.frames, e.mod, e.bs, e.bsz, e.funs, e.frf, e.hok, e.bare⟩
  have hl := F.len _ _ _ _ hsp
  have r2 : Vals [V.ref a, y] [Value.ref a, v] := .cons rfl (.cons ry .nil)
  refine wpAny_call (codeAny_mono (F.run A X.stack s H ⟨[.ref a, v], []⟩ [.ref a, v] [.ref a, y] _ E0 sb.room e0 (by
    have := hb s [.ref a, v] I.kIn (by simpa using hl)
    simpa using this) r2 hsp) fun r s' hq => ?_)
  cases r with
  | error e => exact pass0 pins σ H s e s' I hq
  | ok fl =>
    cases fl with
    | ret w =>
      obtain ⟨z, H', I', rz, ez, ex⟩ := I.after hq
      subst ez
      cases rz
      exact q s' H' I' ex
    | next => exact False.elim hq
    | brk => exact False.elim hq
    | cont => exact False.elim hq
theorem rcB_own {C : Addr} {R : Says} (h : EqC X.prog X.w X.K X.mg X.base C n R) : RcB X n .Eq id (DOwn X.K C R) := by
  obtain ⟨f, fd, ps, hs, hf, F, hb, _, _⟩ := h
  intro A pins s σ H x y b u v sb I rx ry d
  obtain ⟨a, dx, fs, t, rfl, ha, hk, hn, hr⟩ := d
  cases rx
  obtain ⟨mA, J0, _⟩ := ins_get I.hok ha
  obtain ⟨od, J, _⟩ := J0.look
  obtain ⟨m, hF⟩ := I.fr
  refine PySem.W.cmp_K (op := .Eq) (tb := t) sb.room.units0 hF I.ok.mod.kin J (ty_looks I ry hk) hn hs hf ?_
  exact own_run F hb sb I ry hr fun s' H' I' ex => ⟨rfl, H', I', ex⟩
theorem rcB_ownNe {C : Addr} {R : Says} (h : EqC X.prog X.w X.K X.mg X.base C n R) : RcB X (n + 1) .NotEq (!·) (DOwn X.K C R) := by
  obtain ⟨f, fd, ps, hs, hf, F, hb, hne, hm⟩ := h
  intro A pins s σ H x y b u v sb I rx ry d
  obtain ⟨a, dx, fs, t, rfl, ha, hk, hn, hr⟩ := d
  cases rx
  obtain ⟨mA, J0, _⟩ := ins_get I.hok ha
  obtain ⟨od, J, _⟩ := J0.look
  refine PySem.W.ur_ne (hu_of sb.room) I.kIn J (ty_looks I ry hk) hn hm hs hf hne ?_
  exact own_run F hb sb.in1 I ry hr fun s' H' I' ex => ⟨b, rfl, rfl, H', I', ex⟩
/-- within a list or tuple: the same object is equal to itself -/
theorem RcB.eqB (h : RcB X n .Eq id D) (hr : ∀ x y b H, D x y b H → ∃ a c, x = .ref a ∧ y = .ref c) (hs : ∀ a b H, D (.ref a) (.ref a) b H → b = true) : EqB X n D := by
  intro A pins s σ H x y b u v sb I rx ry d
  obtain ⟨a, c, rfl, rfl⟩ := hr _ _ _ _ d
  cases rx
  cases ry
  by_cases hab : a = c
  · subst hab
    obtain rfl := hs _ _ _ d
    exact SeqAt.EqAt.same (A := A) (s := s) (.ref a) X.prog X.w X.xe _ ⟨rfl, H, I, Ext.rfl'⟩
  · refine GQ.eqBool_refG hab (wpAny_mono (h A pins s σ H (.ref a) (.ref c) b _ _ sb I rfl rfl d) (fun r s' q => ?_) fun _ _ x => x)
    obtain ⟨hr', q⟩ := q
    exact ⟨b, hr', rfl, q⟩
/-- item by item: e says of the i-th -/
def PrsB (D : EqvB) (xs ys : List V) (e : Nat → Bool) (H : Hp) : Prop := ∀ (i : Nat) x y, xs[i]? = some x → ys[i]? = some y → D x y (e i) H
def allB (e : Nat → Bool) (m k : Nat) : Bool := (List.range (min m k)).all e && m == k
def DTupB (K : PySem.W.Frag) (D : EqvB) : EqvB := fun x y b H => ∃ a c xs ys e, x = .ref a ∧ y = .ref c ∧ SqT K H a xs ∧ SqT K H c ys ∧ PrsB D xs ys e H ∧ b = allB e xs.length ys.length
theorem turnB (hD : MonB D) (h : EqB X n D) {A : Around} (sb : Sub X (n + 1) A) {pins : List (Addr × Obj)} {σ : L2.St} {H : Hp} {xs ys : List V} {e : Nat → Bool} {its its2 : List Value} (p : PrsB D xs ys e H) (r : Vals xs its) (r2 : Vals ys its2)
    (i : Nat) (h1 : i < its.toArray.size) (h2 : i < its2.toArray.size) (s' : Shared) (l : LoopI X pins σ H s') :
    wpAny (model X.prog X.w) A.in1 (eqBool its.toArray[i] its2.toArray[i]) (fun r s2 => r = e i ∧ LoopI X pins σ H s2) X.xe s' := by
  obtain ⟨H1, I1, e1⟩ := l
  have g1 : its[i]? = some its.toArray[i] := by
    have h1' : i < its.length := by simpa using h1
    rw [List.getElem?_eq_getElem h1'] <;> simp
  have g2 : its2[i]? = some its2.toArray[i] := by
    have h2' : i < its2.length := by simpa using h2
    rw [List.getElem?_eq_getElem h2'] <;> simp
  have k1 : i < xs.length := by rw [r.length]; simpa using h1
  have k2 : i < ys.length := by rw [r2.length]; simpa using h2
  obtain ⟨u, hu, ru⟩ := r.get (List.getElem?_eq_getElem k1)
  obtain ⟨v, hv, rv⟩ := r2.get (List.getElem?_eq_getElem k2)
  rw [g1] at hu
  rw [g2] at hv
  rw [Option.some.inj hu, Option.some.inj hv]
  refine wpAny_mono (h A.in1 pins s' σ H1 _ _ _ u v sb.in1 I1 ru rv (hD _ _ _ _ _ e1 (p i _ _ (List.getElem?_eq_getElem k1) (List.getElem?_eq_getElem k2)))) (fun r s2 q => ?_) fun _ _ x => x
  obtain ⟨hr, H2, I2, e2⟩ := q
  exact ⟨hr, H2, I2, e1.trans e2⟩
theorem rcB_tup (hD : MonB D) (h : EqB X n D) : RcB X (n + 1) .Eq id (DTupB X.K D) := by
  intro A pins s σ H x y b u v sb I rx ry d
  obtain ⟨a, c, xs, ys, e, rfl, rfl, ha, hb, p, rfl⟩ := d
  cases rx
  cases ry
  obtain ⟨its, r, i1, z⟩ := I.tuple ha
  obtain ⟨its2, r2, i2, z2⟩ := I.tuple hb
  refine GQ.rc_tupEqB e sb.room.units0 (fun _ s' => LoopI X pins σ H s') i1 i2 (fun i h1 h2 s' q => turnB hD h sb p r r2 i h1 h2 s' q) (fun i s' q => ⟨?_, q⟩) ⟨H, I, Ext.rfl'⟩
  unfold allB
  rw [List.size_toArray, List.size_toArray, ← r.length, ← r2.length]
  rfl
theorem rcB_tupNe (hD : MonB D) (h : EqB X n D) : RcB X (n + 1) .NotEq (!·) (DTupB X.K D) := by
  intro A pins s σ H x y b u v sb I rx ry d
  obtain ⟨a, c, xs, ys, e, rfl, rfl, ha, hb, p, rfl⟩ := d
  cases rx
  cases ry
  obtain ⟨its, r, i1, z⟩ := I.tuple ha
  obtain ⟨its2, r2, i2, z2⟩ := I.tuple hb
  refine GQ.rc_tupNeB e sb.room.units0 (fun _ s' => LoopI X pins σ H s') i1 i2 (fun i h1 h2 s' q => turnB hD h sb p r r2 i h1 h2 s' q) (fun i s' q => ⟨?_, q⟩) ⟨H, I, Ext.rfl'⟩
  unfold allB
  rw [List.size_toArray, List.size_toArray, ← r.length, ← r2.length]
def rEqB (g : Bool → Bool) (D : EqvB) : R2 := fun x y H Q => ∃ b, D x y b H ∧ ∀ H', Ext H H' → Q (.bl (g b)) H'
theorem op_rcB {op : CmpOp} {g : Bool → Bool} (h : RcB X n op g D) (hr : Room n X.A) (ho : compareOp op = richCompare op := by rfl) : OpR X (compareOp op) (rEqB g D) := by
  intro pins s σ H x y v u Q I rx ry hq
  obtain ⟨b, d, q⟩ := hq
  rw [ho]
  refine wpAny_mono (h X.A pins s σ H x y b v u ⟨hr, rfl⟩ I rx ry d) (fun r s' z => ?_) fun _ _ x => x
  obtain ⟨hr', H', I', e⟩ := z
  subst hr'
  exact ⟨.bl (g b), H', I', rfl, q H' e⟩
/-! ### in, not in, len, [..] -/
/-- a method with what it promises, as an operator is found -/
def OwnR (P : Program) (w : World) (K : PySem.W.Frag) (mg : Str → Option Value) (base : Heap) (C : Addr) (m : Str) (k : Nat) (ps : List Str) (sp : Sp) : Prop :=
  ∃ f fd, PySem.W.findIn K (.ref C) m = some (some (.ref f)) ∧ PySem.W.isFn K (.ref f) = true ∧ PySem.W.fnIn K f = true ∧ FnOk P w K mg base CX0 k f fd ps sp ∧ Binds K fd ps []
variable {C : Addr} {k : Nat} {sp : Sp} {ps : List Str}
/-- x in o: what the own __contains__ promises, a bool -/
def spIn (R : Addr → V → Bool → Hp → Prop) : Sp := fun vs H Q _ => ∃ a y b, vs = [.ref a, y] ∧ R a y b H ∧ ∀ H', Ext H H' → Q (.bl b) H'
def rInO (C : Addr) (neg : Bool) (R : Addr → V → Bool → Hp → Prop) : R2 := fun x y H Q => ∃ a dx fs b, y = .ref a ∧ H a = some (.ins C dx fs) ∧ R a x b H ∧ ∀ H', Ext H H' → Q (.bl (if neg then !b else b)) H'
theorem op_inO {R : Addr → V → Bool → Hp → Prop} (h : OwnR X.prog X.w X.K X.mg X.base C "__contains__" k ps (spIn R)) (hr : Room k X.A) : OpR X (compareOp .In) (rInO C false R) := by
  intro pins s σ H x y v u Q I rx ry hq
  obtain ⟨a, dx, fs, b, rfl, ha, hR, q⟩ := hq
  obtain ⟨f, fd, hs, hf, _, F, hb⟩ := h
  obtain rfl : u = Value.ref a := ry
  obtain ⟨mA, J0, _⟩ := ins_get I.hok ha
  obtain ⟨od, J, _⟩ := J0.look
  obtain ⟨m, F0⟩ := I.fr
  refine PySem.W.in_K F0 I.ok.mod.kin J hs hf (wpAny_mono (run_fn (Q := fun z H' => z = .bl b ∧ Q (.bl b) H') F hr hb .nil pass0 I (.cons (show L2.RelV (.ref a) (.ref a) from rfl) (.cons rx .nil)) ⟨a, x, b, rfl, hR, fun H' e => ⟨rfl, q H' e⟩⟩) (fun r s' z => ?_) fun _ _ z => z)
  obtain ⟨z, H', I', rz, ez, q'⟩ := z
  subst ez
  obtain rfl : r = Value.bool b := rz
  exact wpAny_truthy_bool ⟨.bl b, H', I', rfl, q'⟩
theorem op_notInO {R : Addr → V → Bool → Hp → Prop} (h : OwnR X.prog X.w X.K X.mg X.base C "__contains__" k ps (spIn R)) (hr : Room k X.A) : OpR X (compareOp .NotIn) (rInO C true R) := by
  intro pins s σ H x y v u Q I rx ry hq
  obtain ⟨a, dx, fs, b, rfl, ha, hR, q⟩ := hq
  obtain ⟨f, fd, hs, hf, _, F, hb⟩ := h
  obtain rfl : u = Value.ref a := ry
  obtain ⟨mA, J0, _⟩ := ins_get I.hok ha
  obtain ⟨od, J, _⟩ := J0.look
  obtain ⟨m, F0⟩ := I.fr
  refine PySem.W.notIn_K F0 I.ok.mod.kin J hs hf (wpAny_mono (run_fn (Q := fun z H' => z = .bl b ∧ Q (.bl (!b)) H') F hr hb .nil pass0 I (.cons (show L2.RelV (.ref a) (.ref a) from rfl) (.cons rx .nil)) ⟨a, x, b, rfl, hR, fun H' e => ⟨rfl, q H' e⟩⟩) (fun r s' z => ?_) fun _ _ z => z)
  obtain ⟨z, H', I', rz, ez, q'⟩ := z
  subst ez
  obtain rfl : r = Value.bool b := rz
  exact wpAny_truthy_bool ⟨.bl (!b), H', I', rfl, q'⟩
/-- len(o), o an own instance -/
theorem call_lenO (h : OwnR X.prog X.w X.K X.mg X.base C "__len__" k ps sp) (hr : Room (k + 1) X.A) :
    CallR X (.builtin "len") (fun xs H Q => ∃ a dx fs, xs = [.ref a] ∧ H a = some (.ins C dx fs) ∧ sp [.ref a] H (fun v H' => ∃ n : Int, v = .int n ∧ 0 ≤ n ∧ n < 2 ^ 63 ∧ Q (.int n) H') E0) := by
  intro pins s σ H xs us Q I r hq
  obtain ⟨a, dx, fs, rfl, ha, q⟩ := hq
  obtain ⟨f, fd, hs, hf, _, F, hb⟩ := h
  obtain ⟨u, rfl, ru⟩ := vals1 r
  obtain rfl : u = Value.ref a := ru
  obtain ⟨mA, J0, _⟩ := ins_get I.hok ha
  obtain ⟨od, J, _⟩ := J0.look
  obtain ⟨m, F0⟩ := I.fr
  have e0 : Env0 X.prog X.w X.K X.mg X.base X.A.in1 X.stack s H := by
    have e := I.env0
    exact ⟨e.frames, e.mod, e.bs, e.bsz, e.funs, e.frf, e.hok, e.bare⟩
  have hl := F.len _ _ _ _ q
  have r2 : Vals [V.ref a] [Value.ref a] := .cons rfl .nil
  refine PySem.W.len_K F0 I.ok.mod.kin J hs hf (wpAny_call (codeAny_mono (F.run X.A.in1 X.stack s H ⟨[.ref a], []⟩ [.ref a] [.ref a] _ E0 hr.in1 e0 (by
    have := hb s [.ref a] I.kIn (by simpa using hl)
    simpa using this) r2 q) fun r s' hq => ?_))
  cases r with
  | error e => exact pass0 pins σ H s e s' I hq
  | ok fl =>
    cases fl with
    | ret w =>
      obtain ⟨z, H', I', rz, n, ez, n0, n1, q'⟩ := I.after hq
      subst ez
      obtain ⟨tk, rfl⟩ := (show ∃ tk, w = Value.int n tk from rz)
      exact ⟨⟨n0, n1⟩, .int n, H', I'.tok _, ⟨_, rfl⟩, q'⟩
    | next => exact False.elim hq
    | brk => exact False.elim hq
    | cont => exact False.elim hq
/-- a def runs somewhere below -/
theorem sub_run {f : Addr} {fd : FuncData} (F : FnOk X.prog X.w X.K X.mg X.base CX0 k f fd ps sp) (hb : Binds X.K fd ps []) {A : Around} {pins : List (Addr × Obj)} {s : Shared} {σ : L2.St} {H : Hp} {vs : List V} {us : List Value} {Q : VK} (sb : Sub X k A) (I : Inv X pins σ H s) (rv : Vals vs us) (hsp : sp vs H Q E0) :
    wpAny (model X.prog X.w) A (call (.ref f) us) (EP X pins σ Q) X.xe s := by
  have e0 : Env0 X.prog X.w X.K X.mg X.base A X.stack s H := by
    have e := I.env0
    exact ⟨by rw [sb.fr]; exact e.frames, e.mod, e.bs, e.bsz, e.funs, e.frf, e.hok, e.bare⟩
  have hl : us.length = ps.length := by rw [← rv.length]; exact F.len _ _ _ _ hsp
  refine wpAny_call (codeAny_mono (F.run A X.stack s H ⟨us, []⟩ us vs Q E0 sb.room e0 (by
    have := hb s us I.kIn (by simpa using hl)
    simpa using this) rv hsp) fun r s' hq => ?_)
  cases r with
  | error e => exact pass0 pins σ H s e s' I hq
  | ok fl =>
    cases fl with
    | ret w => exact I.after hq
    | next => exact False.elim hq
    | brk => exact False.elim hq
    | cont => exact False.elim hq
/-- o[e], o an own instance with an own [..] -/
theorem pe_ixO {o e : Expr} {pos : Pos} {ta tb : TE} (h : OwnR X.prog X.w X.K X.mg X.base C "__getitem__" k ps sp) (hr : Room (k + 1) X.A) (ha : PE X o ta) (hb : PE X e tb)
    (hsl : ∀ ov iv, subscripted e true ov iv = runValue (.builtin "lifetime.subscript" ⟨[ov, iv], []⟩) := by intro _ _; with_unfolding_all rfl) :
    PE X (.Subscript o e pos) (fun σ H Q => ta σ H fun x H1 => tb σ H1 fun y H2 => ∃ a dx fs, x = .ref a ∧ H2 a = some (.ins C dx fs) ∧ sp [x, y] H2 Q E0) := by
  refine ⟨fun pins s σ H Q I hq => ?_⟩
  obtain ⟨f, fd, hs, hf, hfi, F, hbi⟩ := h
  refine Subscript_ (binT ha hb I hq fun v u s2 x y H2 I2 rx ry q => ?_)
  obtain ⟨a, dx, fs, rfl, ea, q⟩ := q
  obtain rfl : v = Value.ref a := rx
  obtain ⟨mA, J0, _⟩ := ins_get I2.hok ea
  obtain ⟨od, J, _⟩ := J0.look
  obtain ⟨m, F0⟩ := I2.fr
  exact PySem.W.sub_K F0 I2.ok.mod.kin J hs hfi hf (sub_run (vs := [V.ref a, y]) F hbi ⟨hr.in1, rfl⟩ I2 (.cons (show L2.RelV (.ref a) (.ref a) from rfl) (.cons ry .nil)) q) (hsl _ _)
/-! ### + of an instance and an instance of another class -/
structure AddTwo (K : PySem.W.Frag) (C C2 : Addr) : Prop where
  self : PySem.W.selfFirst K C = true
  self2 : PySem.W.selfFirst K C2 = true
  back : PySem.W.findIn K (.ref C) "__radd__" = some none
  back2 : PySem.W.findIn K (.ref C2) "__radd__" = some none
  add2 : ∃ f, PySem.W.findIn K (.ref C2) "__add__" = some (some (.ref f))
  sub : PySem.W.subIn K (.ref C2) (.ref C) = some false
  ne : C ≠ C2
theorem op_addTwo {C2 : Addr} (h : OwnR X.prog X.w X.K X.mg X.base C "__add__" k ps sp) (c : AddTwo X.K C C2) (hr : Room k X.A) :
    OpR X (binaryOp .Add) (fun x y H Q => ∃ a dx fs c dy gs, x = .ref a ∧ y = .ref c ∧ H a = some (.ins C dx fs) ∧ H c = some (.ins C2 dy gs) ∧ sp [.ref a, .ref c] H (fun v H' => (∃ r, v = .ref r) ∧ Q v H') E0) := by
  intro pins s σ H x y v u Q I rx ry hq
  obtain ⟨a, dx, fs, b, dy, gs, rfl, rfl, ha, hb, q⟩ := hq
  obtain ⟨f, fd, hs, hf, _, F, hbi⟩ := h
  obtain rfl : v = Value.ref a := rx
  obtain rfl : u = Value.ref b := ry
  obtain ⟨mA, J0, _⟩ := ins_get I.hok ha
  obtain ⟨od, J, _⟩ := J0.look
  obtain ⟨m, F0⟩ := I.fr
  obtain ⟨f2, h2⟩ := c.add2
  refine PySem.W.ur_binC (op := .Add) F0 I.ok.mod.kin J (ty_looks I (show L2.RelV (.ref b) (.ref b) from rfl) (.ins hb)) c.self c.self2 c.ne hs hf c.back h2 c.back2 c.sub (wpAny_mono (run_fn F hr hbi .nil pass0 I (.cons (show L2.RelV (.ref a) (.ref a) from rfl) (.cons (show L2.RelV (.ref b) (.ref b) from rfl) .nil)) q) (fun r s' z => ?_) fun _ _ z => z)
  obtain ⟨z, H', I', rz, ⟨d, ed⟩, q'⟩ := z
  subst ed
  obtain rfl : r = Value.ref d := rz
  exact ⟨.ref d, H', I', rfl, q'⟩
end
end Ur
/-! UrX: errors: several except clauses with names; an error that was caught and is kept as a value; isinstance of it. -/
namespace Ur
open PySem PySem.Spec PyProof.Rows L2
/-- an error that was caught, known by its class and its dict -/
def exk (p : Addr) (cls : Value) (d : Option Addr) : HO := .ext fun h => ∃ o : Obj, h.get? p = some o ∧ Zc cls d o ∧ ∃ vs, o.data = .fields vs
theorem exk_ok {P : Program} {w : World} {H : Hp} {h : Heap} {p : Addr} {cls : Value} {d : Option Addr} {o : Obj} (g : h.get? p = some o) (z : Zc cls d o) (f : ∃ vs, o.data = .fields vs) : ObjOk P w H h p (exk p cls d) := by
  refine ⟨⟨o, g, z, f⟩, ⟨o, g⟩, ?_⟩
  rintro h1 h2 ⟨o1, g1, z1, f1⟩ st
  exact ⟨o1, st _ g1, z1, f1⟩
section
variable {X : Cx} {pins : List (Addr × Obj)} {σ : L2.St} {H : Hp} {s : Shared} {p : Addr} {o : Obj} {cls : Value} {d : Option Addr}
/-- an object that was made here and is told nothing of as yet is told of -/
theorem noteErr (I : Inv X pins σ H s) (na : H p = none) (g : s.heap.get? p = some o) (z : Zc cls d o) (f : ∃ vs, o.data = .fields vs) (n0 : X.s_0.heap.get? p = none) (nL : p ≠ X.env.locals)
    (np : ∀ q ∈ X.pn ++ pins, q.1 ≠ p) : Inv X pins σ (upd H p (exk p cls d)) s := by
  have some_ne : ∀ {b : Addr} {u : HO}, H b = some u → b ≠ p := fun {b u} e q => by
    subst q
    rw [na] at e
    cases e
  have was_ne : ∀ {b : Addr} {u : Obj}, X.s_0.heap.get? b = some u → b ≠ p := fun {b u} e q => by
    subst q
    rw [n0] at e
    cases e
  obtain ⟨ok, os, bare, base, loc, cell, free, freeC, pin, hok, len⟩ := I
  refine ⟨ok, os, bare, ⟨base.keep, base.slot, ?_, base.there, ?_, ?_, ?_⟩, loc, cell, ?_, ?_, ?_, ?_, len⟩
  · intro b u e n x
    rw [upd_ne (was_ne e)]
    exact base.free b u e n x
  · intro b xs e
    have t := base.tups b xs e
    rw [upd_ne (some_ne t)]
    exact t
  · intro b u xs e
    have t := base.frzs b u xs e
    rw [upd_ne (some_ne t)]
    exact t
  · intro b ps e
    obtain ⟨m, t⟩ := base.tbls b ps e
    exact ⟨m, by rw [upd_ne (some_ne t)]; exact t⟩
  · rw [upd_ne (Ne.symm nL)]
    exact free
  · intro x c e
    have cp : c ≠ p := by
      rintro rfl
      obtain ⟨v, o2, g2, d2⟩ := cell x c e
      obtain ⟨vs, fd⟩ := f
      rw [g] at g2
      cases g2
      rw [fd] at d2
      cases d2
    rw [upd_ne cp]
    exact freeC x c e
  · intro q hq
    obtain ⟨g1, g2, g3⟩ := pin q hq
    exact ⟨g1, by rw [upd_ne (np q hq)]; exact g2, g3⟩
  · intro b u e
    by_cases hb : b = p
    · subst hb
      rw [upd_same] at e
      obtain rfl := Option.some.inj e
      exact exk_ok g z f
    · rw [upd_ne hb] at e
      refine (hok b u e).stay (fun _ _ _ x => x) (fun c q => ?_) (fun c xs q => ?_)
      · rw [upd_ne (some_ne q)]; exact q
      · rw [upd_ne (some_ne q)]; exact q
end
/-! ### try: .. except A as e: .. except B as e: .. -/
abbrev Suite := Addr → Value → Option Addr → TS
/-- behind a suite the error is known, its name is gone -/
def endsOf (D : Ends) (i : Nat) (p : Addr) (cls : Value) (d : Option Addr) : Ends where
  nx := fun σ H => H p = none → D.nx (σ.set i none) (upd H p (exk p cls d))
  rt := D.rt
  bk := fun σ H => D.bk (σ.set i none) H
  ct := fun σ H => D.ct (σ.set i none) H
/-- what is wished of an error, clause by clause: the class, the slot of the name, the suite -/
def wTries (K : PySem.W.Frag) (W0 : WX) (D : Ends) : List (Value × Nat × Suite) → WX
  | [] => W0
  | (c, i, ts) :: r => fun cls d σ H => ∃ b, PySem.W.exmOne K cls c = some b ∧ (b = true → ∀ p, H p = none → ts p cls d (endsOf D i p cls d) (σ.set i (some (.ref p))) H) ∧ (b = false → wTries K W0 D r cls d σ H)
inductive Clauses (X : Cx) : List ExceptHandler → List (Value × Nat × Suite) → Prop
  | nil : Clauses X [] []
  | cons {x n : Str} {c : Value} {i : Nat} {ts : Suite} {b0 : Stmt} {rest : List Stmt} {np hp : Pos} {hs : List ExceptHandler} {l : List (Value × Nat × Suite)} (names : Names X x c) (slot : X.N[i]? = some n) (kind : X.env.kindOf n = some .local)
      (suite : ∀ (p : Addr) (o : Obj) (cls : Value) (d : Option Addr) (pn : List (Addr × Obj)), Zc cls d o → (∃ vs, o.data = .fields vs) → PSs (X.suite p ((p, o) :: pn)) (b0 :: rest) (ts p cls d)) (more : Clauses X hs l) :
      Clauses X (.ExceptHandler (some (.Name x np)) (some n) (b0 :: rest) hp :: hs) ((c, i, ts) :: l)
section
variable {X : Cx} {body : List Stmt} {h1 : ExceptHandler} {hs : List ExceptHandler} {l : List (Value × Nat × Suite)} {pos : Pos} {tb : WX → TS} {W0 : WX}
theorem ps_tries (hst : X.stack = X.env :: X.outer) (hfl : X.env.frame = some X.env.locals) (hnx : X.ex = []) (hN : X.N.Nodup) (tk : Takes X W0)
    (hb : ∀ (W : WX) (pn : List (Addr × Obj)) (xe : Value → Shared → Prop), Takes (X.tr pn xe) W → PassesOwn (model X.prog X.w) X.A X.env xe → PSs (X.tr pn xe) body (tb W))
    (hc : Clauses X (h1 :: hs) l) : PS X (.Try body (h1 :: hs) [] [] pos) (fun D σ H => tb (wTries X.K W0 D l) D σ H) := by
  constructor
  intro pins s σ H D I ask
  have ok := I.ok
  have fr : X.A.frames = some (X.env :: X.outer) := ok.frames.trans (congrArg some hst)
  refine wpAny_Try_except ?_
  let xe : Value → Shared → Prop := fun e s₁ => wpAny (model X.prog X.w) X.A (noteFrame e X.env) (fun _ s₂ => wpAny (model X.prog X.w) X.A (setFlight e none) (fun _ s₃ => wpAny (model X.prog X.w) X.A (handleBy e X.env (h1 :: hs)) (SP X pins D) X.xe s₃) X.xe s₂) X.xe s₁
  have air : Takes (X.tr (X.pn ++ pins) xe) (wTries X.K W0 D l) := by
    rintro u s1 ⟨p, B, sI, pins1, σ1, H1, cls, d, rfl, J0, nb, up, sky, na, os, ag, w⟩
    have J : Inv X pins σ1 H1 sI := J0.ofTry ok
    have sky : Sky B (X.env :: X.outer) p (Zc cls d) X.env.locals s1.heap := hst ▸ sky
    show wpAny (model X.prog X.w) X.A (noteFrame (.ref p) X.env) _ _ _
    refine Sky.land Zc.steady fr hfl sky fun g3 fl3 up3 => ?_
    have J3 : Inv X pins σ1 H1 { s1 with heap := g3 } := J.landed nb fl3.1 (up.trans up3) os ag
    obtain ⟨o3, v3, e3, z3, f3⟩ := fl3.there
    have far : p ∉ frs (X.env :: X.outer) := by
      intro m
      obtain ⟨_, oo, eo, nf⟩ := fl3.2.2.1.mem m
      rw [e3] at eo
      obtain rfl := Option.some.inj eo
      exact nf _ f3
    have nL : p ≠ X.env.locals := fun q => far (List.mem_filterMap.mpr ⟨X.env, List.mem_cons_self, hfl.trans (congrArg some q.symm)⟩)
    have nF : p ∉ X.fs := by
      intro m
      obtain ⟨en, he, q⟩ := List.mem_filterMap.mp m
      exact far (List.mem_filterMap.mpr ⟨en, List.mem_cons_of_mem _ he, q⟩)
    have gone : sI.heap.get? p = none := by
      cases q : sI.heap.get? p with
      | none => rfl
      | some oo =>
        have := nb p oo q (by rw [hst]; exact far)
        have nB : B.get? p = none := fl3.2.1
        rw [nB] at this
        cases this
    have n0 : X.s_0.heap.get? p = none := by
      cases q : X.s_0.heap.get? p with
      | none => rfl
      | some oo =>
        obtain ⟨o4, e4⟩ := J.base.there p oo q (by rw [hnx]; exact fun z => nomatch z)
        rw [gone] at e4
        cases e4
    have np : ∀ q ∈ X.pn ++ pins, q.1 ≠ p := by
      intro q hq e
      have := (J.pin q hq).1
      rw [e, gone] at this
      cases this
    have S3 := J3.suite e3 f3 na nL nF
    have go : ∀ {hs' : List ExceptHandler} {l' : List (Value × Nat × Suite)}, Clauses X hs' l' → wTries X.K W0 D l' cls d σ1 H1 → wpAny (model X.prog X.w) X.A (handleBy (.ref p) X.env hs') (SP X pins D) X.xe { s1 with heap := g3 } := by
      intro hs' l' cl
      induction cl with
      | nil =>
        intro w
        refine wpAny_handleBy_nil ?_
        obtain ⟨_, _, _, oe, vs, T, oT, tt, he, hz, hd, h1, _⟩ := id fl3
        unfold PySem.passOn
        refine wpAny_bind (wpAny_field he hd h1 ?_)
        rw [if_neg (by simp)]
        have rest : wpAny (model X.prog X.w) X.A (setFlight (.ref p) X.env.frame) (fun _ s4 => wpAny (model X.prog X.w) X.A (throw (.ref p) : Sem Flow) (SP X pins D) X.xe s4) X.xe { s1 with heap := g3 } := by
          rw [hfl]
          exact HandSPX.setFlight_upZ fl3 fun g4 held up4 => wpAny_throw (tk _ _ ⟨p, B, sI, pins, σ1, H1, cls, d, rfl, J, nb, (up.trans up3).trans up4, .inr (.inr (by rw [hst]; exact held)), na, os, ag, w⟩)
        first
          | exact wpAny_bind (wpAny_pure (wpAny_bind rest))
          | exact wpAny_bind rest
      | @cons x n c i ts b0 more2 np2 hp2 hs2 l2 names slot kind suite more ih =>
        intro w
        obtain ⟨b, fits, yes, no⟩ := w
        refine wpAny_handleBy_cons (codeAny_handlers_test ?_) (fun q => nomatch q)
        have LT : PySem.W.Looks (model X.prog X.w) g3 (typeOf (.ref p)) cls := fun A Q E s k q => wpAny_typeOf_ref (k _ _ e3) (z3.1.symm ▸ q)
        have LM := PySem.W.exm_one (M := model X.prog X.w) J3.kIn LT fits
        have ask : ∀ {Q : Value → Shared → Prop} {E : Value → Shared → Prop}, Q c { s1 with heap := g3 } → wpAny (model X.prog X.w) (X.A.mark (some (.ref p))) (eval (.Name x np2) X.env) Q E { s1 with heap := g3 } := by
          intro Q E q
          rcases names with ⟨gl, db, m | ⟨m, bv, nn⟩⟩
          · exact ld_glob (X := X.suite p ((p, o3) :: (X.pn ++ pins))) S3 gl m q db
          · exact ld_blt (X := X.suite p ((p, o3) :: (X.pn ++ pins))) S3 gl m bv q nn db
        refine ask (LM.here ?_)
        cases b with
        | false => exact ih (no rfl)
        | true =>
          refine codeAny_handlers_suite_as (HandSPX.lands_againZ fl3 fun g4 fl4 up4 => ?_)
          have J4 : Inv X pins σ1 H1 { s1 with heap := g4 } := J.landed nb fl4.1 ((up.trans up3).trans up4) os ag
          obtain ⟨o4, v4, e4, z4, f4⟩ := fl4.there
          have S4 := J4.suite e4 f4 na nL nF
          refine store_ok (X := X.suite p ((p, o4) :: (X.pn ++ pins))) (v := .ref p) S4 hN slot (Or.inl kind) rfl (fun s5 S5 => ?_) (.inr kind)
          refine wpAny_mono ((suite p o4 cls d (X.pn ++ pins) z4 ⟨_, f4⟩).run [] s5 _ H1 _ S5 (yes rfl p na)) ?_ (fun _ _ z => z.elim)
          intro fl s6 sp
          have bye : ∀ {σ6 : L2.St} {H6 : Hp} {Q : Shared → Prop}, Inv X pins σ6 H6 s6 → (∀ s7, Inv X pins (σ6.set i none) H6 s7 → Q s7) → wpAny (model X.prog X.w) X.A (do bindName X.env n .none; unbindBehindTheSuite X.env n hp2) (fun _ s7 => Q s7) X.xe s6 :=
            fun S6 q => gone_ok S6 hN slot kind q
          match fl, sp with
          | .next, ⟨σ6, H6, S6, q6⟩ =>
            have pin6 := S6.pin (p, o4) (List.mem_append_left _ List.mem_cons_self)
            exact bye (noteErr (S6.unsuite ok) pin6.2.1 pin6.1 z4 ⟨_, f4⟩ n0 nL np) fun s7 J7 => ⟨_, _, J7, q6 pin6.2.1⟩
          | .brk, ⟨σ6, H6, S6, q6⟩ => exact bye (S6.unsuite ok) fun s7 J7 => ⟨_, _, J7, q6⟩
          | .cont, ⟨σ6, H6, S6, q6⟩ => exact bye (S6.unsuite ok) fun s7 J7 => ⟨_, _, J7, q6⟩
          | .ret u, ⟨v6, σ6, H6, S6, r6, q6⟩ => exact bye (S6.unsuite ok) fun s7 J7 => ⟨_, _, _, J7, r6, q6⟩
    exact go hc w
  refine wpAny_mono ((hb (wTries X.K W0 D l) (X.pn ++ pins) xe air PassesOwn.looking).run [] s σ H D (I.toTry _) ask) ?_ (fun _ _ z => z)
  intro fl s1 sp
  match fl, sp with
  | .next, ⟨σ1, H1, J, q⟩ => exact wpAny_execs_nil ⟨σ1, H1, J.ofTry ok, q⟩
  | .brk, ⟨σ1, H1, J, q⟩ => exact ⟨σ1, H1, J.ofTry ok, q⟩
  | .cont, ⟨σ1, H1, J, q⟩ => exact ⟨σ1, H1, J.ofTry ok, q⟩
  | .ret u, ⟨v, σ1, H1, J, r, q⟩ => exact ⟨v, σ1, H1, J.ofTry ok, r, q⟩
end
/-! ### isinstance -/
/-- where an error's dict is: nowhere, or tracked -/
def DictAt (H : Hp) (d : Option Addr) : Prop := d = none ∨ ∃ (a : Addr) (fs : List (Str × V)), d = some a ∧ H a = some (.xd fs)
theorem dict_look {X : Cx} {pins : List (Addr × Obj)} {σ : L2.St} {H : Hp} {s : Shared} {p C : Addr} {o : Obj} {d : Option Addr} (I : Inv X pins σ H s) (g : s.heap.get? p = some o) (z : Zc (.ref C) d o) (f : ∃ vs, o.data = .fields vs) (hd : DictAt H d) :
    ∃ od, PySem.W.InstAt s.heap p o C od := by
  obtain ⟨vs, f⟩ := f
  have nc : PySem.W.notCls o = true := by unfold PySem.W.notCls; rw [f]
  rcases hd with rfl | ⟨a, fs, rfl, ha⟩
  · exact ⟨none, g, z.1, nc, by rw [z.2]; trivial⟩
  · have x : ObjOk X.prog X.w H s.heap a (.xd fs) := I.hok a _ ha
    obtain ⟨mA, hns, hr⟩ := x
    obtain ⟨od, ho, hl⟩ := lookIn_ns hns
    exact ⟨some od, g, z.1, nc, by rw [z.2]; exact ho⟩
theorem isi_err {X : Cx} {pins : List (Addr × Obj)} {σ : L2.St} {H : Hp} {s : Shared} {p D : Addr} {o : Obj} {d : Option Addr} {cv : Value} {b : Bool} {Q : VK} (I : Inv X pins σ H s) (C : ExcC X.K D) (g : s.heap.get? p = some o) (z : Zc (.ref D) d o)
    (f : ∃ vs, o.data = .fields vs) (hd : DictAt H d) (e : PySem.W.kitOne X.K (.ref D) cv = some b) (q : Q (.bl b) H) : wpAny (model X.prog X.w) X.A (call (.builtin "isinstance") [.ref p, cv]) (EP X pins σ Q) X.xe s := by
  obtain ⟨od, J⟩ := dict_look I g z f hd
  have hc : (PySem.W.clsIn X.K D).isSome = true := by
    obtain ⟨cd, hcd, _⟩ := PySem.W.any_some C.hd
    rw [hcd]; rfl
  exact PySem.W.kia_one (PySem.W.kitx_exc hc C.hg C.hk C.hs C.ha C.hn C.ht C.hm) I.kIn J e (fun z => nomatch z) fun tk => ⟨.bl b, H, I.tok tk, rfl, q⟩
/-- isinstance(e, c) of an error that is kept -/
def rIsK (K : PySem.W.Frag) : List V → Hp → VK → Prop := fun xs H Q => ∃ (p D : Addr) (d : Option Addr) (c : V) (cv : Value) (b : Bool), xs = [.ref p, c] ∧ H p = some (exk p (.ref D) d) ∧ DictAt H d ∧ ExcC K D ∧ ClsV c cv ∧ PySem.W.kitOne K (.ref D) cv = some b ∧ Q (.bl b) H
theorem call_isK {X : Cx} : CallR X (.builtin "isinstance") (rIsK X.K) := by
  intro pins s σ H xs us Q I r h
  obtain ⟨p, D, d, c, cv, b, rfl, hp, hd, C, k, e, q⟩ := h
  obtain ⟨u1, u2, rfl, r1, r2⟩ := vals2 r
  obtain rfl : u1 = Value.ref p := r1
  obtain rfl := k.eq r2
  have x : ObjOk X.prog X.w H s.heap p (.ext _) := I.hok p _ hp
  obtain ⟨⟨o, g, z, f⟩, _⟩ := x
  exact isi_err I C g z f hd e q
/-- .. of the error that a suite holds -/
def rIsS (K : PySem.W.Frag) (D p : Addr) (d : Option Addr) : List V → Hp → VK → Prop := fun xs H Q => ∃ (c : V) (cv : Value) (b : Bool), xs = [.ref p, c] ∧ DictAt H d ∧ ClsV c cv ∧ PySem.W.kitOne K (.ref D) cv = some b ∧ Q (.bl b) H
theorem call_isS {X : Cx} {p D : Addr} {o : Obj} {d : Option Addr} {pn : List (Addr × Obj)} (C : ExcC X.K D) (z : Zc (.ref D) d o) (f : ∃ vs, o.data = .fields vs) : CallR (X.suite p ((p, o) :: pn)) (.builtin "isinstance") (rIsS X.K D p d) := by
  intro pins s σ H xs us Q I r h
  obtain ⟨c, cv, b, rfl, hd, k, e, q⟩ := h
  obtain ⟨u1, u2, rfl, r1, r2⟩ := vals2 r
  obtain rfl : u1 = Value.ref p := r1
  obtain rfl := k.eq r2
  exact isi_err (X := X.suite p ((p, o) :: pn)) I C (I.pin (p, o) (List.mem_append_left _ List.mem_cons_self)).1 z f hd e q
end Ur
/-! UrY: values of any kind: what they are, what isinstance says of them, how they are shown. -/
namespace Ur
open PySem PySem.Spec PyProof.Rows L2
def keyD : Key → PyData
  | .inl i => .int i
  | .inr x => .str x
/-- no object: None, a bool, a number, a text -/
inductive Flat : V → PyData → Prop
  | non : Flat .non .none
  | bl (b : Bool) : Flat (.bl b) (.bool b)
  | int (i : Int) : Flat (.int i) (.int i)
  | str (x : Str) : Flat (.str x) (.str x)
/-- v is the data d, at most n deep; np is no part of it, nor is the table of the modules -/
def DqN (H : Hp) (np : Addr) : Nat → V → PyData → Prop
  | 0, v, d => Flat v d
  | n + 1, v, d => Flat v d ∨ (∃ (a : Addr) (xs : List V) (ds : List PyData), v = .ref a ∧ H a = some (.lst xs) ∧ a ≠ sysModules ∧ Paired (DqN H np n) xs ds ∧ d = .list ds) ∨
      (∃ (a : Addr) (xs : List V) (ds : List PyData), v = .ref a ∧ H a = some (.tup xs) ∧ Paired (DqN H np n) xs ds ∧ d = .tuple ds) ∨
      ∃ (a : Addr) (kvs : List (Key × V)) (es : List (PyData × PyData)), v = .ref a ∧ a ≠ np ∧ H a = some (.dK kvs) ∧ Paired (fun (p : Key × V) (e : PyData × PyData) => e.1 = keyD p.1 ∧ DqN H np n p.2 e.2) kvs es ∧ d = .dict es
theorem Paired.map2 {α β : Type} {R S : α → β → Prop} (f : ∀ a b, R a b → S a b) : ∀ {xs : List α} {ys : List β}, Paired R xs ys → Paired S xs ys
  | _, _, .nil => .nil
  | _, _, .cons h t => .cons (f _ _ h) (Paired.map2 f t)
theorem DqN.flat {H : Hp} {np : Addr} {v : V} {d : PyData} (f : Flat v d) : ∀ {n : Nat}, DqN H np n v d
  | 0 => f
  | _ + 1 => .inl f
/-- it stays what it is while nothing but np changes -/
theorem DqN.keep {H H' : Hp} {np : Addr} {kk : List (Key × V)} (k : Keep np H H') (hn : H np = some (.dK kk)) : ∀ {n : Nat} {v : V} {d : PyData}, DqN H np n v d → DqN H' np n v d
  | 0, _, _, h => h
  | n + 1, v, d, h => by
    rcases h with h | ⟨a, xs, ds, e, ha, ns, ps, ed⟩ | ⟨a, xs, ds, e, ha, ps, ed⟩ | ⟨a, kvs, es, e, na, ha, ps, ed⟩
    · exact .inl h
    · exact .inr (.inl ⟨a, xs, ds, e, k _ _ ha (ne_of ha hn (by intro z; cases z)), ns, Paired.map2 (fun _ _ => DqN.keep k hn) ps, ed⟩)
    · exact .inr (.inr (.inl ⟨a, xs, ds, e, k _ _ ha (ne_of ha hn (by intro z; cases z)), Paired.map2 (fun _ _ => DqN.keep k hn) ps, ed⟩))
    · exact .inr (.inr (.inr ⟨a, kvs, es, e, na, k _ _ ha na, Paired.map2 (fun _ _ q => ⟨q.1, DqN.keep k hn q.2⟩) ps, ed⟩))
theorem DqN.same {H H' : Hp} {np : Addr} (k : Same H H') : ∀ {n : Nat} {v : V} {d : PyData}, DqN H np n v d → DqN H' np n v d
  | 0, _, _, h => h
  | n + 1, v, d, h => by
    rcases h with h | ⟨a, xs, ds, e, ha, ns, ps, ed⟩ | ⟨a, xs, ds, e, ha, ps, ed⟩ | ⟨a, kvs, es, e, na, ha, ps, ed⟩
    · exact .inl h
    · exact .inr (.inl ⟨a, xs, ds, e, k _ _ ha, ns, Paired.map2 (fun _ _ => DqN.same k) ps, ed⟩)
    · exact .inr (.inr (.inl ⟨a, xs, ds, e, k _ _ ha, Paired.map2 (fun _ _ => DqN.same k) ps, ed⟩))
    · exact .inr (.inr (.inr ⟨a, kvs, es, e, na, k _ _ ha, Paired.map2 (fun _ _ q => ⟨q.1, DqN.same k q.2⟩) ps, ed⟩))
theorem DqN.up {H : Hp} {np : Addr} : ∀ {n : Nat} {v : V} {d : PyData}, DqN H np n v d → DqN H np (n + 1) v d
  | 0, _, _, h => .inl h
  | n + 1, v, d, h => by
    rcases h with h | ⟨a, xs, ds, e, ha, ns, ps, ed⟩ | ⟨a, xs, ds, e, ha, ps, ed⟩ | ⟨a, kvs, es, e, na, ha, ps, ed⟩
    · exact .inl h
    · exact .inr (.inl ⟨a, xs, ds, e, ha, ns, Paired.map2 (fun _ _ => DqN.up) ps, ed⟩)
    · exact .inr (.inr (.inl ⟨a, xs, ds, e, ha, Paired.map2 (fun _ _ => DqN.up) ps, ed⟩))
    · exact .inr (.inr (.inr ⟨a, kvs, es, e, na, ha, Paired.map2 (fun _ _ q => ⟨q.1, DqN.up q.2⟩) ps, ed⟩))
section
variable {X : Cx} {pins : List (Addr × Obj)} {σ : L2.St} {H : Hp} {s : Shared} {np : Addr}
theorem Flat.reads {v : V} {d : PyData} {u : Value} {h : Heap} (f : Flat v d) (r : RelV v u) : Reads h u d [] := by
  cases f with
  | non => obtain rfl : u = Value.none := r; exact Reads.none
  | bl b => obtain rfl : u = Value.bool b := r; exact Reads.bool b
  | int i => obtain ⟨t, rfl⟩ := (show ∃ t, u = Value.int i t from r); exact Reads.int i t
  | str x => obtain ⟨t, rfl⟩ := (show ∃ t, u = Value.str x t from r); exact Reads.str x t
theorem readsAll_of {h : Heap} {R : V → PyData → Prop} (f : ∀ v d u, R v d → RelV v u → ∃ as, Reads h u d as ∧ sysModules ∉ as) :
    ∀ {xs : List V} {ds : List PyData} {us : List Value}, Paired R xs ds → Vals xs us → ∃ as, ReadsAll h us ds as ∧ sysModules ∉ as
  | _, _, _, .nil, .nil => ⟨_, ReadsAll.nil, fun z => nomatch z⟩
  | _, _, _, .cons a b, .cons r t => by
    obtain ⟨as, q1, n1⟩ := f _ _ _ a r
    obtain ⟨bs, q2, n2⟩ := readsAll_of f b t
    exact ⟨_, ReadsAll.cons q1 q2, fun z => (List.mem_append.mp z).elim n1 n2⟩
theorem reads_keys {h : Heap} : ∀ {es : List DictEntry} {kv : List (Key × Value)}, Pairs (mixKind X.prog X.w) es kv → ReadsAll h (es.map (·.key)) (kv.map fun p => keyD p.1) []
  | _, _, .nil => ReadsAll.nil
  | _, _, .cons (e := e) (kv := p) k _ t => by
    have z := reads_keys (h := h) t
    rcases keyIs_shape k with ⟨i, tk, e1, e2⟩ | ⟨x, tk, e1, e2⟩
    · have y : Reads h e.key (keyD p.1) [] := by rw [e1, e2]; exact Reads.int i tk
      exact ReadsAll.cons y z
    · have y : Reads h e.key (keyD p.1) [] := by rw [e1, e2]; exact Reads.str x tk
      exact ReadsAll.cons y z
theorem pairs_vals : ∀ {es : List DictEntry} {kv : List (Key × Value)}, Pairs (mixKind X.prog X.w) es kv → es.map (·.val) = kv.map (·.2)
  | _, _, .nil => rfl
  | _, _, .cons _ e t => by
    rw [List.map_cons, List.map_cons, e, pairs_vals t]
theorem DqN.reads (I : Inv X pins σ H s) : ∀ (n : Nat) (v : V) (d : PyData) (u : Value), DqN H np n v d → RelV v u → ∃ as, Reads s.heap u d as ∧ sysModules ∉ as
  | 0, _, _, _, h, r => ⟨_, Flat.reads h r, fun z => nomatch z⟩
  | n + 1, v, d, u, h, r => by
    rcases h with h | ⟨a, xs, ds, rfl, ha, ns, ps, rfl⟩ | ⟨a, xs, ds, rfl, ha, ps, rfl⟩ | ⟨a, kvs, es, rfl, na, ha, ps, rfl⟩
    · exact ⟨_, Flat.reads h r, fun z => nomatch z⟩
    · obtain rfl : u = Value.ref a := r
      obtain ⟨_, its, m, rv, g⟩ := (show ObjOk X.prog X.w H s.heap a (.lst xs) from I.hok a _ ha)
      obtain ⟨as, q, nq⟩ := readsAll_of (DqN.reads I n) ps rv
      exact ⟨_, Reads.list g rfl rfl q, fun z => (List.mem_cons.mp z).elim (fun e => ns e.symm) nq⟩
    · obtain rfl : u = Value.ref a := r
      obtain ⟨_, its, rv, o, g, gc, m, gd⟩ := (show ObjOk X.prog X.w H s.heap a (.tup xs) from I.hok a _ ha)
      obtain ⟨as, q, nq⟩ := readsAll_of (DqN.reads I n) ps rv
      exact ⟨_, Reads.tuple g gc gd q, nq⟩
    · obtain rfl : u = Value.ref a := r
      obtain ⟨_, nsys, kv, rk, o, es0, ep, g, ex, gd, _, prs, _⟩ := dk_of I.hok ha
      have key : ∀ {kvs : List (Key × V)} {es : List (PyData × PyData)} {kv : List (Key × Value)}, Paired (fun (p : Key × V) (e : PyData × PyData) => e.1 = keyD p.1 ∧ DqN H np n p.2 e.2) kvs es → KV kvs kv →
          (kv.map fun p => keyD p.1) = es.map (·.1) ∧ Paired (DqN H np n) (kvs.map (·.2)) (es.map (·.2)) ∧ Vals (kvs.map (·.2)) (kv.map (·.2)) := by
        intro kvs es kv p
        induction p generalizing kv with
        | nil => intro r; cases r; exact ⟨rfl, .nil, .nil⟩
        | cons h t ih =>
          intro r
          cases r with
          | cons r1 r2 =>
            obtain ⟨e1, e2, e3⟩ := ih r2
            refine ⟨?_, .cons h.2 e2, .cons r1.2 e3⟩
            rw [List.map_cons, List.map_cons, e1, h.1, r1.1]
      obtain ⟨e1, e2, e3⟩ := key ps rk
      obtain ⟨bs, q, nq⟩ := readsAll_of (DqN.reads I n) e2 e3
      have k1 := reads_keys (X := X) (h := s.heap) prs
      rw [e1] at k1
      have v1 := pairs_vals (X := X) prs
      refine ⟨_, Reads.dict g ex.1 gd k1 (by rw [v1]; exact q), fun z => ?_⟩
      have z : sysModules ∈ a :: bs := z
      rcases List.mem_cons.mp z with z | z
      · rw [z] at nsys
        simp at nsys
      · exact nq z
end
/-- a value of any kind -/
def Any (H : Hp) (v : V) (d : PyData) : Prop := ∃ (np : Addr) (n : Nat), DqN H np n v d
/-! ### what can be shown, dicts too -/
structure ShX (d : PyData) (n k : Nat) : Prop where
  sh : d.showable = true
  dp : d.depth ≤ k
  lv : d.leavesShort 1930 = true
  wt : d.weight ≤ n
structure ShXAll (ds : List PyData) (n k : Nat) : Prop where
  sh : PyData.showableAll ds = true
  dp : PyData.depthAll ds ≤ k
  lv : PyData.leavesShortAll 1930 ds = true
  wt : PyData.weightAll ds ≤ n
theorem Shw.x {d : PyData} {n k : Nat} (s : Shw d n k) : ShX d n k := ⟨s.sh, s.dp, s.lv, s.wt⟩
theorem ShX.mono {d : PyData} {n k m j : Nat} (s : ShX d n k) (h1 : n ≤ m) (h2 : k ≤ j) : ShX d m j := ⟨s.sh, Nat.le_trans s.dp h2, s.lv, Nat.le_trans s.wt h1⟩
theorem ShXAll.nil : ShXAll [] 0 0 := ⟨rfl, Nat.le_refl _, rfl, Nat.le_refl _⟩
theorem ShXAll.cons {d : PyData} {ds : List PyData} {n k m j : Nat} (a : ShX d n k) (b : ShXAll ds m j) : ShXAll (d :: ds) (n + 1 + m) (max k j) := by
  refine ⟨?_, ?_, ?_, ?_⟩
  · show (d.showable && PyData.showableAll ds) = true
    rw [a.sh, b.sh]; rfl
  · show max d.depth (PyData.depthAll ds) ≤ max k j
    have := a.dp; have := b.dp; omega
  · show (d.leavesShort 1930 && PyData.leavesShortAll 1930 ds) = true
    rw [a.lv, b.lv]; rfl
  · show d.weight + 1 + PyData.weightAll ds ≤ n + 1 + m
    have := a.wt; have := b.wt; omega
theorem ShXAll.lst {ds : List PyData} {n k : Nat} (a : ShXAll ds n k) : ShX (.list ds) n (k + 1) := ⟨a.sh, Nat.succ_le_succ a.dp, a.lv, a.wt⟩
theorem ShX.fits {d : PyData} {n k : Nat} (s : ShX d n k) (h : n ≤ 8600) : d.shown.length ≤ sizeLine := by
  have z := PyData.shown_le 1930 (by decide) d s.lv
  have w : (1930 + 2) * d.weight ≤ 1932 * 8600 := Nat.mul_le_mul_left _ (Nat.le_trans s.wt h)
  have e : sizeLine = 16777216 := by decide
  omega
/-- repr(x) of any such value -/
def rReprQ : List V → Hp → VK → Prop := fun xs H Q => ∃ (x : V) (d : PyData) (n k : Nat), xs = [x] ∧ Any H x d ∧ ShX d n k ∧ n ≤ 8600 ∧ k ≤ 64 ∧ ∀ z : Str, z = d.shown → Q (.str z) H
section
variable {X : Cx}
theorem call_reprQ (hs : Still X.A) (hu : X.A.units + 66 < cLine) : CallR X (.builtin "repr") rReprQ := by
  intro pins s σ H xs us Q I r h
  obtain ⟨x, d, n, k, rfl, ⟨np, m, hd⟩, sh, hn, hk, q⟩ := h
  have q := q _ rfl
  have fz := sh.fits hn
  have flat : Flat x d → wpAny (model X.prog X.w) X.A (call (.builtin "repr") us) (EP X pins σ Q) X.xe s := by
    intro f
    refine call_reprF pins s σ H [x] us Q I r ?_
    cases f with
    | non => exact Or.inl ⟨rfl, q⟩
    | bl b => exact Or.inr (Or.inl ⟨b, rfl, q⟩)
    | int i => exact Or.inr (Or.inr (Or.inl ⟨i, rfl, of_decide_eq_true sh.sh, q⟩))
    | str y => exact Or.inr (Or.inr (Or.inr ⟨y, rfl, fz, q⟩))
  have dp := Nat.le_trans sh.dp hk
  obtain ⟨u, rfl, ru⟩ := vals1 r
  have big : ∀ a, x = .ref a → wpAny (model X.prog X.w) X.A (call (.builtin "repr") [u]) (EP X pins σ Q) X.xe s := by
    rintro a rfl
    obtain rfl : u = Value.ref a := ru
    obtain ⟨as, rd, ns⟩ := DqN.reads I m _ d (Value.ref a) hd rfl
    exact repr_of_reads' rd sh.sh (fun _ => ns) hs (by omega) (fun _ _ e => e) (fun h' v tk kp => ⟨.str _, H, I.kept kp, ⟨v, rfl⟩, q⟩) fz
  cases m with
  | zero => exact flat hd
  | succ m =>
    rcases hd with h | ⟨a, xs, ds, e, _⟩ | ⟨a, xs, ds, e, _⟩ | ⟨a, kvs, es, e, _⟩
    · exact flat h
    · exact big a e
    · exact big a e
    · exact big a e
end
/-! ### isinstance -/
def kindD : PyData → String
  | .none => "NoneType"
  | .bool _ => "bool"
  | .int _ => "int"
  | .str _ => "str"
  | .list _ => "list"
  | .tuple _ => "tuple"
  | .dict _ => "dict"
theorem Flat.ty {K : PySem.W.Frag} {H : Hp} {v : V} {d : PyData} (f : Flat v d) : TyX K H v (.type (kindD d)) := by
  cases f with
  | non => exact .base .non
  | bl b => exact .base (.bl b)
  | int i => exact .base (.int i)
  | str x => exact .base (.str x)
theorem DqN.ty {K : PySem.W.Frag} {H : Hp} {np : Addr} : ∀ {n : Nat} {v : V} {d : PyData}, DqN H np n v d → TyX K H v (.type (kindD d))
  | 0, _, _, h => Flat.ty h
  | n + 1, v, d, h => by
    rcases h with h | ⟨a, xs, ds, rfl, ha, ns, ps, rfl⟩ | ⟨a, xs, ds, rfl, ha, ps, rfl⟩ | ⟨a, kvs, es, rfl, na, ha, ps, rfl⟩
    · exact h.ty
    · exact .base (.lst ha)
    · exact .base (.tup ha)
    · exact .base (.dK ha)
def isIntD : PyData → Bool
  | .int _ => true
  | .bool _ => true
  | _ => false
def isBoolD : PyData → Bool
  | .bool _ => true
  | _ => false
def isStrD : PyData → Bool
  | .str _ => true
  | _ => false
theorem kit_intD {K : PySem.W.Frag} (d : PyData) : PySem.W.kitOne K (.type (kindD d)) (.type "int") = some (isIntD d) := by
  cases d with
  | none => exact kit_ty (K := K) (a := "NoneType") (b := "int") (r := false) (by decide +kernel)
  | bool _ => exact kit_ty (K := K) (a := "bool") (b := "int") (r := true) (by decide +kernel)
  | int _ => exact kit_ty (K := K) (a := "int") (b := "int") (r := true) (by decide +kernel)
  | str _ => exact kit_ty (K := K) (a := "str") (b := "int") (r := false) (by decide +kernel)
  | list _ => exact kit_ty (K := K) (a := "list") (b := "int") (r := false) (by decide +kernel)
  | tuple _ => exact kit_ty (K := K) (a := "tuple") (b := "int") (r := false) (by decide +kernel)
  | dict _ => exact kit_ty (K := K) (a := "dict") (b := "int") (r := false) (by decide +kernel)
theorem kit_boolD {K : PySem.W.Frag} (d : PyData) : PySem.W.kitOne K (.type (kindD d)) (.type "bool") = some (isBoolD d) := by
  cases d with
  | none => exact kit_ty (K := K) (a := "NoneType") (b := "bool") (r := false) (by decide +kernel)
  | bool _ => exact kit_ty (K := K) (a := "bool") (b := "bool") (r := true) (by decide +kernel)
  | int _ => exact kit_ty (K := K) (a := "int") (b := "bool") (r := false) (by decide +kernel)
  | str _ => exact kit_ty (K := K) (a := "str") (b := "bool") (r := false) (by decide +kernel)
  | list _ => exact kit_ty (K := K) (a := "list") (b := "bool") (r := false) (by decide +kernel)
  | tuple _ => exact kit_ty (K := K) (a := "tuple") (b := "bool") (r := false) (by decide +kernel)
  | dict _ => exact kit_ty (K := K) (a := "dict") (b := "bool") (r := false) (by decide +kernel)
theorem kit_strD {K : PySem.W.Frag} (d : PyData) : PySem.W.kitOne K (.type (kindD d)) (.type "str") = some (isStrD d) := by
  cases d with
  | none => exact kit_ty (K := K) (a := "NoneType") (b := "str") (r := false) (by decide +kernel)
  | bool _ => exact kit_ty (K := K) (a := "bool") (b := "str") (r := false) (by decide +kernel)
  | int _ => exact kit_ty (K := K) (a := "int") (b := "str") (r := false) (by decide +kernel)
  | str _ => exact kit_ty (K := K) (a := "str") (b := "str") (r := true) (by decide +kernel)
  | list _ => exact kit_ty (K := K) (a := "list") (b := "str") (r := false) (by decide +kernel)
  | tuple _ => exact kit_ty (K := K) (a := "tuple") (b := "str") (r := false) (by decide +kernel)
  | dict _ => exact kit_ty (K := K) (a := "dict") (b := "str") (r := false) (by decide +kernel)
/-- isinstance(x, T) of such a value -/
def rIsQ (T : String) (g : PyData → Bool) : List V → Hp → VK → Prop := fun xs H Q => ∃ (x : V) (d : PyData), xs = [x, .ty T] ∧ Any H x d ∧ Q (.bl (g d)) H
theorem call_isQ {X : Cx} {T : String} {g : PyData → Bool} (hk : ∀ d, PySem.W.kitOne X.K (.type (kindD d)) (.type T) = some (g d)) : CallR X (.builtin "isinstance") (rIsQ T g) := by
  intro pins s σ H xs us Q I r h
  obtain ⟨x, d, rfl, ⟨np, n, hd⟩, q⟩ := h
  exact call_isi pins s σ H _ us Q I r ⟨x, .ty T, _, _, g d, rfl, .ty T, hd.ty, hk d, q⟩
/-! ### a list's display: no table of the modules -/
def tLstS (t : TA) : TE := fun σ H Q => t σ H fun xs H1 => xs.length ≤ sizeLine ∧ ∀ p, H1 p = none → p ≠ sysModules → Q (.ref p) (upd H1 p (.lst xs))
theorem pe_lstS {X : Cx} {es : List Expr} {pos : Pos} {t : TA} (h : PA X es t) : PE X (.List es pos) (tLstS t) := by
  constructor
  intro pins s σ H Q I hq
  refine wpAny_List_spliced (thn (h.run pos pins s σ H _ I hq) ?_)
  rintro us s1 ⟨xs, H1, J, r, z, q⟩
  refine ⟨by rw [← r.length]; exact z, ?_⟩
  have fresh := J.hok.fresh (Nat.le_refl s1.heap.objs.size)
  have two : cStatics < s1.heap.objs.size := by
    obtain ⟨mc, hn, _⟩ := J.nolimit
    exact hn.lt
  have one : s1.heap.objs.size ≠ sysModules := by
    intro e
    rw [e] at two
    exact absurd two (by decide)
  exact ⟨.ref s1.heap.objs.size, _, J.laid (o := .lst xs) (t' := s1.toks) (fun _ _ e => Heap.get?_push_of_some _ e) (Nat.le_refl _) ⟨z, us, 0, r, Heap.get?_push_size _ rfl⟩, rfl, q _ fresh one⟩
end Ur
/-! FB: fences: painters, names, len, in, [..], + . -/
namespace Ur
open PySem PySem.Spec PyProof.Rows L2
theorem FcAt.len {C CF : Addr} {H : Hp} {f : Addr} {L : List Pt} (h : FcAt C CF H f L) : L.length ≤ 40 := h.crew.few
theorem refs_len (L : List Pt) : (refsOf L).length = L.length := by unfold refsOf; rw [List.length_map]
theorem refs_snoc (L : List Pt) (x : Pt) : refsOf (L ++ [x]) = refsOf L ++ [V.ref x.a] := by unfold refsOf; rw [List.map_append]; rfl
/-- a fence that was just made -/
theorem fence_made {C CF : Addr} {H H2 : Hp} {x dx p d : Addr} {L : List Pt} (nx : H x = none) (nd : H dx = none) (np : upd (upd H dx (.own x)) x (.ins CF dx []) p = none) (h1 : H2 x = some (.ins CF dx (ffs p d))) (h2 : H2 d = some (.dK (kvOf L)))
    (k : Keep x (upd (upd (upd H dx (.own x)) x (.ins CF dx [])) p (.tup (refsOf L))) H2) (cr : Crew C H L) : FcAt C CF H2 x L ∧ Same H H2 := by
  have px : p ≠ x := fun e => by rw [e, upd_same] at np; cases np
  have sm : Same H H2 := Same.made nx nd fun b o e hb => k b o (by rw [upd_ne (ne_of_none e np)]; exact e) hb
  exact ⟨⟨⟨dx, p, d, h1, k _ _ upd_same px, h2⟩, cr.same sm⟩, sm⟩
/-- what a crew asks where the fence is made -/
theorem Crew.made {C CF : Addr} {H : Hp} {x dx p : Addr} {L : List Pt} (nx : H x = none) (nd : H dx = none) (np : upd (upd H dx (.own x)) x (.ins CF dx []) p = none) (cr : Crew C H L) (u : HO) : Crew C (upd (upd (upd H dx (.own x)) x (.ins CF dx [])) p u) L :=
  cr.same fun b o e => by
    have e2 : upd (upd H dx (.own x)) x (.ins CF dx []) b = some o := by rw [upd_ne (ne_of_none e nx), upd_ne (ne_of_none e nd)]; exact e
    rw [upd_ne (ne_of_none e2 np)]
    exact e2
/-- the promise of Fence.__init__ as it is called -/
abbrev spFI (C CF : Addr) : Sp := fun vs H Q E => ∃ w rest, vs = w :: rest ∧ rest.length ≤ sizeLine ∧ ∀ p, H p = Option.none → spFInit C CF [w, V.ref p] (upd H p (.tup rest)) Q E
/-- how it is asked where a fence is made of a crew -/
theorem ask_fence {C CF : Addr} {H : Hp} {x dx : Addr} {L : List Pt} {Q : VK} {E : XK} (nx : H x = none) (nd : H dx = none) (cr : Crew C H L) (q : ∀ H', FcAt C CF H' x L → Same H H' → Q .non H') :
    spFI C CF (V.ref x :: refsOf L) (upd (upd H dx (.own x)) x (.ins CF dx [])) Q E := by
  refine ⟨_, _, rfl, by rw [refs_len]; exact Nat.le_trans cr.few (by decide), fun p np => ?_⟩
  have px : x ≠ p := fun e => by rw [← e, upd_same] at np; cases np
  refine ⟨x, dx, p, L, rfl, by rw [upd_ne px]; exact upd_same, upd_same, cr.made nx nd np _, fun H' d h1 h2 k => ?_⟩
  obtain ⟨f, s⟩ := fence_made nx nd np h1 h2 k cr
  exact q H' f s
def MkF (P : Program) (w : World) (K : PySem.W.Frag) (mg : Str → Option Value) (base : Heap) (C CF : Addr) : Prop := ∃ f, Mk K CF f ∧ FnR P w K mg base CX0 3 f (spFI C CF)
abbrev s_Fence_add : Stmt := (inClass (topS 48) 9)
abbrev N_sc_Fence_add : List Str := ["self", "other"]
abbrev P_Fence_add : List Str := ["self", "other"]
theorem sc_Fence_add : FnScope N_sc_Fence_add P_Fence_add (defScope s_Fence_add) := ⟨rfl, rfl, rfl, by decide +kernel, rfl, by decide +kernel, by decide +kernel⟩
def spFAdd (C CF : Addr) : Sp := fun vs H Q _ => ∃ (f : Addr) (L : List Pt) (x : Pt), vs = [.ref f, .ref x.a] ∧ FcAt C CF H f L ∧ Crew C H (L ++ [x]) ∧ ∀ g H', FcAt C CF H' g (L ++ [x]) → Same H H' → Q (.ref g) H'
section
variable {P : Program} {w : World} {K : PySem.W.Frag} {mg : Str → Option Value} {base : Heap} {C CF : Addr} {f : Addr} {fd : FuncData}
theorem ok_fadd (F : Fun K "__add__" "Fence.__add__" s_Fence_add f fd) (U : FTxt K mg CF) (hMk : MkF P w K mg base C CF) : FnOk P w K mg base CX0 5 f fd P_Fence_add (spFAdd C CF) := by
  obtain ⟨fI, MF, FI⟩ := hMk
  refine F.ok sc_Fence_add (fun vs H Q E h => ?_) (fun cdv A outer s H vs Q E hr h => ?_)
  · obtain ⟨f, L, x, rfl, _⟩ := h
    rfl
  obtain ⟨f, L, x, rfl, hf, cr, q⟩ := h
  obtain ⟨dx, t, d, h1, h2, h3⟩ := hf.ex
  refine ⟨_, (pss_one (ps_ret (pe_makeS2 MF FI (hr.mono (by decide)) rfl U.mgF pass0 (StX.pa_star (pe_fld (pv 0) rfl) (pa_cons (pv 1) pa_nil))))), ?_⟩
  refine ⟨_, rfl, f, CF, dx, _, _, rfl, h1, U.cl, U.nP, ffs_p _ _, t, _, rfl, .inl (.inl (.inl h2)), _, rfl, fun x1 dx1 nx nd ne => ?_⟩
  rw [show refsOf L ++ [V.ref x.a] = refsOf (L ++ [x]) from (refs_snoc _ _).symm]
  exact ask_fence nx nd cr fun H' hf' s' => ⟨rfl, q x1 H' hf' s'⟩
end
abbrev s_Fence_painters : Stmt := (inClass (topS 48) 1)
abbrev N_sc_Fence_painters : List Str := ["self"]
abbrev P_Fence_painters : List Str := ["self"]
theorem sc_Fence_painters : FnScope N_sc_Fence_painters P_Fence_painters (defScope s_Fence_painters) := ⟨rfl, rfl, rfl, by decide +kernel, rfl, by decide +kernel, by decide +kernel⟩
section
variable {P : Program} {w : World} {K : PySem.W.Frag} {mg : Str → Option Value} {base : Heap} {C CF : Addr} {f : Addr} {fd : FuncData}
theorem ok_get_painters (F : Fun K "painters" "Fence.painters" s_Fence_painters f fd) (U : FTxt K mg CF) : FnOk P w K mg base CX0 1 f fd ["self"] (getSp CF "_painters") := by
  refine F.ok sc_Fence_painters (fun vs H Q E h => ?_) (fun cdv A outer s H vs Q E hr h => ?_)
  · obtain ⟨a, dx, fs, v, rfl, _⟩ := h
    rfl
  obtain ⟨a, dx, fs, v, rfl, ha, hl, q⟩ := h
  exact ⟨_, (pss_one (ps_ret (pe_fld (pv 0) rfl))), _, rfl, a, CF, dx, fs, v, rfl, ha, U.cl, U.nP, hl, q⟩
end
abbrev s_Fence_names : Stmt := (inClass (topS 48) 2)
abbrev N_sc_Fence_names : List Str := ["self", "painter"]
abbrev P_Fence_names : List Str := ["self"]
theorem sc_Fence_names : FnScope N_sc_Fence_names P_Fence_names (defScope s_Fence_names) := ⟨rfl, rfl, rfl, by decide +kernel, rfl, by decide +kernel, by decide +kernel⟩
def spFNames (C CF : Addr) : Sp := fun vs H Q _ => ∃ (f : Addr) (L : List Pt), vs = [.ref f] ∧ FcAt C CF H f L ∧ ∀ r H', H' r = some (.tup (L.map fun x => V.str x.nm)) → Same H H' → Q (.ref r) H'
section
variable {P : Program} {w : World} {K : PySem.W.Frag} {mg : Str → Option Value} {base : Heap} {C CF : Addr} {f : Addr} {fd : FuncData}
theorem ok_fnames (F : Fun K "names" "Fence.names" s_Fence_names f fd) (T : PTxt K mg C) (U : FTxt K mg CF) (nb_tuple : mg "tuple" = none) (hName : PropS P w K mg base C "name" 1 (getSp C "_name")) : FnOk P w K mg base CX0 3 f fd ["self"] (spFNames C CF) := by
  refine F.ok sc_Fence_names (fun vs H Q E h => ?_) (fun cdv A outer s H vs Q E hr h => ?_)
  · obtain ⟨f, L, rfl, _⟩ := h
    rfl
  obtain ⟨f, L, rfl, hf, q⟩ := h
  obtain ⟨dx, t, d, h1, h2, h3⟩ := hf.ex
  refine ⟨_, (pss_one (ps_ret (pe_callTy call_tuple_of rfl nb_tuple (by decide +kernel) (pa_cons (pe_lc (own := [("painter", 1)]) (g := gName 1) (tt := tYes) rfl sc_Fence_names.nd (pi_tup (pe_fld (pv 0) rfl)) (blkOk_by (N := N_sc_Fence_names) (sc := defScope s_Fence_names) (by decide +kernel)) (fun _ _ _ _ _ => pg_name (i := 1) sc_Fence_names.nd rfl (Or.inl rfl)) (fun _ _ _ _ _ => pts_nil) (fun _ _ _ _ _ => (pe_prS (pv 1) T.cl hName (hr.mono (by decide))))) pa_nil)))), ?_⟩
  refine ⟨_, rfl, f, CF, dx, _, _, rfl, h1, U.cl, U.nP, ffs_p _ _, t, rfl, ⟨_, .inl (.inl h2)⟩, fun D hD => ?_⟩
  refine lc_tup (K := K) (a := t) (xs := refsOf L) (fun i H' => H' D = some (.lst ((L.take i).map fun x => V.str x.nm)) ∧ Same H H') ⟨upd_same, same_new hD _⟩ (fun i H' _ h => .inl (.inl (h.2 _ _ h2))) ?_ ?_
  · rintro i v H' e ⟨hD', sm⟩
    obtain ⟨z, hz, rfl⟩ := refs_at e
    have pz := (hf.crew.at_ z (List.mem_of_getElem? hz)).same sm
    obtain ⟨dz, ez⟩ := pz.1
    refine ⟨rfl, _, rfl, z.a, dz, _, rfl, ez, z.a, dz, _, _, rfl, ez, pfs_name _ _ _ _, _, hD', ?_, ?_, ?_⟩
    · rw [List.length_map, List.length_take]
      exact Nat.lt_of_le_of_lt (Nat.le_trans (Nat.min_le_right _ _) hf.len) (by decide)
    · rw [upd_same, take_snoc hz, List.map_append]
      rfl
    · exact fun b o e => by rw [upd_ne (ne_of_none e hD)]; exact sm _ _ e
  · rintro H' ⟨hD', sm⟩
    rw [refs_len, List.take_length] at hD'
    refine ⟨D, _, rfl, .inl ⟨SqL.of hD', fun r hr0 => ?_⟩⟩
    exact q r _ upd_same (sm.trans (same_new hr0 _))
end
abbrev s_Fence_len : Stmt := (inClass (topS 48) 4)
abbrev N_sc_Fence_len : List Str := ["self"]
abbrev P_Fence_len : List Str := ["self"]
theorem sc_Fence_len : FnScope N_sc_Fence_len P_Fence_len (defScope s_Fence_len) := ⟨rfl, rfl, rfl, by decide +kernel, rfl, by decide +kernel, by decide +kernel⟩
def spFLen (C CF : Addr) : Sp := fun vs H Q _ => ∃ (f : Addr) (L : List Pt), vs = [.ref f] ∧ FcAt C CF H f L ∧ Q (.int L.length) H
section
variable {P : Program} {w : World} {K : PySem.W.Frag} {mg : Str → Option Value} {base : Heap} {C CF : Addr} {f : Addr} {fd : FuncData}
theorem ok_flen (F : Fun K "__len__" "Fence.__len__" s_Fence_len f fd) (B : Blt mg) (U : FTxt K mg CF) : FnOk P w K mg base CX0 1 f fd ["self"] (spFLen C CF) := by
  refine F.ok sc_Fence_len (fun vs H Q E h => ?_) (fun cdv A outer s H vs Q E hr h => ?_)
  · obtain ⟨f, L, rfl, _⟩ := h
    rfl
  obtain ⟨f, L, rfl, hf, q⟩ := h
  obtain ⟨dx, t, d, h1, h2, h3⟩ := hf.ex
  refine ⟨_, (pss_one (ps_ret (pe_callB call_len_seq rfl B.len_ PySem.boot_len (pa_cons (pe_fld (pv 0) rfl) pa_nil)))), ?_⟩
  refine ⟨_, rfl, f, CF, dx, _, _, rfl, h1, U.cl, U.nP, ffs_p _ _, t, _, rfl, .inr (SqT.of h2), ?_⟩
  rw [refs_len]
  exact q
end
/-- isinstance(x, T), T a built-in type, x of a told kind -/
def rIsT (K : PySem.W.Frag) (T : String) (g : PyData → Bool) : List V → Hp → VK → Prop := fun xs H Q => ∃ (x : V) (d : PyData), xs = [x, .ty T] ∧ TyX K H x (.type (kindD d)) ∧ Q (.bl (g d)) H
theorem call_isT {X : Cx} {K : PySem.W.Frag} (e : X.K = K) {T : String} {g : PyData → Bool} (hk : ∀ d, PySem.W.kitOne K (.type (kindD d)) (.type T) = some (g d)) : CallR X (.builtin "isinstance") (rIsT K T g) := by
  subst e
  intro pins s σ H xs us Q I r h
  obtain ⟨x, d, rfl, hd, q⟩ := h
  exact call_isi pins s σ H _ us Q I r ⟨x, .ty T, _, _, g d, rfl, .ty T, hd, hk d, q⟩
/-- a value of the kind of d; a text is d's own -/
def Kin (K : PySem.W.Frag) (H : Hp) (y : V) (d : PyData) : Prop := TyX K H y (.type (kindD d)) ∧ ∀ z, d = .str z → y = .str z
/-- x in fence -/
def inD (L : List Pt) (d : PyData) : Bool := match d with
  | .str z => decide (z ∈ L.map Pt.nm)
  | _ => false
def InF (K : PySem.W.Frag) (C CF : Addr) : Addr → V → Bool → Hp → Prop := fun f y b H => ∃ (L : List Pt) (d : PyData), FcAt C CF H f L ∧ Kin K H y d ∧ b = inD L d
theorem any_str {H : Hp} {y : V} {z : Str} (h : Any H y (.str z)) : y = .str z := by
  obtain ⟨np, n, h⟩ := h
  cases n with
  | zero => cases h; rfl
  | succ n =>
    rcases h with h | ⟨a, xs, ds, _, _, _, _, ed⟩ | ⟨a, xs, ds, _, _, _, ed⟩ | ⟨a, kvs, es, _, _, _, _, ed⟩
    · cases h; rfl
    · cases ed
    · cases ed
    · cases ed
theorem kin_of {K : PySem.W.Frag} {H : Hp} {y : V} {d : PyData} (h : Any H y d) : Kin K H y d := ⟨let ⟨_, _, z⟩ := h; z.ty, fun z e => any_str (by rw [← e]; exact h)⟩
abbrev s_Fence_contains : Stmt := (inClass (topS 48) 5)
abbrev N_sc_Fence_contains : List Str := ["self", "x"]
abbrev P_Fence_contains : List Str := ["self", "x"]
theorem sc_Fence_contains : FnScope N_sc_Fence_contains P_Fence_contains (defScope s_Fence_contains) := ⟨rfl, rfl, rfl, by decide +kernel, rfl, by decide +kernel, by decide +kernel⟩
section
variable {P : Program} {w : World} {K : PySem.W.Frag} {mg : Str → Option Value} {base : Heap} {C CF : Addr} {f : Addr} {fd : FuncData}
theorem valV_is (L : List Pt) (z : Str) : (valV (kvOf L) (Sum.inr z : Key)).isSome = decide (z ∈ L.map Pt.nm) := by
  induction L with
  | nil => rfl
  | cons x r ih =>
    show (valV ((Sum.inr x.nm, V.ref x.a) :: kvOf r) _).isSome = _
    by_cases e : x.nm = z
    · rw [valV_pos (p := ((Sum.inr x.nm : Key), V.ref x.a)) (by rw [e])]
      subst e
      simp
    · rw [valV_neg (p := ((Sum.inr x.nm : Key), V.ref x.a)) (fun q => e (Sum.inr.inj q)), ih]
      have e' : ¬ z = x.nm := fun q => e q.symm
      simp [e']
theorem ok_fin (F : Fun K "__contains__" "Fence.__contains__" s_Fence_contains f fd) (B : Blt mg) (U : FTxt K mg CF) : FnOk P w K mg base CX0 1 f fd P_Fence_contains (spIn (InF K C CF)) := by
  refine F.ok sc_Fence_contains (fun vs H Q E h => ?_) (fun cdv A outer s H vs Q E hr h => ?_)
  · obtain ⟨a, y, b, rfl, _⟩ := h
    rfl
  obtain ⟨f, y, b, rfl, ⟨L, d, hf, hy, rfl⟩, q⟩ := h
  obtain ⟨dx, t, dd, h1, h2, h3⟩ := hf.ex
  have hu := hu_of hr
  refine ⟨_, (pss_one (ps_ret (pe_and (pe_callB (call_isT (K := K) rfl kit_strD) rfl B.isinstance_ (by decide +kernel) (pa_cons (pv 1) (pa_cons (pe_bltn (v := .ty "str") rfl B.str_ (by decide +kernel) rfl) pa_nil))) (pe_one (pe_cmp (pc_din hu (pv 1) (pe_fld (pv 0) rfl)) rfl))))), ?_⟩
  refine ⟨_, rfl, y, d, rfl, hy.1, isStrD d, rfl, ?_⟩
  cases d with
  | str z =>
    obtain rfl := hy.2 z rfl
    refine iteT ?_
    refine ⟨_, rfl, _, rfl, f, CF, dx, _, _, rfl, h1, U.cl, U.nB, ffs_b _ _, dd, _, rfl, DGet.k (k := (Sum.inr z : Key)) h3, ?_⟩
    rw [valV_is]
    exact q H Ext.rfl'
  | none => exact iteF (q H Ext.rfl')
  | bool _ => exact iteF (q H Ext.rfl')
  | int _ => exact iteF (q H Ext.rfl')
  | list _ => exact iteF (q H Ext.rfl')
  | tuple _ => exact iteF (q H Ext.rfl')
  | dict _ => exact iteF (q H Ext.rfl')
end
abbrev s_Fence_getitem : Stmt := (inClass (topS 48) 6)
abbrev N_sc_Fence_getitem : List Str := ["self", "at"]
abbrev P_Fence_getitem : List Str := ["self", "at"]
theorem sc_Fence_getitem : FnScope N_sc_Fence_getitem P_Fence_getitem (defScope s_Fence_getitem) := ⟨rfl, rfl, rfl, by decide +kernel, rfl, by decide +kernel, by decide +kernel⟩
def spFGet (C CF : Addr) : Sp := fun vs H Q _ => ∃ (f : Addr) (L : List Pt) (x : Pt), vs = [.ref f, .str x.nm] ∧ FcAt C CF H f L ∧ x ∈ L ∧ ∀ H', Same H H' → Q (.ref x.a) H'
section
variable {P : Program} {w : World} {K : PySem.W.Frag} {mg : Str → Option Value} {base : Heap} {C CF : Addr} {f : Addr} {fd : FuncData}
theorem kin_str (K : PySem.W.Frag) (H : Hp) (z : Str) : Kin K H (.str z) (.str z) := ⟨.base (.str z), fun y e => by cases e; rfl⟩
theorem ok_fget (F : Fun K "__getitem__" "Fence.__getitem__" s_Fence_getitem f fd) (B : Blt mg) (U : FTxt K mg CF) (hIn : OwnR P w K mg base CF "__contains__" 1 P_Fence_contains (spIn (InF K C CF))) : FnOk P w K mg base CX0 2 f fd P_Fence_getitem (spFGet C CF) := by
  refine F.ok sc_Fence_getitem (fun vs H Q E h => ?_) (fun cdv A outer s H vs Q E hr h => ?_)
  · obtain ⟨a, L, x, rfl, _⟩ := h
    rfl
  obtain ⟨f, L, x, rfl, hf, hx, q⟩ := h
  obtain ⟨dx, t, dd, h1, h2, h3⟩ := hf.ex
  have hu := hu_of hr
  refine ⟨_, (pss_cons (ps_if (pt_cmpR (op_notInO hIn (hr.mono (by decide))) (pv 1) (pv 0) (by rfl)) (pss_one ps_never) pss_nil) (pss_one (ps_ret (pe_dget hu (pe_fld (pv 0) rfl) (pv 1) (fun _ _ => rfl))))), ?_⟩
  refine ⟨_, rfl, _, rfl, f, dx, _, true, rfl, h1, ⟨L, _, hf, kin_str K H x.nm, ?_⟩, fun H' e => ⟨false, rfl, iteF ?_⟩⟩
  · exact (decide_eq_true (List.mem_map_of_mem hx)).symm
  have hf' := hf.same (H' := H') fun b o z => e b o z
  have v := DGet.k (k := (Sum.inr x.nm : Key)) (e _ _ h3)
  rw [valV_at hf.crew.nd hx] at v
  exact ⟨_, rfl, f, CF, dx, _, _, rfl, e _ _ h1, U.cl, U.nB, ffs_b _ _, _, rfl, dd, _, rfl, v, q H' fun b o z => e b o z⟩
end
end Ur
/-! FC: == and != of painters and of fences. -/
namespace Ur
open PySem PySem.Spec PyProof.Rows L2
/-! ### isinstance of an own class, both answers -/
structure KitC (K : PySem.W.Frag) (C : Addr) : Prop where
  no : ∀ d : PyData, PySem.W.kitOne K (.type (kindD d)) (.ref C) = some false
/-- a value of another kind than an instance -/
def Oth (K : PySem.W.Frag) (H : Hp) (y : V) : Prop := ∃ d : PyData, TyX K H y (.type (kindD d)) ∧ Knd H y (.type (kindD d))
def rIsO (K : PySem.W.Frag) (C : Addr) : List V → Hp → VK → Prop := fun xs H Q => ∃ (y : V) (b : Bool), xs = [y, .ref C] ∧ ((∃ a dx fs, y = .ref a ∧ H a = some (.ins C dx fs) ∧ b = true) ∨ Oth K H y ∧ b = false) ∧ Q (.bl b) H
theorem call_isO {X : Cx} {K : PySem.W.Frag} (ek : X.K = K) {C : Addr} (c : C8.InsC K C) (z : KitC K C) : CallR X (.builtin "isinstance") (rIsO K C) := by
  subst ek
  intro pins s σ H xs us Q I r h
  obtain ⟨y, b, rfl, h, q⟩ := h
  rcases h with ⟨a, dx, fs, rfl, ha, rfl⟩ | ⟨⟨d, hd, _⟩, rfl⟩
  · exact C8.call_isC c pins s σ H _ us Q I r ⟨a, dx, fs, rfl, ha, q⟩
  · exact call_isi pins s σ H _ us Q I r ⟨y, .ref C, _, _, false, rfl, .own C, hd, z.no d, q⟩
theorem DqN.knd {H : Hp} {np : Addr} : ∀ {n : Nat} {v : V} {d : PyData}, DqN H np n v d → Knd H v (.type (kindD d))
  | 0, _, _, h => by cases h <;> constructor
  | n + 1, v, d, h => by
    rcases h with h | ⟨a, xs, ds, rfl, ha, ns, ps, rfl⟩ | ⟨a, xs, ds, rfl, ha, ps, rfl⟩ | ⟨a, kvs, es, rfl, na, ha, ps, rfl⟩
    · cases h <;> constructor
    · exact .lst ha
    · exact .tup ha
    · exact .dK ha
theorem notFirst_ty {K : PySem.W.Frag} {C : Addr} (d : PyData) : PySem.W.notFirst K C (.type (kindD d)) = true := by
  have key : ∀ (T : String) (l : List String), fastBuiltinMro T = some (l.map Value.type) → PySem.W.notFirst K C (.type T) = true := fun T l e => by
    have z : PySem.W.subIn K (.type T) (.ref C) = some false := by
      show (fastBuiltinMro T).map (·.contains (.ref C)) = some false
      rw [e]
      show some ((l.map Value.type).contains (.ref C)) = some false
      congr 1
      induction l with
      | nil => rfl
      | cons x r ih =>
        rw [List.map_cons, List.contains_cons]
        have h : (Value.ref C == Value.type x) = false := Bool.eq_false_iff.mpr fun q => by cases beq_iff_eq.mp q
        rw [h]
        clear e
        induction r with
        | nil => rfl
        | cons y r ih2 =>
          rw [List.map_cons, List.contains_cons]
          have h2 : (Value.ref C == Value.type y) = false := Bool.eq_false_iff.mpr fun q => by cases beq_iff_eq.mp q
          rw [h2]
          simp
    unfold PySem.W.notFirst
    rw [z]
    simp
  cases d with
  | none => exact key "NoneType" ["NoneType", "object"] (by decide +kernel)
  | bool _ => exact key "bool" ["bool", "int", "object"] (by decide +kernel)
  | int _ => exact key "int" ["int", "object"] (by decide +kernel)
  | str _ => exact key "str" ["str", "object"] (by decide +kernel)
  | list _ => exact key "list" ["list", "object"] (by decide +kernel)
  | tuple _ => exact key "tuple" ["tuple", "object"] (by decide +kernel)
  | dict _ => exact key "dict" ["dict", "object"] (by decide +kernel)
theorem sub_ty_no {K : PySem.W.Frag} {C : Addr} (d : PyData) : PySem.W.subIn K (.type (kindD d)) (.ref C) = some false := by
  have z := notFirst_ty (K := K) (C := C) d
  unfold PySem.W.notFirst at z
  rcases Bool.or_eq_true_iff.mp z with e | e
  · cases beq_iff_eq.mp e
  · exact beq_iff_eq.mp e
theorem kitC_of {K : PySem.W.Frag} {C : Addr} (i : PySem.W.isClsIn K C = true) (t : PySem.W.typeIn K (.ref C) = some (.type "type")) : KitC K C := ⟨fun d => by
  have e2 : ((PySem.W.clsIn K C).isSome && PySem.W.typeIn K (.ref C) == some (.type "type")) = true := by
    have i2 : (PySem.W.clsIn K C).isSome = true := i
    rw [i2, t] <;> rfl
  show (if (Value.type (kindD d) == Value.ref C) = true then some true else if ((PySem.W.clsIn K C).isSome && PySem.W.typeIn K (.ref C) == some (.type "type")) = true then PySem.W.subIn K (.type (kindD d)) (.ref C) else none) = some false
  rw [if_neg (fun z => by cases beq_iff_eq.mp z), if_pos e2]
  exact sub_ty_no d⟩
theorem notFirst_own {K : PySem.W.Frag} {C : Addr} : PySem.W.notFirst K C (.ref C) = true := by simp [PySem.W.notFirst]
theorem Any.ext {H H' : Hp} {v : V} {d : PyData} (h : Any H v d) (e : Ext H H') : Any H' v d := let ⟨np, n, z⟩ := h; ⟨np, n, DqN.same (fun b o q => e b o q) z⟩
/-! ### painters -/
def Pt.parts (x : Pt) : Str × Int × Int × Int := (x.nm, x.d, x.p, x.s)
def PnX (C : Addr) (H : Hp) (x : Pt) : Prop := PnAt C H x.a x.nm x.d x.p x.s
theorem PnX.ext {C : Addr} {H H' : Hp} {x : Pt} (h : PnX C H x) (e : Ext H H') : PnX C H' x := let ⟨dx, z⟩ := h; ⟨dx, e _ _ z⟩
theorem PnX.same_parts {C : Addr} {H : Hp} {x z : Pt} (h : PnX C H x) (h2 : PnX C H z) (e : x.a = z.a) : x.parts = z.parts := by
  obtain ⟨d1, e1⟩ := h
  obtain ⟨d2, e2⟩ := h2
  rw [e] at e1
  rw [e1] at e2
  have e3 := HO.ins.inj (Option.some.inj e2)
  have e4 : pfs x.nm x.d x.p x.s = pfs z.nm z.d z.p z.s := e3.2.2
  unfold pfs at e4
  simp only [List.cons.injEq, Prod.mk.injEq, V.str.injEq, V.int.injEq, and_true, true_and] at e4
  unfold Pt.parts
  rw [e4.1, e4.2.1, e4.2.2.1, e4.2.2.2]
def SaysP (K : PySem.W.Frag) (C : Addr) : Says := fun a y b H => ∃ x : Pt, x.a = a ∧ PnX C H x ∧ ((∃ z : Pt, y = .ref z.a ∧ PnX C H z ∧ b = decide (x.parts = z.parts)) ∨ Oth K H y ∧ b = false)
abbrev s_Painter_eq : Stmt := (inClass (topS 46) 14)
abbrev N_sc_Painter_eq : List Str := ["self", "other"]
abbrev P_Painter_eq : List Str := ["self", "other"]
theorem sc_Painter_eq : FnScope N_sc_Painter_eq P_Painter_eq (defScope s_Painter_eq) := ⟨rfl, rfl, rfl, by decide +kernel, rfl, by decide +kernel, by decide +kernel⟩
section
variable {P : Program} {w : World} {K : PySem.W.Frag} {mg : Str → Option Value} {base : Heap} {C : Addr} {f : Addr} {fd : FuncData}
theorem bl_of {b c : Bool} {Q : VK} {H : Hp} (q : Q (.bl b) H) (e : b = c) : Q (.bl c) H := e ▸ q
theorem ok_eqB (F : Fun K "__eq__" "Painter.__eq__" s_Painter_eq f fd) (B : Blt mg) (T : PTxt K mg C) (hI : C8.InsC K C) (hK : KitC K C) : FnOk P w K mg base CX0 1 f fd P_Painter_eq (spEqB (SaysP K C)) := by
  refine F.ok sc_Painter_eq (fun vs H Q E h => ?_) (fun cdv A outer s H vs Q E hr h => ?_)
  · obtain ⟨a, y, b, rfl, _⟩ := h
    rfl
  obtain ⟨a, y, b, rfl, ⟨x, rfl, ⟨dx, hx⟩, hy⟩, q⟩ := h
  refine ⟨_, (pss_one (ps_ret (pe_and (pe_callB (call_isO (K := K) rfl hI hK) rfl B.isinstance_ (by decide +kernel) (pa_cons (pv 1) (pa_cons (pe_glob (v := V.ref C) rfl T.mgP rfl) pa_nil))) (pe_and (pe_cmpR op_eq (pe_fld (pv 0) rfl) (pe_fld (pv 1) rfl) (nomark _)) (pe_and (pe_cmpR op_eq (pe_fld (pv 0) rfl) (pe_fld (pv 1) rfl) (nomark _)) (pe_and (pe_cmpR op_eq (pe_fld (pv 0) rfl) (pe_fld (pv 1) rfl) (nomark _)) (pe_one (pe_cmpR op_eq (pe_fld (pv 0) rfl) (pe_fld (pv 1) rfl) (nomark _))))))))), ?_⟩
  have q := q H Ext.rfl'
  rcases hy with ⟨z, rfl, ⟨dz, hz⟩, rfl⟩ | ⟨hd, rfl⟩
  · refine ⟨_, rfl, _, true, rfl, .inl ⟨z.a, dz, _, rfl, hz, rfl⟩, true, rfl, iteT ?_⟩
    refine ⟨_, rfl, x.a, C, dx, _, _, rfl, hx, T.cl, T.nN, pfs_name _ _ _ _, _, rfl, z.a, C, dz, _, _, rfl, hz, T.cl, T.nN, pfs_name _ _ _ _, rfl, ?_⟩
    refine ⟨_, rfl, ?_⟩
    by_cases e1 : ¬ x.nm = z.nm
    · exact iteDF (fun e => e1 (V.str.inj e)) (bl_of q (decide_eq_false fun e => e1 (congrArg (·.1) e)))
    have e1 : x.nm = z.nm := Decidable.not_not.mp e1
    refine iteDT (by rw [e1]) ?_
    refine ⟨_, rfl, x.a, C, dx, _, _, rfl, hx, T.cl, T.nD, pfs_day _ _ _ _, _, rfl, z.a, C, dz, _, _, rfl, hz, T.cl, T.nD, pfs_day _ _ _ _, rfl, ?_⟩
    refine ⟨_, rfl, ?_⟩
    by_cases e2 : ¬ x.d = z.d
    · exact iteDF (fun e => e2 (V.int.inj e)) (bl_of q (decide_eq_false fun e => e2 (congrArg (·.2.1) e)))
    have e2 : x.d = z.d := Decidable.not_not.mp e2
    refine iteDT (by rw [e2]) ?_
    refine ⟨_, rfl, x.a, C, dx, _, _, rfl, hx, T.cl, T.nP, pfs_post _ _ _ _, _, rfl, z.a, C, dz, _, _, rfl, hz, T.cl, T.nP, pfs_post _ _ _ _, rfl, ?_⟩
    refine ⟨_, rfl, ?_⟩
    by_cases e3 : ¬ x.p = z.p
    · exact iteDF (fun e => e3 (V.int.inj e)) (bl_of q (decide_eq_false fun e => e3 (congrArg (·.2.2.1) e)))
    have e3 : x.p = z.p := Decidable.not_not.mp e3
    refine iteDT (by rw [e3]) ?_
    refine ⟨_, rfl, x.a, C, dx, _, _, rfl, hx, T.cl, T.nS, pfs_stride _ _ _ _, _, rfl, z.a, C, dz, _, _, rfl, hz, T.cl, T.nS, pfs_stride _ _ _ _, rfl, ?_⟩
    refine bl_of q ?_
    by_cases e4 : x.s = z.s
    · rw [decide_eq_true (show V.int x.s = V.int z.s by rw [e4]), decide_eq_true (show x.parts = z.parts by unfold Pt.parts; rw [e1, e2, e3, e4])]
    · rw [decide_eq_false (show ¬ V.int x.s = V.int z.s from fun e => e4 (V.int.inj e)), decide_eq_false (show ¬ x.parts = z.parts from fun e => e4 (congrArg (·.2.2.2) e))]
  · exact ⟨_, rfl, _, false, rfl, .inr ⟨hd, rfl⟩, false, rfl, iteF q⟩
end
/-- two painters, as items -/
def DPt (C : Addr) : EqvB := fun u v b H => ∃ x z : Pt, u = .ref x.a ∧ v = .ref z.a ∧ PnX C H x ∧ PnX C H z ∧ b = decide (x.parts = z.parts)
theorem mon_pt {C : Addr} : MonB (DPt C) := fun u v b H H' e h => let ⟨x, z, h1, h2, h3, h4, h5⟩ := h; ⟨x, z, h1, h2, h3.ext e, h4.ext e, h5⟩
theorem RcB.imp {X : Cx} {n : Nat} {op : CmpOp} {g : Bool → Bool} {D D' : EqvB} (h : RcB X n op g D) (f : ∀ x y b H, D' x y b H → D x y b H) : RcB X n op g D' := fun A pins s σ H x y b u v sb I rx ry d => h A pins s σ H x y b u v sb I rx ry (f _ _ _ _ d)
section
variable {X : Cx} {C : Addr}
theorem pt_own {x y : V} {b : Bool} {H : Hp} (h : DPt C x y b H) : DOwn X.K C (SaysP X.K C) x y b H := by
  obtain ⟨x, z, rfl, rfl, h3, h4, h5⟩ := h
  obtain ⟨dx, e⟩ := id h3
  obtain ⟨dz, e'⟩ := id h4
  exact ⟨x.a, dx, _, .ref C, rfl, e, .ins e', notFirst_own, x, rfl, h3, .inl ⟨z, rfl, h4, h5⟩⟩
theorem rcB_pt (h : EqC X.prog X.w X.K X.mg X.base C 1 (SaysP X.K C)) : RcB X 1 .Eq id (DPt C) := (rcB_own h).imp fun _ _ _ _ d => pt_own d
theorem rcB_ptNe (h : EqC X.prog X.w X.K X.mg X.base C 1 (SaysP X.K C)) : RcB X 2 .NotEq (!·) (DPt C) := (rcB_ownNe h).imp fun _ _ _ _ d => pt_own d
theorem eqB_pt (h : EqC X.prog X.w X.K X.mg X.base C 1 (SaysP X.K C)) : EqB X 1 (DPt C) := (rcB_pt h).eqB (fun x y b H d => let ⟨x, z, h1, h2, _⟩ := d; ⟨_, _, h1, h2⟩) fun a b H d => by
  obtain ⟨x, z, h1, h2, h3, h4, rfl⟩ := d
  exact decide_eq_true (h3.same_parts h4 (by rw [← V.ref.inj h1, ← V.ref.inj h2]))
end
/-! ### tuples of painters -/
def partsOf (L : List Pt) : List (Str × Int × Int × Int) := L.map Pt.parts
def eAt (L M : List Pt) (i : Nat) : Bool := match L[i]?, M[i]? with
  | some x, some z => decide (x.parts = z.parts)
  | _, _ => true
theorem allB_parts (L M : List Pt) : allB (eAt L M) L.length M.length = decide (partsOf L = partsOf M) := by
  have key : allB (eAt L M) L.length M.length = true ↔ partsOf L = partsOf M := by
    unfold allB
    rw [Bool.and_eq_true, List.all_eq_true, beq_iff_eq]
    constructor
    · rintro ⟨h1, h2⟩
      apply List.ext_getElem?
      intro i
      unfold partsOf
      rw [List.getElem?_map, List.getElem?_map]
      by_cases hi : i < L.length
      · have hj : i < M.length := h2 ▸ hi
        have z := h1 i (by rw [List.mem_range]; omega)
        unfold eAt at z
        rw [List.getElem?_eq_getElem hi, List.getElem?_eq_getElem hj] at z ⊢
        have z := of_decide_eq_true z
        simp [z]
      · rw [List.getElem?_eq_none (by omega), List.getElem?_eq_none (by omega)]
    · intro h
      have hl : L.length = M.length := by
        have := congrArg List.length h
        unfold partsOf at this
        rw [List.length_map, List.length_map] at this
        exact this
      refine ⟨fun i hi => ?_, hl⟩
      rw [List.mem_range] at hi
      have h1 : i < L.length := by omega
      have h2 : i < M.length := by omega
      have z := congrArg (·[i]?) h
      unfold partsOf at z
      simp only [List.getElem?_map, List.getElem?_eq_getElem h1, List.getElem?_eq_getElem h2, Option.map_some] at z
      unfold eAt
      rw [List.getElem?_eq_getElem h1, List.getElem?_eq_getElem h2]
      exact decide_eq_true (Option.some.inj z)
  cases e : allB (eAt L M) L.length M.length with
  | true => exact (decide_eq_true (key.mp e)).symm
  | false => exact (decide_eq_false fun h => by rw [key.mpr h] at e; cases e).symm
theorem prs_parts {C : Addr} {H : Hp} {L M : List Pt} (h1 : ∀ x ∈ L, PnX C H x) (h2 : ∀ x ∈ M, PnX C H x) : PrsB (DPt C) (refsOf L) (refsOf M) (eAt L M) H := by
  intro i u v e1 e2
  obtain ⟨x, hx, rfl⟩ := refs_at e1
  obtain ⟨z, hz, rfl⟩ := refs_at e2
  refine ⟨x, z, rfl, rfl, h1 x (List.mem_of_getElem? hx), h2 z (List.mem_of_getElem? hz), ?_⟩
  unfold eAt
  rw [hx, hz]
/-- two tuples of painters -/
theorem tup_parts {K : PySem.W.Frag} {C : Addr} {H : Hp} {L M : List Pt} {a c : Addr} (h1 : ∀ x ∈ L, PnX C H x) (h2 : ∀ x ∈ M, PnX C H x) (ha : SqT K H a (refsOf L)) (hc : SqT K H c (refsOf M)) : DTupB K (DPt C) (.ref a) (.ref c) (decide (partsOf L = partsOf M)) H :=
  ⟨a, c, _, _, eAt L M, rfl, rfl, ha, hc, prs_parts h1 h2, by rw [refs_len, refs_len, allB_parts]⟩
theorem Crew.pn {C : Addr} {H : Hp} {L : List Pt} (h : Crew C H L) : ∀ x ∈ L, PnX C H x := fun x hx => (h.at_ x hx).1
/-! ### fences -/
def SaysF (K : PySem.W.Frag) (C CF : Addr) : Says := fun f y b H => ∃ L, FcAt C CF H f L ∧ ((∃ g M, y = .ref g ∧ FcAt C CF H g M ∧ b = decide (partsOf L = partsOf M)) ∨ Oth K H y ∧ b = false)
abbrev s_Fence_eq : Stmt := (inClass (topS 48) 8)
abbrev N_sc_Fence_eq : List Str := ["self", "other"]
abbrev P_Fence_eq : List Str := ["self", "other"]
theorem sc_Fence_eq : FnScope N_sc_Fence_eq P_Fence_eq (defScope s_Fence_eq) := ⟨rfl, rfl, rfl, by decide +kernel, rfl, by decide +kernel, by decide +kernel⟩
section
variable {P : Program} {w : World} {K : PySem.W.Frag} {mg : Str → Option Value} {base : Heap} {C CF : Addr} {f : Addr} {fd : FuncData}
theorem ok_feqB (F : Fun K "__eq__" "Fence.__eq__" s_Fence_eq f fd) (B : Blt mg) (U : FTxt K mg CF) (hI : C8.InsC K CF) (hK : KitC K CF) (hEq : EqC P w K mg base C 1 (SaysP K C)) : FnOk P w K mg base CX0 3 f fd P_Fence_eq (spEqB (SaysF K C CF)) := by
  refine F.ok sc_Fence_eq (fun vs H Q E h => ?_) (fun cdv A outer s H vs Q E hr h => ?_)
  · obtain ⟨a, y, b, rfl, _⟩ := h
    rfl
  obtain ⟨f, y, b, rfl, ⟨L, hf, hy⟩, q⟩ := h
  obtain ⟨dx, t, dd, h1, h2, h3⟩ := hf.ex
  refine ⟨_, (pss_one (ps_ret (pe_and (pe_callB (call_isO (K := K) rfl hI hK) rfl B.isinstance_ (by decide +kernel) (pa_cons (pv 1) (pa_cons (pe_glob (v := V.ref CF) rfl U.mgF rfl) pa_nil))) (pe_one (pe_cmpR (op_rcB (rcB_tup mon_pt (eqB_pt hEq)) (hr.mono (by decide))) (pe_fld (pv 0) rfl) (pe_fld (pv 1) rfl) (nomark _)))))), ?_⟩
  rcases hy with ⟨g, M, rfl, hg, rfl⟩ | ⟨hd, rfl⟩
  · obtain ⟨dy, t', dd', g1, g2, g3⟩ := hg.ex
    refine ⟨_, rfl, _, true, rfl, .inl ⟨g, dy, _, rfl, g1, rfl⟩, true, rfl, iteT ?_⟩
    exact ⟨_, rfl, f, CF, dx, _, _, rfl, h1, U.cl, U.nP, ffs_p _ _, _, rfl, g, CF, dy, _, _, rfl, g1, U.cl, U.nP, ffs_p _ _, _, tup_parts hf.crew.pn hg.crew.pn (.inl (.inl h2)) (.inl (.inl g2)), fun H' e => q H' e⟩
  · exact ⟨_, rfl, _, false, rfl, .inr ⟨hd, rfl⟩, false, rfl, iteF (q H Ext.rfl')⟩
end
/-- a fence and another one, or a value of another kind -/
def DFc (K : PySem.W.Frag) (C CF : Addr) : EqvB := fun u v b H => ∃ f, u = .ref f ∧ SaysF K C CF f v b H
section
variable {X : Cx} {C CF : Addr}
theorem fc_own {x y : V} {b : Bool} {H : Hp} (h : DFc X.K C CF x y b H) : DOwn X.K CF (SaysF X.K C CF) x y b H := by
  obtain ⟨f, rfl, L, hf, hy⟩ := h
  obtain ⟨dx, t, dd, h1, h2, h3⟩ := hf.ex
  rcases hy with ⟨g, M, rfl, hg, rfl⟩ | ⟨hd, rfl⟩
  · obtain ⟨dy, t', dd', g1, g2, g3⟩ := hg.ex
    exact ⟨f, dx, _, .ref CF, rfl, h1, .ins g1, notFirst_own, L, hf, .inl ⟨g, M, rfl, hg, rfl⟩⟩
  · obtain ⟨d, hd1, hd2⟩ := id hd
    exact ⟨f, dx, _, _, rfl, h1, hd2, notFirst_ty d, L, hf, .inr ⟨hd, rfl⟩⟩
theorem rcB_fc (h : EqC X.prog X.w X.K X.mg X.base CF 3 (SaysF X.K C CF)) : RcB X 3 .Eq id (DFc X.K C CF) := (rcB_own h).imp fun _ _ _ _ d => fc_own d
theorem rcB_fcNe (h : EqC X.prog X.w X.K X.mg X.base CF 3 (SaysF X.K C CF)) : RcB X 4 .NotEq (!·) (DFc X.K C CF) := (rcB_ownNe h).imp fun _ _ _ _ d => fc_own d
end
end Ur
/-! K5: rows of painters: small. -/
namespace Ur
open PySem PySem.Spec PyProof.Rows L2
/-- what small, aimed and lined promise: a list of rows -/
def spRows (R : Int → Int → Int → Prop) : Sp := fun vs H Q _ => ∃ (p l : Addr) (most n : Nat), vs = [.ref p, .int (most : Int)] ∧ Pen H p l n ∧ n + 100000 ≤ 2 ^ 39 ∧ 1 ≤ most ∧ most ≤ 40 ∧
  ∀ (F : Addr) (ts : List Addr) (H' : Hp), H' F = some (.lst (ts.map V.ref)) → 1 ≤ ts.length → ts.length ≤ most → (∀ t ∈ ts, Row H' t R) → H F = none → Pen H' p l (n + 100000) → Keep p H H' → Q (.ref F) H'
/-- small numbers -/
def SmallR (d p s : Int) : Prop := 0 ≤ d ∧ d ≤ 6 ∧ -8 ≤ p ∧ p ≤ 8 ∧ -6 ≤ s ∧ s ≤ 6 ∧ s ≠ 0
abbrev s__law_small : Stmt := (topS 71)
abbrev N_sc__law_small : List Str := ["_law_pen_here", "_law_most", "_law_found", "_law_many", "_law_name", "_law_stride", "_law_start"]
abbrev P__law_small : List Str := ["_law_pen_here", "_law_most"]
theorem sc__law_small : FnScope N_sc__law_small P__law_small (defScope s__law_small) := ⟨rfl, rfl, rfl, by decide +kernel, rfl, by decide +kernel, by decide +kernel⟩
section
variable {P : Program} {w : World} {K : PySem.W.Frag} {mg : Str → Option Value} {base : Heap}
set_option maxHeartbeats 40000000 in
theorem ok_small (D : Dfn K mg "_law_small" s__law_small P__law_small) (B : Blt mg) (CD : Cal P w K mg base 12 "_law_draw" P__law_draw spDr) (CI : Cal P w K mg base 13 "_law_pick" P__law_pick (spPickI K)) (CP : Cal P w K mg base 13 "_law_pick" P__law_pick (spPickL K)) (CA : Cal P w K mg base 13 "_law_around" P__law_around spAround)
    (CN : Cal P w K mg base 14 "_law_names" P__law_names spNames) : Cal P w K mg base 15 "_law_small" P__law_small (spRows SmallR) := by
  refine D.cal sc__law_small (fun vs H Q E h => ?_) fun f cdv A outer s H vs Q E hr h => ?_
  · obtain ⟨p, l, most, n, rfl, _⟩ := h
    rfl
  obtain ⟨p, l, most, n, rfl, Pn, hn, m1, m2, q⟩ := h
  obtain ⟨kvs, hp⟩ := Pn.dk
  refine ⟨_, (pss_cons (ps_par (i := 2) (j := 3) rfl sc__law_small.nd rfl rfl (by decide) rfl rfl (pa_cons (pe_lst pa_nil) (pa_cons (pe_op op_add pe_int (pe_cal CD (hr.mono (by decide)) (pa_cons (pv 0) (pa_cons (pv 1) pa_nil)))) pa_nil)) (by rfl)) (pss_cons (ps_for PassesOwn.never rfl (pi_list (pe_cal CN (hr.mono (by decide)) (pa_cons (pv 0) (pa_cons (pv 3) pa_nil)))) (pg_name (i := 4) sc__law_small.nd rfl (Or.inl rfl)) (pss_cons (ps_set (i := 5) sc__law_small.nd rfl (Or.inl rfl) (pe_op op_add pe_int (pe_cal CI (hr.mono (by decide)) (pa_cons (pv 0) (pa_cons (pe_lst (pa_cons (pe_cal CD (hr.mono (by decide)) (pa_cons (pv 0) (pa_cons pe_int pa_nil))) (pa_cons (pe_cal CD (hr.mono (by decide)) (pa_cons (pv 0) (pa_cons pe_int pa_nil))) pa_nil))) pa_nil))))) (pss_cons (ps_set (i := 5) sc__law_small.nd rfl (Or.inl rfl) (pe_op op_mul (pv 5) (pe_cal CI (hr.mono (by decide)) (pa_cons (pv 0) (pa_cons (pe_lst (pa_cons pe_int (pa_cons (pe_un un_neg pe_int) pa_nil))) pa_nil))))) (pss_cons (ps_set (i := 6) sc__law_small.nd rfl (Or.inl rfl) (pe_cal CI (hr.mono (by decide)) (pa_cons (pv 0) (pa_cons (pe_lst (pa_cons pe_int (pa_cons pe_int (pa_cons (pe_cal CD (hr.mono (by decide)) (pa_cons (pv 0) (pa_cons pe_int pa_nil))) pa_nil)))) pa_nil)))) (pss_cons (ps_expr (pe_bm PySem.F.plainAttrs_list PySem.F.slot_list_append PySem.F.type_list_append mt_append (pv 2) (pa_cons (pe_tup (pa_cons (pv 4) (pa_cons (pv 6) (pa_cons (pe_cal CA (hr.mono (by decide)) (pa_cons (pv 0) (pa_cons pe_int pa_nil))) (pa_cons (pv 5) pa_nil))))) pa_nil))) (pss_one (ps_if (PW.pt (pw_and (pt_cmpR op_gt (pe_callB call_len_seq rfl B.len_ PySem.boot_len (pa_cons (pv 2) pa_nil)) pe_int (nomark _)) (pw_and1 (pt_cmpR op_eq (pe_cal CD (hr.mono (by decide)) (pa_cons (pv 0) (pa_cons pe_int pa_nil))) pe_int (nomark _))))) (pss_one (ps_asg (pe_op op_catT (pe_tup (pa_cons (pv 4) pa_nil)) (pe_slice sl_tup (pe_cal CP (hr.mono (by decide)) (pa_cons (pv 0) (pa_cons (pe_slice sl_list (pv 2) po_none (po_some (pe_un un_neg pe_int))) pa_nil))) (po_some pe_int) po_none)) (pg_sub (pv 2) (pe_un un_neg pe_int) set_list))) pss_nil))))))) (pss_one (ps_ret (pv 2))))), ?_⟩
  -- found, many = [], 1 + draw
  refine ⟨(by show 0 ≤ sizeLine; decide), fun F hF => ?_⟩
  have nF := Pn.ne hF
  have nFl := Pn.nl hF
  refine ⟨_, rfl, _, rfl, p, l, most, n, rfl, Pn.new hF, by omega, by omega, by omega, fun v0 H1 a0 b0 P1 k1 => ?_⟩
  have hF1 : H1 F = some (.lst []) := k1 _ _ upd_same nF
  have K1 : Keep p H H1 := (Keep.refl.new hF).trans k1
  refine ⟨_, _, rfl, rfl, _, _, rfl, ?_⟩
  -- for label in names(pen, many)
  obtain ⟨m, hm⟩ : ∃ m : Nat, 1 + v0 = (m : Int) := ⟨(1 + v0).toNat, by omega⟩
  refine ⟨_, rfl, _, rfl, p, l, m, _, by show [V.ref p, V.int (1 + v0)] = [V.ref p, V.int (m : Int)]; rw [hm], P1, by omega, by omega, fun L ss H2 hL hss hok hL0 P2 k2 => ?_⟩
  have hF2 := k2 _ _ hF1 nF
  have nLF : L ≠ F := fun e => by rw [e, hF1] at hL0; cases hL0
  have nL : L ≠ p := P1.ne hL0
  refine ⟨L, rfl, ⟨_, SqL.of hL⟩, for_list (K := K) (a := L) (xs := ss.map V.str) (fun i σ' H' => ∃ (ts : List Addr) (a b c : Option V), σ' = [some (.ref p), some (.int (most : Int)), some (.ref F), some (.int (1 + v0)), a, b, c] ∧
      H' F = some (.lst (ts.map V.ref)) ∧ ts.length = i ∧ i ≤ m ∧ (∀ t ∈ ts, Row H' t SmallR) ∧ H' L = some (.lst (ss.map V.str)) ∧ Pen H' p l (n + 12 + 12 * (m + 9) + 144 * i) ∧ Keep p H H') ⟨[], none, none, none, rfl, hF2, rfl, Nat.zero_le _, fun t ht => absurd ht List.not_mem_nil, hL, P2, K1.trans k2⟩ (fun i σ' H' _ ⟨_, _, _, _, _, _, _, _, _, h, _⟩ => SqL.of h) ?_ ?_⟩
  · rintro i x σ' H' hx ⟨ts, a, b, c, rfl, hFi, hl, him, hrow, hLi, Pi, ki⟩
    obtain ⟨kvi, hpi⟩ := Pi.dk
    have him : i < m := by
      have := (List.getElem?_eq_some_iff.mp hx).1
      rw [List.length_map] at this
      omega
    obtain ⟨z, hz, rfl⟩ : ∃ z, z ∈ ss ∧ V.str z = x := List.mem_map.mp (List.mem_of_getElem? hx)
    have zok := hok z hz
    -- pace = 1 + pick
    refine ⟨_, rfl, _, rfl, p, l, 6, _, rfl, Pi, by omega, by omega, by omega, fun a1 H3 c1 d1 P3 k3 => ?_⟩
    refine ⟨_, rfl, p, l, 2, _, rfl, P3, by omega, by omega, by omega, fun a2 H4 c2 d2 P4 k4 => ?_⟩
    refine ⟨(by show 2 ≤ sizeLine; decide), fun t1 h1 => ?_⟩
    refine ⟨p, l, t1, [a1, a2], _, rfl, P4.new h1, by omega, SqL.of upd_same, by show 1 ≤ 2; decide, by show 2 ≤ 1000000; decide, fun v1 H5 hv1 P5 k5 => ?_⟩
    have v1b : 0 ≤ v1 ∧ v1 ≤ 5 := by
      simp only [List.mem_cons, List.not_mem_nil, or_false] at hv1
      omega
    refine ⟨_, _, rfl, rfl, ?_⟩
    -- pace = pace * pick
    refine ⟨_, rfl, _, rfl, _, rfl, (by show 2 ≤ sizeLine; decide), fun t2 h2 => ?_⟩
    refine ⟨p, l, t2, [1, -1], _, rfl, P5.new h2, by omega, SqL.of upd_same, by decide, by decide, fun v2 H6 hv2 P6 k6 => ?_⟩
    have v2b : v2 = 1 ∨ v2 = -1 := by simpa only [List.mem_cons, List.not_mem_nil, or_false] using hv2
    refine ⟨_, _, rfl, rfl, .inl (by omega), ?_⟩
    obtain ⟨pace, hpace, pb⟩ : ∃ pace, (1 + v1) * v2 = pace ∧ -6 ≤ pace ∧ pace ≤ 6 ∧ pace ≠ 0 := ⟨_, rfl, by rcases v2b with rfl | rfl <;> omega⟩
    -- date = pick
    refine ⟨_, rfl, _, rfl, p, l, 7, _, rfl, P6, by omega, by omega, by omega, fun a3 H7 c3 d3 P7 k7 => ?_⟩
    refine ⟨(by show 3 ≤ sizeLine; decide), fun t3 h3 => ?_⟩
    refine ⟨p, l, t3, [0, 0, a3], _, rfl, P7.new h3, by omega, SqL.of upd_same, by show 1 ≤ 3; decide, by show 3 ≤ 1000000; decide, fun dt H8 hdt P8 k8 => ?_⟩
    have dtb : 0 ≤ dt ∧ dt ≤ 6 := by
      simp only [List.mem_cons, List.not_mem_nil, or_false] at hdt
      omega
    have kk : Keep p H' H8 := ((((((k3.trans k4).new h1).trans k5).new h2).trans k6).trans k7 |>.new h3).trans k8
    have hF8 := kk _ _ hFi nF
    -- found.append
    refine ⟨_, rfl, .inl ⟨rfl, _, SqL.of hF8⟩, ?_⟩
    refine ⟨_, rfl, _, rfl, _, rfl, p, l, 8, _, rfl, P8, by omega, by omega, by omega, fun ps H9 c4 d4 P9 k9 => ?_⟩
    refine ⟨_, rfl, (by show 4 ≤ sizeLine; decide), fun t4 h4 => ?_⟩
    have hF9 := same_new h4 (.tup [.str z, .int dt, .int ps, .int ((1 + v1) * v2)]) _ _ (k9 _ _ hF8 nF)
    refine ⟨F, _, _, rfl, rfl, hF9, by rw [List.length_map]; exact small1000 (by omega), ?_⟩
    have k10 := (kk.trans k9).new (o := .tup [.str z, .int dt, .int ps, .int ((1 + v1) * v2)]) h4
    have nt4 : t4 ≠ F := (ne_of_none (k9 _ _ hF8 nF) h4).symm
    have row4 : Row (upd H9 t4 (.tup [.str z, .int dt, .int ps, .int ((1 + v1) * v2)])) t4 SmallR := ⟨z, dt, ps, _, upd_same, zok, by rw [hpace]; unfold SmallR; omega⟩
    have hL10 := k10 _ _ hLi nL
    have rows10 : ∀ t ∈ ts ++ [t4], Row (upd H9 t4 (.tup [.str z, .int dt, .int ps, .int ((1 + v1) * v2)])) t SmallR := mem_snoc (fun t ht => (hrow t ht).keep k10 hpi) row4
    have P10 := P9.new (o := .tup [.str z, .int dt, .int ps, .int ((1 + v1) * v2)]) h4
    generalize upd H9 t4 (.tup [.str z, .int dt, .int ps, .int ((1 + v1) * v2)]) = H10 at hF9 k10 row4 hL10 rows10 P10 ⊢
    have hF0 : H F = none := hF
    -- the cut: with or without another's parts
    have hF11 : (upd H10 F (.lst (ts.map V.ref ++ [.ref t4]))) F = some (.lst ((ts ++ [t4]).map V.ref)) := by rw [upd_same, List.map_append]; rfl
    have P11 := P10.upd (o := .lst (ts.map V.ref ++ [.ref t4])) nF nFl
    have k11 := (ki.trans k10).at_new (o := .lst (ts.map V.ref ++ [.ref t4])) hF0
    have rows11 : ∀ t ∈ ts ++ [t4], Row (upd H10 F (.lst (ts.map V.ref ++ [.ref t4]))) t SmallR := fun t ht => (rows10 t ht).updL hF9
    have hL11 : (upd H10 F (.lst (ts.map V.ref ++ [.ref t4]))) L = some (.lst (ss.map V.str)) := by rw [upd_ne nLF]; exact hL10
    generalize upd H10 F (.lst (ts.map V.ref ++ [.ref t4])) = H11 at hF11 P11 k11 rows11 hL11 ⊢
    have lts : (ts ++ [t4]).length = i + 1 := by rw [List.length_append, hl]; rfl
    generalize ts ++ [t4] = us at hF11 rows11 lts
    obtain ⟨kv11, hp11⟩ := P11.dk
    refine ⟨_, rfl, F, _, rfl, .inl (SqL.of hF11), _, _, rfl, rfl, _, rfl, ?_⟩
    refine ite2 (fun c1 => ?_) (fun _ => iteF ⟨us, _, _, _, rfl, hF11, lts, by omega, rows11, hL11, P11.le (by omega), k11⟩)
    have c1 : (1 : Int) < ((us.map V.ref).length : Nat) := of_decide_eq_true c1
    refine ⟨_, rfl, p, l, 7, _, rfl, P11, by omega, by omega, by omega, fun v7 H12 a7 b7 P12 k12 => ?_⟩
    have hF12 := k12 _ _ hF11 nF
    have hL12 := k12 _ _ hL11 nL
    have rows12 : ∀ t ∈ us, Row H12 t SmallR := fun t ht => (rows11 t ht).keep k12 hp11
    obtain ⟨kv12, hp12⟩ := P12.dk
    refine ⟨rfl, _, rfl, ?_⟩
    refine ite2 (fun _ => ?_) (fun _ => ⟨us, _, _, _, rfl, hF12, lts, by omega, rows12, hL12, P12.le (by omega), k11.trans k12⟩)
    refine ⟨_, rfl, (by show 1 ≤ sizeLine; decide), fun t5 h5 => ?_⟩
    have hF13 := same_new h5 (.tup [.str z]) _ _ hF12
    refine ⟨_, rfl, _, rfl, _, rfl, _, rfl, F, _, rfl, SqL.of hF13, fun u hu => ?_⟩
    refine ⟨p, l, u, _, _, rfl, (P12.new h5).new hu, by omega, SqL.of upd_same, by rw [cut_last (by omega)]; omega, by rw [cut_last (by omega), List.length_map]; omega, fun v8 H14 hv8 P14 k14 => ?_⟩
    obtain ⟨t0, ht0, rfl⟩ := List.mem_map.mp (cut_mem hv8)
    have k13 : Keep p H12 H14 := ((Keep.refl.new h5).new hu).trans k14
    obtain ⟨nm0, d0, p0, s0, e0, ok0, R0⟩ := (rows12 t0 ht0).keep k13 hp12
    refine ⟨_, rfl, t0, _, rfl, SqT.of e0, fun z => absurd z.1 (by show ¬ (1 = 0); decide), fun y1 hy1 => ?_⟩
    have nt5 : t5 ≠ p := P12.ne h5
    have ht5 := same_new hy1 (.tup (cutV [.str nm0, .int d0, .int p0, .int s0] (some 1) none)) _ _ (k14 _ _ (same_new hu (.lst (cutV (us.map V.ref) none (some (-1)))) _ _ upd_same) nt5)
    refine ⟨t5, y1, [.str z], [.int d0, .int p0, .int s0], rfl, rfl, SqT.of ht5, SqT.of upd_same, (fun e => by cases e), (by show 4 ≤ sizeLine; decide), (fun e => by cases e), fun _ y hy => ?_⟩
    have k15 := (k13.new hy1).new (o := .tup ([.str z] ++ [.int d0, .int p0, .int s0])) hy
    have hF15 := k15 _ _ hF12 nF
    have lus : (us.map V.ref).length = i + 1 := by rw [List.length_map, lts]
    refine ⟨_, rfl, _, rfl, F, _, _, i, rfl, rfl, hF15, by rw [ix_last (by omega), lus]; rfl, ?_⟩
    refine ⟨us.set i y, _, _, _, rfl, by rw [upd_same, List.map_set], by rw [List.length_set, lts], by omega, fun t ht => ?_, by rw [upd_ne nLF]; exact k15 _ _ hL12 nL, (((P14.new hy1).new hy).upd nF nFl).le (by omega), ((k11.trans k12).trans k15).at_new hF0⟩
    rcases mem_set_or ht with rfl | ht
    · exact Row.updL ⟨z, d0, p0, s0, upd_same, zok, R0⟩ hF15
    · exact ((rows12 t ht).keep k15 hp12).updL hF15
  · rintro σ' H' ⟨ts, a, b, c, rfl, hFi, hl, him, hrow, hLi, Pi, ki⟩
    rw [List.length_map, hss] at hl
    refine ⟨_, rfl, ?_⟩
    exact q F ts H' hFi (by omega) (by omega) hrow hF (Pi.le (by omega)) ki
end
end Ur
/-! K6: rows of painters with great numbers: aimed, lined. -/
namespace Ur
open PySem PySem.Spec PyProof.Rows L2
def AimR (d p s : Int) : Prop := 0 ≤ d ∧ d ≤ 2 * 10 ^ 29 ∧ -(3 * 10 ^ 28) ≤ p ∧ p ≤ 3 * 10 ^ 28 ∧ -(10 ^ 17) ≤ s ∧ s ≤ 10 ^ 17 ∧ s ≠ 0
def LineR (d p s : Int) : Prop := 0 ≤ d ∧ d ≤ 10 ^ 29 ∧ -(2 * 10 ^ 29) ≤ p ∧ p ≤ 2 * 10 ^ 29 ∧ -(12 * 10 ^ 16) ≤ s ∧ s ≤ 12 * 10 ^ 16 ∧ s ≠ 0
def HubAt (H : Hp) (t : Addr) : Prop := ∃ D S : Int, H t = some (.tup [.int D, .int S]) ∧ 10 ^ 12 ≤ D ∧ D ≤ 10 ^ 12 + 10 ^ 29 ∧ -(10 ^ 28) ≤ S ∧ S ≤ 10 ^ 28
theorem HubAt.keep {H H' : Hp} {t p : Addr} {kvs : List (Key × V)} (r : HubAt H t) (k : Keep p H H') (hp : H p = some (.dK kvs)) : HubAt H' t := let ⟨D, S, e, z⟩ := r; ⟨D, S, k _ _ e (ne_of e hp (by intro z; cases z)), z⟩
theorem HubAt.updL {H : Hp} {t F : Addr} {xs ys : List V} (r : HubAt H t) (hF : H F = some (.lst xs)) : HubAt (upd H F (.lst ys)) t := let ⟨D, S, e, z⟩ := r; ⟨D, S, by rw [upd_ne (ne_of e hF (by intro z; cases z))]; exact e, z⟩
abbrev s__law_lined : Stmt := (topS 72)
abbrev N_sc__law_lined : List Str := ["_law_pen_here", "_law_most", "_law_found", "_law_many", "_law_lot", "_law_base", "_law_name", "_law_stride", "_law_post", "_law_start"]
abbrev P__law_lined : List Str := ["_law_pen_here", "_law_most"]
theorem sc__law_lined : FnScope N_sc__law_lined P__law_lined (defScope s__law_lined) := ⟨rfl, rfl, rfl, by decide +kernel, rfl, by decide +kernel, by decide +kernel⟩
abbrev s__law_aimed : Stmt := (topS 64)
abbrev N_sc__law_aimed : List Str := ["_law_pen_here", "_law_most", "_law_found", "_law_many", "_law_hubs", "_law_k", "_law_hub", "_law_lot", "_law_name", "_law_start", "_law_post", "_law_stride", "_law_steps"]
abbrev P__law_aimed : List Str := ["_law_pen_here", "_law_most"]
theorem sc__law_aimed : FnScope N_sc__law_aimed P__law_aimed (defScope s__law_aimed) := ⟨rfl, rfl, rfl, by decide +kernel, rfl, by decide +kernel, by decide +kernel⟩
end Ur
/-! K7: lined, painters. -/
namespace Ur
open PySem PySem.Spec PyProof.Rows L2
section
variable {P : Program} {w : World} {K : PySem.W.Frag} {mg : Str → Option Value} {base : Heap}
set_option maxHeartbeats 40000000 in
theorem ok_lined (D : Dfn K mg "_law_lined" s__law_lined P__law_lined) (B : Blt mg) (CD : Cal P w K mg base 12 "_law_draw" P__law_draw spDr) (CI : Cal P w K mg base 13 "_law_pick" P__law_pick (spPickI K)) (CA : Cal P w K mg base 13 "_law_around" P__law_around spAround)
    (CG : Cal P w K mg base 14 "_law_great" P__law_great spGreat) (CN : Cal P w K mg base 14 "_law_names" P__law_names spNames) : Cal P w K mg base 15 "_law_lined" P__law_lined (spRows LineR) := by
  refine D.cal sc__law_lined (fun vs H Q E h => ?_) fun f cdv A outer s H vs Q E hr h => ?_
  · obtain ⟨p, l, most, n, rfl, _⟩ := h
    rfl
  obtain ⟨p, l, most, n, rfl, Pn, hn, m1, m2, q⟩ := h
  obtain ⟨kvs, hp⟩ := Pn.dk
  have pw12 : CPow 10 12 := ⟨by decide, by decide, by decide⟩
  have e12 : (10 : Int) ^ (12 : Int).toNat = 10 ^ 12 := rfl
  refine ⟨_, (pss_cons (ps_par (i := 2) (j := 3) rfl sc__law_lined.nd rfl rfl (by decide) rfl rfl (pa_cons (pe_lst pa_nil) (pa_cons (pe_op op_add pe_int (pe_cal CD (hr.mono (by decide)) (pa_cons (pv 0) (pa_cons (pv 1) pa_nil)))) pa_nil)) (by rfl)) (pss_cons (ps_par (i := 4) (j := 5) rfl sc__law_lined.nd rfl rfl (by decide) rfl rfl (pa_cons (pe_op op_add pe_int (pe_cal CG (hr.mono (by decide)) (pa_cons (pv 0) (pa_cons pe_int pa_nil)))) (pa_cons (pe_op op_mul (pe_cal CG (hr.mono (by decide)) (pa_cons (pv 0) (pa_cons pe_int pa_nil))) (pe_cal CI (hr.mono (by decide)) (pa_cons (pv 0) (pa_cons (pe_lst (pa_cons pe_int (pa_cons (pe_un un_neg pe_int) pa_nil))) pa_nil)))) pa_nil)) (by rfl)) (pss_cons (ps_for PassesOwn.never rfl (pi_list (pe_cal CN (hr.mono (by decide)) (pa_cons (pv 0) (pa_cons (pv 3) pa_nil)))) (pg_name (i := 6) sc__law_lined.nd rfl (Or.inl rfl)) (pss_cons (ps_set (i := 7) sc__law_lined.nd rfl (Or.inl rfl) (pe_op op_mul (pe_op op_mul (pv 4) (pe_op op_add pe_int (pe_cal CD (hr.mono (by decide)) (pa_cons (pv 0) (pa_cons pe_int pa_nil))))) (pe_cal CI (hr.mono (by decide)) (pa_cons (pv 0) (pa_cons (pe_lst (pa_cons pe_int (pa_cons pe_int (pa_cons (pe_un un_neg pe_int) pa_nil)))) pa_nil))))) (pss_cons (ps_set (i := 8) sc__law_lined.nd rfl (Or.inl rfl) (pe_op op_add (pv 5) (pe_cal CD (hr.mono (by decide)) (pa_cons (pv 0) (pa_cons (pe_callB (call_min2 rfl) rfl B.min_ (by decide +kernel) (pa_cons (pv 4) (pa_cons pe_int pa_nil))) pa_nil))))) (pss_cons (ps_set (i := 8) sc__law_lined.nd rfl (Or.inl rfl) (pe_op op_add (pv 8) (pe_op op_mul (pv 4) (pe_cal CA (hr.mono (by decide)) (pa_cons (pv 0) (pa_cons (pe_cal CI (hr.mono (by decide)) (pa_cons (pv 0) (pa_cons (pe_lst (pa_cons pe_int (pa_cons pe_int (pa_cons (pe_op op_pow pe_int pe_int) pa_nil)))) pa_nil))) pa_nil)))))) (pss_cons (ps_set (i := 9) sc__law_lined.nd rfl (Or.inl rfl) (pe_cal CI (hr.mono (by decide)) (pa_cons (pv 0) (pa_cons (pe_lst (pa_cons pe_int (pa_cons (pe_cal CD (hr.mono (by decide)) (pa_cons (pv 0) (pa_cons pe_int pa_nil))) (pa_cons (pe_cal CG (hr.mono (by decide)) (pa_cons (pv 0) (pa_cons pe_int pa_nil))) pa_nil)))) pa_nil)))) (pss_one (ps_expr (pe_bm PySem.F.plainAttrs_list PySem.F.slot_list_append PySem.F.type_list_append mt_append (pv 2) (pa_cons (pe_tup (pa_cons (pv 6) (pa_cons (pv 9) (pa_cons (pv 8) (pa_cons (pv 7) pa_nil))))) pa_nil))))))))) (pss_one (ps_ret (pv 2)))))), ?_⟩
  refine ⟨(by show 0 ≤ sizeLine; decide), fun F hF => ?_⟩
  have nF := Pn.ne hF
  have nFl := Pn.nl hF
  refine ⟨_, rfl, _, rfl, p, l, most, n, rfl, Pn.new hF, by omega, by omega, by omega, fun v0 H1 a0 b0 P1 k1 => ?_⟩
  have hF1 : H1 F = some (.lst []) := k1 _ _ upd_same nF
  have K1 : Keep p H H1 := (Keep.refl.new hF).trans k1
  refine ⟨_, _, rfl, rfl, _, _, rfl, ?_⟩
  -- lot, base
  refine ⟨_, rfl, p, l, 16, _, rfl, P1, by omega, by decide, by decide, fun v1 H2 a1 b1 P2 k2 => ?_⟩
  refine ⟨_, _, rfl, rfl, _, rfl, p, l, 29, _, rfl, P2, by omega, by decide, by decide, fun v2 H3 a2 b2 P3 k3 => ?_⟩
  refine ⟨_, rfl, _, rfl, (by show 2 ≤ sizeLine; decide), fun t1 h1 => ?_⟩
  refine ⟨p, l, t1, [1, -1], _, rfl, P3.new h1, by omega, SqL.of upd_same, by decide, by decide, fun v3 H4 hv3 P4 k4 => ?_⟩
  have v3b : v3 = 1 ∨ v3 = -1 := by simpa only [List.mem_cons, List.not_mem_nil, or_false] using hv3
  refine ⟨_, _, rfl, rfl, .inr (by omega), _, _, rfl, ?_⟩
  have bb : -(10 ^ 29) ≤ v2 * v3 ∧ v2 * v3 ≤ 10 ^ 29 := by rcases v3b with rfl | rfl <;> omega
  have K4 := K1.trans (((k2.trans k3).new h1).trans k4)
  have hF4 := (((k2.trans k3).new h1).trans k4) _ _ hF1 nF
  -- for label in names(pen, many)
  obtain ⟨m, hm⟩ : ∃ m : Nat, 1 + v0 = (m : Int) := ⟨(1 + v0).toNat, by omega⟩
  refine ⟨_, rfl, _, rfl, p, l, m, _, by show [V.ref p, V.int (1 + v0)] = [V.ref p, V.int (m : Int)]; rw [hm], P4, by omega, by omega, fun L ss H5 hL hss hok hL0 P5 k5 => ?_⟩
  have hF5 := k5 _ _ hF4 nF
  have nLF : L ≠ F := fun e => by rw [e, hF4] at hL0; cases hL0
  have nL : L ≠ p := P4.ne hL0
  refine ⟨L, rfl, ⟨_, SqL.of hL⟩, for_list (K := K) (a := L) (xs := ss.map V.str) (fun i σ' H' => ∃ (ts : List Addr) (b6 b7 b8 b9 : Option V), σ' = [some (.ref p), some (.int (most : Int)), some (.ref F), some (.int (1 + v0)), some (.int (1 + v1)), some (.int (v2 * v3)), b6, b7, b8, b9] ∧
      H' F = some (.lst (ts.map V.ref)) ∧ ts.length = i ∧ i ≤ m ∧ (∀ t ∈ ts, Row H' t LineR) ∧ H' L = some (.lst (ss.map V.str)) ∧ Pen H' p l (n + 2000 + 12 * (m + 9) + 800 * i) ∧ Keep p H H') ⟨[], none, none, none, none, rfl, hF5, rfl, Nat.zero_le _, fun t ht => absurd ht List.not_mem_nil, hL, P5.le (by omega), K4.trans k5⟩ (fun i σ' H' _ ⟨_, _, _, _, _, _, _, _, _, _, h, _⟩ => SqL.of h) ?_ ?_⟩
  · rintro i x σ' H' hx ⟨ts, b6, b7, b8, b9, rfl, hFi, hl, him, hrow, hLi, Pi, ki⟩
    obtain ⟨kvi, hpi⟩ := Pi.dk
    have him : i < m := by
      have := (List.getElem?_eq_some_iff.mp hx).1
      rw [List.length_map] at this
      omega
    obtain ⟨z, hz, rfl⟩ : ∃ z, z ∈ ss ∧ V.str z = x := List.mem_map.mp (List.mem_of_getElem? hx)
    have zok := hok z hz
    -- pace
    refine ⟨_, rfl, _, rfl, p, l, 12, _, rfl, Pi, by omega, by omega, by omega, fun c1 H6 x1 y1 P6 k6 => ?_⟩
    refine ⟨_, _, rfl, rfl, _, _, rfl, rfl, .inl (by omega), _, rfl, _, rfl, (by show 3 ≤ sizeLine; decide), fun t2 h2 => ?_⟩
    refine ⟨p, l, t2, [1, 1, -1], _, rfl, P6.new h2, by omega, SqL.of upd_same, by decide, by decide, fun c2 H7 hc2 P7 k7 => ?_⟩
    have c2b : c2 = 1 ∨ c2 = -1 := by
      simp only [List.mem_cons, List.not_mem_nil, or_false] at hc2
      omega
    have lb := mul_bd (a := 1 + v1) (b := 1 + c1) (A := 10 ^ 16) (B := 12) (by omega) (by omega) (by omega) (by omega) (by decide)
    have lb1 := mul_pos1 (a := 1 + v1) (b := 1 + c1) (by omega) (by omega)
    refine ⟨_, _, rfl, rfl, .inr (by omega), ?_⟩
    have pb : -(12 * 10 ^ 16) ≤ (1 + v1) * (1 + c1) * c2 ∧ (1 + v1) * (1 + c1) * c2 ≤ 12 * 10 ^ 16 ∧ (1 + v1) * (1 + c1) * c2 ≠ 0 := by rcases c2b with rfl | rfl <;> omega
    -- spot
    refine ⟨_, rfl, _, rfl, _, rfl, _, _, rfl, p, l, _, _, rfl, P7, by omega, by split <;> omega, by split <;> omega, fun c3 H8 x3 y3 P8 k8 => ?_⟩
    have y3 : c3 < 2 := by split at y3 <;> omega
    refine ⟨_, _, rfl, rfl, ?_⟩
    refine ⟨_, rfl, _, rfl, _, rfl, _, rfl, _, _, rfl, rfl, pw12, (by show 3 ≤ sizeLine; decide), fun t3 h3 => ?_⟩
    refine ⟨p, l, t3, [3, 40, 10 ^ (12 : Int).toNat], _, rfl, P8.new h3, by omega, SqL.of upd_same, by decide, by decide, fun c4 H9 hc4 P9 k9 => ?_⟩
    have c4b : 0 ≤ c4 ∧ c4 ≤ 10 ^ 12 := by
      simp only [List.mem_cons, List.not_mem_nil, or_false] at hc4
      omega
    refine ⟨p, l, c4, _, rfl, P9, by omega, by omega, by omega, fun c5 H10 x5 y5 P10 k10 => ?_⟩
    have ab := mul_bd (a := 1 + v1) (b := c5) (A := 10 ^ 16) (B := 10 ^ 12) (by omega) (by omega) (by omega) (by omega) (by decide)
    refine ⟨_, _, rfl, rfl, .inl (by omega), _, _, rfl, rfl, ?_⟩
    -- date
    refine ⟨_, rfl, _, rfl, p, l, 30, _, rfl, P10, by omega, by omega, by omega, fun c6 H11 x6 y6 P11 k11 => ?_⟩
    refine ⟨_, rfl, p, l, 29, _, rfl, P11, by omega, by decide, by decide, fun c7 H12 x7 y7 P12 k12 => ?_⟩
    refine ⟨(by show 3 ≤ sizeLine; decide), fun t4 h4 => ?_⟩
    refine ⟨p, l, t4, [0, c6, c7], _, rfl, P12.new h4, by omega, SqL.of upd_same, by show 1 ≤ 3; decide, by show 3 ≤ 1000000; decide, fun dt H13 hdt P13 k13 => ?_⟩
    have dtb : 0 ≤ dt ∧ dt ≤ 10 ^ 29 := by
      simp only [List.mem_cons, List.not_mem_nil, or_false] at hdt
      rcases hdt with rfl | rfl | rfl <;> omega
    have kk : Keep p H' H13 := ((((k6.new h2).trans k7).trans k8 |>.new h3).trans k9 |>.trans k10 |>.trans k11 |>.trans k12 |>.new h4).trans k13
    have hF13 := kk _ _ hFi nF
    refine ⟨_, rfl, .inl ⟨rfl, _, SqL.of hF13⟩, ?_⟩
    refine ⟨_, rfl, _, rfl, _, rfl, _, rfl, (by show 4 ≤ sizeLine; decide), fun t5 h5 => ?_⟩
    obtain ⟨od, hod⟩ : ∃ o : HO, o = .tup [.str z, .int dt, .int (v2 * v3 + c3 + (1 + v1) * c5), .int ((1 + v1) * (1 + c1) * c2)] := ⟨_, rfl⟩
    rw [← hod]
    have hF14 := same_new h5 od _ _ hF13
    refine ⟨F, _, _, rfl, rfl, hF14, by rw [List.length_map]; exact small1000 (by omega), ?_⟩
    have k14 := kk.new (o := od) h5
    have row5 : Row (upd H13 t5 od) t5 LineR := ⟨z, dt, v2 * v3 + c3 + (1 + v1) * c5, (1 + v1) * (1 + c1) * c2, by rw [upd_same, hod], zok, by unfold LineR; refine ⟨by omega, by omega, by omega, by omega, pb⟩⟩
    have rows14 : ∀ t ∈ ts ++ [t5], Row (upd H13 t5 od) t LineR := mem_snoc (fun t ht => (hrow t ht).keep k14 hpi) row5
    refine ⟨ts ++ [t5], _, _, _, _, rfl, by rw [upd_same, List.map_append]; rfl, by rw [List.length_append, hl]; rfl, by omega, fun t ht => (rows14 t ht).updL hF14, by rw [upd_ne nLF]; exact k14 _ _ hLi nL, ((P13.new h5).le (by omega)).upd nF nFl, (ki.trans k14).at_new hF⟩
  · rintro σ' H' ⟨ts, b6, b7, b8, b9, rfl, hFi, hl, him, hrow, hLi, Pi, ki⟩
    rw [List.length_map, hss] at hl
    refine ⟨_, rfl, ?_⟩
    exact q F ts H' hFi (by omega) (by omega) hrow hF (Pi.le (by omega)) ki
end
/-! ### painters: none, or rows of one of the three kinds -/
theorem small_any {d p s : Int} (h : SmallR d p s) : AnyR d p s := by unfold SmallR at h; unfold AnyR; omega
theorem aim_any {d p s : Int} (h : AimR d p s) : AnyR d p s := by unfold AimR at h; unfold AnyR; omega
theorem line_any {d p s : Int} (h : LineR d p s) : AnyR d p s := by unfold LineR at h; unfold AnyR; omega
theorem Row.imp {H : Hp} {t : Addr} {R S : Int → Int → Int → Prop} (r : Row H t R) (h : ∀ d p s, R d p s → S d p s) : Row H t S := let ⟨nm, d, p, s, e, z, y⟩ := r; ⟨nm, d, p, s, e, z, h _ _ _ y⟩
end Ur
/-! N3: the names are different ones. -/
namespace Ur
open PySem PySem.Spec PyProof.Rows L2
def baseN (stem : Str) (c : Nat) : Str := if stem.length % 2 = 0 then stem ++ ⟨#[c]⟩ else ⟨#[c]⟩ ++ stem
/-- the j-th name -/
def NmAt (stem : Str) (fr sp : Int) (j : Nat) (g : Str) : Prop := ∃ (c : Nat) (t : Str), lett.cps.toList[((fr + sp * (j : Int)) % 26).toNat]? = some c ∧ t.length = (if j < 26 then 0 else 1) ∧ g = baseN stem c ++ t
theorem at_emod {a : Int} {c : Nat} (h : atI lett.cps.toList (a % 26) = some c) : lett.cps.toList[(a % 26).toNat]? = some c := by
  obtain ⟨j, hj⟩ : ∃ j : Nat, a % 26 = (j : Int) := ⟨(a % 26).toNat, by have := Int.emod_nonneg a (show (26 : Int) ≠ 0 by decide); omega⟩
  have hl : j < 26 := by have := Int.emod_lt_of_pos a (show (0 : Int) < 26 by decide); omega
  rw [hj] at h ⊢
  rw [atI_nat (List.getElem?_eq_getElem (show j < lett.cps.toList.length by rw [lett_tl]; exact hl))] at h
  rw [Int.toNat_natCast, List.getElem?_eq_getElem (show j < lett.cps.toList.length by rw [lett_tl]; exact hl)]
  exact h
theorem nmAt_snoc {stem : Str} {fr sp : Int} {ss : List Str} {i : Nat} {g : Str} (hl : ss.length = i) (h : ∀ j g, ss[j]? = some g → NmAt stem fr sp j g) (hg : NmAt stem fr sp i g) : ∀ j y, (ss ++ [g])[j]? = some y → NmAt stem fr sp j y := by
  intro j y e
  by_cases hj : j < ss.length
  · rw [List.getElem?_append_left hj] at e
    exact h j y e
  · have hj2 : j < (ss ++ [g]).length := (List.getElem?_eq_some_iff.mp e).1
    rw [List.length_append] at hj2
    have : j = i := by have h1 : ([g] : List Str).length = 1 := rfl; omega
    subst this
    rw [List.getElem?_append_right (by omega), hl, Nat.sub_self] at e
    obtain rfl := Option.some.inj e
    exact hg
theorem base_inj {stem : Str} {c d : Nat} {t u : Str} (hl : t.length = u.length) (e : baseN stem c ++ t = baseN stem d ++ u) : c = d := by
  have e2 : (baseN stem c).cps.toList ++ t.cps.toList = (baseN stem d).cps.toList ++ u.cps.toList := by
    have z := congrArg (fun s : Str => s.cps.toList) e
    simpa [Str.cps_append, Array.toList_append] using z
  have hl2 : t.cps.toList.length = u.cps.toList.length := by rw [Array.length_toList, Array.length_toList]; exact hl
  have e3 := (List.append_inj' e2 hl2).1
  unfold baseN at e3
  by_cases ev : stem.length % 2 = 0
  · rw [if_pos ev, if_pos ev, Str.cps_append, Str.cps_append, Array.toList_append, Array.toList_append] at e3
    simpa using e3
  · rw [if_neg ev, if_neg ev, Str.cps_append, Str.cps_append, Array.toList_append, Array.toList_append] at e3
    simpa using e3
theorem lett_inj : ∀ i < 26, ∀ j < 26, lett.cps.toList[i]? = lett.cps.toList[j]? → i = j := by decide +kernel
theorem step_inj {sp d : Int} (h : sp ∈ ([1, 3, 5, 7, 9, 11, 15, 17, 19, 21, 23, 25] : List Int)) (e : (sp * d) % 26 = 0) : d % 26 = 0 := by
  simp only [List.mem_cons, List.not_mem_nil, or_false] at h
  rcases h with rfl | rfl | rfl | rfl | rfl | rfl | rfl | rfl | rfl | rfl | rfl | rfl <;> omega
theorem nm_ne {stem : Str} {fr sp : Int} (h : sp ∈ ([1, 3, 5, 7, 9, 11, 15, 17, 19, 21, 23, 25] : List Int)) {i j : Nat} {g : Str} (hij : i < j) (hj : j < 52) (a : NmAt stem fr sp i g) (b : NmAt stem fr sp j g) : False := by
  obtain ⟨c, t, hc, ht, e1⟩ := a
  obtain ⟨d, u, hd, hu, e2⟩ := b
  have len : ∀ (c : Nat) (t : Str), (baseN stem c ++ t).length = stem.length + 1 + t.length := fun c t => by
    rw [Str.length_append]
    congr 1
    unfold baseN
    split
    · rw [Str.length_append]; rfl
    · rw [Str.length_append]
      show 1 + stem.length = _
      omega
  have hl : t.length = u.length := by
    have z := congrArg Str.length (e1.symm.trans e2)
    rw [len, len] at z
    omega
  have hcd := base_inj hl (e1.symm.trans e2)
  subst hcd
  have b1 := Int.emod_nonneg (fr + sp * (i : Int)) (show (26 : Int) ≠ 0 by decide)
  have b2 := Int.emod_lt_of_pos (fr + sp * (i : Int)) (show (0 : Int) < 26 by decide)
  have b3 := Int.emod_nonneg (fr + sp * (j : Int)) (show (26 : Int) ≠ 0 by decide)
  have b4 := Int.emod_lt_of_pos (fr + sp * (j : Int)) (show (0 : Int) < 26 by decide)
  have ei := lett_inj _ (by omega) _ (by omega) (hc.trans hd.symm)
  have em : (fr + sp * (i : Int)) % 26 = (fr + sp * (j : Int)) % 26 := by omega
  have ez : (sp * ((j : Int) - (i : Int))) % 26 = 0 := by
    rw [Int.mul_sub]
    generalize sp * (j : Int) = x at em ⊢
    generalize sp * (i : Int) = y at em ⊢
    omega
  have zz := step_inj h ez
  rw [hl, hu] at ht
  split at ht <;> split at ht <;> omega
theorem nm_nodup {stem : Str} {fr sp : Int} (h : sp ∈ ([1, 3, 5, 7, 9, 11, 15, 17, 19, 21, 23, 25] : List Int)) {ss : List Str} (hl : ss.length ≤ 52) (hs : ∀ j g, ss[j]? = some g → NmAt stem fr sp j g) : ss.Nodup := by
  rw [List.nodup_iff_pairwise_ne, List.pairwise_iff_getElem]
  intro i j hi hj hij e
  exact nm_ne h hij (by omega) (hs i _ (List.getElem?_eq_getElem hi)) (by rw [e]; exact hs j _ (List.getElem?_eq_getElem hj))
def spNamesN : Sp := fun vs H Q _ => ∃ (p l : Addr) (m n : Nat), vs = [.ref p, .int (m : Int)] ∧ Pen H p l n ∧ n + 12 * (m + 9) ≤ 2 ^ 39 ∧ m ≤ 52 ∧
  ∀ (F : Addr) (ss : List Str) (H' : Hp), H' F = some (.lst (ss.map V.str)) → ss.length = m → (∀ z ∈ ss, NameOk z) → ss.Nodup → H F = none → Pen H' p l (n + 12 * (m + 9)) → Keep p H H' → Q (.ref F) H'
section
variable {P : Program} {w : World} {K : PySem.W.Frag} {mg : Str → Option Value} {base : Heap}
set_option maxHeartbeats 16000000 in
theorem ok_namesN (D : Dfn K mg "_law_names" s__law_names P__law_names) (B : Blt mg) (CD : Cal P w K mg base 12 "_law_draw" P__law_draw spDr) (CP : Cal P w K mg base 13 "_law_pick" P__law_pick (spPickL K)) (CS : Cal P w K mg base 13 "_law_pick" P__law_pick spPickS) :
    Cal P w K mg base 14 "_law_names" P__law_names spNamesN := by
  refine D.cal sc__law_names (fun vs H Q E h => ?_) fun f cdv A outer s H vs Q E hr h => ?_
  · obtain ⟨p, l, m, n, rfl, _⟩ := h
    rfl
  obtain ⟨p, l, m, n, rfl, Pn, hn, hm, q⟩ := h
  obtain ⟨kvs, hp⟩ := Pn.dk
  have small : ∀ x : Nat, x ≤ 1000 → x ≤ sizeLine := fun x h => Nat.le_trans h (by decide)
  refine ⟨_, (pss_cons (ps_set (i := 2) sc__law_names.nd rfl (Or.inr rfl) pe_str) (C8.pss_cut (ps_set (i := 3) sc__law_names.nd rfl (Or.inl rfl) (pe_join pe_str (pe_lc (own := [("_law_k", 4)]) (g := gName 4) (tt := tYes) rfl sc__law_names.nd (pi_range1 rfl B.range_ (pa_cons (pe_cal CD (hr.mono (by decide)) (pa_cons (pv 0) (pa_cons pe_int pa_nil))) pa_nil)) (blkOk_by (N := N_sc__law_names) (sc := defScope s__law_names) (by decide +kernel)) (fun _ _ _ _ _ => pg_name (i := 4) sc__law_names.nd rfl (Or.inl rfl)) (fun _ _ _ _ _ => pts_nil) (fun _ _ _ _ _ => (pe_cal CS (hr.mono (by decide)) (pa_cons (pv 0) (pa_cons (pv 2) pa_nil))))))) (pss_cons (ps_par (i := 5) (j := 6) rfl sc__law_names.nd rfl rfl (by decide) rfl rfl (pa_cons (pe_cal CD (hr.mono (by decide)) (pa_cons (pv 0) (pa_cons pe_int pa_nil))) (pa_cons (pe_lst pa_nil) pa_nil)) (by rfl)) (pss_cons (ps_set (i := 7) sc__law_names.nd rfl (Or.inl rfl) (pe_cal CP (hr.mono (by decide)) (pa_cons (pv 0) (pa_cons (pe_lst (pa_cons pe_int (pa_cons pe_int (pa_cons pe_int (pa_cons pe_int (pa_cons pe_int (pa_cons pe_int (pa_cons pe_int (pa_cons pe_int (pa_cons pe_int (pa_cons pe_int (pa_cons pe_int (pa_cons pe_int pa_nil))))))))))))) pa_nil)))) (pss_cons (ps_for PassesOwn.never rfl (pi_range1 rfl B.range_ (pa_cons (pv 1) pa_nil)) (pg_name (i := 4) sc__law_names.nd rfl (Or.inl rfl)) (pss_cons (ps_set (i := 8) sc__law_names.nd rfl (Or.inl rfl) (pe_ix ix_str (pv 2) (pe_op op_mod (pe_callTy call_int1 rfl B.int_ (by decide +kernel) (pa_cons (pe_op op_add (pv 5) (pe_op op_mul (pv 7) (pv 4))) pa_nil)) pe_int) (fun _ _ => rfl))) (C8.pss_cut (ps_set (i := 9) sc__law_names.nd rfl (Or.inl rfl) (pe_ifExp (pt_cmpR op_lt (pv 4) pe_int (nomark _)) pe_str (pe_cal CS (hr.mono (by decide)) (pa_cons (pv 0) (pa_cons (pv 2) pa_nil))))) (pss_one (ps_expr (pe_bm PySem.F.plainAttrs_list PySem.F.slot_list_append PySem.F.type_list_append mt_append (pv 6) (pa_cons (pe_op op_add_str (pe_ix ix_list (pe_lst (pa_cons (pe_op op_add_str (pv 3) (pv 8)) (pa_cons (pe_op op_add_str (pv 8) (pv 3)) pa_nil))) (pe_op op_mod (pe_callB call_len_str rfl B.len_ PySem.boot_len (pa_cons (pv 3) pa_nil)) pe_int) (fun _ _ => rfl)) (pv 9)) pa_nil))))))) (pss_one (ps_ret (pv 6)))))))), ?_⟩
  refine ⟨fun σ' H' => ∃ stem : Str, σ' = [some (.ref p), some (.int (m : Int)), some (.str lett), some (.str stem), none, none, none, none, none, none] ∧ stem.length ≤ 6 ∧ LetOk stem ∧ Pen H' p l (n + 84) ∧ Keep p H H', ?_, ?_⟩
  · refine ⟨⟨_, rfl⟩, _, rfl, p, l, 7, n, rfl, Pn, by omega, by omega, by omega, fun v0 H1 a0 b0 P1 k1 => ?_⟩
    refine ⟨v0, rfl, by omega, by omega, fun D hD => lc_range (lo := 0) (n := v0.toNat) (fun i H' => ∃ ss : List Str, H' D = some (.lst (ss.map V.str)) ∧ ss.length = i ∧ (∀ z ∈ ss, z.length = 1 ∧ LetOk z) ∧ Pen H' p l (n + 12 + 12 * i) ∧ Keep p H H')
      ⟨[], upd_same, rfl, fun z hz => absurd hz List.not_mem_nil, (P1.new hD).le (by omega), k1.new hD⟩ ?_ ?_⟩
    · rintro i H' hi ⟨ss, hs, hl, ho, Pi, ki⟩
      refine ⟨rfl, ?_⟩
      refine ⟨_, rfl, _, rfl, p, l, lett, _, rfl, Pi, by omega, by rw [lett_len]; decide, by rw [lett_len]; decide, fun c H3 hc P3 k3 => ?_⟩
      have nD := P1.ne hD
      have nDl := P1.nl hD
      have hD0 : H D = none := k1.none_of hD nD
      refine ⟨ss.map V.str, k3 _ _ hs nD, by rw [List.length_map]; exact small1000 (by omega), ss ++ [⟨#[c]⟩], by rw [upd_same, List.map_append]; rfl, by rw [List.length_append, hl]; rfl, mem_snoc ho ⟨rfl, LetOk.one (lett_ok c hc)⟩, (P3.le (by omega)).upd nD nDl, (ki.trans k3).at_new hD0⟩
    · rintro H' ⟨ss, hs, hl, ho, Pi, ki⟩
      refine ⟨_, D, ss, rfl, rfl, .inl (SqL.of hs), ?_, ?_⟩
      · rw [sum_ones ss ho]
        show ss.length + ss.length * 0 ≤ _
        omega
      · obtain ⟨j1, j2⟩ := join_ok ss ho
        exact ⟨_, rfl, by show (Txt.join Str.empty ss).length ≤ 6; omega, j2, Pi.le (by omega), ki⟩
  rintro σ' H1 ⟨stem, rfl, st1, st2, P1, k1⟩
  refine ⟨_, rfl, p, l, 26, _, rfl, P1, by omega, by omega, by omega, fun fr H2 f0 f1 P2 k2 => ?_⟩
  refine ⟨(by show 0 ≤ sizeLine; decide), fun F hF => ?_⟩
  have nF := P2.ne hF
  have nFl := P2.nl hF
  have hF0 : H F = none := (k1.trans k2).none_of hF nF
  refine ⟨_, _, rfl, ?_⟩
  refine ⟨_, rfl, (by show 12 ≤ sizeLine; decide), fun t ht => ?_⟩
  refine ⟨p, l, t, _, _, rfl, (P2.new hF).new ht, by omega, SqL.of upd_same, by show 1 ≤ 12; decide, by show 12 ≤ 1000000; decide, fun st H4 hst P4 k4 => ?_⟩
  obtain ⟨sp, hsp, rfl⟩ : ∃ i : Int, i ∈ ([1, 3, 5, 7, 9, 11, 15, 17, 19, 21, 23, 25] : List Int) ∧ V.int i = st := List.mem_map.mp (show st ∈ ([1, 3, 5, 7, 9, 11, 15, 17, 19, 21, 23, 25] : List Int).map V.int from hst)
  have sp1 : 1 ≤ sp ∧ sp ≤ 25 := (by decide : ∀ i ∈ ([1, 3, 5, 7, 9, 11, 15, 17, 19, 21, 23, 25] : List Int), 1 ≤ i ∧ i ≤ 25) sp hsp
  have hF4 : H4 F = some (.lst []) := k4 _ _ (same_new ht (.lst (([1, 3, 5, 7, 9, 11, 15, 17, 19, 21, 23, 25] : List Int).map V.int)) _ _ upd_same) nF
  have k5 : Keep p H H4 := (((k1.trans k2).new hF).new ht).trans k4
  refine ⟨_, rfl, (m : Int), rfl, by omega, by omega, for_range (lo := 0) (n := (m : Int).toNat) (fun i σ' H' => ∃ (ss : List Str) (k own tail : Option V), σ' = [some (.ref p), some (.int (m : Int)), some (.str lett), some (.str stem), k, some (.int fr), some (.ref F), some (.int sp), own, tail] ∧
      H' F = some (.lst (ss.map V.str)) ∧ ss.length = i ∧ i ≤ m ∧ (∀ z ∈ ss, NameOk z) ∧ (∀ j g, ss[j]? = some g → NmAt stem fr sp j g) ∧ Pen H' p l (n + 108 + 12 * i) ∧ Keep p H H') ⟨[], none, none, none, rfl, hF4, rfl, Nat.zero_le _, fun z hz => absurd hz List.not_mem_nil, fun j g e => by simp at e, P4.le (by omega), k5⟩ ?_ ?_⟩
  · rintro i σ' H' hi ⟨ss, k, own, tail, rfl, hFi, hl, him, ho, hnm, Pi, ki⟩
    have him : i < m := by omega
    obtain ⟨c, hc, hcm⟩ := at_some (xs := lett.cps.toList) (em0 (fr + sp * (0 + (i : Int))) (m := 26) (by decide)) (by rw [lett_tl]; exact em1 _ (by decide))
    refine ⟨_, rfl, _, rfl, _, rfl, _, rfl, _, _, rfl, rfl, .inl (by omega), _, _, rfl, rfl, .inl ⟨_, rfl, _, _, rfl, rfl, by omega, lett, _, c, rfl, rfl, by rw [lett_len]; decide, hc, ?_⟩⟩
    have hcl := lett_ok c hcm
    refine ⟨fun σ' H'' => ∃ t : Str, σ' = [some (.ref p), some (.int (m : Int)), some (.str lett), some (.str stem), some (.int (0 + (i : Int))), some (.int fr), some (.ref F), some (.int sp), some (.str ⟨#[c]⟩), some (.str t)] ∧ t.length = (if i < 26 then 0 else 1) ∧ LetOk t ∧ Pen H'' p l (n + 108 + 12 * i + 12) ∧ Keep p H' H'', ?_, ?_⟩
    · refine ⟨_, rfl, _, _, rfl, rfl, _, rfl, ?_⟩
      refine ite2 (fun hc1 => ?_) (fun hc1 => ?_)
      · have hc1 := of_decide_eq_true hc1
        exact ⟨Str.empty, rfl, by rw [if_pos (by omega)]; rfl, LetOk.empty, Pi.le (by omega), Keep.refl⟩
      · refine ⟨_, rfl, _, rfl, p, l, lett, _, rfl, Pi, by omega, by rw [lett_len]; decide, by rw [lett_len]; decide, fun c2 H3 hc2 P3 k3 => ?_⟩
        have hc1 : ¬ (0 + (i : Int) < 26) := fun z => hc1 (decide_eq_true z)
        exact ⟨⟨#[c2]⟩, rfl, by rw [if_neg (by omega)]; rfl, LetOk.one (lett_ok c2 hc2), P3, k3⟩
    rintro σ' H3 ⟨t, rfl, t0, t2, P3, k3⟩
    have t1 : t.length ≤ 1 := by rw [t0]; split <;> omega
    have hF3 := k3 _ _ hFi nF
    have cl : (⟨#[c]⟩ : Str).length = 1 := rfl
    refine ⟨_, rfl, .inl ⟨rfl, _, SqL.of hF3⟩, ?_⟩
    refine ⟨_, rfl, _, rfl, _, _, rfl, rfl, small _ (by rw [cl]; omega), _, rfl, _, rfl, _, _, rfl, rfl, small _ (by rw [cl]; omega), (by show 2 ≤ sizeLine; decide), fun u hu => ?_⟩
    obtain ⟨v, hv, hvm⟩ := at_some (xs := [V.str (stem ++ ⟨#[c]⟩), V.str (⟨#[c]⟩ ++ stem)]) (em0 (stem.length : Int) (m := 2) (by decide)) (em1 (stem.length : Int) (m := 2) (by decide))
    obtain ⟨g, rfl, g1, g2, g3⟩ : ∃ g : Str, v = .str g ∧ g.length = stem.length + 1 ∧ LetOk g ∧ g = baseN stem c := by
      by_cases ev : stem.length % 2 = 0
      · have e0 : (stem.length : Int) % 2 = ((0 : Nat) : Int) := by omega
        rw [e0, atI_nat (show ([V.str (stem ++ ⟨#[c]⟩), V.str (⟨#[c]⟩ ++ stem)] : List V)[0]? = some (V.str (stem ++ ⟨#[c]⟩)) from rfl)] at hv
        obtain rfl := Option.some.inj hv
        exact ⟨_, rfl, by rw [Str.length_append, cl], st2.app (LetOk.one hcl), by unfold baseN; rw [if_pos ev]⟩
      · have e0 : (stem.length : Int) % 2 = ((1 : Nat) : Int) := by omega
        rw [e0, atI_nat (show ([V.str (stem ++ ⟨#[c]⟩), V.str (⟨#[c]⟩ ++ stem)] : List V)[1]? = some (V.str (⟨#[c]⟩ ++ stem)) from rfl)] at hv
        obtain rfl := Option.some.inj hv
        exact ⟨_, rfl, by rw [Str.length_append, cl]; omega, (LetOk.one hcl).app st2, by unfold baseN; rw [if_neg ev]⟩
    refine ⟨_, rfl, _, rfl, small _ (by omega), _, _, rfl, rfl, by omega, u, _, _, _, rfl, rfl, SqL.of upd_same, hv, _, rfl, _, _, rfl, rfl, small _ (by omega), ?_⟩
    have hF5 := same_new hu (.lst [V.str (stem ++ ⟨#[c]⟩), V.str (⟨#[c]⟩ ++ stem)]) _ _ hF3
    refine ⟨F, _, _, rfl, rfl, hF5, by rw [List.length_map]; exact small1000 (by omega), ?_⟩
    refine ⟨ss ++ [g ++ t], _, _, _, rfl, by rw [upd_same, List.map_append]; rfl, by rw [List.length_append, hl]; rfl, by omega, mem_snoc ho ⟨by rw [Str.length_append]; omega, by rw [Str.length_append]; omega, g2.app t2⟩, nmAt_snoc hl hnm ⟨c, t, by rw [Int.zero_add] at hc; exact at_emod hc, t0, by rw [g3]⟩, ((P3.new hu).le (by omega)).upd nF nFl, ((ki.trans k3).new hu).at_new hF0⟩
  · rintro σ' H' ⟨ss, k, own, tail, rfl, hFi, hl, him, ho, hnm, Pi, ki⟩
    refine ⟨_, rfl, ?_⟩
    exact q F ss H' hFi (by omega) ho (nm_nodup hsp (by omega) hnm) hF0 (Pi.le (by omega)) ki
end
end Ur
/-! N5: rows with different names: small. -/
namespace Ur
open PySem PySem.Spec PyProof.Rows L2
/-- a row with this name -/
def RowN (H : Hp) (t : Addr) (z : Str) (R : Int → Int → Int → Prop) : Prop := ∃ d p s, H t = some (.tup [.str z, .int d, .int p, .int s]) ∧ NameOk z ∧ R d p s
/-- rows with these names, from the first on -/
def RowsN (H : Hp) (ts : List Addr) (zs : List Str) (R : Int → Int → Int → Prop) : Prop := ∀ (j : Nat) (t : Addr) (z : Str), ts[j]? = some t → zs[j]? = some z → RowN H t z R
section
variable {H H' : Hp} {t p F y : Addr} {z : Str} {R S : Int → Int → Int → Prop} {ts us : List Addr} {zs ss : List Str} {kvs : List (Key × V)} {xs ys : List V} {i : Nat}
theorem RowN.row (r : RowN H t z R) : Row H t R := let ⟨d, p, s, e, ok, q⟩ := r; ⟨z, d, p, s, e, ok, q⟩
theorem RowN.same (r : RowN H t z R) (h : Same H H') : RowN H' t z R := let ⟨d, p, s, e, q⟩ := r; ⟨d, p, s, h _ _ e, q⟩
theorem RowN.keep (r : RowN H t z R) (k : Keep p H H') (hp : H p = some (.dK kvs)) : RowN H' t z R := let ⟨d, q, s, e, x⟩ := r; ⟨d, q, s, k _ _ e (ne_of e hp (by intro z; cases z)), x⟩
theorem RowN.updL (r : RowN H t z R) (hF : H F = some (.lst xs)) : RowN (upd H F (.lst ys)) t z R := let ⟨d, q, s, e, x⟩ := r; ⟨d, q, s, by rw [upd_ne (ne_of e hF (by intro z; cases z))]; exact e, x⟩
theorem RowN.imp (r : RowN H t z R) (h : ∀ d p s, R d p s → S d p s) : RowN H t z S := let ⟨d, p, s, e, ok, q⟩ := r; ⟨d, p, s, e, ok, h _ _ _ q⟩
theorem RowsN.nil : RowsN H [] zs R := fun j t z e => by simp at e
theorem RowsN.same (h : RowsN H ts zs R) (s : Same H H') : RowsN H' ts zs R := fun j t z e1 e2 => (h j t z e1 e2).same s
theorem RowsN.keep (h : RowsN H ts zs R) (k : Keep p H H') (hp : H p = some (.dK kvs)) : RowsN H' ts zs R := fun j t z e1 e2 => (h j t z e1 e2).keep k hp
theorem RowsN.updL (h : RowsN H ts zs R) (hF : H F = some (.lst xs)) : RowsN (upd H F (.lst ys)) ts zs R := fun j t z e1 e2 => (h j t z e1 e2).updL hF
theorem RowsN.imp (h : RowsN H ts zs R) (f : ∀ d p s, R d p s → S d p s) : RowsN H ts zs S := fun j t z e1 e2 => (h j t z e1 e2).imp f
theorem RowsN.snoc (hl : ts.length = i) (hz : zs[i]? = some z) (h : RowsN H ts zs R) (r : RowN H t z R) : RowsN H (ts ++ [t]) zs R := by
  intro j u v e1 e2
  by_cases hj : j < ts.length
  · rw [List.getElem?_append_left hj] at e1
    exact h j u v e1 e2
  · have hj2 : j < (ts ++ [t]).length := (List.getElem?_eq_some_iff.mp e1).1
    rw [List.length_append] at hj2
    have h1 : ([t] : List Addr).length = 1 := rfl
    have : j = i := by omega
    subst this
    rw [List.getElem?_append_right (by omega), hl, Nat.sub_self] at e1
    obtain rfl := Option.some.inj e1
    rw [hz] at e2
    obtain rfl := Option.some.inj e2
    exact r
theorem RowsN.set (hl : us.length = i + 1) (hz : zs[i]? = some z) (h : RowsN H us zs R) (r : RowN H y z R) : RowsN H (us.set i y) zs R := by
  intro j u v e1 e2
  by_cases e : i = j
  · subst e
    rw [List.getElem?_set_self (by omega)] at e1
    obtain rfl := Option.some.inj e1
    rw [hz] at e2
    obtain rfl := Option.some.inj e2
    exact r
  · rw [List.getElem?_set_ne e] at e1
    exact h j u v e1 e2
theorem RowsN.row (h : RowsN H ts zs R) (hl : ts.length ≤ zs.length) : ∀ t ∈ ts, Row H t R := fun t ht => by
  obtain ⟨j, hj, rfl⟩ := List.getElem_of_mem ht
  exact (h j _ _ (List.getElem?_eq_getElem hj) (List.getElem?_eq_getElem (by omega))).row
theorem str_at {x : V} (h : (ss.map V.str)[i]? = some x) : ∃ z, ss[i]? = some z ∧ V.str z = x := by
  rw [List.getElem?_map] at h
  cases e : ss[i]? with
  | none => rw [e] at h; cases h
  | some z => rw [e] at h; exact ⟨z, rfl, Option.some.inj h⟩
end
/-- what small, aimed and lined promise: rows with different names -/
def spRowsN (R : Int → Int → Int → Prop) : Sp := fun vs H Q _ => ∃ (p l : Addr) (most n : Nat), vs = [.ref p, .int (most : Int)] ∧ Pen H p l n ∧ n + 100000 ≤ 2 ^ 39 ∧ 1 ≤ most ∧ most ≤ 40 ∧
  ∀ (F : Addr) (ts : List Addr) (ss : List Str) (H' : Hp), H' F = some (.lst (ts.map V.ref)) → ts.length = ss.length → 1 ≤ ts.length → ts.length ≤ most → RowsN H' ts ss R → (∀ z ∈ ss, NameOk z) → ss.Nodup → H F = none → Pen H' p l (n + 100000) → Keep p H H' → Q (.ref F) H'
section
variable {P : Program} {w : World} {K : PySem.W.Frag} {mg : Str → Option Value} {base : Heap}
set_option maxHeartbeats 40000000 in
theorem ok_smallN (D : Dfn K mg "_law_small" s__law_small P__law_small) (B : Blt mg) (CD : Cal P w K mg base 12 "_law_draw" P__law_draw spDr) (CI : Cal P w K mg base 13 "_law_pick" P__law_pick (spPickI K)) (CP : Cal P w K mg base 13 "_law_pick" P__law_pick (spPickL K)) (CA : Cal P w K mg base 13 "_law_around" P__law_around spAround)
    (CN : Cal P w K mg base 14 "_law_names" P__law_names spNamesN) : Cal P w K mg base 15 "_law_small" P__law_small (spRowsN SmallR) := by
  refine D.cal sc__law_small (fun vs H Q E h => ?_) fun f cdv A outer s H vs Q E hr h => ?_
  · obtain ⟨p, l, most, n, rfl, _⟩ := h
    rfl
  obtain ⟨p, l, most, n, rfl, Pn, hn, m1, m2, q⟩ := h
  obtain ⟨kvs, hp⟩ := Pn.dk
  refine ⟨_, (pss_cons (ps_par (i := 2) (j := 3) rfl sc__law_small.nd rfl rfl (by decide) rfl rfl (pa_cons (pe_lst pa_nil) (pa_cons (pe_op op_add pe_int (pe_cal CD (hr.mono (by decide)) (pa_cons (pv 0) (pa_cons (pv 1) pa_nil)))) pa_nil)) (by rfl)) (pss_cons (ps_for PassesOwn.never rfl (pi_list (pe_cal CN (hr.mono (by decide)) (pa_cons (pv 0) (pa_cons (pv 3) pa_nil)))) (pg_name (i := 4) sc__law_small.nd rfl (Or.inl rfl)) (pss_cons (ps_set (i := 5) sc__law_small.nd rfl (Or.inl rfl) (pe_op op_add pe_int (pe_cal CI (hr.mono (by decide)) (pa_cons (pv 0) (pa_cons (pe_lst (pa_cons (pe_cal CD (hr.mono (by decide)) (pa_cons (pv 0) (pa_cons pe_int pa_nil))) (pa_cons (pe_cal CD (hr.mono (by decide)) (pa_cons (pv 0) (pa_cons pe_int pa_nil))) pa_nil))) pa_nil))))) (pss_cons (ps_set (i := 5) sc__law_small.nd rfl (Or.inl rfl) (pe_op op_mul (pv 5) (pe_cal CI (hr.mono (by decide)) (pa_cons (pv 0) (pa_cons (pe_lst (pa_cons pe_int (pa_cons (pe_un un_neg pe_int) pa_nil))) pa_nil))))) (pss_cons (ps_set (i := 6) sc__law_small.nd rfl (Or.inl rfl) (pe_cal CI (hr.mono (by decide)) (pa_cons (pv 0) (pa_cons (pe_lst (pa_cons pe_int (pa_cons pe_int (pa_cons (pe_cal CD (hr.mono (by decide)) (pa_cons (pv 0) (pa_cons pe_int pa_nil))) pa_nil)))) pa_nil)))) (pss_cons (ps_expr (pe_bm PySem.F.plainAttrs_list PySem.F.slot_list_append PySem.F.type_list_append mt_append (pv 2) (pa_cons (pe_tup (pa_cons (pv 4) (pa_cons (pv 6) (pa_cons (pe_cal CA (hr.mono (by decide)) (pa_cons (pv 0) (pa_cons pe_int pa_nil))) (pa_cons (pv 5) pa_nil))))) pa_nil))) (pss_one (ps_if (PW.pt (pw_and (pt_cmpR op_gt (pe_callB call_len_seq rfl B.len_ PySem.boot_len (pa_cons (pv 2) pa_nil)) pe_int (nomark _)) (pw_and1 (pt_cmpR op_eq (pe_cal CD (hr.mono (by decide)) (pa_cons (pv 0) (pa_cons pe_int pa_nil))) pe_int (nomark _))))) (pss_one (ps_asg (pe_op op_catT (pe_tup (pa_cons (pv 4) pa_nil)) (pe_slice sl_tup (pe_cal CP (hr.mono (by decide)) (pa_cons (pv 0) (pa_cons (pe_slice sl_list (pv 2) po_none (po_some (pe_un un_neg pe_int))) pa_nil))) (po_some pe_int) po_none)) (pg_sub (pv 2) (pe_un un_neg pe_int) set_list))) pss_nil))))))) (pss_one (ps_ret (pv 2))))), ?_⟩
  -- found, many = [], 1 + draw
  refine ⟨(by show 0 ≤ sizeLine; decide), fun F hF => ?_⟩
  have nF := Pn.ne hF
  have nFl := Pn.nl hF
  refine ⟨_, rfl, _, rfl, p, l, most, n, rfl, Pn.new hF, by omega, by omega, by omega, fun v0 H1 a0 b0 P1 k1 => ?_⟩
  have hF1 : H1 F = some (.lst []) := k1 _ _ upd_same nF
  have K1 : Keep p H H1 := (Keep.refl.new hF).trans k1
  refine ⟨_, _, rfl, rfl, _, _, rfl, ?_⟩
  -- for label in names(pen, many)
  obtain ⟨m, hm⟩ : ∃ m : Nat, 1 + v0 = (m : Int) := ⟨(1 + v0).toNat, by omega⟩
  refine ⟨_, rfl, _, rfl, p, l, m, _, by show [V.ref p, V.int (1 + v0)] = [V.ref p, V.int (m : Int)]; rw [hm], P1, by omega, by omega, fun L ss H2 hL hss hok hnd hL0 P2 k2 => ?_⟩
  have hF2 := k2 _ _ hF1 nF
  have nLF : L ≠ F := fun e => by rw [e, hF1] at hL0; cases hL0
  have nL : L ≠ p := P1.ne hL0
  refine ⟨L, rfl, ⟨_, SqL.of hL⟩, for_list (K := K) (a := L) (xs := ss.map V.str) (fun i σ' H' => ∃ (ts : List Addr) (a b c : Option V), σ' = [some (.ref p), some (.int (most : Int)), some (.ref F), some (.int (1 + v0)), a, b, c] ∧
      H' F = some (.lst (ts.map V.ref)) ∧ ts.length = i ∧ i ≤ m ∧ RowsN H' ts ss SmallR ∧ H' L = some (.lst (ss.map V.str)) ∧ Pen H' p l (n + 12 + 12 * (m + 9) + 144 * i) ∧ Keep p H H') ⟨[], none, none, none, rfl, hF2, rfl, Nat.zero_le _, RowsN.nil, hL, P2, K1.trans k2⟩ (fun i σ' H' _ ⟨_, _, _, _, _, _, _, _, _, h, _⟩ => SqL.of h) ?_ ?_⟩
  · rintro i x σ' H' hx ⟨ts, a, b, c, rfl, hFi, hl, him, hrow, hLi, Pi, ki⟩
    obtain ⟨kvi, hpi⟩ := Pi.dk
    have him : i < m := by
      have := (List.getElem?_eq_some_iff.mp hx).1
      rw [List.length_map] at this
      omega
    obtain ⟨z, hzi, rfl⟩ := str_at hx
    have zok := hok z (List.mem_of_getElem? hzi)
    -- pace = 1 + pick
    refine ⟨_, rfl, _, rfl, p, l, 6, _, rfl, Pi, by omega, by omega, by omega, fun a1 H3 c1 d1 P3 k3 => ?_⟩
    refine ⟨_, rfl, p, l, 2, _, rfl, P3, by omega, by omega, by omega, fun a2 H4 c2 d2 P4 k4 => ?_⟩
    refine ⟨(by show 2 ≤ sizeLine; decide), fun t1 h1 => ?_⟩
    refine ⟨p, l, t1, [a1, a2], _, rfl, P4.new h1, by omega, SqL.of upd_same, by show 1 ≤ 2; decide, by show 2 ≤ 1000000; decide, fun v1 H5 hv1 P5 k5 => ?_⟩
    have v1b : 0 ≤ v1 ∧ v1 ≤ 5 := by
      simp only [List.mem_cons, List.not_mem_nil, or_false] at hv1
      omega
    refine ⟨_, _, rfl, rfl, ?_⟩
    -- pace = pace * pick
    refine ⟨_, rfl, _, rfl, _, rfl, (by show 2 ≤ sizeLine; decide), fun t2 h2 => ?_⟩
    refine ⟨p, l, t2, [1, -1], _, rfl, P5.new h2, by omega, SqL.of upd_same, by decide, by decide, fun v2 H6 hv2 P6 k6 => ?_⟩
    have v2b : v2 = 1 ∨ v2 = -1 := by simpa only [List.mem_cons, List.not_mem_nil, or_false] using hv2
    refine ⟨_, _, rfl, rfl, .inl (by omega), ?_⟩
    obtain ⟨pace, hpace, pb⟩ : ∃ pace, (1 + v1) * v2 = pace ∧ -6 ≤ pace ∧ pace ≤ 6 ∧ pace ≠ 0 := ⟨_, rfl, by rcases v2b with rfl | rfl <;> omega⟩
    -- date = pick
    refine ⟨_, rfl, _, rfl, p, l, 7, _, rfl, P6, by omega, by omega, by omega, fun a3 H7 c3 d3 P7 k7 => ?_⟩
    refine ⟨(by show 3 ≤ sizeLine; decide), fun t3 h3 => ?_⟩
    refine ⟨p, l, t3, [0, 0, a3], _, rfl, P7.new h3, by omega, SqL.of upd_same, by show 1 ≤ 3; decide, by show 3 ≤ 1000000; decide, fun dt H8 hdt P8 k8 => ?_⟩
    have dtb : 0 ≤ dt ∧ dt ≤ 6 := by
      simp only [List.mem_cons, List.not_mem_nil, or_false] at hdt
      omega
    have kk : Keep p H' H8 := ((((((k3.trans k4).new h1).trans k5).new h2).trans k6).trans k7 |>.new h3).trans k8
    have hF8 := kk _ _ hFi nF
    -- found.append
    refine ⟨_, rfl, .inl ⟨rfl, _, SqL.of hF8⟩, ?_⟩
    refine ⟨_, rfl, _, rfl, _, rfl, p, l, 8, _, rfl, P8, by omega, by omega, by omega, fun ps H9 c4 d4 P9 k9 => ?_⟩
    refine ⟨_, rfl, (by show 4 ≤ sizeLine; decide), fun t4 h4 => ?_⟩
    have hF9 := same_new h4 (.tup [.str z, .int dt, .int ps, .int ((1 + v1) * v2)]) _ _ (k9 _ _ hF8 nF)
    refine ⟨F, _, _, rfl, rfl, hF9, by rw [List.length_map]; exact small1000 (by omega), ?_⟩
    have k10 := (kk.trans k9).new (o := .tup [.str z, .int dt, .int ps, .int ((1 + v1) * v2)]) h4
    have nt4 : t4 ≠ F := (ne_of_none (k9 _ _ hF8 nF) h4).symm
    have row4 : RowN (upd H9 t4 (.tup [.str z, .int dt, .int ps, .int ((1 + v1) * v2)])) t4 z SmallR := ⟨dt, ps, _, upd_same, zok, by rw [hpace]; unfold SmallR; omega⟩
    have hL10 := k10 _ _ hLi nL
    have rows10 : RowsN (upd H9 t4 (.tup [.str z, .int dt, .int ps, .int ((1 + v1) * v2)])) (ts ++ [t4]) ss SmallR := RowsN.snoc hl hzi (hrow.keep k10 hpi) row4
    have P10 := P9.new (o := .tup [.str z, .int dt, .int ps, .int ((1 + v1) * v2)]) h4
    generalize upd H9 t4 (.tup [.str z, .int dt, .int ps, .int ((1 + v1) * v2)]) = H10 at hF9 k10 row4 hL10 rows10 P10 ⊢
    have hF0 : H F = none := hF
    -- the cut: with or without another's parts
    have hF11 : (upd H10 F (.lst (ts.map V.ref ++ [.ref t4]))) F = some (.lst ((ts ++ [t4]).map V.ref)) := by rw [upd_same, List.map_append]; rfl
    have P11 := P10.upd (o := .lst (ts.map V.ref ++ [.ref t4])) nF nFl
    have k11 := (ki.trans k10).at_new (o := .lst (ts.map V.ref ++ [.ref t4])) hF0
    have rows11 : RowsN (upd H10 F (.lst (ts.map V.ref ++ [.ref t4]))) (ts ++ [t4]) ss SmallR := rows10.updL hF9
    have hL11 : (upd H10 F (.lst (ts.map V.ref ++ [.ref t4]))) L = some (.lst (ss.map V.str)) := by rw [upd_ne nLF]; exact hL10
    generalize upd H10 F (.lst (ts.map V.ref ++ [.ref t4])) = H11 at hF11 P11 k11 rows11 hL11 ⊢
    have lts : (ts ++ [t4]).length = i + 1 := by rw [List.length_append, hl]; rfl
    generalize ts ++ [t4] = us at hF11 rows11 lts
    obtain ⟨kv11, hp11⟩ := P11.dk
    refine ⟨_, rfl, F, _, rfl, .inl (SqL.of hF11), _, _, rfl, rfl, _, rfl, ?_⟩
    refine ite2 (fun c1 => ?_) (fun _ => iteF ⟨us, _, _, _, rfl, hF11, lts, by omega, rows11, hL11, P11.le (by omega), k11⟩)
    have c1 : (1 : Int) < ((us.map V.ref).length : Nat) := of_decide_eq_true c1
    refine ⟨_, rfl, p, l, 7, _, rfl, P11, by omega, by omega, by omega, fun v7 H12 a7 b7 P12 k12 => ?_⟩
    have hF12 := k12 _ _ hF11 nF
    have hL12 := k12 _ _ hL11 nL
    have rows12 : RowsN H12 us ss SmallR := rows11.keep k12 hp11
    obtain ⟨kv12, hp12⟩ := P12.dk
    refine ⟨rfl, _, rfl, ?_⟩
    refine ite2 (fun _ => ?_) (fun _ => ⟨us, _, _, _, rfl, hF12, lts, by omega, rows12, hL12, P12.le (by omega), k11.trans k12⟩)
    refine ⟨_, rfl, (by show 1 ≤ sizeLine; decide), fun t5 h5 => ?_⟩
    have hF13 := same_new h5 (.tup [.str z]) _ _ hF12
    refine ⟨_, rfl, _, rfl, _, rfl, _, rfl, F, _, rfl, SqL.of hF13, fun u hu => ?_⟩
    refine ⟨p, l, u, _, _, rfl, (P12.new h5).new hu, by omega, SqL.of upd_same, by rw [cut_last (by omega)]; omega, by rw [cut_last (by omega), List.length_map]; omega, fun v8 H14 hv8 P14 k14 => ?_⟩
    obtain ⟨t0, ht0, rfl⟩ := List.mem_map.mp (cut_mem hv8)
    have k13 : Keep p H12 H14 := ((Keep.refl.new h5).new hu).trans k14
    obtain ⟨nm0, d0, p0, s0, e0, ok0, R0⟩ := (rows12.row (by omega) t0 ht0).keep k13 hp12
    refine ⟨_, rfl, t0, _, rfl, SqT.of e0, fun z => absurd z.1 (by show ¬ (1 = 0); decide), fun y1 hy1 => ?_⟩
    have nt5 : t5 ≠ p := P12.ne h5
    have ht5 := same_new hy1 (.tup (cutV [.str nm0, .int d0, .int p0, .int s0] (some 1) none)) _ _ (k14 _ _ (same_new hu (.lst (cutV (us.map V.ref) none (some (-1)))) _ _ upd_same) nt5)
    refine ⟨t5, y1, [.str z], [.int d0, .int p0, .int s0], rfl, rfl, SqT.of ht5, SqT.of upd_same, (fun e => by cases e), (by show 4 ≤ sizeLine; decide), (fun e => by cases e), fun _ y hy => ?_⟩
    have k15 := (k13.new hy1).new (o := .tup ([.str z] ++ [.int d0, .int p0, .int s0])) hy
    have hF15 := k15 _ _ hF12 nF
    have lus : (us.map V.ref).length = i + 1 := by rw [List.length_map, lts]
    refine ⟨_, rfl, _, rfl, F, _, _, i, rfl, rfl, hF15, by rw [ix_last (by omega), lus]; rfl, ?_⟩
    refine ⟨us.set i y, _, _, _, rfl, by rw [upd_same, List.map_set], by rw [List.length_set, lts], by omega, RowsN.set lts hzi ((rows12.keep k15 hp12).updL hF15) (RowN.updL ⟨d0, p0, s0, upd_same, zok, R0⟩ hF15), by rw [upd_ne nLF]; exact k15 _ _ hL12 nL, (((P14.new hy1).new hy).upd nF nFl).le (by omega), ((k11.trans k12).trans k15).at_new hF0⟩
  · rintro σ' H' ⟨ts, a, b, c, rfl, hFi, hl, him, hrow, hLi, Pi, ki⟩
    rw [List.length_map, hss] at hl
    refine ⟨_, rfl, ?_⟩
    exact q F ts ss H' hFi (by omega) (by omega) (by omega) hrow hok hnd hF (Pi.le (by omega)) ki
end
end Ur
/-! N6: rows with different names: aimed. -/
namespace Ur
open PySem PySem.Spec PyProof.Rows L2
section
variable {P : Program} {w : World} {K : PySem.W.Frag} {mg : Str → Option Value} {base : Heap}
set_option maxHeartbeats 40000000 in
theorem ok_aimedN (D : Dfn K mg "_law_aimed" s__law_aimed P__law_aimed) (B : Blt mg) (CD : Cal P w K mg base 12 "_law_draw" P__law_draw spDr) (CI : Cal P w K mg base 13 "_law_pick" P__law_pick (spPickI K)) (CP : Cal P w K mg base 13 "_law_pick" P__law_pick (spPickL K))
    (CG : Cal P w K mg base 14 "_law_great" P__law_great spGreat) (CN : Cal P w K mg base 14 "_law_names" P__law_names spNamesN) : Cal P w K mg base 15 "_law_aimed" P__law_aimed (spRowsN AimR) := by
  refine D.cal sc__law_aimed (fun vs H Q E h => ?_) fun f cdv A outer s H vs Q E hr h => ?_
  · obtain ⟨p, l, most, n, rfl, _⟩ := h
    rfl
  obtain ⟨p, l, most, n, rfl, Pn, hn, m1, m2, q⟩ := h
  obtain ⟨kvs, hp⟩ := Pn.dk
  have pw12 : CPow 10 12 := ⟨by decide, by decide, by decide⟩
  have e12 : (10 : Int) ^ (12 : Int).toNat = 10 ^ 12 := rfl
  refine ⟨_, (pss_cons (ps_par3 (i := 2) (j := 3) (l := 4) rfl sc__law_aimed.nd rfl rfl rfl (by decide) (by decide) (by decide) rfl rfl rfl (pa_cons (pe_lst pa_nil) (pa_cons (pe_op op_add pe_int (pe_cal CD (hr.mono (by decide)) (pa_cons (pv 0) (pa_cons (pv 1) pa_nil)))) (pa_cons (pe_lst pa_nil) pa_nil))) (by rfl)) (pss_cons (ps_for PassesOwn.never rfl (pi_range1 rfl B.range_ (pa_cons pe_int pa_nil)) (pg_name (i := 5) sc__law_aimed.nd rfl (Or.inl rfl)) (pss_cons (ps_set (i := 6) sc__law_aimed.nd rfl (Or.inl rfl) (pe_op op_mul (pe_cal CG (hr.mono (by decide)) (pa_cons (pv 0) (pa_cons pe_int pa_nil))) (pe_cal CI (hr.mono (by decide)) (pa_cons (pv 0) (pa_cons (pe_lst (pa_cons pe_int (pa_cons (pe_un un_neg pe_int) pa_nil))) pa_nil))))) (pss_one (ps_expr (pe_bm PySem.F.plainAttrs_list PySem.F.slot_list_append PySem.F.type_list_append mt_append (pv 4) (pa_cons (pe_tup (pa_cons (pe_op op_add (pe_op op_pow pe_int pe_int) (pe_cal CG (hr.mono (by decide)) (pa_cons (pv 0) (pa_cons pe_int pa_nil)))) (pa_cons (pv 6) pa_nil))) pa_nil)))))) (pss_cons (ps_set (i := 7) sc__law_aimed.nd rfl (Or.inl rfl) (pe_op op_add pe_int (pe_cal CG (hr.mono (by decide)) (pa_cons (pv 0) (pa_cons pe_int pa_nil))))) (pss_cons (ps_for PassesOwn.never rfl (pi_list (pe_cal CN (hr.mono (by decide)) (pa_cons (pv 0) (pa_cons (pv 3) pa_nil)))) (pg_name (i := 8) sc__law_aimed.nd rfl (Or.inl rfl)) (pss_cons (ps_asg (pe_cal CP (hr.mono (by decide)) (pa_cons (pv 0) (pa_cons (pv 4) pa_nil))) (pg_tup rfl (pgs_cons (pg_name (i := 9) sc__law_aimed.nd rfl (Or.inl rfl)) (pgs_cons (pg_name (i := 10) sc__law_aimed.nd rfl (Or.inl rfl)) pgs_nil)))) (pss_cons (ps_set (i := 11) sc__law_aimed.nd rfl (Or.inl rfl) (pe_op op_add pe_int (pe_cal CI (hr.mono (by decide)) (pa_cons (pv 0) (pa_cons (pe_lst (pa_cons (pe_cal CG (hr.mono (by decide)) (pa_cons (pv 0) (pa_cons pe_int pa_nil))) (pa_cons (pe_op op_mul (pv 7) (pe_op op_add pe_int (pe_cal CD (hr.mono (by decide)) (pa_cons (pv 0) (pa_cons pe_int pa_nil))))) (pa_cons (pe_cal CD (hr.mono (by decide)) (pa_cons (pv 0) (pa_cons pe_int pa_nil))) pa_nil)))) pa_nil))))) (pss_cons (ps_set (i := 11) sc__law_aimed.nd rfl (Or.inl rfl) (pe_op op_mul (pv 11) (pe_cal CI (hr.mono (by decide)) (pa_cons (pv 0) (pa_cons (pe_lst (pa_cons pe_int (pa_cons (pe_un un_neg pe_int) pa_nil))) pa_nil))))) (pss_cons (ps_set (i := 12) sc__law_aimed.nd rfl (Or.inl rfl) (pe_cal CI (hr.mono (by decide)) (pa_cons (pv 0) (pa_cons (pe_lst (pa_cons (pe_cal CD (hr.mono (by decide)) (pa_cons (pv 0) (pa_cons pe_int pa_nil))) (pa_cons (pe_cal CG (hr.mono (by decide)) (pa_cons (pv 0) (pa_cons pe_int pa_nil))) (pa_cons (pe_cal CG (hr.mono (by decide)) (pa_cons (pv 0) (pa_cons pe_int pa_nil))) pa_nil)))) pa_nil)))) (pss_cons (ps_expr (pe_bm PySem.F.plainAttrs_list PySem.F.slot_list_append PySem.F.type_list_append mt_append (pv 2) (pa_cons (pe_tup (pa_cons (pv 8) (pa_cons (pe_op op_sub (pe_op op_add (pv 9) (pe_cal CI (hr.mono (by decide)) (pa_cons (pv 0) (pa_cons (pe_lst (pa_cons pe_int (pa_cons pe_int (pa_cons (pe_cal CD (hr.mono (by decide)) (pa_cons (pv 0) (pa_cons pe_int pa_nil))) pa_nil)))) pa_nil)))) (pv 12)) (pa_cons (pe_op op_sub (pv 10) (pe_op op_mul (pv 12) (pv 11))) (pa_cons (pv 11) pa_nil))))) pa_nil))) (pss_one (ps_if (PW.pt (pw_and (pt_cmpR op_gt (pe_callB call_len_seq rfl B.len_ PySem.boot_len (pa_cons (pv 2) pa_nil)) pe_int (nomark _)) (pw_and1 (pt_cmpR op_eq (pe_cal CD (hr.mono (by decide)) (pa_cons (pv 0) (pa_cons pe_int pa_nil))) pe_int (nomark _))))) (pss_one (ps_asg (pe_op op_catT (pe_tup (pa_cons (pv 8) pa_nil)) (pe_slice sl_tup (pe_cal CP (hr.mono (by decide)) (pa_cons (pv 0) (pa_cons (pe_slice sl_list (pv 2) po_none (po_some (pe_un un_neg pe_int))) pa_nil))) (po_some pe_int) po_none)) (pg_sub (pv 2) (pe_un un_neg pe_int) set_list))) pss_nil)))))))) (pss_one (ps_ret (pv 2))))))), ?_⟩
  refine ⟨(by show 0 ≤ sizeLine; decide), fun F hF => ?_⟩
  have nF := Pn.ne hF
  have nFl := Pn.nl hF
  refine ⟨_, rfl, _, rfl, p, l, most, n, rfl, Pn.new hF, by omega, by omega, by omega, fun v0 H1 a0 b0 P1 k1 => ?_⟩
  have hF1 : H1 F = some (.lst []) := k1 _ _ upd_same nF
  have K1 : Keep p H H1 := (Keep.refl.new hF).trans k1
  -- hubs
  refine ⟨_, _, rfl, rfl, (by show 0 ≤ sizeLine; decide), fun U hU => ⟨_, _, _, rfl, ?_⟩⟩
  have nU := P1.ne hU
  have nUl := P1.nl hU
  have nUF : U ≠ F := (ne_of_none hF1 hU).symm
  have hU0 : H U = none := K1.none_of hU nU
  refine ⟨3, rfl, by decide, by decide, for_range (lo := 0) (n := 3) (fun i σ' H' => ∃ (hs : List Addr) (a b : Option V), σ' = [some (.ref p), some (.int (most : Int)), some (.ref F), some (.int (1 + v0)), some (.ref U), a, b, none, none, none, none, none, none] ∧
      H' U = some (.lst (hs.map V.ref)) ∧ hs.length = i ∧ i ≤ 3 ∧ (∀ t ∈ hs, HubAt H' t) ∧ H' F = some (.lst []) ∧ Pen H' p l (n + 12 + 200 * i) ∧ Keep p H H') ⟨[], none, none, rfl, upd_same, rfl, by decide, fun t ht => absurd ht List.not_mem_nil, same_new hU _ _ _ hF1, (P1.new hU).le (by omega), K1.new hU⟩ ?_ ?_⟩
  · rintro i σ' H' hi ⟨hs, a, b, rfl, hUi, hl, _, hrow, hFi, Pi, ki⟩
    obtain ⟨kvi, hpi⟩ := Pi.dk
    refine ⟨_, rfl, p, l, 28, _, rfl, Pi, by omega, by decide, by decide, fun v1 H3 c1 d1 P3 k3 => ?_⟩
    refine ⟨_, rfl, _, rfl, (by show 2 ≤ sizeLine; decide), fun t2 h2 => ?_⟩
    refine ⟨p, l, t2, [1, -1], _, rfl, P3.new h2, by omega, SqL.of upd_same, by decide, by decide, fun v2 H4 hv2 P4 k4 => ?_⟩
    have v2b : v2 = 1 ∨ v2 = -1 := by simpa only [List.mem_cons, List.not_mem_nil, or_false] using hv2
    refine ⟨_, _, rfl, rfl, .inr (by omega), ?_⟩
    have sp : -(10 ^ 28) ≤ v1 * v2 ∧ v1 * v2 ≤ 10 ^ 28 := by rcases v2b with rfl | rfl <;> omega
    have kk : Keep p H' H4 := (k3.new h2).trans k4
    have hU4 := kk _ _ hUi nU
    refine ⟨_, rfl, .inl ⟨rfl, _, SqL.of hU4⟩, ?_⟩
    refine ⟨_, _, rfl, rfl, pw12, _, rfl, p, l, 29, _, rfl, P4, by omega, by decide, by decide, fun v3 H5 c3 d3 P5 k5 => ?_⟩
    refine ⟨_, _, rfl, rfl, _, rfl, (by show 2 ≤ sizeLine; decide), fun t3 h3 => ?_⟩
    have k6 := (kk.trans k5).new (o := .tup [.int (10 ^ (12 : Int).toNat + v3), .int (v1 * v2)]) h3
    have hU6 := k6 _ _ hUi nU
    have hF6 := k6 _ _ hFi nF
    refine ⟨U, _, _, rfl, rfl, hU6, by rw [List.length_map]; exact small1000 (by omega), ?_⟩
    have hub : HubAt (upd H5 t3 (.tup [.int (10 ^ (12 : Int).toNat + v3), .int (v1 * v2)])) t3 := ⟨_, _, upd_same, by rw [e12]; omega, by rw [e12]; omega, sp.1, sp.2⟩
    refine ⟨hs ++ [t3], _, _, rfl, by rw [upd_same, List.map_append]; rfl, by rw [List.length_append, hl]; rfl, by omega, fun t ht => ?_, by rw [upd_ne nUF.symm]; exact hF6, ((P5.new h3).upd nU nUl).le (by omega), (ki.trans k6).at_new hU0⟩
    exact HubAt.updL (mem_snoc (P := HubAt (upd H5 t3 (.tup [.int (10 ^ (12 : Int).toNat + v3), .int (v1 * v2)]))) (fun t ht => (hrow t ht).keep k6 hpi) hub t ht) hU6
  rintro σ' H2 ⟨hs, a, b, rfl, hU2, hs3, _, hub2, hF2, P2, k2⟩
  -- lot
  refine ⟨_, rfl, p, l, 9, _, rfl, P2, by omega, by decide, by decide, fun v3 H3 a3 b3 P3 k3 => ?_⟩
  obtain ⟨kv2, hp2⟩ := P2.dk
  refine ⟨_, _, rfl, rfl, ?_⟩
  have hU3 := k3 _ _ hU2 nU
  have hF3 := k3 _ _ hF2 nF
  have hub3 : ∀ t ∈ hs, HubAt H3 t := fun t ht => (hub2 t ht).keep k3 hp2
  have K3 := k2.trans k3
  obtain ⟨lot, hlot, l0, l1⟩ : ∃ lot : Int, 1 + v3 = lot ∧ 1 ≤ lot ∧ lot ≤ 10 ^ 9 := ⟨_, rfl, by omega, by omega⟩
  -- for label in names(pen, many)
  obtain ⟨m, hm⟩ : ∃ m : Nat, 1 + v0 = (m : Int) := ⟨(1 + v0).toNat, by omega⟩
  refine ⟨_, rfl, _, rfl, p, l, m, _, by show [V.ref p, V.int (1 + v0)] = [V.ref p, V.int (m : Int)]; rw [hm], P3, by omega, by omega, fun L ss H4 hL hss hok hnd hL0 P4 k4 => ?_⟩
  have hU4 := k4 _ _ hU3 nU
  have hF4 := k4 _ _ hF3 nF
  obtain ⟨kv3, hp3⟩ := P3.dk
  have hub4 : ∀ t ∈ hs, HubAt H4 t := fun t ht => (hub3 t ht).keep k4 hp3
  have nLF : L ≠ F := fun e => by rw [e, hF3] at hL0; cases hL0
  have nLU : L ≠ U := fun e => by rw [e, hU3] at hL0; cases hL0
  have nL : L ≠ p := P3.ne hL0
  refine ⟨L, rfl, ⟨_, SqL.of hL⟩, for_list (K := K) (a := L) (xs := ss.map V.str) (fun i σ' H' => ∃ (ts : List Addr) (k b6 b8 b9 b10 b11 b12 : Option V), σ' = [some (.ref p), some (.int (most : Int)), some (.ref F), some (.int (1 + v0)), some (.ref U), k, b6, some (.int (1 + v3)), b8, b9, b10, b11, b12] ∧
      H' F = some (.lst (ts.map V.ref)) ∧ ts.length = i ∧ i ≤ m ∧ RowsN H' ts ss AimR ∧ H' L = some (.lst (ss.map V.str)) ∧ Pen H' p l (n + 2000 + 12 * (m + 9) + 800 * i) ∧ Keep p H H' ∧ H' U = some (.lst (hs.map V.ref)) ∧ (∀ t ∈ hs, HubAt H' t)) ⟨[], _, _, none, none, none, none, none, rfl, hF4, rfl, Nat.zero_le _, RowsN.nil, hL, P4.le (by omega), K3.trans k4, hU4, hub4⟩ (fun i σ' H' _ ⟨_, _, _, _, _, _, _, _, _, _, _, _, _, h, _⟩ => SqL.of h) ?_ ?_⟩
  · rintro i x σ' H' hx ⟨ts, k, b6, b8, b9, b10, b11, b12, rfl, hFi, hl, him, hrow, hLi, Pi, ki, hUi, hubi⟩
    obtain ⟨kvi, hpi⟩ := Pi.dk
    have him : i < m := by
      have := (List.getElem?_eq_some_iff.mp hx).1
      rw [List.length_map] at this
      omega
    obtain ⟨z, hzi, rfl⟩ := str_at hx
    have zok := hok z (List.mem_of_getElem? hzi)
    -- date, spot = pick(hubs)
    refine ⟨_, rfl, _, rfl, p, l, U, _, _, rfl, Pi, by omega, SqL.of hUi, by rw [List.length_map, hs3]; decide, by rw [List.length_map, hs3]; decide, fun v1 H5 hv1 P5 k5 => ?_⟩
    obtain ⟨t0, ht0, rfl⟩ := List.mem_map.mp hv1
    obtain ⟨D, S, e0, D0, D1, S0, S1⟩ := (hubi t0 ht0).keep k5 hpi
    refine ⟨t0, _, rfl, SqT.of e0, rfl, _, _, rfl, _, _, rfl, rfl, ?_⟩
    -- stride
    refine ⟨_, rfl, _, rfl, p, l, 17, _, rfl, P5, by omega, by decide, by decide, fun a1 H6 c1 d1 P6 k6 => ?_⟩
    refine ⟨_, rfl, _, rfl, p, l, 6, _, rfl, P6, by omega, by omega, by omega, fun a2 H7 c2 d2 P7 k7 => ?_⟩
    refine ⟨_, _, rfl, rfl, _, _, rfl, rfl, .inl (by omega), _, rfl, p, l, 9, _, rfl, P7, by omega, by omega, by omega, fun a3 H8 c3 d3 P8 k8 => ?_⟩
    refine ⟨(by show 3 ≤ sizeLine; decide), fun W hW => ?_⟩
    refine ⟨p, l, W, [a1, (1 + v3) * (1 + a2), a3], _, rfl, P8.new hW, by omega, SqL.of upd_same, by show 1 ≤ 3; decide, by show 3 ≤ 1000000; decide, fun b1 H9 hb1 P9 k9 => ?_⟩
    have lb := mul_bd (a := 1 + v3) (b := 1 + a2) (A := 10 ^ 9) (B := 6) (by omega) (by omega) (by omega) (by omega) (by decide)
    have lb1 := mul_pos1 (a := 1 + v3) (b := 1 + a2) (by omega) (by omega)
    have b1b : 0 ≤ b1 ∧ b1 < 10 ^ 17 := by
      simp only [List.mem_cons, List.not_mem_nil, or_false] at hb1
      rcases hb1 with rfl | rfl | rfl <;> omega
    refine ⟨_, _, rfl, rfl, ?_⟩
    refine ⟨_, rfl, _, rfl, _, rfl, (by show 2 ≤ sizeLine; decide), fun t2 h2 => ?_⟩
    refine ⟨p, l, t2, [1, -1], _, rfl, P9.new h2, by omega, SqL.of upd_same, by decide, by decide, fun v2 H10 hv2 P10 k10 => ?_⟩
    have v2b : v2 = 1 ∨ v2 = -1 := by simpa only [List.mem_cons, List.not_mem_nil, or_false] using hv2
    refine ⟨_, _, rfl, rfl, .inr (by omega), ?_⟩
    have pb : -(10 ^ 17) ≤ (1 + b1) * v2 ∧ (1 + b1) * v2 ≤ 10 ^ 17 ∧ (1 + b1) * v2 ≠ 0 := by rcases v2b with rfl | rfl <;> omega
    -- steps
    refine ⟨_, rfl, _, rfl, p, l, 4, _, rfl, P10, by omega, by omega, by omega, fun a4 H11 c4 d4 P11 k11 => ?_⟩
    refine ⟨_, rfl, p, l, 11, _, rfl, P11, by omega, by decide, by decide, fun a5 H12 c5 d5 P12 k12 => ?_⟩
    refine ⟨_, rfl, p, l, 11, _, rfl, P12, by omega, by decide, by decide, fun a6 H13 c6 d6 P13 k13 => ?_⟩
    refine ⟨(by show 3 ≤ sizeLine; decide), fun t3 h3 => ?_⟩
    refine ⟨p, l, t3, [a4, a5, a6], _, rfl, P13.new h3, by omega, SqL.of upd_same, by show 1 ≤ 3; decide, by show 3 ≤ 1000000; decide, fun st H14 hst P14 k14 => ?_⟩
    have stb : 0 ≤ st ∧ st < 10 ^ 11 := by
      simp only [List.mem_cons, List.not_mem_nil, or_false] at hst
      rcases hst with rfl | rfl | rfl <;> omega
    -- append
    have kk14 : Keep p H' H14 := (((((((((k5.trans k6).trans k7).trans k8).new hW).trans k9).new h2).trans k10).trans k11).trans k12).trans k13 |>.new h3 |>.trans k14
    have hF14 := kk14 _ _ hFi nF
    refine ⟨_, rfl, .inl ⟨rfl, _, SqL.of hF14⟩, ?_⟩
    refine ⟨_, rfl, _, rfl, _, rfl, _, rfl, p, l, 4, _, rfl, P14, by omega, by omega, by omega, fun a7 H15 c7 d7 P15 k15 => ?_⟩
    refine ⟨(by show 3 ≤ sizeLine; decide), fun t4 h4 => ?_⟩
    refine ⟨p, l, t4, [0, 0, a7], _, rfl, P15.new h4, by omega, SqL.of upd_same, by show 1 ≤ 3; decide, by show 3 ≤ 1000000; decide, fun dt H16 hdt P16 k16 => ?_⟩
    have dtb : 0 ≤ dt ∧ dt ≤ 3 := by
      simp only [List.mem_cons, List.not_mem_nil, or_false] at hdt
      omega
    have kk : Keep p H' H16 := (kk14.trans k15 |>.new h4).trans k16
    have hF16 := kk _ _ hFi nF
    have mb := mul_bd (a := st) (b := (1 + b1) * v2) (A := 10 ^ 11) (B := 10 ^ 17) (by omega) (by omega) pb.1 pb.2.1 (by decide)
    refine ⟨_, _, rfl, rfl, _, rfl, _, _, rfl, rfl, ?_⟩
    refine ⟨_, rfl, _, rfl, _, rfl, _, _, rfl, rfl, .inl (by omega), _, _, rfl, rfl, _, rfl, (by show 4 ≤ sizeLine; decide), fun t5 h5 => ?_⟩
    obtain ⟨od, hod⟩ : ∃ o : HO, o = .tup [.str z, .int (D + dt - st), .int (S - st * ((1 + b1) * v2)), .int ((1 + b1) * v2)] := ⟨_, rfl⟩
    rw [← hod]
    have hF17 := same_new h5 od _ _ hF16
    refine ⟨F, _, _, rfl, rfl, hF17, by rw [List.length_map]; exact small1000 (by omega), ?_⟩
    have k17 := kk.new (o := od) h5
    have nt5 : t5 ≠ F := (ne_of_none hF16 h5).symm
    have row5 : RowN (upd H16 t5 od) t5 z AimR := ⟨D + dt - st, S - st * ((1 + b1) * v2), (1 + b1) * v2, by rw [upd_same, hod], zok, by unfold AimR; refine ⟨by omega, by omega, by omega, by omega, pb⟩⟩
    have hL17 := k17 _ _ hLi nL
    have hU17 := k17 _ _ hUi nU
    have hub17 : ∀ t ∈ hs, HubAt (upd H16 t5 od) t := fun t ht => (hubi t ht).keep k17 hpi
    have rows17 : RowsN (upd H16 t5 od) (ts ++ [t5]) ss AimR := RowsN.snoc hl hzi (hrow.keep k17 hpi) row5
    have P17 := P16.new (o := od) h5
    generalize upd H16 t5 od = H17 at hF17 k17 row5 hL17 rows17 P17 hU17 hub17 ⊢
    have hF18 : (upd H17 F (.lst (ts.map V.ref ++ [.ref t5]))) F = some (.lst ((ts ++ [t5]).map V.ref)) := by rw [upd_same, List.map_append]; rfl
    have P18 := P17.upd (o := .lst (ts.map V.ref ++ [.ref t5])) nF nFl
    have k18 := (ki.trans k17).at_new (o := .lst (ts.map V.ref ++ [.ref t5])) hF
    have rows18 : RowsN (upd H17 F (.lst (ts.map V.ref ++ [.ref t5]))) (ts ++ [t5]) ss AimR := rows17.updL hF17
    have hL18 : (upd H17 F (.lst (ts.map V.ref ++ [.ref t5]))) L = some (.lst (ss.map V.str)) := by rw [upd_ne nLF]; exact hL17
    have hU18 : (upd H17 F (.lst (ts.map V.ref ++ [.ref t5]))) U = some (.lst (hs.map V.ref)) := by rw [upd_ne nUF]; exact hU17
    have hub18 : ∀ t ∈ hs, HubAt (upd H17 F (.lst (ts.map V.ref ++ [.ref t5]))) t := fun t ht => (hub17 t ht).updL hF17
    generalize upd H17 F (.lst (ts.map V.ref ++ [.ref t5])) = H18 at hF18 P18 k18 rows18 hL18 hU18 hub18 ⊢
    have lts : (ts ++ [t5]).length = i + 1 := by rw [List.length_append, hl]; rfl
    generalize ts ++ [t5] = us at hF18 rows18 lts
    obtain ⟨kv18, hp18⟩ := P18.dk
    refine ⟨_, rfl, F, _, rfl, .inl (SqL.of hF18), _, _, rfl, rfl, _, rfl, ?_⟩
    refine ite2 (fun c1 => ?_) (fun _ => iteF ⟨us, _, _, _, _, _, _, _, rfl, hF18, lts, by omega, rows18, hL18, P18.le (by omega), k18, hU18, hub18⟩)
    have c1 : (1 : Int) < ((us.map V.ref).length : Nat) := of_decide_eq_true c1
    refine ⟨_, rfl, p, l, 7, _, rfl, P18, by omega, by omega, by omega, fun v7 H19 a7 b7 P19 k19 => ?_⟩
    have hF19 := k19 _ _ hF18 nF
    have hL19 := k19 _ _ hL18 nL
    have hU19 := k19 _ _ hU18 nU
    have hub19 : ∀ t ∈ hs, HubAt H19 t := fun t ht => (hub18 t ht).keep k19 hp18
    have rows19 : RowsN H19 us ss AimR := rows18.keep k19 hp18
    obtain ⟨kv19, hp19⟩ := P19.dk
    refine ⟨rfl, _, rfl, ?_⟩
    refine ite2 (fun _ => ?_) (fun _ => ⟨us, _, _, _, _, _, _, _, rfl, hF19, lts, by omega, rows19, hL19, P19.le (by omega), k18.trans k19, hU19, hub19⟩)
    refine ⟨_, rfl, (by show 1 ≤ sizeLine; decide), fun t6 h6 => ?_⟩
    have hF20 := same_new h6 (.tup [.str z]) _ _ hF19
    refine ⟨_, rfl, _, rfl, _, rfl, _, rfl, F, _, rfl, SqL.of hF20, fun u hu => ?_⟩
    refine ⟨p, l, u, _, _, rfl, (P19.new h6).new hu, by omega, SqL.of upd_same, by rw [cut_last (by omega)]; omega, by rw [cut_last (by omega), List.length_map]; omega, fun v8 H21 hv8 P21 k21 => ?_⟩
    obtain ⟨t0, ht0, rfl⟩ := List.mem_map.mp (cut_mem hv8)
    have k20 : Keep p H19 H21 := ((Keep.refl.new h6).new hu).trans k21
    obtain ⟨nm0, d0, p0, s0, e0, ok0, R0⟩ := (rows19.row (by omega) t0 ht0).keep k20 hp19
    refine ⟨_, rfl, t0, _, rfl, SqT.of e0, fun z => absurd z.1 (by show ¬ (1 = 0); decide), fun y1 hy1 => ?_⟩
    have nt6 : t6 ≠ p := P19.ne h6
    have ht6 := same_new hy1 (.tup (cutV [.str nm0, .int d0, .int p0, .int s0] (some 1) none)) _ _ (k21 _ _ (same_new hu (.lst (cutV (us.map V.ref) none (some (-1)))) _ _ upd_same) nt6)
    refine ⟨t6, y1, [.str z], [.int d0, .int p0, .int s0], rfl, rfl, SqT.of ht6, SqT.of upd_same, (fun e => by cases e), (by show 4 ≤ sizeLine; decide), (fun e => by cases e), fun _ y hy => ?_⟩
    have k22 := (k20.new hy1).new (o := .tup ([.str z] ++ [.int d0, .int p0, .int s0])) hy
    have hF22 := k22 _ _ hF19 nF
    have lus : (us.map V.ref).length = i + 1 := by rw [List.length_map, lts]
    refine ⟨_, rfl, _, rfl, F, _, _, i, rfl, rfl, hF22, by rw [ix_last (by omega), lus]; rfl, ?_⟩
    refine ⟨us.set i y, _, _, _, _, _, _, _, rfl, by rw [upd_same, List.map_set], by rw [List.length_set, lts], by omega, RowsN.set lts hzi ((rows19.keep k22 hp19).updL hF22) (RowN.updL ⟨d0, p0, s0, upd_same, zok, R0⟩ hF22), by rw [upd_ne nLF]; exact k22 _ _ hL19 nL, (((P21.new hy1).new hy).upd nF nFl).le (by omega), ((k18.trans k19).trans k22).at_new hF, by rw [upd_ne nUF]; exact k22 _ _ hU19 nU, fun t ht => ((hub19 t ht).keep k22 hp19).updL hF22⟩
  · rintro σ' H' ⟨ts, k, b6, b8, b9, b10, b11, b12, rfl, hFi, hl, him, hrow, hLi, Pi, ki, _, _⟩
    rw [List.length_map, hss] at hl
    refine ⟨_, rfl, ?_⟩
    exact q F ts ss H' hFi (by omega) (by omega) (by omega) hrow hok hnd hF (Pi.le (by omega)) ki
end
end Ur
/-! N7: rows with different names: lined. -/
namespace Ur
open PySem PySem.Spec PyProof.Rows L2
section
variable {P : Program} {w : World} {K : PySem.W.Frag} {mg : Str → Option Value} {base : Heap}
set_option maxHeartbeats 40000000 in
theorem ok_linedN (D : Dfn K mg "_law_lined" s__law_lined P__law_lined) (B : Blt mg) (CD : Cal P w K mg base 12 "_law_draw" P__law_draw spDr) (CI : Cal P w K mg base 13 "_law_pick" P__law_pick (spPickI K)) (CA : Cal P w K mg base 13 "_law_around" P__law_around spAround)
    (CG : Cal P w K mg base 14 "_law_great" P__law_great spGreat) (CN : Cal P w K mg base 14 "_law_names" P__law_names spNamesN) : Cal P w K mg base 15 "_law_lined" P__law_lined (spRowsN LineR) := by
  refine D.cal sc__law_lined (fun vs H Q E h => ?_) fun f cdv A outer s H vs Q E hr h => ?_
  · obtain ⟨p, l, most, n, rfl, _⟩ := h
    rfl
  obtain ⟨p, l, most, n, rfl, Pn, hn, m1, m2, q⟩ := h
  obtain ⟨kvs, hp⟩ := Pn.dk
  have pw12 : CPow 10 12 := ⟨by decide, by decide, by decide⟩
  have e12 : (10 : Int) ^ (12 : Int).toNat = 10 ^ 12 := rfl
  refine ⟨_, (pss_cons (ps_par (i := 2) (j := 3) rfl sc__law_lined.nd rfl rfl (by decide) rfl rfl (pa_cons (pe_lst pa_nil) (pa_cons (pe_op op_add pe_int (pe_cal CD (hr.mono (by decide)) (pa_cons (pv 0) (pa_cons (pv 1) pa_nil)))) pa_nil)) (by rfl)) (pss_cons (ps_par (i := 4) (j := 5) rfl sc__law_lined.nd rfl rfl (by decide) rfl rfl (pa_cons (pe_op op_add pe_int (pe_cal CG (hr.mono (by decide)) (pa_cons (pv 0) (pa_cons pe_int pa_nil)))) (pa_cons (pe_op op_mul (pe_cal CG (hr.mono (by decide)) (pa_cons (pv 0) (pa_cons pe_int pa_nil))) (pe_cal CI (hr.mono (by decide)) (pa_cons (pv 0) (pa_cons (pe_lst (pa_cons pe_int (pa_cons (pe_un un_neg pe_int) pa_nil))) pa_nil)))) pa_nil)) (by rfl)) (pss_cons (ps_for PassesOwn.never rfl (pi_list (pe_cal CN (hr.mono (by decide)) (pa_cons (pv 0) (pa_cons (pv 3) pa_nil)))) (pg_name (i := 6) sc__law_lined.nd rfl (Or.inl rfl)) (pss_cons (ps_set (i := 7) sc__law_lined.nd rfl (Or.inl rfl) (pe_op op_mul (pe_op op_mul (pv 4) (pe_op op_add pe_int (pe_cal CD (hr.mono (by decide)) (pa_cons (pv 0) (pa_cons pe_int pa_nil))))) (pe_cal CI (hr.mono (by decide)) (pa_cons (pv 0) (pa_cons (pe_lst (pa_cons pe_int (pa_cons pe_int (pa_cons (pe_un un_neg pe_int) pa_nil)))) pa_nil))))) (pss_cons (ps_set (i := 8) sc__law_lined.nd rfl (Or.inl rfl) (pe_op op_add (pv 5) (pe_cal CD (hr.mono (by decide)) (pa_cons (pv 0) (pa_cons (pe_callB (call_min2 rfl) rfl B.min_ (by decide +kernel) (pa_cons (pv 4) (pa_cons pe_int pa_nil))) pa_nil))))) (pss_cons (ps_set (i := 8) sc__law_lined.nd rfl (Or.inl rfl) (pe_op op_add (pv 8) (pe_op op_mul (pv 4) (pe_cal CA (hr.mono (by decide)) (pa_cons (pv 0) (pa_cons (pe_cal CI (hr.mono (by decide)) (pa_cons (pv 0) (pa_cons (pe_lst (pa_cons pe_int (pa_cons pe_int (pa_cons (pe_op op_pow pe_int pe_int) pa_nil)))) pa_nil))) pa_nil)))))) (pss_cons (ps_set (i := 9) sc__law_lined.nd rfl (Or.inl rfl) (pe_cal CI (hr.mono (by decide)) (pa_cons (pv 0) (pa_cons (pe_lst (pa_cons pe_int (pa_cons (pe_cal CD (hr.mono (by decide)) (pa_cons (pv 0) (pa_cons pe_int pa_nil))) (pa_cons (pe_cal CG (hr.mono (by decide)) (pa_cons (pv 0) (pa_cons pe_int pa_nil))) pa_nil)))) pa_nil)))) (pss_one (ps_expr (pe_bm PySem.F.plainAttrs_list PySem.F.slot_list_append PySem.F.type_list_append mt_append (pv 2) (pa_cons (pe_tup (pa_cons (pv 6) (pa_cons (pv 9) (pa_cons (pv 8) (pa_cons (pv 7) pa_nil))))) pa_nil))))))))) (pss_one (ps_ret (pv 2)))))), ?_⟩
  refine ⟨(by show 0 ≤ sizeLine; decide), fun F hF => ?_⟩
  have nF := Pn.ne hF
  have nFl := Pn.nl hF
  refine ⟨_, rfl, _, rfl, p, l, most, n, rfl, Pn.new hF, by omega, by omega, by omega, fun v0 H1 a0 b0 P1 k1 => ?_⟩
  have hF1 : H1 F = some (.lst []) := k1 _ _ upd_same nF
  have K1 : Keep p H H1 := (Keep.refl.new hF).trans k1
  refine ⟨_, _, rfl, rfl, _, _, rfl, ?_⟩
  -- lot, base
  refine ⟨_, rfl, p, l, 16, _, rfl, P1, by omega, by decide, by decide, fun v1 H2 a1 b1 P2 k2 => ?_⟩
  refine ⟨_, _, rfl, rfl, _, rfl, p, l, 29, _, rfl, P2, by omega, by decide, by decide, fun v2 H3 a2 b2 P3 k3 => ?_⟩
  refine ⟨_, rfl, _, rfl, (by show 2 ≤ sizeLine; decide), fun t1 h1 => ?_⟩
  refine ⟨p, l, t1, [1, -1], _, rfl, P3.new h1, by omega, SqL.of upd_same, by decide, by decide, fun v3 H4 hv3 P4 k4 => ?_⟩
  have v3b : v3 = 1 ∨ v3 = -1 := by simpa only [List.mem_cons, List.not_mem_nil, or_false] using hv3
  refine ⟨_, _, rfl, rfl, .inr (by omega), _, _, rfl, ?_⟩
  have bb : -(10 ^ 29) ≤ v2 * v3 ∧ v2 * v3 ≤ 10 ^ 29 := by rcases v3b with rfl | rfl <;> omega
  have K4 := K1.trans (((k2.trans k3).new h1).trans k4)
  have hF4 := (((k2.trans k3).new h1).trans k4) _ _ hF1 nF
  -- for label in names(pen, many)
  obtain ⟨m, hm⟩ : ∃ m : Nat, 1 + v0 = (m : Int) := ⟨(1 + v0).toNat, by omega⟩
  refine ⟨_, rfl, _, rfl, p, l, m, _, by show [V.ref p, V.int (1 + v0)] = [V.ref p, V.int (m : Int)]; rw [hm], P4, by omega, by omega, fun L ss H5 hL hss hok hnd hL0 P5 k5 => ?_⟩
  have hF5 := k5 _ _ hF4 nF
  have nLF : L ≠ F := fun e => by rw [e, hF4] at hL0; cases hL0
  have nL : L ≠ p := P4.ne hL0
  refine ⟨L, rfl, ⟨_, SqL.of hL⟩, for_list (K := K) (a := L) (xs := ss.map V.str) (fun i σ' H' => ∃ (ts : List Addr) (b6 b7 b8 b9 : Option V), σ' = [some (.ref p), some (.int (most : Int)), some (.ref F), some (.int (1 + v0)), some (.int (1 + v1)), some (.int (v2 * v3)), b6, b7, b8, b9] ∧
      H' F = some (.lst (ts.map V.ref)) ∧ ts.length = i ∧ i ≤ m ∧ RowsN H' ts ss LineR ∧ H' L = some (.lst (ss.map V.str)) ∧ Pen H' p l (n + 2000 + 12 * (m + 9) + 800 * i) ∧ Keep p H H') ⟨[], none, none, none, none, rfl, hF5, rfl, Nat.zero_le _, RowsN.nil, hL, P5.le (by omega), K4.trans k5⟩ (fun i σ' H' _ ⟨_, _, _, _, _, _, _, _, _, _, h, _⟩ => SqL.of h) ?_ ?_⟩
  · rintro i x σ' H' hx ⟨ts, b6, b7, b8, b9, rfl, hFi, hl, him, hrow, hLi, Pi, ki⟩
    obtain ⟨kvi, hpi⟩ := Pi.dk
    have him : i < m := by
      have := (List.getElem?_eq_some_iff.mp hx).1
      rw [List.length_map] at this
      omega
    obtain ⟨z, hzi, rfl⟩ := str_at hx
    have zok := hok z (List.mem_of_getElem? hzi)
    -- pace
    refine ⟨_, rfl, _, rfl, p, l, 12, _, rfl, Pi, by omega, by omega, by omega, fun c1 H6 x1 y1 P6 k6 => ?_⟩
    refine ⟨_, _, rfl, rfl, _, _, rfl, rfl, .inl (by omega), _, rfl, _, rfl, (by show 3 ≤ sizeLine; decide), fun t2 h2 => ?_⟩
    refine ⟨p, l, t2, [1, 1, -1], _, rfl, P6.new h2, by omega, SqL.of upd_same, by decide, by decide, fun c2 H7 hc2 P7 k7 => ?_⟩
    have c2b : c2 = 1 ∨ c2 = -1 := by
      simp only [List.mem_cons, List.not_mem_nil, or_false] at hc2
      omega
    have lb := mul_bd (a := 1 + v1) (b := 1 + c1) (A := 10 ^ 16) (B := 12) (by omega) (by omega) (by omega) (by omega) (by decide)
    have lb1 := mul_pos1 (a := 1 + v1) (b := 1 + c1) (by omega) (by omega)
    refine ⟨_, _, rfl, rfl, .inr (by omega), ?_⟩
    have pb : -(12 * 10 ^ 16) ≤ (1 + v1) * (1 + c1) * c2 ∧ (1 + v1) * (1 + c1) * c2 ≤ 12 * 10 ^ 16 ∧ (1 + v1) * (1 + c1) * c2 ≠ 0 := by rcases c2b with rfl | rfl <;> omega
    -- spot
    refine ⟨_, rfl, _, rfl, _, rfl, _, _, rfl, p, l, _, _, rfl, P7, by omega, by split <;> omega, by split <;> omega, fun c3 H8 x3 y3 P8 k8 => ?_⟩
    have y3 : c3 < 2 := by split at y3 <;> omega
    refine ⟨_, _, rfl, rfl, ?_⟩
    refine ⟨_, rfl, _, rfl, _, rfl, _, rfl, _, _, rfl, rfl, pw12, (by show 3 ≤ sizeLine; decide), fun t3 h3 => ?_⟩
    refine ⟨p, l, t3, [3, 40, 10 ^ (12 : Int).toNat], _, rfl, P8.new h3, by omega, SqL.of upd_same, by decide, by decide, fun c4 H9 hc4 P9 k9 => ?_⟩
    have c4b : 0 ≤ c4 ∧ c4 ≤ 10 ^ 12 := by
      simp only [List.mem_cons, List.not_mem_nil, or_false] at hc4
      omega
    refine ⟨p, l, c4, _, rfl, P9, by omega, by omega, by omega, fun c5 H10 x5 y5 P10 k10 => ?_⟩
    have ab := mul_bd (a := 1 + v1) (b := c5) (A := 10 ^ 16) (B := 10 ^ 12) (by omega) (by omega) (by omega) (by omega) (by decide)
    refine ⟨_, _, rfl, rfl, .inl (by omega), _, _, rfl, rfl, ?_⟩
    -- date
    refine ⟨_, rfl, _, rfl, p, l, 30, _, rfl, P10, by omega, by omega, by omega, fun c6 H11 x6 y6 P11 k11 => ?_⟩
    refine ⟨_, rfl, p, l, 29, _, rfl, P11, by omega, by decide, by decide, fun c7 H12 x7 y7 P12 k12 => ?_⟩
    refine ⟨(by show 3 ≤ sizeLine; decide), fun t4 h4 => ?_⟩
    refine ⟨p, l, t4, [0, c6, c7], _, rfl, P12.new h4, by omega, SqL.of upd_same, by show 1 ≤ 3; decide, by show 3 ≤ 1000000; decide, fun dt H13 hdt P13 k13 => ?_⟩
    have dtb : 0 ≤ dt ∧ dt ≤ 10 ^ 29 := by
      simp only [List.mem_cons, List.not_mem_nil, or_false] at hdt
      rcases hdt with rfl | rfl | rfl <;> omega
    have kk : Keep p H' H13 := ((((k6.new h2).trans k7).trans k8 |>.new h3).trans k9 |>.trans k10 |>.trans k11 |>.trans k12 |>.new h4).trans k13
    have hF13 := kk _ _ hFi nF
    refine ⟨_, rfl, .inl ⟨rfl, _, SqL.of hF13⟩, ?_⟩
    refine ⟨_, rfl, _, rfl, _, rfl, _, rfl, (by show 4 ≤ sizeLine; decide), fun t5 h5 => ?_⟩
    obtain ⟨od, hod⟩ : ∃ o : HO, o = .tup [.str z, .int dt, .int (v2 * v3 + c3 + (1 + v1) * c5), .int ((1 + v1) * (1 + c1) * c2)] := ⟨_, rfl⟩
    rw [← hod]
    have hF14 := same_new h5 od _ _ hF13
    refine ⟨F, _, _, rfl, rfl, hF14, by rw [List.length_map]; exact small1000 (by omega), ?_⟩
    have k14 := kk.new (o := od) h5
    have row5 : RowN (upd H13 t5 od) t5 z LineR := ⟨dt, v2 * v3 + c3 + (1 + v1) * c5, (1 + v1) * (1 + c1) * c2, by rw [upd_same, hod], zok, by unfold LineR; refine ⟨by omega, by omega, by omega, by omega, pb⟩⟩
    have rows14 : RowsN (upd H13 t5 od) (ts ++ [t5]) ss LineR := RowsN.snoc hl hzi (hrow.keep k14 hpi) row5
    refine ⟨ts ++ [t5], _, _, _, _, rfl, by rw [upd_same, List.map_append]; rfl, by rw [List.length_append, hl]; rfl, by omega, rows14.updL hF14, by rw [upd_ne nLF]; exact k14 _ _ hLi nL, ((P13.new h5).le (by omega)).upd nF nFl, (ki.trans k14).at_new hF⟩
  · rintro σ' H' ⟨ts, b6, b7, b8, b9, rfl, hFi, hl, him, hrow, hLi, Pi, ki⟩
    rw [List.length_map, hss] at hl
    refine ⟨_, rfl, ?_⟩
    exact q F ts ss H' hFi (by omega) (by omega) (by omega) hrow hok hnd hF (Pi.le (by omega)) ki
end
end Ur
/-! FD: the laws' own fences: _law_painter, _law_fence, _law_some, _law_odd. -/
namespace Ur
open PySem PySem.Spec PyProof.Rows L2
/-- one row's values -/
abbrev Quad := Str × Int × Int × Int
def quadV (q : Quad) : List V := [.str q.1, .int q.2.1, .int q.2.2.1, .int q.2.2.2]
def QuadOk (q : Quad) : Prop := PartOk q.1 q.2.1 q.2.2.1 q.2.2.2
/-- rows of painters that can stand in one fence -/
structure Team (H : Hp) (ts : List Addr) (qs : List Quad) : Prop where
  len : ts.length = qs.length
  at_ : ∀ (j : Nat) (t : Addr) (q : Quad), ts[j]? = some t → qs[j]? = some q → H t = some (.tup (quadV q))
  ok : ∀ q ∈ qs, QuadOk q
  nd : (qs.map (·.1)).Nodup
  few : qs.length ≤ 40
section
variable {H H' : Hp} {ts : List Addr} {qs : List Quad} {p F : Addr} {kvs : List (Key × V)} {xs ys : List V}
theorem Team.same (h : Team H ts qs) (s : Same H H') : Team H' ts qs := ⟨h.len, fun j t q a b => s _ _ (h.at_ j t q a b), h.ok, h.nd, h.few⟩
theorem Team.keep (h : Team H ts qs) (k : Keep p H H') (hp : H p = some (.dK kvs)) : Team H' ts qs := ⟨h.len, fun j t q a b => k _ _ (h.at_ j t q a b) (ne_of (h.at_ j t q a b) hp (by intro z; cases z)), h.ok, h.nd, h.few⟩
theorem Team.updL (h : Team H ts qs) (hF : H F = some (.lst xs)) : Team (upd H F (.lst ys)) ts qs := ⟨h.len, fun j t q a b => by rw [upd_ne (ne_of (h.at_ j t q a b) hF (by intro z; cases z))]; exact h.at_ j t q a b, h.ok, h.nd, h.few⟩
theorem Team.nil : Team H [] [] := ⟨rfl, fun j t q e => by simp at e, (fun q h => nomatch h), List.nodup_nil, Nat.zero_le _⟩
theorem team_of {R : Int → Int → Int → Prop} {ss : List Str} (hR : ∀ d p s, R d p s → AnyR d p s) (hl : ts.length = ss.length) (h : RowsN H ts ss R) : ∃ qs : List Quad, qs.map (·.1) = ss ∧ (∀ q ∈ qs, (NameOk q.1 → QuadOk q) ∧ R q.2.1 q.2.2.1 q.2.2.2) ∧ ∀ (j : Nat) (t : Addr) (q : Quad), ts[j]? = some t → qs[j]? = some q → H t = some (.tup (quadV q)) := by
  induction ss generalizing ts with
  | nil => exact ⟨[], rfl, (fun q h => nomatch h), fun j t q _ e => by simp at e⟩
  | cons z r ih =>
    cases ts with
    | nil => cases hl
    | cons t us =>
      obtain ⟨qs, e1, e2, e3⟩ := ih (Nat.succ.inj hl) fun j t z a b => h (j + 1) t z (by simpa using a) (by simpa using b)
      obtain ⟨d, p, s, e, ok, q⟩ := h 0 t z rfl rfl
      refine ⟨(z, d, p, s) :: qs, by rw [List.map_cons, e1], fun x hx => ?_, fun j u x a b => ?_⟩
      · rcases List.mem_cons.mp hx with rfl | hx
        · exact ⟨fun ok => (hR _ _ _ q).ok ok, q⟩
        · exact e2 x hx
      · cases j with
        | zero =>
          obtain rfl := Option.some.inj a
          obtain rfl := Option.some.inj b
          exact e
        | succ j => exact e3 j u x (by simpa using a) (by simpa using b)
theorem team_mk {R : Int → Int → Int → Prop} {ss : List Str} (hR : ∀ d p s, R d p s → AnyR d p s) (hl : ts.length = ss.length) (h : RowsN H ts ss R) (ok : ∀ z ∈ ss, NameOk z) (nd : ss.Nodup) (few : ts.length ≤ 40) : ∃ qs : List Quad, Team H ts qs ∧ ∀ q ∈ qs, R q.2.1 q.2.2.1 q.2.2.2 := by
  obtain ⟨qs, e1, e2, e3⟩ := team_of hR hl h
  have el : qs.length = ss.length := by rw [← e1, List.length_map]
  exact ⟨qs, ⟨by omega, e3, fun q hq => (e2 q hq).1 (ok _ (by rw [← e1]; exact List.mem_map_of_mem hq)), by rw [e1]; exact nd, by omega⟩, fun q hq => (e2 q hq).2⟩
theorem Team.get (h : Team H ts qs) {j : Nat} {v : V} (e : (ts.map V.ref)[j]? = some v) : ∃ t q, v = .ref t ∧ ts[j]? = some t ∧ qs[j]? = some q ∧ H t = some (.tup (quadV q)) ∧ QuadOk q := by
  rw [List.getElem?_map] at e
  cases e1 : ts[j]? with
  | none => rw [e1] at e; cases e
  | some t =>
    rw [e1] at e
    have hj : j < qs.length := by rw [← h.len]; exact (List.getElem?_eq_some_iff.mp e1).1
    exact ⟨t, qs[j], (Option.some.inj e).symm, rfl, List.getElem?_eq_getElem hj, h.at_ j t _ e1 (List.getElem?_eq_getElem hj), h.ok _ (List.getElem_mem hj)⟩
end
section
variable {P : Program} {w : World} {K : PySem.W.Frag} {mg : Str → Option Value} {base : Heap} {C CF : Addr}
theorem partsOf_names (L : List Pt) : (partsOf L).map (·.1) = L.map Pt.nm := by unfold partsOf; rw [List.map_map]; rfl
theorem crew_snoc {C : Addr} {H : Hp} {L : List Pt} {x : Pt} {qs : List Quad} {i : Nat} {q : Quad} (cr : Crew C H L) (e : partsOf L = qs.take i) (hq : qs[i]? = some q) (hx : PnAt C H x.a x.nm x.d x.p x.s) (ex : x.parts = q) (ok : ∀ q ∈ qs, QuadOk q) (nd : (qs.map (·.1)).Nodup) (few : qs.length ≤ 40) :
    Crew C H (L ++ [x]) ∧ partsOf (L ++ [x]) = qs.take (i + 1) := by
  have hp : partsOf (L ++ [x]) = qs.take (i + 1) := by
    rw [take_snoc hq, ← e, ← ex]
    unfold partsOf
    rw [List.map_append]
    rfl
  refine ⟨⟨fun y hy => ?_, ?_, ?_⟩, hp⟩
  · rcases List.mem_append.mp hy with hy | hy
    · exact cr.at_ y hy
    · obtain rfl := List.mem_singleton.mp hy
      have o := ok q (List.mem_of_getElem? hq)
      rw [← ex] at o
      exact ⟨hx, o⟩
  · rw [← partsOf_names, hp, List.map_take]
    exact nd.sublist (List.take_sublist _ _)
  · have z := congrArg List.length hp
    unfold partsOf at z
    rw [List.length_map, List.length_take] at z
    omega
end
/-- days and posts well within the bounds -/
def MidR (d p s : Int) : Prop := AnyR d p s ∧ d ≤ 3 * 10 ^ 29 ∧ -(3 * 10 ^ 29) ≤ p ∧ p ≤ 3 * 10 ^ 29
theorem small_mid {d p s : Int} (h : SmallR d p s) : MidR d p s := by unfold SmallR at h; unfold MidR AnyR; omega
theorem aim_mid {d p s : Int} (h : AimR d p s) : MidR d p s := by unfold AimR at h; unfold MidR AnyR; omega
theorem line_mid {d p s : Int} (h : LineR d p s) : MidR d p s := by unfold LineR at h; unfold MidR AnyR; omega
end Ur
/-! UrH: histories as numbers: who stops where; there is at most one. SP i n j m: the post number n of i is the post number m of j. -/
namespace Ur
open PySem PySem.Spec PyProof.Rows L2
abbrev SPt := Nat → Int → Nat → Int → Prop
/-- i paints its post number n -/
def Paints (cnt : Nat → Option Int) (i : Nat) (n : Int) : Prop := ∀ c, cnt i = some c → n < c
/-- i comes to its post number n behind j, which paints cnt posts -/
def PBlk (d : Nat → Int) (SP : SPt) (i j : Nat) (cnt : Option Int) (n : Int) : Prop := ∃ m, 0 ≤ m ∧ SP i n j m ∧ (∀ c, cnt = some c → m < c) ∧ (d j + m < d i + n ∨ d j + m = d i + n ∧ j < i)
/-- i comes to its post number n behind somebody -/
def HBlk (N : Nat) (d : Nat → Int) (SP : SPt) (cnt : Nat → Option Int) (i : Nat) (n : Int) : Prop := ∃ j, j < N ∧ PBlk d SP i j (cnt j) n
/-- the counts are those of a history -/
def IsHist (N : Nat) (d : Nat → Int) (SP : SPt) (cnt : Nat → Option Int) : Prop := ∀ i, i < N → Least (HBlk N d SP cnt i) (cnt i)
/-- whoever stops, stops where its blocker painted -/
def Blkr (N : Nat) (SP : SPt) (cnt : Nat → Option Int) (blk : Nat → Nat) : Prop := ∀ i c, i < N → cnt i = some c → blk i < N ∧ ∃ m, 0 ≤ m ∧ SP i c (blk i) m ∧ Paints cnt (blk i) m
section
variable {N : Nat} {d : Nat → Int} {SP : SPt} {cnt cnt' : Nat → Option Int}
theorem paints_iff {i : Nat} {n : Int} {P : Int → Prop} (h : Least P (cnt i)) : Paints cnt i n ↔ ∀ k, 0 ≤ k → k ≤ n → ¬ P k := by
  unfold Paints
  cases e : cnt i with
  | none =>
    rw [e] at h
    exact ⟨fun _ k k0 _ => h k k0, fun _ c ec => by cases ec⟩
  | some a =>
    rw [e] at h
    obtain ⟨a0, pa, lt⟩ := h
    constructor
    · intro g k k0 kn
      have := g a rfl
      exact lt k k0 (by omega)
    · intro g c ec
      obtain rfl := Option.some.inj ec
      by_cases c : n < a
      · exact c
      · exact absurd pa (g a a0 (by omega))
/-- the order in which they come: by days, then by the list -/
theorem key_lt {N t u i j : Nat} (hi : i < N) (hj : j < N) (h : t < u ∨ t = u ∧ j < i) : t * N + j < u * N + i := by
  rcases h with h | ⟨rfl, h⟩
  · have := Nat.mul_le_mul_right N (show t + 1 ≤ u from h)
    rw [Nat.add_mul] at this
    omega
  · omega
theorem hist_same (d0 : ∀ i, i < N → 0 ≤ d i) (h : IsHist N d SP cnt) (h' : IsHist N d SP cnt') : ∀ (k : Nat) (i : Nat) (n : Int), i < N → 0 ≤ n → (d i + n).toNat * N + i = k → (HBlk N d SP cnt i n ↔ HBlk N d SP cnt' i n) ∧ (Paints cnt i n ↔ Paints cnt' i n) := by
  intro k
  induction k using Nat.strongRecOn with
  | _ k ih =>
    have blk : ∀ (i : Nat) (n : Int), i < N → 0 ≤ n → (d i + n).toNat * N + i ≤ k → (HBlk N d SP cnt i n ↔ HBlk N d SP cnt' i n) := by
      intro i n hi n0 hk
      have di := d0 i hi
      have key : ∀ j m, j < N → 0 ≤ m → (d j + m < d i + n ∨ d j + m = d i + n ∧ j < i) → (Paints cnt j m ↔ Paints cnt' j m) := by
        intro j m hj m0 o
        have dj := d0 j hj
        have lt : (d j + m).toNat * N + j < (d i + n).toNat * N + i := key_lt hi hj (by
          rcases o with o | ⟨o, q⟩
          · exact .inl (by omega)
          · exact .inr ⟨by omega, q⟩)
        exact (ih _ (by omega) j m hj m0 rfl).2
      constructor
      · rintro ⟨j, hj, m, m0, e, pj, o⟩
        exact ⟨j, hj, m, m0, e, (key j m hj m0 o).mp pj, o⟩
      · rintro ⟨j, hj, m, m0, e, pj, o⟩
        exact ⟨j, hj, m, m0, e, (key j m hj m0 o).mpr pj, o⟩
    intro i n hi n0 hk
    have di := d0 i hi
    refine ⟨blk i n hi n0 (by omega), ?_⟩
    rw [paints_iff (h i hi), paints_iff (h' i hi)]
    have le : ∀ x, 0 ≤ x → x ≤ n → (d i + x).toNat * N + i ≤ k := fun x x0 xn => by
      have := Nat.mul_le_mul_right N (show (d i + x).toNat ≤ (d i + n).toNat by omega)
      omega
    exact ⟨fun g x x0 xn b => g x x0 xn ((blk i x hi x0 (le x x0 xn)).mpr b), fun g x x0 xn b => g x x0 xn ((blk i x hi x0 (le x x0 xn)).mp b)⟩
/-- there is one history only -/
theorem hist_uniq (d0 : ∀ i, i < N → 0 ≤ d i) (h : IsHist N d SP cnt) (h' : IsHist N d SP cnt') {i : Nat} (hi : i < N) : cnt i = cnt' i :=
  Least.uniq (h i hi) (Least.congr (fun n n0 => ((hist_same d0 h h' _ i n hi n0 rfl).1).symm) (h' i hi))
/-! ### how it is found: the first block of all, again and again -/
def KLt (a b : Int × Nat) : Prop := a.1 < b.1 ∨ a.1 = b.1 ∧ a.2 < b.2
theorem KLt.trans {a b c : Int × Nat} (h : KLt a b) (g : KLt b c) : KLt a c := by
  unfold KLt at *
  omega
theorem not_klt {a b c : Int × Nat} (h : ¬ KLt b a) (g : KLt c a) : KLt c b := by
  unfold KLt at *
  omega
/-- the key of a coming -/
abbrev kOf (d : Nat → Int) (i : Nat) (n : Int) : Int × Nat := (d i + n, i)
/-- some painters are known to stop, at posts of their blockers, the last of them at the key K -/
structure Part (N : Nat) (d : Nat → Int) (SP : SPt) (C : Nat → Option Int) (B : Nat → Nat) (K : Int × Nat) : Prop where
  old : ∀ i c, i < N → C i = some c → 0 ≤ c ∧ (B i < N ∧ PBlk d SP i (B i) (C (B i)) c) ∧ (∀ n, 0 ≤ n → n < c → ¬ HBlk N d SP C i n) ∧ ¬ KLt K (kOf d i c)
  new : ∀ i n, i < N → C i = none → 0 ≤ n → HBlk N d SP C i n → ¬ KLt (kOf d i n) K
theorem Part.start {B : Nat → Nat} {K : Int × Nat} (h : ∀ i n, i < N → 0 ≤ n → ¬ KLt (kOf d i n) K) : Part N d SP (fun _ => none) B K := ⟨fun i c _ e => (by cases e), fun i n hi _ n0 _ => h i n hi n0⟩
/-- one more is known to stop -/
def putC (C : Nat → Option Int) (i : Nat) (c : Int) : Nat → Option Int := fun j => if j = i then some c else C j
def putB (B : Nat → Nat) (i j : Nat) : Nat → Nat := fun k => if k = i then j else B k
theorem putC_at {C : Nat → Option Int} {i : Nat} {c : Int} : putC C i c i = some c := by unfold putC; rw [if_pos rfl]
theorem putC_ne {C : Nat → Option Int} {i j : Nat} {c : Int} (h : j ≠ i) : putC C i c j = C j := by unfold putC; rw [if_neg h]
theorem putB_at {B : Nat → Nat} {i j : Nat} : putB B i j i = j := by unfold putB; rw [if_pos rfl]
theorem putB_ne {B : Nat → Nat} {i j k : Nat} (h : k ≠ i) : putB B i j k = B k := by unfold putB; rw [if_neg h]
theorem putC_le {C : Nat → Option Int} {i j : Nat} {c m : Int} (hi : C i = none) (h : ∀ x, putC C i c j = some x → m < x) : ∀ x, C j = some x → m < x := fun x ex => by
  by_cases e : j = i
  · subst e
    rw [hi] at ex
    cases ex
  · exact h x (by rw [putC_ne e]; exact ex)
theorem HBlk.less {C : Nat → Option Int} {i k : Nat} {c n : Int} (hi : C i = none) (h : HBlk N d SP (putC C i c) k n) : HBlk N d SP C k n :=
  let ⟨j, hj, m, m0, e, pj, o⟩ := h
  ⟨j, hj, m, m0, e, putC_le hi pj, o⟩
theorem Part.step {C : Nat → Option Int} {B : Nat → Nat} {K : Int × Nat} (h : Part N d SP C B K) {i b : Nat} {c : Int} (hi : i < N) (hb : b < N) (ni : C i = none) (c0 : 0 ≤ c) (pb : PBlk d SP i b (C b) c) (least : ∀ k n, k < N → C k = none → 0 ≤ n → HBlk N d SP C k n → ¬ KLt (kOf d k n) (kOf d i c)) :
    Part N d SP (putC C i c) (putB B i b) (kOf d i c) := by
  have up : ¬ KLt (kOf d i c) K := h.new i c hi ni c0 ⟨b, hb, pb⟩
  refine ⟨fun k ck hk ek => ?_, fun k n hk ek n0 b => ?_⟩
  · by_cases e : k = i
    · subst e
      rw [putC_at] at ek
      obtain rfl := Option.some.inj ek
      rw [putB_at]
      refine ⟨c0, ⟨hb, ?_⟩, fun n n0 nl b => ?_, fun z => by unfold KLt at z; omega⟩
      · obtain ⟨m, m0, e, pj, o⟩ := pb
        refine ⟨m, m0, e, fun x ex => ?_, o⟩
        by_cases eb : b = k
        · subst eb
          rw [putC_at] at ex
          obtain rfl := Option.some.inj ex
          omega
        · rw [putC_ne eb] at ex
          exact pj x ex
      · exact least k n hk ni n0 (HBlk.less ni b) (by unfold KLt; show d k + n < d k + c ∨ _; omega)
    · have ek : C k = some ck := by rw [putC_ne e] at ek; exact ek
      obtain ⟨k0, ⟨kB, kb⟩, kl, kK⟩ := h.old k ck hk ek
      rw [putB_ne e]
      refine ⟨k0, ⟨kB, ?_⟩, fun n n0 nl b => kl n n0 nl (HBlk.less ni b), fun z => ?_⟩
      · obtain ⟨m, m0, ee, pj, o⟩ := kb
        refine ⟨m, m0, ee, fun x ex => ?_, o⟩
        by_cases ej : B k = i
        · rw [ej, putC_at] at ex
          obtain rfl := Option.some.inj ex
          rw [ej] at o
          have z1 : KLt (kOf d i m) (kOf d k ck) := o
          have z2 : ¬ KLt K (kOf d k ck) := kK
          unfold KLt at z1 z2 up
          simp only [kOf] at z1 z2 up
          omega
        · rw [putC_ne ej] at ex
          exact pj x ex
      · have z2 : ¬ KLt K (kOf d k ck) := kK
        unfold KLt at z z2 up
        simp only [kOf] at z z2 up
        omega
  · have ne : k ≠ i := fun e => by rw [e, putC_at] at ek; cases ek
    have ek : C k = none := by rw [putC_ne ne] at ek; exact ek
    exact least k n hk ek n0 (HBlk.less ni b)
/-- nobody else is blocked: this is the history -/
theorem Part.done {C : Nat → Option Int} {B : Nat → Nat} {K : Int × Nat} (h : Part N d SP C B K) (no : ∀ i n, i < N → C i = none → 0 ≤ n → ¬ HBlk N d SP C i n) : IsHist N d SP C ∧ Blkr N SP C B := by
  refine ⟨fun i hi => ?_, fun i c hi e => ?_⟩
  · cases e : C i with
    | none => exact fun n n0 => no i n hi e n0
    | some c =>
      obtain ⟨c0, b, l, _⟩ := h.old i c hi e
      exact ⟨c0, ⟨_, b⟩, l⟩
  · obtain ⟨c0, ⟨bB, m, m0, ee, pj, o⟩, l, _⟩ := h.old i c hi e
    exact ⟨bB, m, m0, ee, pj⟩
/-- a post is painted once -/
theorem paint_once (h : IsHist N d SP cnt) {i j : Nat} {n m : Int} (hi : i < N) (hj : j < N) (n0 : 0 ≤ n) (m0 : 0 ≤ m) (pi : Paints cnt i n) (pj : Paints cnt j m) (e : SP i n j m) (e' : SP j m i n) : i = j := by
  by_cases ne : i = j
  · exact ne
  have bi := (paints_iff (h i hi)).mp pi n n0 (Int.le_refl n)
  have bj := (paints_iff (h j hj)).mp pj m m0 (Int.le_refl m)
  by_cases c : d j + m < d i + n ∨ d j + m = d i + n ∧ j < i
  · exact absurd ⟨j, hj, m, m0, e, pj, c⟩ bi
  · exact absurd ⟨i, hi, n, n0, e', pi, by omega⟩ bj
/-- the blocker is one painter only -/
theorem blkr_uniq (h : IsHist N d SP cnt) (sy : ∀ i n j m k l, SP i n j m → SP i n k l → SP j m k l) {blk blk' : Nat → Nat} (b : Blkr N SP cnt blk) (b' : Blkr N SP cnt blk') {i : Nat} {c : Int} (hi : i < N) (e : cnt i = some c) : blk i = blk' i := by
  obtain ⟨h1, m, m0, e1, p1⟩ := b i c hi e
  obtain ⟨h2, m', m0', e2, p2⟩ := b' i c hi e
  exact paint_once h h1 h2 m0 m0' p1 p2 (sy _ _ _ _ _ _ e1 e2) (sy _ _ _ _ _ _ e2 e1)
/-! ### by pairs -/
/-- the first blocks of all pairs, of those who are not known to stop -/
def PairsOk (N : Nat) (d : Nat → Int) (SP : SPt) (C : Nat → Option Int) (R : Nat → Nat → Option Int) : Prop := ∀ i j, i < N → j < N → C i = none → Least (PBlk d SP i j (C j)) (R i j)
theorem PairsOk.block {C : Nat → Option Int} {R : Nat → Nat → Option Int} (h : PairsOk N d SP C R) {i j : Nat} {c : Int} (hi : i < N) (hj : j < N) (ni : C i = none) (e : R i j = some c) : 0 ≤ c ∧ PBlk d SP i j (C j) c := by
  have l := h i j hi hj ni
  rw [e] at l
  exact ⟨l.1, l.2.1⟩
theorem PairsOk.found {C : Nat → Option Int} {R : Nat → Nat → Option Int} (h : PairsOk N d SP C R) {i : Nat} {n : Int} (hi : i < N) (ni : C i = none) (n0 : 0 ≤ n) (b : HBlk N d SP C i n) : ∃ j c, j < N ∧ R i j = some c ∧ c ≤ n := by
  obtain ⟨j, hj, b⟩ := b
  have l := h i j hi hj ni
  cases e : R i j with
  | none =>
    rw [e] at l
    exact absurd b (l n n0)
  | some c =>
    rw [e] at l
    refine ⟨j, c, hj, e, ?_⟩
    by_cases z : c ≤ n
    · exact z
    · exact absurd b (l.2.2 n n0 (by omega))
/-- the first of all first blocks is a stop -/
theorem Part.next {C : Nat → Option Int} {B : Nat → Nat} {K : Int × Nat} {R : Nat → Nat → Option Int} (h : Part N d SP C B K) (ok : PairsOk N d SP C R) {i j : Nat} {c : Int} (hi : i < N) (hj : j < N) (ni : C i = none) (e : R i j = some c)
    (least : ∀ k l x, k < N → l < N → C k = none → R k l = some x → ¬ KLt (kOf d k x) (kOf d i c)) : Part N d SP (putC C i c) (putB B i j) (kOf d i c) := by
  obtain ⟨c0, b⟩ := ok.block hi hj ni e
  refine h.step hi hj ni c0 b fun k n hk nk n0 bk => ?_
  obtain ⟨l, x, hl, ex, le⟩ := ok.found hk nk n0 bk
  have z := least k l x hk hl nk ex
  unfold KLt at *
  simp only [kOf] at *
  omega
theorem Part.end_ {C : Nat → Option Int} {B : Nat → Nat} {K : Int × Nat} {R : Nat → Nat → Option Int} (h : Part N d SP C B K) (ok : PairsOk N d SP C R) (no : ∀ k l, k < N → l < N → C k = none → R k l = none) : IsHist N d SP C ∧ Blkr N SP C B :=
  h.done fun i n hi ni n0 b => by
    obtain ⟨l, x, hl, ex, _⟩ := ok.found hi ni n0 b
    rw [no i l hi hl ni] at ex
    cases ex
theorem PairsOk.put {C : Nat → Option Int} {R R' : Nat → Nat → Option Int} (h : PairsOk N d SP C R) {i : Nat} {c : Int} (hi : i < N)
    (same : ∀ k l, k < N → l < N → putC C i c k = none → l ≠ i → R' k l = R k l) (col : ∀ k, k < N → putC C i c k = none → Least (PBlk d SP k i (some c)) (R' k i)) : PairsOk N d SP (putC C i c) R' := by
  intro k l hk hl nk
  have ne : k ≠ i := fun e => by rw [e, putC_at] at nk; cases nk
  have nk' : C k = none := by rw [putC_ne ne] at nk; exact nk
  by_cases e : l = i
  · subst e
    rw [putC_at]
    exact col k hk nk
  · rw [same k l hk hl nk e, putC_ne e]
    exact h k l hk hl nk'
/-- only as many stop as there are -/
def openN (N : Nat) (C : Nat → Option Int) : Nat := ((List.range N).filter fun i => (C i).isNone).length
theorem openN_put {C : Nat → Option Int} {i : Nat} {c : Int} (hi : i < N) (ni : C i = none) : openN N (putC C i c) < openN N C := by
  unfold openN
  have sub : ∀ l : List Nat, (l.filter fun j => (putC C i c j).isNone).length ≤ (l.filter fun j => (C j).isNone).length ∧ (i ∈ l → (l.filter fun j => (putC C i c j).isNone).length < (l.filter fun j => (C j).isNone).length) := by
    intro l
    induction l with
    | nil => exact ⟨Nat.le_refl _, fun h => nomatch h⟩
    | cons x r ih =>
      by_cases e : x = i
      · subst e
        have h1 : (putC C x c x).isNone = false := by rw [putC_at]; rfl
        have h2 : (C x).isNone = true := by rw [ni]; rfl
        rw [List.filter_cons, List.filter_cons, h1, h2]
        simp only [Bool.false_eq_true, if_false, if_true, List.length_cons]
        exact ⟨by omega, fun _ => by omega⟩
      · rw [List.filter_cons, List.filter_cons, putC_ne e]
        cases (C x).isNone with
        | true =>
          simp only [if_true, List.length_cons]
          refine ⟨by omega, fun h => ?_⟩
          rcases List.mem_cons.mp h with h | h
          · exact absurd h.symm e
          · have := ih.2 h
            omega
        | false =>
          simp only [Bool.false_eq_true, if_false]
          refine ⟨ih.1, fun h => ?_⟩
          rcases List.mem_cons.mp h with h | h
          · exact absurd h.symm e
          · exact ih.2 h
  exact (sub (List.range N)).2 (List.mem_range.mpr hi)
end
end Ur
/-! UrRg: a range that is kept, and walked again and again. -/
namespace Ur
open PySem PySem.Spec PyProof.Rows L2
def RngO (lo hi : Int) (a : Addr) : HO := .ext fun h => ∃ t u v, IsRange h a lo hi 1 t u v
theorem rngO_ok {P : Program} {w : World} {H : Hp} {h : Heap} {a : Addr} {lo hi : Int} {t u v : Tok} (g : IsRange h a lo hi 1 t u v) : ObjOk P w H h a (RngO lo hi a) := by
  refine ⟨⟨t, u, v, g⟩, ⟨_, g⟩, fun h1 h2 p k => ?_⟩
  obtain ⟨t, u, v, p⟩ := p
  exact ⟨t, u, v, k _ p⟩
section
variable {X : Cx} {tg : Expr}
def tRng (ta : TA) : TE := fun σ H Q => ta σ H fun vs H1 => ∃ j : Int, vs = [.int j] ∧ -(2 ^ 62) ≤ j ∧ j < 2 ^ 62 ∧ ∀ r, H1 r = none → Q (.ref r) (upd H1 r (RngO 0 j r))
theorem pe_rng {a : Expr} {ta : TA} {p pos : Pos} (hg : Gl X "range") (hm : X.mg "range" = none) (ha : PA X [a] ta) (hs : starEach [a] X.env = [(false, eval a X.env)] := by rfl) : PE X (.Call (.Name "range" p) [a] [] pos) (tRng ta) := by
  refine ⟨fun pins s σ H Q I h => ?_⟩
  refine Call_ (ld_blt I hg hm boot_range (PyProof.Rows.callWith_type1 (thn (ha.run pos pins s σ H _ I h) fun us s1 ⟨vs, H1, I1, r1, q1⟩ => ?_) hs rfl))
  obtain ⟨j, e, q1, q2, q⟩ := q1
  subst e
  cases r1 with
  | cons r rr =>
    cases rr
    obtain ⟨t, rfl⟩ := r
    refine call_range_1 ?_
    have g := IsRange.new s1.heap 0 j 1 s1.toks t (s1.toks + 1)
    exact ⟨.ref s1.heap.objs.size, _, I1.laid (fun b u z => Heap.get?_push_of_some _ z) (Nat.le_refl _) (rngO_ok g), rfl, q _ (I1.hok.fresh (Nat.le_refl _))⟩
def iRngV (te : TE) : TI := fun σ H R => te σ H fun x H1 => ∃ (r : Addr) (lo hi : Int), x = .ref r ∧ H1 r = some (RngO lo hi r) ∧ (-(2 ^ 62) ≤ lo ∧ lo < 2 ^ 62 ∧ -(2 ^ 62) ≤ hi ∧ hi < 2 ^ 62) ∧ R (Itr lo (hi - lo).toNat) H1
theorem pi_rngV {e : Expr} {te : TE} (he : PE X e te) : PI X tg e (iRngV te) := by
  refine ⟨fun pins s σ H R I h => ?_⟩
  refine thn (he.run pins s σ H _ I h) fun v s1 ⟨x, H1, I1, r1, q1⟩ => ?_
  obtain ⟨r, lo, hi, e, hr, ⟨b1, b2, b3, b4⟩, q⟩ := q1
  subst e
  cases r1
  obtain ⟨t, u, w, g⟩ := (I1.hok r _ hr).1
  refine wpAny_pyIter_range g (small_one b1 b2 b3 b4) ?_
  refine ⟨s1.heap.objs.size, [s1.heap.objs.size], _, _, H1, rfl, I1.kept (t' := s1.toks) fun b o e => Heap.get?_push_of_some _ e, turn_range _ lo (hi - lo).toNat, ?_, fun b hb => ?_, q⟩
  · have e1 : lo + ((0 : Nat) : Int) * 1 = lo := by simp
    have e2 : (((hi - lo).toNat : Nat) : Int) - ((0 : Nat) : Int) = Builtin.Range.rangeSize lo hi 1 := by rw [rangeSize_one]; split <;> omega
    show IsRangeIter _ _ (lo + ((0 : Nat) : Int) * 1) ((((hi - lo).toNat : Nat) : Int) - ((0 : Nat) : Int)) 1
    rw [e1, e2]
    exact Heap.get?_push_size _ rfl
  · have e : b = s1.heap.objs.size := by simpa using hb
    subst e
    exact I1.fpOk (Nat.le_refl _) (I1.hok.fresh (Nat.le_refl _))
end
end Ur
/-! UrLm: a lambda with parameters and one captured name, handed to a def that calls it deep within. -/
namespace Ur
open PySem PySem.Spec PyProof.Rows L2
/-! ### a heap without one address; a cell that is locked -/
def del (H : Hp) (c : Addr) : Hp := fun b => if b = c then none else H b
theorem del_same {H : Hp} {c : Addr} : del H c c = none := by unfold del; rw [if_pos rfl]
theorem del_ne {H : Hp} {b c : Addr} (h : b ≠ c) : del H c b = H b := by unfold del; rw [if_neg h]
theorem del_none {H : Hp} {b c : Addr} (h : H b = none) : del H c b = none := by unfold del; split; rfl; exact h
/-- a cell that holds v -/
def CellV (c : Addr) (v : V) : HO := .ext fun h => ∃ u, RelV v u ∧ ∃ o, h.get? c = some o ∧ o.data = .cell (some u)
section
variable {P : Program} {w : World} {K : PySem.W.Frag} {mg : Str → Option Value} {base : Heap} {A : Around} {outer : List Env} {s : Shared} {H H' : Hp} {h h' : Heap} {c : Addr} {oc : Obj} {v : V} {x : HO} {fs : List Addr}
theorem hok_del (hok : HOk P w H h) (hc : H c = some (.frz oc x)) : HOk P w (del H c) h := fun a o e => by
  by_cases ne : a = c
  · rw [ne, del_same] at e
    cases e
  · rw [del_ne ne] at e
    exact (hok a o e).stay (fun b u _ q => q) (fun b q => by rw [del_ne (ne_of q hc (by intro z; cases z))]; exact q) fun b xs q => by rw [del_ne (ne_of q hc (by intro z; cases z))]; exact q
theorem cellV_ok (ho : h.get? c = some oc) (hv : ∃ u, RelV v u ∧ oc.data = .cell (some u)) : ObjOk P w H h c (.frz oc (CellV c v)) := by
  obtain ⟨u, r, hd⟩ := hv
  exact ⟨ho, ⟨u, r, oc, ho, hd⟩, ⟨oc, ho⟩, fun h1 h2 ⟨u, r, o, e1, e2⟩ k => ⟨u, r, o, k _ e1, e2⟩⟩
theorem hok_lock (hok : HOk P w H h) (hc : H c = none) (ho : h.get? c = some oc) (hv : ∃ u, RelV v u ∧ oc.data = .cell (some u)) : HOk P w (upd H c (.frz oc (CellV c v))) h := fun a o e => by
  by_cases ne : a = c
  · subst ne
    rw [upd_same] at e
    cases e
    exact cellV_ok ho hv
  · rw [upd_ne ne] at e
    exact (hok a o e).stay (fun b u _ q => q) (fun b q => by rw [upd_ne (ne_of_none q hc)]; exact q) fun b xs q => by rw [upd_ne (ne_of_none q hc)]; exact q
theorem lock_data (hok : HOk P w H h) (hc : H c = some (.frz oc (CellV c v))) : h.get? c = some oc ∧ ∃ u, RelV v u ∧ oc.data = .cell (some u) := by
  obtain ⟨ho, ⟨u, r, o, e, hd⟩, _⟩ := hok c _ hc
  rw [ho] at e
  cases e
  exact ⟨ho, u, r, hd⟩
theorem un_of_lock (u : Un fs [] (upd H c (.frz oc x)) H' h h') (hc : H c = none) (ho : h.get? c = some oc) (hok : HOk P w H' h') : Un fs [] H (del H' c) h h' := by
  have at_ : h'.get? c = some oc := (hok c _ (u.frzs c oc x upd_same)).1
  have nh : ∀ b, H b = none → b ≠ c → upd H c (.frz oc x) b = none := fun b n ne => by rw [upd_ne ne]; exact n
  have sh : ∀ b o, H b = some o → b ≠ c := fun b o e => ne_of_none e hc
  refine ⟨fun b o q n hb hx => ?_, fun b o q n hb hx => ?_, fun b o q n hx => ?_, fun b o q hx => u.there b o q hx, fun b xs q => ?_, fun b o y q => ?_, fun b ps q => ?_⟩
  · by_cases ne : b = c
    · rw [ne, ho] at q
      cases q
      rw [ne]
      exact at_
    · exact u.keep b o q (nh b n ne) hb hx
  · by_cases ne : b = c
    · rw [ne, ho] at q
      cases q
      rw [ne]
      exact ⟨oc.slots, at_⟩
    · exact u.slot b o q (nh b n ne) hb hx
  · by_cases ne : b = c
    · rw [ne]
      exact del_same
    · exact del_none (u.free b o q (nh b n ne) hx)
  · rw [del_ne (sh b _ q)]
    exact u.tups b xs (by rw [upd_ne (sh b _ q)]; exact q)
  · rw [del_ne (sh b _ q)]
    exact u.frzs b o y (by rw [upd_ne (sh b _ q)]; exact q)
  · obtain ⟨more, e⟩ := u.tbls b ps (by rw [upd_ne (sh b _ q)]; exact q)
    exact ⟨more, by rw [del_ne (sh b _ q)]; exact e⟩
theorem un_of_del (u : Un fs [] (del H c) H' h h') (hc : H c = some (.frz oc x)) : Un fs [] H (upd H' c (.frz oc x)) h h' := by
  have ne : ∀ b, H b = none → b ≠ c := fun b n z => by rw [z, hc] at n; cases n
  have nt : ∀ b o, H b = some o → (∀ ob y, o ≠ .frz ob y) → b ≠ c := fun b o e n => ne_of e hc (n _ _)
  refine ⟨fun b o q n hb hx => u.keep b o q (del_none n) hb hx, fun b o q n hb hx => u.slot b o q (del_none n) hb hx, fun b o q n hx => by rw [upd_ne (ne b n)]; exact u.free b o q (del_none n) hx, fun b o q hx => u.there b o q hx, fun b xs q => ?_, fun b o y q => ?_, fun b ps q => ?_⟩
  · have n := nt b _ q (fun ob y z => by cases z)
    rw [upd_ne n]
    exact u.tups b xs (by rw [del_ne n]; exact q)
  · by_cases n : b = c
    · subst n
      rw [hc] at q
      rw [upd_same, q]
    · rw [upd_ne n]
      exact u.frzs b o y (by rw [del_ne n]; exact q)
  · have n := nt b _ q (fun ob y z => by cases z)
    obtain ⟨more, e⟩ := u.tbls b ps (by rw [del_ne n]; exact q)
    exact ⟨more, by rw [upd_ne n]; exact e⟩
theorem env0_del (e0 : Env0 P w K mg base A outer s H) (hc : H c = some (.frz oc x)) : Env0 P w K mg base A outer s (del H c) :=
  ⟨e0.frames, e0.mod, fun b o e => ⟨(e0.bs b o e).1, del_none (e0.bs b o e).2⟩, e0.bsz, e0.funs, fun b hb => del_none (e0.frf b hb), hok_del e0.hok hc, e0.bare⟩
theorem env0_lock (e0 : Env0 P w K mg base A outer s H) (hc : H c = none) (nb : base.get? c = none) (nf : c ∉ frs outer) (ho : s.heap.get? c = some oc) (hv : ∃ u, RelV v u ∧ oc.data = .cell (some u)) : Env0 P w K mg base A outer s (upd H c (.frz oc (CellV c v))) :=
  ⟨e0.frames, e0.mod, fun b o e => ⟨(e0.bs b o e).1, by rw [upd_ne (fun z => by rw [z, nb] at e; cases e)]; exact (e0.bs b o e).2⟩, e0.bsz, e0.funs, fun b hb => by rw [upd_ne (fun z => nf (by rw [← z]; exact hb))]; exact e0.frf b hb, hok_lock e0.hok hc ho hv, e0.bare⟩
theorem same_lock {o : HO} (hc : H c = none) (s : Same (upd H c o) H') : Same H (del H' c) := fun b u e => by
  have n := ne_of_none e hc
  rw [del_ne n]
  exact s b u (by rw [upd_ne n]; exact e)
theorem same_del {o : HO} (hc : H c = some o) (s : Same (del H c) H') : Same H (upd H' c o) := fun b u e => by
  by_cases n : b = c
  · subst n
    rw [hc] at e
    rw [upd_same, e]
  · rw [upd_ne n]
    exact s b u (by rw [del_ne n]; exact e)
theorem same_del1 {o : HO} (hc : H c = some o) (s : Same H H') : Same (del H c) (del H' c) := fun b u e => by
  by_cases n : b = c
  · rw [n, del_same] at e
    cases e
  · rw [del_ne n] at e ⊢
    exact s b u e
end
/-! ### the lambda's object -/
structure LF where
  qual : Str
  params : Arguments
  body : Expr
  scope : Scope
  cl : List (Str × Addr)
  c : Addr
abbrev LF.nf (F : LF) : NdefX.NF := ⟨"<lambda>", F.qual, F.params, [], F.scope, F.cl, F.c⟩
def LamO (f : Addr) (F : LF) : HO := .ext fun h => ∃ pm ctv, h.get? f = some (PySem.W.kla_obj "<lambda>" F.qual F.params F.body F.scope F.cl pm F.c ctv)
/-- the one name x that it captures lies in the cell at cp -/
def OneCell (cl : List (Str × Addr)) (x : Str) (cp : Addr) : Prop := cl.lookup x = some cp ∧ ∀ y a, cl.lookup y = some a → y = x ∧ a = cp
/-- what is asked of the heap where it is called -/
def LamH (H : Hp) (f : Addr) (F : LF) (x : Str) (cp : Addr) (oc : Obj) (v : V) : Prop :=
  H f = some (LamO f F) ∧ H F.c = some (LamX.CodeO F.c F.qual) ∧ OneCell F.cl x cp ∧ H cp = some (.frz oc (CellV cp v))
theorem LamH.same {H H' : Hp} {f : Addr} {F : LF} {x : Str} {cp : Addr} {oc : Obj} {v : V} (h : LamH H f F x cp oc v) (s : Same H H') : LamH H' f F x cp oc v := ⟨s _ _ h.1, s _ _ h.2.1, h.2.2.1, s _ _ h.2.2.2⟩
section
variable {X : Cx} {pins : List (Addr × Obj)} {σ : L2.St} {H : Hp} {s : Shared}
theorem inv_lam {F : LF} {o : Obj} {t' : Nat} {pm ctv : Value} (I : Inv X pins σ H s) (ho : o = PySem.W.kla_obj "<lambda>" F.qual F.params F.body F.scope F.cl pm F.c ctv) :
    Inv X pins σ (upd H s.heap.objs.size (LamO s.heap.objs.size F)) { s with heap := s.heap.push o, toks := t' } := by
  subst ho
  refine I.laid (a := s.heap.objs.size) (fun b u e => Heap.get?_push_of_some _ e) (Nat.le_refl _) ?_
  have e := Heap.get?_push_size s.heap (o := PySem.W.kla_obj "<lambda>" F.qual F.params F.body F.scope F.cl pm F.c ctv) rfl
  exact ⟨⟨pm, ctv, e⟩, ⟨_, e⟩, fun h1 h2 ⟨p, t, z⟩ st => ⟨p, t, st _ z⟩⟩
/-- the lambda is made -/
theorem lam_make3 {T : List (Addr × Str)} {c P : Addr} {params : Arguments} {body : Expr} {scope : Scope} {pos : Pos} {E : Value → Shared → Prop} {Q : Value → Shared → Prop} (I : Inv X pins σ H s) (TB : LamX.TabB X.base X.mg c P) (hcode : X.env.code = .ref c)
    (hm : (P, X.env.qual ++ "<lambda>") ∈ T) (hu : ∀ p ∈ T, p.1 = P → p.2 = X.env.qual ++ "<lambda>") (hT : LamX.Tabs T H) (hdef : defaultsOf params X.env = ([], [])) (hfree : ∀ y ∈ scope.names, y.2 = .free → ∃ c, X.env.cells.lookup y.1 = some c)
    (h : ∀ (f c' : Addr) (H1 : Hp) (s' : Shared), Inv X pins σ H1 s' → LamX.ExtN H H1 → (∀ b, H1 b = none → H b = none) → LamX.Tabs T H1 → H f = none → H1 f = some (LamO f ⟨X.env.qual ++ "<lambda>", params, body, scope, cloFrom X.env.cells scope.names [], c'⟩) →
      H1 c' = some (LamX.CodeO c' (X.env.qual ++ "<lambda>")) → Q (.ref f) s') :
    wpAny (model X.prog X.w) X.A (eval (.Lambda params body scope pos) X.env) Q E s := by
  obtain ⟨ps, hP, ht, ha⟩ := hT _ hm
  refine PySem.W.kla_eval hdef ?_
  have bP : s.heap.BuiltinsAt X.mg P := TB.bm.keeps I.bk
  have hP' : s.heap.get? P = some { cls := .none, data := .fields ps } := I.hok P _ hP
  cases hc : codeAmong pos ps.toList with
  | none =>
    refine PySem.W.kla_makeFunction (mg := X.mg) (c := c) (P := P) (ps := ps) (closure_ok hfree) I.ok.glob (I.mod.glob.keeps I.bk) hcode (TB.code.keeps I.bk) hP' ht hc TB.gP bP fun c' ctv h' tk hx hge hlt hrec htb => ?_
    obtain ⟨c2, oc, vs, t, e2, hoc, hd, hv⟩ := hrec
    cases e2
    have nC : H c' = none := I.hok.fresh hge
    have I1 := LamX.inv_table (t' := tk) (more := #[rawInt pos.line, rawInt pos.col, .ref c']) (h' := h') I hP (fun b o hb e => hx b o hb e) htb hge ⟨oc, vs, t, hoc, hd, hv⟩
    have hE : LamX.ExtN H (upd (upd H P (.tbl (ps ++ #[rawInt pos.line, rawInt pos.col, .ref c']))) c' (LamX.CodeO c' (X.env.qual ++ "<lambda>"))) := fun b o e n => by
      rw [upd_ne (ne_of_none e nC), upd_ne (fun z => n ps (Option.some.inj (e.symm.trans (by rw [z]; exact hP))))]
      exact e
    have eL : (ps ++ #[rawInt pos.line, rawInt pos.col, .ref c']).toList = ps.toList ++ [rawInt pos.line, rawInt pos.col, .ref c'] := by simp
    have T1 : LamX.Tabs T (upd (upd H P (.tbl (ps ++ #[rawInt pos.line, rawInt pos.col, .ref c']))) c' (LamX.CodeO c' (X.env.qual ++ "<lambda>"))) := fun p hp => by
      by_cases hb : p.1 = P
      · rw [hu p hp hb, hb]
        refine ⟨_, by rw [upd_ne (ne_of_none hP nC), upd_same], by rw [eL]; exact PySem.TriplesOk_snoc _ _ _ _ ht, fun p' cv hcv => ?_⟩
        rw [eL] at hcv
        rcases LamX.among_app _ ht hcv with z | z
        · obtain ⟨c0, e1, e2⟩ := ha p' cv z
          exact ⟨c0, e1, hE _ _ e2 LamX.codeO_ne⟩
        · exact ⟨c', z, upd_same⟩
      · obtain ⟨ps', a1, a2, a3⟩ := hT p hp
        refine ⟨ps', by rw [upd_ne (ne_of_none a1 nC), upd_ne hb]; exact a1, a2, fun p' cv hcv => ?_⟩
        obtain ⟨c0, e1, e2⟩ := a3 p' cv hcv
        exact ⟨c0, e1, hE _ _ e2 LamX.codeO_ne⟩
    have nF := I1.hok.fresh (Nat.le_refl _)
    have I2 := inv_lam (F := ⟨X.env.qual ++ "<lambda>", params, body, scope, cloFrom X.env.cells scope.names [], c'⟩) (t' := tk) (pm := (X.mg "__name__").getD .none) (ctv := ctv) I1 rfl
    refine h h'.objs.size c' _ _ I2 (fun b o e n => ?_) (fun b e => NdefX.upd_none (NdefX.upd_none (NdefX.upd_none e))) (T1.ext fun b o e => ?_) (I.hok.fresh (Nat.le_trans hge (Nat.le_of_lt hlt))) upd_same ?_
    · have e1 := hE b o e n
      exact (upd_ne (ne_of_none e1 nF)).trans e1
    · exact (upd_ne (ne_of_none e nF)).trans e
    · exact (upd_ne (Nat.ne_of_lt hlt)).trans upd_same
  | some cv =>
    obtain ⟨c', e, hco⟩ := ha pos cv hc
    subst e
    refine PySem.W.kla_makeFunctionHit (mg := X.mg) (c := c) (P := P) (ps := ps) (closure_ok hfree) I.ok.glob (I.mod.glob.keeps I.bk) hcode (TB.code.keeps I.bk) hP' ht hc bP fun ctv h' tk hx hsz => ?_
    have I1 : Inv X pins σ H { s with heap := h', toks := tk } := I.kept hx
    have nF : H h'.objs.size = none := I1.hok.fresh (Nat.le_refl _)
    have I2 := inv_lam (F := ⟨X.env.qual ++ "<lambda>", params, body, scope, cloFrom X.env.cells scope.names [], c'⟩) (t' := tk) (pm := (X.mg "__name__").getD .none) (ctv := ctv) I1 rfl
    refine h h'.objs.size c' _ _ I2 (fun b o e n => ?_) (fun b e => NdefX.upd_none e) (hT.ext fun b o e => ?_) nF upd_same ?_
    · exact (upd_ne (ne_of_none e nF)).trans e
    · exact (upd_ne (ne_of_none e nF)).trans e
    · exact (upd_ne (ne_of_none hco nF)).trans hco
end
/-! ### what it promises where it is called -/
/-- a function that stands in the heap keeps the promise sp -/
structure LOk (P : Program) (w : World) (K : PySem.W.Frag) (mg : Str → Option Value) (base : Heap) (k n : Nat) (f : Addr) (sp : Sp) : Prop where
  len : ∀ vs H Q E, sp vs H Q E → vs.length = n
  run : ∀ (A : Around) (outer : List Env) (s : Shared) (H : Hp) (us : List Value) (vs : List V) (Q : VK), Room k A → Env0 P w K mg base A outer s H → Vals vs us → sp vs H Q E0 → codeAny (model P w) A (.call (.ref f) ⟨us, []⟩) (CR CX0 outer P w H s Q E0) s
section
variable {P : Program} {w : World} {K : PySem.W.Frag} {mg : Str → Option Value} {base : Heap} {N ps : List Str} {F : LF} {f cp : Addr} {k : Nat} {x : Str} {sp : V → Sp}
/-- the lambda's promise: where its object, its code object and its cell stand -/
def spLam (f : Addr) (F : LF) (x : Str) (sp : V → Sp) : Sp := fun vs H Q E => ∃ cp oc v, LamH H f F x cp oc v ∧ sp v vs (del H cp) (fun r H' => Q r (upd H' cp (.frz oc (CellV cp v)))) E
theorem lok_of (S : NdefX.NScope N ps [x] F.scope) (hb : ∀ (pm ctv : Value) (us : List Value), us.length = ps.length → bindArgs (PySem.W.kla_fn "<lambda>" F.qual F.params F.body F.scope F.cl pm (.ref F.c) ctv) ⟨us, []⟩ = pure (ps.zip us)) (len : ∀ v vs H Q E, sp v vs H Q E → vs.length = ps.length)
    (hbody : ∀ (A : Around) (outer : List Env) (s : Shared) (H : Hp) (v : V) (vs : List V) (Q : VK) (E : XK), Room k (A.deeper (NdefX.envF F.nf f s.heap.objs.size)) → sp v vs H Q E → ∃ t, PE (NdefX.ncx CX0 P w K mg base N F.nf f A outer s H E) F.body t ∧ t (NdefX.startF N vs [some v]) H Q) :
    LOk P w K mg base (k + 1) ps.length f (spLam f F x sp) := by
  refine ⟨fun vs H Q E h => ?_, fun A outer s H us vs Q hr e0 r h => ?_⟩
  · obtain ⟨_, _, v, _, h⟩ := h
    exact len v _ _ _ _ h
  obtain ⟨cp, oc, v, ⟨hf, hc, oneC, hcp⟩, hsp⟩ := h
  have hl := len v _ _ _ _ hsp
  have lim : s.heap.NoLimit := e0.mod.nolimit.keeps fun b o e => (e0.bs b o e).1
  obtain ⟨⟨pm, ctv, ho⟩, _, _⟩ := e0.hok f _ hf
  obtain ⟨hoc, hdat⟩ := lock_data e0.hok hcp
  refine PySem.W.kla_callFunE hr.depth ho rfl S.co S.gen rfl (NdefX.codeO_at e0.hok hc) ?_
  rw [hb pm ctv us (by rw [← r.length]; exact hl)]
  refine wpAny_pure (wpAny_newFunctionEnv S.nocell (fun ⟨n, _⟩ hy => S.par n (List.of_mem_zip hy).1) (fun h₁ hns hsb => ⟨lim.fresh _ hsb, ?_⟩) S.kind)
  show codeAny _ _ (.expr F.body (NdefX.envF F.nf f s.heap.objs.size)) _ _
  have kp : ∀ b o, s.heap.get? b = some o → h₁.get? b = some o := fun b o e => hsb.extBut b o (Nat.ne_of_lt (Heap.lt_size e)) (Heap.get?_push_of_some _ e)
  have e1 : Env0 P w K mg base A outer s (del H cp) := env0_del e0 hcp
  obtain ⟨u0, r0, d0⟩ := hdat
  have C : NdefX.CellsAt F.nf.cl [x] [some v] s.heap (del H cp) := by
    refine ⟨rfl, fun y c e => ?_, fun y z c e1 e2 => (oneC.2 y c e1).1.trans (oneC.2 z c e2).1.symm, fun i y e => ?_⟩
    · obtain ⟨_, rfl⟩ := oneC.2 y c e
      exact ⟨del_same, some u0, oc, hoc, d0⟩
    · match i, e with
      | 0, e =>
        cases e
        refine ⟨cp, oneC.1, fun v' ev => ?_⟩
        cases ev
        exact ⟨u0, r0, oc, hoc, d0⟩
  obtain ⟨t, ht, hq⟩ := hbody A outer s (del H cp) v vs _ E0 (hr.deeper _) hsp
  have I : Inv (NdefX.ncx CX0 P w K mg base N F.nf f A outer s (del H cp) E0) [] (NdefX.startF N vs [some v]) (del H cp) { s with heap := h₁, toks := s.toks + (ps.zip us).length } := NdefX.inv_startN (F := F.nf) S hr.hd e1 hl r C hns kp
  refine PySem.W.kla_codeExpr (wpAny_mono (ht.run [] _ _ _ _ I hq) (fun u s' hs => ?_) fun e s' hs => hs)
  obtain ⟨y, H', J', rv, q⟩ := hs
  have nf : cp ∉ frs outer := fun z => by
    have := e0.frf cp z
    rw [hcp] at this
    cases this
  have un : Un (frs outer) [] (del H cp) H' s.heap s'.heap := J'.base
  have h1 : H' cp = none := un.free cp oc hoc del_same (by simp)
  have h2 : s'.heap.get? cp = some oc := un.keep cp oc hoc del_same nf (by simp)
  exact ⟨y, upd H' cp (.frz oc (CellV cp v)), J'.os, J'.bare, un_of_del un hcp, hok_lock J'.hok h1 h2 ⟨u0, r0, d0⟩, rv, q⟩
end
/-- a(..), a name that holds a function -/
def tCallV (i : Nat) (sp : Addr → Sp) (t : TA) : TE := fun σ H Q => ∃ f, σ[i]? = some (some (.ref f)) ∧ (∃ o, H f = some o ∧ ∃ F, o = LamO f F) ∧ t σ H fun vs H1 => (∃ F, H1 f = some (LamO f F)) ∧ sp f vs H1 Q E0
section
variable {X : Cx} {k n i : Nat} {x : Str} {sp : Addr → Sp} {t : TA} {e : Expr} {es : List Expr} {p pos : Pos}
theorem lamAt_of {pins : List (Addr × Obj)} {σ : L2.St} {H : Hp} {s : Shared} {f : Addr} {F : LF} (I : Inv X pins σ H s) (e : H f = some (LamO f F)) : PySem.W.FnAt f s.heap := by
  obtain ⟨⟨pm, ctv, ho⟩, _, _⟩ := I.hok f _ e
  exact ⟨_, _, _, _, ho⟩
theorem pe_callV (Fn : ∀ f, LOk X.prog X.w X.K X.mg X.base k n f (sp f)) (hr : Room k X.A) (ha : PA X (e :: es) t) (hN : X.N[i]? = some x := by rfl) (hv : Vis X.env.scope x := by first | exact Or.inl rfl | exact Or.inr (Or.inl rfl) | exact Or.inr (Or.inr rfl))
    (hd : (x == ("__debug__" : Str)) = false := by decide) (hcd : (x == ("__classdict__" : Str)) = false := by decide)
    (he : starEach (e :: es) X.env = (false, eval e X.env) :: starEach es X.env := by rfl) (hpl : (backTo pos (starEach es X.env)).any (·.1) = false := by rfl) :
    PE X (.Call (.Name x p) (e :: es) [] pos) (tCallV i sp t) := by
  refine ⟨fun pins s σ H Q I h => ?_⟩
  obtain ⟨f, hs, ⟨o, hf, F, eo⟩, ht⟩ := h
  subst eo
  refine wpAny_Call_Name_kw (thn ((pe_var (pos := p) hN hv hd hcd).run pins s σ H (fun v H1 => v = .ref f ∧ H1 = H) I ⟨.ref f, hs, rfl, rfl⟩) fun u s1 ⟨v, H1, I1, r1, q1⟩ => ?_)
  obtain ⟨ev, eH⟩ := q1
  subst ev
  rw [eH] at I1
  obtain rfl : u = Value.ref f := r1
  refine PySem.W.callWith_F (first := []) (lamAt_of I1 hf) (thn (ha.run pos pins s1 σ H _ I1 ht) fun us s2 ⟨vs, H2, I2, r, ⟨F2, h1⟩, q⟩ => ⟨lamAt_of I2 h1, ?_⟩) he hpl
  show wpAny _ _ (call (.ref f) us) _ _ _
  refine wpAny_call (codeAny_mono ((Fn f).run X.A X.stack s2 H2 us vs Q hr I2.env0 r q) fun r s' hq => ?_)
  cases r with
  | error e => exact (show False from hq).elim
  | ok fl =>
    cases fl with
    | ret u => exact I2.after hq
    | next => exact False.elim hq
    | brk => exact False.elim hq
    | cont => exact False.elim hq
end
/-! ### g(e, lambda ..) -/
/-- the lambda's words -/
def tLamTo (T : List (Addr × Str)) (mk : List (Str × Addr) → Addr → LF) (q : Str) (i : Nat) (y0 : Str) (sp : Sp) (te : TE) : TE := fun σ H Q => te σ H fun v1 H1 => LamX.Tabs T H1 ∧ ∃ v, σ[i]? = some (some v) ∧
  ∀ f c' cp oc cl H2, LamX.ExtN H1 H2 → (∀ b, H2 b = none → H1 b = none) → LamX.Tabs T H2 → H1 f = none → LamH (upd H2 cp (.frz oc (CellV cp v))) f (mk cl c') y0 cp oc v → H2 cp = none →
    sp [v1, .ref f] (upd H2 cp (.frz oc (CellV cp v))) (fun r H' => Q r (del H' cp)) E0
section
variable {X : Cx} {k : Nat} {x y0 : Str} {ps : List Str} {sp : Sp} {e : Expr} {te : TE} {p pos lpos : Pos} {params : Arguments} {body : Expr} {scope : Scope} {T : List (Addr × Str)} {c P : Addr} {i : Nat}
theorem pe_lamTo (cal : Cal X.prog X.w X.K X.mg X.base k x ps sp) (hr : Room k X.A) (he : PE X e te) (TB : LamX.TabB X.base X.mg c P) (hcode : X.env.code = .ref c) (hm : (P, X.env.qual ++ "<lambda>") ∈ T) (hu : ∀ p ∈ T, p.1 = P → p.2 = X.env.qual ++ "<lambda>")
    (hy : (y0, NameKind.free) ∈ scope.names) (ho : ∀ y ∈ scope.names, y.2 = .free → y.1 = y0) (hce : X.env.scope.names.lookup y0 = some .cell) (hfn : X.fn y0 = true) (hN : X.N[i]? = some y0) (hdef : defaultsOf params X.env = ([], [])) (hg : Gl X x := by rfl) (hdb : (x == ("__debug__" : Str)) = false := by decide)
    (hst : starEach [e, .Lambda params body scope lpos] X.env = (false, eval e X.env) :: starEach [.Lambda params body scope lpos] X.env := by rfl) (hpl : (backTo pos (starEach [.Lambda params body scope lpos] X.env)).any (·.1) = false := by rfl)
    (hst2 : starEach [.Lambda params body scope lpos] X.env = (false, eval (.Lambda params body scope lpos) X.env) :: starEach [] X.env := by rfl) :
    PE X (.Call (.Name x p) [e, .Lambda params body scope lpos] [] pos) (tLamTo T (fun cl c' => ⟨X.env.qual ++ "<lambda>", params, body, scope, cl, c'⟩) (X.env.qual ++ "<lambda>") i y0 sp te) := by
  refine ⟨fun pins s σ H Q I h => ?_⟩
  obtain ⟨g, fd, F, kp, b, mx⟩ := cal
  have hfree : ∀ y ∈ scope.names, y.2 = .free → ∃ c, X.env.cells.lookup y.1 = some c := fun y hy e => by
    rw [ho y hy e]
    exact I.ok.has _ (.inl hce)
  refine wpAny_Call_Name_kw (ld_glob I hg mx ?_ hdb)
  refine PySem.W.callWith_K (h₀ := X.base) I.ok.mod.kin kp ?_ hst hpl
  rw [hst]
  show wpAny _ _ (spliced ((false, eval e X.env) :: backTo pos (starEach [.Lambda params body scope lpos] X.env))) _ _ s
  refine Calls.spliced_cons (thn (he.run pins s σ H _ I h) fun u1 s1 ⟨v1, H1, I1, r1, hT, v, hs, q⟩ => ?_)
  rw [hst2]
  refine Calls.spliced_cons (lam_make3 I1 TB hcode hm hu hT hdef hfree fun f c' H2 s2 I2 eN nn T2 hf1 hf2 hc2 => ?_)
  refine Calls.spliced_nil ⟨I2.kIn, ?_⟩
  obtain ⟨cp, hcp⟩ := I.ok.has y0 (.inl hce)
  have ncp : H2 cp = none := I2.freeC y0 cp hcp
  have oneC : OneCell (cloFrom X.env.cells scope.names []) y0 cp := by
    refine ⟨NdefX.clo_has hfree hy hcp, fun y a e => ?_⟩
    have e1 := NdefX.clo_cm hfree e
    rcases cloFrom_mem (PySem.mem_of_lookup e) with hm | ⟨h1, _⟩
    · cases hm
    · have e2 := ho _ h1 rfl
      simp only at e2
      subst e2
      rw [hcp] at e1
      exact ⟨rfl, (Option.some.inj e1).symm⟩
  obtain ⟨m, hn, hl⟩ := I2.loc
  obtain ⟨u, ru, lk⟩ := hl i y0 v hN hs (.inr (.inl hce))
  obtain ⟨oc, hoc, hd⟩ : ∃ oc, s2.heap.get? cp = some oc ∧ oc.data = .cell (some u) := by
    rcases lk with ⟨z, _⟩ | ⟨_, a', ha', oc, h1, h2⟩
    · have z' : X.env.scope.names.lookup y0 = some .local := z
      rw [hce] at z'
      cases z'
    · rw [hcp] at ha'
      cases ha'
      exact ⟨oc, h1, h2⟩
  have hge := I.ok.cab y0 cp hfn hcp
  have nb : X.base.get? cp = none := by
    cases e : X.base.get? cp with
    | none => rfl
    | some o => exact absurd (Nat.lt_of_lt_of_le (Heap.lt_size e) (Nat.le_trans I.ok.bsz hge)) (Nat.lt_irrefl _)
  have nf : cp ∉ frs X.stack := fun z => by
    rcases List.mem_cons.mp (I2.stkSub cp z) with e | hb
    · exact I2.cne y0 cp hcp e
    · obtain ⟨_, o, ho, _⟩ := I.ok.funs.mem hb
      exact absurd (Nat.lt_of_lt_of_le (Heap.lt_size ho) hge) (Nat.lt_irrefl _)
  have e0 := env0_lock (v := v) I2.env0 ncp nb nf hoc ⟨u, ru, hd⟩
  have nfc : f ≠ cp := ne_of_none hf2 ncp
  have ncc : c' ≠ cp := ne_of_none hc2 ncp
  have q2 := q f c' cp oc _ H2 eN nn T2 hf1 ⟨by rw [upd_ne nfc]; exact hf2, by show upd H2 cp _ c' = _; rw [upd_ne ncc]; exact hc2, oneC, upd_same⟩ ncp
  have r2 : Vals [v1, .ref f] [u1, .ref f] := .cons r1 (.cons rfl .nil)
  have bb := b s2 [u1, .ref f] I2.kIn (by rw [List.append_nil]; exact (r2.length.symm.trans (F.len _ _ _ _ q2)))
  rw [List.append_nil] at bb
  refine wpAny_call (codeAny_mono (F.run X.A X.stack s2 _ ⟨[u1, .ref f], []⟩ [u1, .ref f] [v1, .ref f] _ E0 hr e0 bb r2 q2) fun r s' hq => ?_)
  cases r with
  | error e => exact (show False from hq).elim
  | ok fl =>
    cases fl with
    | ret u =>
      obtain ⟨y, H', os, bare, un, hok, rv, q3⟩ := hq
      have un2 := un_of_lock un ncp hoc hok
      have hok2 : HOk X.prog X.w (del H' cp) s'.heap := hok_del hok (un.frzs cp oc _ upd_same)
      exact I2.after ⟨y, del H' cp, os, bare, un2, hok2, rv, q3⟩
    | next => exact False.elim hq
    | brk => exact False.elim hq
    | cont => exact False.elim hq
end
/-! ### a def whose code object is known -/
section
variable {P : Program} {w : World} {K : PySem.W.Frag} {mg : Str → Option Value} {base : Heap}
theorem fun_okc {x qual : Str} {st : Stmt} {f c : Addr} {fd : FuncData} {N ps : List Str} {k : Nat} {sp : Sp} (F : Fun K x qual st f fd) (code : fd.code = .ref c) (S : FnScope N ps (defScope st)) (len : ∀ vs H Q E, sp vs H Q E → vs.length = ps.length)
    (hbody : ∀ (A : Around) (outer : List Env) (s : Shared) (H : Hp) (vs : List V) (Q : VK) (E : XK), Room k (A.deeper (envOfC qual (defScope st) s.heap.objs.size f (.ref c))) → sp vs H Q E →
      ∃ t, PSs (cxOf CX0 P w K mg base N qual (defScope st) f (.ref c) A outer s H E).nox (defBody st) t ∧ t { nx := fun _ H' => Q .non H', rt := Q } (start N vs) H) : FnOk P w K mg base CX0 (k + 1) f fd ps sp := by
  obtain ⟨oc, od, kV, doc, pm, an, cdv, ct, osl, efd, lk, hcd⟩ := F.ex
  subst efd
  have ec : cdv = .ref c := code
  subst ec
  refine fn_of lk hcd S len fun A outer s H vs Q E hr hsp => ?_
  obtain ⟨t, h, q⟩ := hbody A outer s H vs Q E hr hsp
  exact ⟨t, h.nox, q⟩
end
end Ur
/-! UrMn: min and max of a list of tuples of whole numbers, with and without default=; walks within walks. -/
namespace Ur
open PySem PySem.Spec PyProof.Rows L2
/-- the items are tuples of whole numbers -/
def TupsI (H : Hp) (xs : List V) (ks : List (List Int)) : Prop := Paired (fun x k => ∃ t, x = V.ref t ∧ H t = some (.tup (k.map V.int))) xs ks
theorem paired_get {α β : Type} {F : α → β → Prop} : ∀ {xs : List α} {ys : List β} {i : Nat} {x : α}, Paired F xs ys → xs[i]? = some x → ∃ y, ys[i]? = some y ∧ F x y
  | _, _, _, _, .nil, e => by simp at e
  | _, _, 0, _, .cons r _, e => by simp at e; subst e; exact ⟨_, rfl, r⟩
  | _, _, i + 1, x, .cons _ t, e => by
    obtain ⟨u, h1, h2⟩ := paired_get (i := i) (x := x) t (by simpa using e)
    exact ⟨u, by simpa using h1, h2⟩
theorem map_get {α β : Type} {f : α → β} {l : List α} {i : Nat} {y : β} (h : (l.map f)[i]? = some y) : ∃ a, l[i]? = some a ∧ y = f a := by
  rw [List.getElem?_map] at h
  cases e : l[i]? with
  | none => rw [e] at h; cases h
  | some a => rw [e] at h; exact ⟨a, rfl, (Option.some.inj h).symm⟩
theorem holds_uniq {α : Type} [DecidableEq α] [PySem.W.Datum α] {h : Heap} {v : Value} {x y : α} (a : PySem.W.Holds h v x) (b : PySem.W.Holds h v y) : x = y := by
  obtain ⟨as, ra⟩ := a
  obtain ⟨bs, rb⟩ := b
  have e : PySem.W.Datum.toD x = PySem.W.Datum.toD y := (Reads.unique ra _ _ rb).1
  have e1 := PySem.W.Datum.eqv x y
  rw [← e, PySem.W.Datum.eqv x x] at e1
  exact of_decide_eq_true (e1.symm.trans (decide_eq_true rfl))
theorem hold_ints {h : Heap} : ∀ {k : List Int} {its : List Value}, Vals (k.map V.int) its → PySem.W.HoldAll h its k
  | [], [], _ => PySem.W.HoldAll.nil
  | [], _ :: _, r => nomatch r
  | _ :: _, [], r => nomatch r
  | i :: k, v :: its, r => by
    cases r with
    | cons r rs =>
      obtain ⟨t, rfl⟩ := r
      exact PySem.W.HoldAll.cons (PySem.W.holds_int i t) (hold_ints rs)
theorem hold_tups {P : Program} {w : World} {H : Hp} {h : Heap} (ok : HOk P w H h) : ∀ {xs : List V} {ks : List (List Int)} {its : List Value}, TupsI H xs ks → Vals xs its → PySem.W.HoldAll h its (ks.map PySem.W.Tup.mk)
  | [], [], [], _, _ => PySem.W.HoldAll.nil
  | [], _ :: _, _, t, _ => nomatch t
  | _ :: _, [], _, t, _ => nomatch t
  | [], _, _ :: _, _, r => nomatch r
  | _ :: _, _, [], _, r => nomatch r
  | x :: xs, k :: ks, v :: its, t, r => by
    cases t with
    | cons t ts =>
      cases r with
      | cons r rs =>
        obtain ⟨a, rfl, ha⟩ := t
        obtain rfl : v = Value.ref a := r
        obtain ⟨_, its2, r2, p⟩ := ok a _ ha
        exact PySem.W.HoldAll.cons (PySem.W.holds_tup p (by rw [List.toList_toArray]; exact hold_ints r2)) (hold_tups ok ts rs)
/-- the order of tuples of whole numbers -/
abbrev ltL (a b : List Int) : Bool := PySem.W.listLt a b
theorem ltL_irrefl : ∀ a : List Int, ltL a a = false
  | [] => rfl
  | x :: xs => by
    show (if x = x then PySem.W.listLt xs xs else PySem.W.DatumOrd.lt x x) = false
    rw [if_pos rfl]
    exact ltL_irrefl xs
theorem ltL_cons {x y : Int} {xs ys : List Int} : ltL (x :: xs) (y :: ys) = true ↔ x < y ∨ x = y ∧ ltL xs ys = true := by
  show (if x = y then PySem.W.listLt xs ys else decide (x < y)) = true ↔ _
  by_cases e : x = y
  · rw [if_pos e]
    constructor
    · exact fun h => .inr ⟨e, h⟩
    · rintro (h | ⟨_, h⟩)
      · omega
      · exact h
  · rw [if_neg e, decide_eq_true_eq]
    constructor
    · exact .inl
    · rintro (h | ⟨h, _⟩)
      · exact h
      · exact absurd h e
theorem ltL_trans : ∀ {a b c : List Int}, ltL a b = true → ltL b c = true → ltL a c = true
  | [], [], _, h, _ => by cases h
  | _ :: _, [], _, h, _ => by cases h
  | _, _ :: _, [], _, h => by cases h
  | [], _ :: _, _ :: _, _, _ => rfl
  | x :: xs, y :: ys, z :: zs, h, g => by
    rw [ltL_cons] at h g ⊢
    rcases h with h | ⟨rfl, h⟩
    · rcases g with g | ⟨rfl, _⟩
      · exact .inl (by omega)
      · exact .inl h
    · rcases g with g | ⟨rfl, g⟩
      · exact .inl g
      · exact .inr ⟨rfl, ltL_trans h g⟩
theorem ltL_total : ∀ {a b : List Int}, ltL a b = false → ltL b a = false → a = b
  | [], [], _, _ => rfl
  | [], _ :: _, h, _ => by cases h
  | _ :: _, [], _, h => by cases h
  | x :: xs, y :: ys, h, g => by
    have h' : ¬ (x < y ∨ x = y ∧ ltL xs ys = true) := fun z => by rw [ltL_cons.mpr z] at h; cases h
    have g' : ¬ (y < x ∨ y = x ∧ ltL ys xs = true) := fun z => by rw [ltL_cons.mpr z] at g; cases g
    have e : x = y := by omega
    subst e
    have e2 := ltL_total (Bool.eq_false_iff.mpr fun z => h' (.inr ⟨rfl, z⟩)) (Bool.eq_false_iff.mpr fun z => g' (.inr ⟨rfl, z⟩))
    rw [e2]
theorem minOf_spec (y : List Int) : ∀ (ys : List (List Int)), (PySem.W.minOf (PySem.W.Tup.mk y) (ys.map PySem.W.Tup.mk)).items ∈ y :: ys ∧ ∀ z ∈ y :: ys, ltL z (PySem.W.minOf (PySem.W.Tup.mk y) (ys.map PySem.W.Tup.mk)).items = false := by
  intro ys
  induction ys generalizing y with
  | nil =>
    refine ⟨List.mem_cons_self, fun z hz => ?_⟩
    obtain rfl := List.mem_singleton.mp hz
    exact ltL_irrefl _
  | cons z ys ih =>
    have step : PySem.W.minOf (PySem.W.Tup.mk y) ((z :: ys).map PySem.W.Tup.mk) = PySem.W.minOf (if ltL z y = true then PySem.W.Tup.mk z else PySem.W.Tup.mk y) (ys.map PySem.W.Tup.mk) := rfl
    rw [step]
    by_cases c : ltL z y = true
    · rw [if_pos c]
      obtain ⟨h1, h2⟩ := ih z
      refine ⟨List.mem_cons_of_mem _ h1, fun x hx => ?_⟩
      rcases List.mem_cons.mp hx with rfl | hx
      · refine Bool.eq_false_iff.mpr fun e => ?_
        have := h2 z List.mem_cons_self
        rw [ltL_trans c e] at this
        cases this
      · exact h2 x hx
    · rw [if_neg c]
      obtain ⟨h1, h2⟩ := ih y
      refine ⟨?_, fun x hx => ?_⟩
      · rcases List.mem_cons.mp h1 with e | h1
        · rw [e]
          exact List.mem_cons_self
        · exact List.mem_cons_of_mem _ (List.mem_cons_of_mem _ h1)
      · rcases List.mem_cons.mp hx with rfl | hx
        · exact h2 x List.mem_cons_self
        · rcases List.mem_cons.mp hx with rfl | hx
          · have c' : ltL x y = false := Bool.eq_false_iff.mpr c
            have h3 := h2 y List.mem_cons_self
            refine Bool.eq_false_iff.mpr fun e => ?_
            by_cases c2 : ltL y x = true
            · rw [ltL_trans c2 e] at h3
              cases h3
            · have := ltL_total c' (Bool.eq_false_iff.mpr c2)
              rw [this, h3] at e
              cases e
          · exact h2 x (List.mem_cons_of_mem _ hx)
/-- the least of the tuples: x, the one with the numbers k -/
def LeastT (xs : List V) (ks : List (List Int)) (x : V) (k : List Int) : Prop := (∃ i : Nat, xs[i]? = some x ∧ ks[i]? = some k) ∧ ∀ z ∈ ks, ltL z k = false
section
variable {X : Cx}
def rMinTD (K : PySem.W.Frag) : List V → List V → Hp → VK → Prop := fun vs zs H Q => ∃ (a : Addr) (xs : List V) (ks : List (List Int)) (d : V), vs = [V.ref a] ∧ zs = [d] ∧ SqL K H a xs ∧ TupsI H xs ks ∧ (xs = [] → Q d H) ∧ ∀ x k, LeastT xs ks x k → Q x H
theorem cr_minTD (hc : X.calm = true) (hu : X.A.units + 64 < cLine) : CallRK X (.builtin "min") [Str.ofString "default"] (rMinTD X.K) := by
  intro pins s σ H vs zs us ws Q I r rz h
  obtain ⟨a, xs, ks, d, rfl, rfl, hs, ht, q0, q⟩ := h
  obtain ⟨its, rv, hl, _⟩ := I.list hs
  obtain rfl := Vals.ref1 r
  obtain ⟨w1, rfl, e1⟩ := vals1 rz
  have HA := hold_tups I.hok ht rv
  have lk : its.length = ks.length := by
    have := HA.length
    rw [List.length_map] at this
    exact this
  refine PySem.W.min_list_datum_default (xs := ks.map PySem.W.Tup.mk) (I.ok.hd hc) hl.isList (by rw [List.toList_toArray]; exact HA) (by show X.A.units + 1 + 1 < cLine; omega) (fun e h' tk hk => ?_) fun y ys i v h' tk e hi hy hk => ?_
  · have e2 : ks = [] := List.map_eq_nil_iff.mp e
    have e3 : xs = [] := by
      have := rv.length
      rw [lk, e2] at this
      exact List.eq_nil_of_length_eq_zero this
    exact ⟨d, H, I.kept hk, e1, q0 e3⟩
  · have hi' : its[i]? = some v := by simpa using hi
    obtain ⟨z, hz, hvz⟩ := HA.at hi'
    have hvz' := hvz.keeps hk
    have em := holds_uniq hvz' hy
    rw [List.getElem?_map] at hz
    cases ek : ks[i]? with
    | none => rw [ek] at hz; cases hz
    | some k =>
      rw [ek] at hz
      obtain rfl : PySem.W.Tup.mk k = z := Option.some.inj hz
      obtain ⟨x, hx, rx⟩ : ∃ x, xs[i]? = some x ∧ RelV x v := by
        have hl : i < xs.length := by rw [rv.length]; exact (List.getElem?_eq_some_iff.mp hi').1
        obtain ⟨u, hu1, hu2⟩ := rv.get (List.getElem?_eq_getElem hl)
        rw [hi'] at hu1
        cases hu1
        exact ⟨_, List.getElem?_eq_getElem hl, hu2⟩
      refine ⟨x, H, I.kept hk, rx, q x k ⟨⟨i, hx, ek⟩, ?_⟩⟩
      cases ks with
      | nil => cases e
      | cons k0 ks0 =>
        rw [List.map_cons] at e
        injection e with e1 e2
        subst e1 e2
        have sp := (minOf_spec k0 ks0).2
        rw [← em] at sp
        exact sp
def rMinT (K : PySem.W.Frag) : List V → Hp → VK → Prop := fun vs H Q => ∃ (a : Addr) (xs : List V) (ks : List (List Int)), vs = [V.ref a] ∧ SqL K H a xs ∧ TupsI H xs ks ∧ 0 < ks.length ∧ ∀ x k, LeastT xs ks x k → Q x H
theorem cr_minT (hc : X.calm = true) (hu : X.A.units + 64 < cLine) : CallR X (.builtin "min") (rMinT X.K) := by
  intro pins s σ H vs us Q I r h
  obtain ⟨a, xs, ks, rfl, hs, ht, ne, q⟩ := h
  obtain ⟨its, rv, hl, _⟩ := I.list hs
  obtain rfl := Vals.ref1 r
  have HA := hold_tups I.hok ht rv
  cases ks with
  | nil => cases ne
  | cons k0 ks0 =>
    refine PySem.W.min_list_datum (x := PySem.W.Tup.mk k0) (xs := ks0.map PySem.W.Tup.mk) (I.ok.hd hc) hl.isList (by rw [List.toList_toArray]; exact HA) (by show X.A.units + 1 + 1 < cLine; omega) fun i v h' tk hi hy hk => ?_
    have hi' : its[i]? = some v := by simpa using hi
    obtain ⟨z, hz, hvz⟩ := HA.at hi'
    have em := holds_uniq (hvz.keeps hk) hy
    rw [List.getElem?_map] at hz
    cases ek : (k0 :: ks0)[i]? with
    | none => rw [ek] at hz; cases hz
    | some k =>
      rw [ek] at hz
      obtain rfl : PySem.W.Tup.mk k = z := Option.some.inj hz
      obtain ⟨x, hx, rx⟩ : ∃ x, xs[i]? = some x ∧ RelV x v := by
        have hl : i < xs.length := by rw [rv.length]; exact (List.getElem?_eq_some_iff.mp hi').1
        obtain ⟨u, hu1, hu2⟩ := rv.get (List.getElem?_eq_getElem hl)
        rw [hi'] at hu1
        cases hu1
        exact ⟨_, List.getElem?_eq_getElem hl, hu2⟩
      refine ⟨x, H, I.kept hk, rx, q x k ⟨⟨i, hx, ek⟩, ?_⟩⟩
      have sp := (minOf_spec k0 ks0).2
      rw [← em] at sp
      exact sp
end
/-! ### walks of any kind, within any reading -/
section
variable {J : It} {n : Nat} {G : Hp → Prop} {Y : Nat → Hp → V → Hp → Prop}
theorem gen_it (w : Walk J n G Y) {B : (Hp → Prop) → V → Hp → Prop} {Qd : Hp → Prop} {H0 : Hp} (Pv : Nat → Hp → Prop) (h0 : Pv 0 H0) (hG : ∀ i H, i ≤ n → Pv i H → G H)
    (hs : ∀ i x H H', i < n → Pv i H → Y i H x H' → B (Pv (i + 1)) x H') (hd : ∀ H, Pv n H → Qd H) :
    ∃ W : Nat → Nat → Hp → Prop, (∃ m, W 0 m H0) ∧ ∀ i m H, W i m H → (J.stop i H ∧ Qd H) ∨ (J.go i H ∧ ∃ Nx : Hp → Prop, (∀ H', Nx H' → ∃ m', m' < m ∧ W (i + 1) m' H') ∧ ∀ x H', J.yld i H x H' → B Nx x H') := by
  refine ⟨fun i m H => m = n - i ∧ i ≤ n ∧ Pv i H, ⟨n, by simp, Nat.zero_le _, h0⟩, ?_⟩
  rintro i m H ⟨rfl, hi, p⟩
  have q := hG i H hi p
  by_cases hlt : i < n
  · refine .inr ⟨w.goes i H hlt q, Pv (i + 1), fun H' p' => ⟨n - (i + 1), by omega, rfl, hlt, p'⟩, fun x H' y => hs i x H H' hlt p (w.yields i H x H' hlt q y)⟩
  · have e : i = n := by omega
    subst e
    exact .inl ⟨w.stops H q, hd H p⟩
end
theorem walk_range0 {n : Nat} : Walk (Itr 0 n) n (fun _ => True) (YFn fun i => .int (i : Nat)) := by
  have h := walk_range (lo := 0) (n := n)
  simp only [Int.zero_add] at h
  exact h
/-- while, by an invariant that bears its own measure -/
theorem while_ex {c : TT} {tb : TS} {D : Ends} {σ : L2.St} {H : Hp} (Pv : Nat → L2.St → Hp → Prop) (m0 : Nat) (h0 : Pv m0 σ H)
    (hs : ∀ m σ H, Pv m σ H → c σ H fun b H1 => if b = true then tb { D with nx := fun σ' H' => ∃ m', m' < m ∧ Pv m' σ' H', ct := fun σ' H' => ∃ m', m' < m ∧ Pv m' σ' H', bk := D.nx } σ H1 else D.nx σ H1)
    (mono : ∀ σ H Q Q', (∀ b H1, Q b H1 → Q' b H1) → c σ H Q → c σ H Q') : tWhile c tb D σ H := by
  refine ⟨Pv, ⟨m0, h0⟩, ?_⟩
  intro m σ H p
  refine mono σ H _ _ (fun b H1 q => ?_) (hs m σ H p)
  cases b with
  | true => exact ⟨_, fun σ' H' h => h, q⟩
  | false => exact q
end Ur
/-! HA: histories: _block, and the lambda that calls it. -/
namespace Ur
open PySem PySem.Spec PyProof.Rows L2
/-- the numbers of a list of painters -/
def nQ (qs : List Quad) (i : Nat) : Str := match qs[i]? with | some x => x.1 | none => ""
def dQ (qs : List Quad) (i : Nat) : Int := match qs[i]? with | some x => x.2.1 | none => 0
def pQ (qs : List Quad) (i : Nat) : Int := match qs[i]? with | some x => x.2.2.1 | none => 0
def sQ (qs : List Quad) (i : Nat) : Int := match qs[i]? with | some x => x.2.2.2 | none => 0
theorem q_at {qs : List Quad} {i : Nat} {x : Quad} (h : qs[i]? = some x) : nQ qs i = x.1 ∧ dQ qs i = x.2.1 ∧ pQ qs i = x.2.2.1 ∧ sQ qs i = x.2.2.2 := by
  unfold nQ dQ pQ sQ
  rw [h]
  exact ⟨rfl, rfl, rfl, rfl⟩
/-- posts of an endless fence -/
def fSP (qs : List Quad) : SPt := fun i n j m => pQ qs i + n * sQ qs i = pQ qs j + m * sQ qs j
theorem fSP_sy (qs : List Quad) : ∀ i n j m k l, fSP qs i n j m → fSP qs i n k l → fSP qs j m k l := fun i n j m k l h g => h.symm.trans g
theorem two_of {C : Addr} {H : Hp} {x z : Pt} (h : PtAt C H x) (g : PtAt C H z) : Two C H x.a z.a x.nm x.d x.p x.s z.nm z.d z.p z.s := ⟨h.1, g.1, h.2, g.2⟩
/-- the first block of a pair -/
def PairB (d : Nat → Int) (SP : SPt) (i j : Nat) (cnt : Option Int) (r : Option Int) : Prop := Least (PBlk d SP i j cnt) r ∧ ∀ n, r = some n → n ≤ 10 ^ 70
theorem parts_at {L : List Pt} {i : Nat} {x : Pt} (h : L[i]? = some x) : (partsOf L)[i]? = some (x.nm, x.d, x.p, x.s) := by
  unfold partsOf
  rw [List.getElem?_map, h]
  rfl
theorem refs_ix {L : List Pt} {i : Nat} {x : Pt} (h : L[i]? = some x) : (refsOf L)[i]? = some (V.ref x.a) := by
  unfold refsOf
  rw [List.getElem?_map, h]
  rfl
theorem no_self {qs : List Quad} {i : Nat} {x : Quad} (h : qs[i]? = some x) (ns : x.2.2.2 ≠ 0) {cnt : Option Int} {n : Int} : ¬ PBlk (dQ qs) (fSP qs) i i cnt n := by
  rintro ⟨m, m0, e, _, o⟩
  have e : pQ qs i + n * sQ qs i = pQ qs i + m * sQ qs i := e
  have e2 : n * sQ qs i = m * sQ qs i := by omega
  have e3 : n = m := Int.eq_of_mul_eq_mul_right (by rw [(q_at h).2.2.2]; exact ns) e2
  omega
abbrev s__block : Stmt := (topS 40)
abbrev N_sc__block : List Str := ["painters", "place", "other", "count"]
abbrev P__block : List Str := ["painters", "place", "other", "count"]
theorem sc__block : FnScope N_sc__block P__block (defScope s__block) := ⟨rfl, rfl, rfl, by decide +kernel, rfl, by decide +kernel, by decide +kernel⟩
def spBlock (C : Addr) : Sp := fun vs H Q _ => ∃ (t : Addr) (L : List Pt) (i j : Nat) (cnt : Option Int), vs = [.ref t, .int (i : Int), .int (j : Int), optV cnt] ∧ H t = some (.tup (refsOf L)) ∧ Crew C H L ∧ i < L.length ∧ j < L.length ∧ (∀ c, cnt = some c → 0 ≤ c ∧ c ≤ 10 ^ 80) ∧
  ∀ r H', PairB (dQ (partsOf L)) (fSP (partsOf L)) i j cnt r → Same H H' → Q (optV r) H'
section
variable {P : Program} {w : World} {K : PySem.W.Frag} {mg : Str → Option Value} {base : Heap} {C : Addr}
theorem ok_block (D : Dfn K mg "_block" s__block P__block) (B : Blt mg) (CFB : FBC P w K mg base C) : Cal P w K mg base 8 "_block" P__block (spBlock C) := by
  refine D.cal sc__block (fun vs H Q E h => ?_) fun f cdv A outer s H vs Q E hr h => ?_
  · obtain ⟨t, L, i, j, cnt, rfl, _⟩ := h
    rfl
  obtain ⟨t, L, i, j, cnt, rfl, ht, cr, hi, hj, hc, q⟩ := h
  obtain ⟨x, hx⟩ : ∃ x, L[i]? = some x := ⟨_, List.getElem?_eq_getElem hi⟩
  obtain ⟨z, hz⟩ : ∃ z, L[j]? = some z := ⟨_, List.getElem?_eq_getElem hj⟩
  have ax := cr.at_ x (List.mem_of_getElem? hx)
  have az := cr.at_ z (List.mem_of_getElem? hz)
  refine ⟨_, (pss_cons (ps_if (pt_cmpR op_eq (pv 1) (pv 2) (nomark _)) (pss_one (ps_ret pe_non)) pss_nil) (pss_one (ps_ret (pe_fbCE CFB (hr.mono (by decide)) (pa_cons (pe_ix (show IxR _ (rIxT K) from ix_tup) (pv 0) (pv 1) (fun _ _ => rfl)) (pa_cons (pe_ix (show IxR _ (rIxT K) from ix_tup) (pv 0) (pv 2) (fun _ _ => rfl)) pa_nil)) (pk_cons (pv 3) (pk_cons (pe_cmpR op_lt (pv 2) (pv 1) (nomark _)) pk_nil)))))), ?_⟩
  refine ⟨_, rfl, _, rfl, rfl, _, rfl, ?_⟩
  by_cases e : i = j
  · subst e
    refine iteDT rfl (q none H ⟨fun n _ => no_self (parts_at hx) ax.2.sn, fun n z => by cases z⟩ (Same.refl _))
  · refine iteDF (fun z => e (by have := V.int.inj z; omega)) ?_
    refine ⟨_, rfl, _, rfl, t, _, _, _, rfl, rfl, SqT.of ht, atI_nat (refs_ix hx), _, rfl, _, rfl, t, _, _, _, rfl, rfl, SqT.of ht, atI_nat (refs_ix hz), _, rfl, _, rfl, _, rfl, _, _, rfl, rfl, rfl, rfl, ?_⟩
    refine ⟨x.a, z.a, x.nm, x.d, x.p, x.s, z.nm, z.d, z.p, z.s, cnt, decide ((j : Int) < (i : Int)), rfl, two_of ax az, hc, fun r H' le bd sm => q r H' ⟨?_, fun n en => bd n en⟩ sm⟩
    obtain ⟨_, d1, d2, d3⟩ := q_at (parts_at hx)
    obtain ⟨_, d4, d5, d6⟩ := q_at (parts_at hz)
    refine le.congr fun n n0 => ?_
    unfold Blk PBlk fSP
    rw [d1, d2, d3, d4, d5, d6]
    constructor
    · rintro ⟨m, m0, e, pj, o⟩
      exact ⟨m, m0, e, pj, o.imp id fun q => ⟨q.2, by have := of_decide_eq_true q.1; omega⟩⟩
    · rintro ⟨m, m0, e, pj, o⟩
      exact ⟨m, m0, e, pj, o.imp id fun q => ⟨decide_eq_true (by omega), q.1⟩⟩
end
/-! ### the lambda -/
abbrev s__rows_of : Stmt := (topS 39)
abbrev N_sc__rows_of : List Str := ["fence", "painters"]
abbrev P__rows_of : List Str := ["fence"]
theorem sc__rows_of : FnScope N_sc__rows_of P__rows_of (defScope s__rows_of) := ⟨rfl, rfl, rfl, by decide +kernel, rfl, by decide +kernel, by decide +kernel⟩
def lamP : Expr → Arguments
  | .Lambda p _ _ _ => p
  | _ => default
def lamB : Expr → Expr
  | .Lambda _ b _ _ => b
  | e => e
def lamS : Expr → Scope
  | .Lambda _ _ s _ => s
  | _ => { kind := .function, names := [], isGenerator := false, isCoroutine := false }
def argLast : Expr → Expr
  | .Call _ es _ _ => es.getLast?.getD (.Constant .none 0 ⟨0, 0, 0, 0⟩)
  | e => e
def retE : List Stmt → Expr
  | [_, .Return (some e) _] => argLast e
  | _ => .Constant .none 0 ⟨0, 0, 0, 0⟩
/-- the lambda of _rows_of -/
abbrev rLam : Expr := retE (defBody s__rows_of)
def isRL (F : LF) : Prop := F.params = lamP rLam ∧ F.body = lamB rLam ∧ F.scope = lamS rLam
abbrev N_rl : List Str := ["place", "other", "count", "painters"]
abbrev P_rl : List Str := ["place", "other", "count"]
theorem rl_scope : NdefX.NScope N_rl P_rl ["painters"] (lamS rLam) := NdefX.nscope_by (by decide +kernel)
/-- block(place, other, count), by the lambda that stands at f -/
def spBlk (C f : Addr) : Sp := fun vs H Q _ => ∃ (F : LF) (cp : Addr) (oc : Obj) (t : Addr) (L : List Pt) (i j : Nat) (cnt : Option Int), isRL F ∧ LamH H f F "painters" cp oc (.ref t) ∧ vs = [.int (i : Int), .int (j : Int), optV cnt] ∧ H t = some (.tup (refsOf L)) ∧ Crew C H L ∧ i < L.length ∧ j < L.length ∧
  (∀ c, cnt = some c → 0 ≤ c ∧ c ≤ 10 ^ 80) ∧ ∀ r H', PairB (dQ (partsOf L)) (fSP (partsOf L)) i j cnt r → Same H H' → Q (optV r) H'
theorem Crew.del {C c : Addr} {H : Hp} {L : List Pt} {oc : Obj} {x : HO} (h : Crew C H L) (hc : H c = some (.frz oc x)) : Crew C (del H c) L :=
  ⟨fun y hy => let ⟨⟨dx, e⟩, z⟩ := h.at_ y hy; ⟨⟨dx, by rw [del_ne (ne_of e hc (by intro z; cases z))]; exact e⟩, z⟩, h.nd, h.few⟩
def spRL (C : Addr) : V → Sp := fun v vs H Q _ => ∃ (t : Addr) (L : List Pt) (i j : Nat) (cnt : Option Int), v = .ref t ∧ vs = [.int (i : Int), .int (j : Int), optV cnt] ∧ H t = some (.tup (refsOf L)) ∧ Crew C H L ∧ i < L.length ∧ j < L.length ∧
  (∀ c, cnt = some c → 0 ≤ c ∧ c ≤ 10 ^ 80) ∧ ∀ r H', PairB (dQ (partsOf L)) (fSP (partsOf L)) i j cnt r → Same H H' → Q (optV r) H'
section
variable {P : Program} {w : World} {K : PySem.W.Frag} {mg : Str → Option Value} {base : Heap} {C : Addr}
theorem ok_rl (CBk : Cal P w K mg base 8 "_block" P__block (spBlock C)) (f : Addr) : LOk P w K mg base 10 3 f (spBlk C f) := by
  have one : ∀ F : LF, isRL F → LOk P w K mg base 10 3 f (spLam f F "painters" (spRL C)) := by
    rintro ⟨q, pa, b, sc, cl, c⟩ ⟨e1, e2, e3⟩
    simp only at e1 e2 e3
    subst e1 e2 e3
    refine lok_of (N := N_rl) (ps := P_rl) (k := 9) rl_scope (fun pm ctv us hl => match us, hl with | [_, _, _], _ => rfl) (fun v vs H Q E h => ?_) fun A outer s H v vs Q E hr h => ?_
    · obtain ⟨_, _, _, _, _, _, rfl, _⟩ := h
      rfl
    obtain ⟨t, L, i, j, cnt, rfl, rfl, ht, cr, hi, hj, hc, q⟩ := h
    refine ⟨_, show PE _ (lamB rLam) _ from pe_cal CBk (hr.mono (by decide)) (pa_cons (pv 3) (pa_cons (pv 0) (pa_cons (pv 1) (pa_cons (pv 2) pa_nil)))), ?_⟩
    exact ⟨_, rfl, _, rfl, _, rfl, _, rfl, t, L, i, j, cnt, rfl, ht, cr, hi, hj, hc, q⟩
  refine ⟨fun vs H Q E h => ?_, fun A outer s H us vs Q hr e0 r h => ?_⟩
  · obtain ⟨_, _, _, _, _, _, _, _, _, _, rfl, _⟩ := h
    rfl
  obtain ⟨F, cp, oc, t, L, i, j, cnt, rl, lh, rfl, ht, cr, hi, hj, hc, q⟩ := h
  have hcp := lh.2.2.2
  refine (one F rl).run A outer s H us _ Q hr e0 r ⟨cp, oc, .ref t, lh, t, L, i, j, cnt, rfl, rfl, ?_, cr.del hcp, hi, hj, hc, fun r H' pb sm => q r _ pb (same_del hcp sm)⟩
  rw [del_ne (ne_of ht hcp (by intro z; cases z))]
  exact ht
end
end Ur
/-! HB: histories: _earliest_block. -/
namespace Ur
open PySem PySem.Spec PyProof.Rows L2
/-- the numbers of first blocks, by rows -/
def Rm (Rs : List (List (Option Int))) (i j : Nat) : Option Int := match Rs[i]? with | some r => (match r[j]? with | some x => x | none => none) | none => none
theorem Rm_at {Rs : List (List (Option Int))} {i j : Nat} {r : List (Option Int)} {x : Option Int} (h : Rs[i]? = some r) (g : r[j]? = some x) : Rm Rs i j = x := by
  unfold Rm
  rw [h]
  show (match r[j]? with | some x => x | none => none) = x
  rw [g]
structure MatAt (N : Nat) (H : Hp) (as : List Addr) (Rs : List (List (Option Int))) : Prop where
  al : as.length = N
  rl : Rs.length = N
  nd : as.Nodup
  row : ∀ (i : Nat) (a : Addr) (r : List (Option Int)), as[i]? = some a → Rs[i]? = some r → H a = some (.lst (r.map optV)) ∧ r.length = N
theorem MatAt.same {N : Nat} {H H' : Hp} {as : List Addr} {Rs : List (List (Option Int))} (h : MatAt N H as Rs) (s : Same H H') : MatAt N H' as Rs := ⟨h.al, h.rl, h.nd, fun i a r e1 e2 => ⟨s _ _ (h.row i a r e1 e2).1, (h.row i a r e1 e2).2⟩⟩
/-- the dict tells who is known to stop -/
def Known (kvs : List (Key × V)) (N : Nat) (Cn : Nat → Option Int) : Prop := ∀ i, i < N → (valV kvs (Sum.inl (i : Int) : Key)).isSome = (Cn i).isSome
/-- the entries of a part of the pairs -/
structure Ent (d : Nat → Int) (Cn : Nat → Option Int) (Rs : List (List (Option Int))) (S : Nat → Nat → Prop) (ks : List (List Int)) : Prop where
  snd : ∀ e ∈ ks, ∃ (k l : Nat) (x : Int), S k l ∧ Cn k = none ∧ Rm Rs k l = some x ∧ e = [d k + x, (k : Int), x, (l : Int)]
  cpl : ∀ (k l : Nat) (x : Int), S k l → Cn k = none → Rm Rs k l = some x → [d k + x, (k : Int), x, (l : Int)] ∈ ks
theorem Ent.imp {d : Nat → Int} {Cn : Nat → Option Int} {Rs : List (List (Option Int))} {S S' : Nat → Nat → Prop} {ks : List (List Int)} (h : Ent d Cn Rs S ks) (f : ∀ k l, S k l → S' k l) (g : ∀ k l, S' k l → S k l ∨ Cn k ≠ none ∨ Rm Rs k l = none) : Ent d Cn Rs S' ks :=
  ⟨fun e he => let ⟨k, l, x, a, b⟩ := h.snd e he; ⟨k, l, x, f k l a, b⟩, fun k l x s c e => by
    rcases g k l s with z | z | z
    · exact h.cpl k l x z c e
    · exact absurd c z
    · rw [z] at e
      cases e⟩
theorem Ent.snoc {d : Nat → Int} {Cn : Nat → Option Int} {Rs : List (List (Option Int))} {S S' : Nat → Nat → Prop} {ks : List (List Int)} {i j : Nat} {c : Int} (h : Ent d Cn Rs S ks) (ni : Cn i = none) (e : Rm Rs i j = some c) (s : S' i j) (f : ∀ k l, S k l → S' k l) (g : ∀ k l, S' k l → S k l ∨ k = i ∧ l = j) : Ent d Cn Rs S' (ks ++ [[d i + c, (i : Int), c, (j : Int)]]) :=
  ⟨fun z hz => by
    rcases List.mem_append.mp hz with hz | hz
    · obtain ⟨k, l, x, a, b⟩ := h.snd z hz
      exact ⟨k, l, x, f k l a, b⟩
    · obtain rfl := List.mem_singleton.mp hz
      exact ⟨i, j, c, s, ni, e, rfl⟩, fun k l x sk nk ek => by
    rcases g k l sk with z | ⟨rfl, rfl⟩
    · exact List.mem_append_left _ (h.cpl k l x z nk ek)
    · rw [e] at ek
      obtain rfl := Option.some.inj ek
      exact List.mem_append_right _ List.mem_cons_self⟩
theorem TupsI.same {H H' : Hp} {xs : List V} {ks : List (List Int)} (h : TupsI H xs ks) (s : Same H H') : TupsI H' xs ks := Paired.mapP h fun x k ⟨t, e, ht⟩ => ⟨t, e, s _ _ ht⟩
theorem paired_snoc {α β : Type} {F : α → β → Prop} : ∀ {xs : List α} {ys : List β} {x : α} {y : β}, Paired F xs ys → F x y → Paired F (xs ++ [x]) (ys ++ [y])
  | _, _, _, _, .nil, h => .cons h .nil
  | _, _, _, _, .cons r t, h => .cons r (paired_snoc t h)
theorem TupsI.updL {H : Hp} {D : Addr} {xs ys zs : List V} {ks : List (List Int)} (h : TupsI H xs ks) (hD : H D = some (.lst ys)) : TupsI (upd H D (.lst zs)) xs ks := Paired.mapP h fun x k ⟨t, e, ht⟩ => ⟨t, e, by rw [upd_ne (ne_of ht hD (by intro z; cases z))]; exact ht⟩
abbrev s__earliest_block : Stmt := (topS 5)
abbrev N_sc__earliest_block : List Str := ["painters", "blocks", "stopped", "found", "place", "row", "other", "count"]
abbrev P__earliest_block : List Str := ["painters", "blocks", "stopped"]
theorem sc__earliest_block : FnScope N_sc__earliest_block P__earliest_block (defScope s__earliest_block) := ⟨rfl, rfl, rfl, by decide +kernel, rfl, by decide +kernel, by decide +kernel⟩
/-- what the first block of all is -/
def FirstB (N : Nat) (d : Nat → Int) (Cn : Nat → Option Int) (R : Nat → Nat → Option Int) (v : V) (H : Hp) : Prop :=
  (v = .non ∧ ∀ k l, k < N → l < N → Cn k = none → R k l = none) ∨ ∃ (r : Addr) (i j : Nat) (c : Int), v = .ref r ∧ H r = some (.tup [.int (d i + c), .int (i : Int), .int c, .int (j : Int)]) ∧ i < N ∧ j < N ∧ Cn i = none ∧ R i j = some c ∧
    ∀ k l x, k < N → l < N → Cn k = none → R k l = some x → ¬ KLt (kOf d k x) (kOf d i c)
def spEB (C : Addr) : Sp := fun vs H Q _ => ∃ (t bl sd : Addr) (L : List Pt) (as : List Addr) (Rs : List (List (Option Int))) (kvs : List (Key × V)) (Cn : Nat → Option Int), vs = [.ref t, .ref bl, .ref sd] ∧ H t = some (.tup (refsOf L)) ∧ Crew C H L ∧ H bl = some (.lst (as.map V.ref)) ∧ MatAt L.length H as Rs ∧
  H sd = some (.dK kvs) ∧ Known kvs L.length Cn ∧ ∀ v H', Same H H' → FirstB L.length (dQ (partsOf L)) Cn (Rm Rs) v H' → Q v H'
section
variable {P : Program} {w : World} {K : PySem.W.Frag} {mg : Str → Option Value} {base : Heap} {C : Addr}
set_option maxHeartbeats 16000000 in
theorem ok_eb (D : Dfn K mg "_earliest_block" s__earliest_block P__earliest_block) (B : Blt mg) (hEn : mg "enumerate" = none) (T : PTxt K mg C) (hDay : PropS P w K mg base C "day" 1 (getSp C "_day")) : Cal P w K mg base 3 "_earliest_block" P__earliest_block (spEB C) := by
  refine D.cal sc__earliest_block (fun vs H Q E h => ?_) fun f cdv A outer s H vs Q E hr h => ?_
  · obtain ⟨t, bl, sd, _, _, _, _, _, rfl, _⟩ := h
    rfl
  obtain ⟨t, bl, sd, L, as, Rs, kvs, Cn, rfl, ht, cr, hbl, M, hsd, kn, q⟩ := h
  have hu := hu_of hr
  have hu64 := hr.units
  have few := cr.few
  refine ⟨_, (pss_cons (ps_setLc2 (i := 3) (own := [("place", 4), ("row", 5), ("other", 6), ("count", 7)]) (vs1 := [6, 7]) (g := gTup K 2 (gCons (gName 4) (gCons (gName 5) gNil))) (g1 := gTup K 2 (gCons (gName 6) (gCons (gName 7) gNil))) rfl sc__earliest_block.nd rfl rfl (sw_true rfl rfl rfl (by decide +kernel)) (pi_enum rfl hEn (pa_cons (pv 1) pa_nil)) (blkOk_by (N := N_sc__earliest_block) (sc := defScope s__earliest_block) (by decide +kernel)) (by decide) (fun _ _ _ _ _ => pg_tup rfl (pgs_cons (pg_name (i := 4) sc__earliest_block.nd rfl (Or.inl rfl)) (pgs_cons (pg_name (i := 5) sc__earliest_block.nd rfl (Or.inl rfl)) pgs_nil))) (fun _ _ _ _ _ => pts_one (pt_cmp (pc_dnotin hu (pv 4) (pv 2)))) (fun _ _ _ _ _ => (show PI _ _ _ (iEnum K (tCons (tVar 5) tNil)) from pi_enum rfl hEn (pa_cons (pv 5) pa_nil))) (fun _ _ _ _ _ => pg_tup rfl (pgs_cons (pg_name (i := 6) sc__earliest_block.nd rfl (Or.inl rfl)) (pgs_cons (pg_name (i := 7) sc__earliest_block.nd rfl (Or.inl rfl)) pgs_nil))) (fun _ _ _ _ _ => pts_one (pt_cmpR op_notN (pv 7) pe_non (nomark _))) (fun _ _ _ _ _ => pe_tup (pa_cons (pe_op op_add (pe_prS (pe_ix (show IxR _ (rIxT K) from ix_tup) (pv 0) (pv 4) (fun _ _ => rfl)) T.cl hDay (hr.mono (by decide))) (pv 7)) (pa_cons (pv 4) (pa_cons (pv 7) (pa_cons (pv 6) pa_nil)))))) (pss_one (ps_ret (pe_callBK (cr_minTD rfl hu64) rfl B.min_ (by decide +kernel) (pa_cons (pv 3) pa_nil) (pk_cons pe_non pk_nil))))), ?_⟩
  have al : (as.map V.ref).length = L.length := by rw [List.length_map, M.al]
  refine ⟨_, rfl, bl, _, rfl, SqL.of hbl, fun D nD => ?_⟩
  refine gen_it walk_enum (fun i H1 => ∃ (xs : List V) (ks : List (List Int)), H1 D = some (.lst xs) ∧ TupsI H1 xs ks ∧ Ent (dQ (partsOf L)) Cn Rs (fun k l => k < i ∧ l < L.length) ks ∧ xs.length ≤ 40 * i ∧ Same H H1) ⟨[], [], upd_same, .nil, ⟨(fun e h => nomatch h), fun k l x s => by omega⟩, Nat.zero_le _, same_new nD _⟩ (fun i H1 _ ⟨_, _, _, _, _, _, s1⟩ => SqL.of (s1 _ _ hbl)) ?_ ?_
  · rintro i v H1 H2 hi ⟨xs, ks, hD1, tu, en, lx, s1⟩ ⟨T0, y1, y2, rfl, hT, rfl, e1, e2⟩
    obtain rfl := Option.some.inj e1
    obtain ⟨a, ha, rfl⟩ := map_get e2
    have hiN : i < L.length := by rw [← al]; exact hi
    obtain ⟨r, hR⟩ : ∃ r, Rs[i]? = some r := ⟨_, List.getElem?_eq_getElem (by rw [M.rl]; exact hiN)⟩
    obtain ⟨x, hx⟩ : ∃ x, L[i]? = some x := ⟨_, List.getElem?_eq_getElem hiN⟩
    obtain ⟨hrow, rlen⟩ := M.row i a r ha hR
    have sT := same_new hT (.tup [V.int (i : Int), V.ref a])
    have s2 := s1.trans sT
    have hD2 := sT _ _ hD1
    refine ⟨T0, _, rfl, .inl (.inl upd_same), rfl, _, _, rfl, _, _, rfl, rfl, ?_⟩
    refine ⟨rfl, _, rfl, _, rfl, sd, _, rfl, DGet.k (k := (Sum.inl (i : Int) : Key)) (s2 _ _ hsd), _, rfl, ?_⟩
    have kni := kn i hiN
    cases ec : Cn i with
    | some c =>
      rw [ec] at kni
      cases ev : valV kvs (Sum.inl (i : Int) : Key) with
      | none => rw [ev] at kni; cases kni
      | some z =>
        refine iteF ?_
        refine ⟨xs, ks, hD2, tu.same sT, en.imp (fun k l h => ⟨by omega, h.2⟩) (fun k l h => ?_), by omega, s2⟩
        by_cases e : k = i
        · exact .inr (.inl (by rw [e, ec]; intro z; cases z))
        · exact .inl ⟨by omega, h.2⟩
    | none =>
      rw [ec] at kni
      cases ev : valV kvs (Sum.inl (i : Int) : Key) with
      | some z => rw [ev] at kni; cases kni
      | none =>
        refine iteT ?_
        have hrow2 := s2 _ _ hrow
        have rl : (r.map optV).length = L.length := by rw [List.length_map, rlen]
        refine ⟨_, rfl, a, _, rfl, SqL.of hrow2, ?_⟩
        refine gen_it walk_enum (fun j H3 => ∃ (xs : List V) (ks : List (List Int)), H3 D = some (.lst xs) ∧ TupsI H3 xs ks ∧ Ent (dQ (partsOf L)) Cn Rs (fun k l => (k < i ∧ l < L.length) ∨ k = i ∧ l < j) ks ∧ xs.length ≤ 40 * i + j ∧ Same H H3) ⟨xs, ks, hD2, tu.same sT, en.imp (fun k l h => .inl h) (fun k l h => by
          rcases h with h | h
          · exact .inl h
          · omega), by omega, s2⟩ (fun j H3 _ ⟨_, _, _, _, _, _, s3⟩ => SqL.of (s3 _ _ hrow)) ?_ ?_
        · rintro j v H3 H4 hj ⟨xs, ks, hD3, tu, en, lx, s3⟩ ⟨T1, z1, z2, rfl, hT1, rfl, e3, e4⟩
          obtain rfl := Option.some.inj e3
          obtain ⟨ro, hro, rfl⟩ := map_get e4
          have hjN : j < L.length := by rw [← rl]; exact hj
          have eR := Rm_at hR hro
          have sT1 := same_new hT1 (.tup [V.int (j : Int), optV ro])
          have s4 := s3.trans sT1
          refine ⟨T1, _, rfl, .inl (.inl upd_same), rfl, _, _, rfl, _, _, rfl, rfl, ?_⟩
          refine ⟨rfl, _, rfl, rfl, _, rfl, ?_⟩
          cases ro with
          | none =>
            refine iteNS rfl ?_
            refine ⟨xs, ks, sT1 _ _ hD3, tu.same sT1, en.imp (fun k l h => h.imp id fun h => ⟨h.1, by omega⟩) (fun k l h => ?_), by omega, s4⟩
            rcases h with h | h
            · exact .inl (.inl h)
            · by_cases e : l = j
              · exact .inr (.inr (by rw [h.1, e]; exact eR))
              · exact .inl (.inr ⟨h.1, by omega⟩)
          | some c =>
            refine iteNN (fun z => by cases z) ?_
            have ax := (cr.at_ x (List.mem_of_getElem? hx)).same s4
            obtain ⟨dx, edx⟩ := id ax.1
            refine ⟨_, rfl, _, rfl, t, _, _, _, rfl, rfl, SqT.of (s4 _ _ ht), atI_nat (refs_ix hx), x.a, dx, _, rfl, edx, x.a, dx, _, _, rfl, edx, pfs_day _ _ _ _, _, rfl, _, _, rfl, rfl, _, rfl, _, rfl, _, rfl, (by show 4 ≤ sizeLine; decide), fun t4 ht4 => ?_⟩
            have sT4 := same_new ht4 (.tup [V.int (x.d + c), V.int (i : Int), V.int c, V.int (j : Int)])
            have hD5 := sT4 _ _ (sT1 _ _ hD3)
            have ed := (q_at (parts_at hx)).2.1
            have en2 := en.snoc (S' := fun k l => (k < i ∧ l < L.length) ∨ k = i ∧ l < j + 1) ec eR (.inr ⟨rfl, by omega⟩) (fun k l h => h.imp id fun h => ⟨h.1, by omega⟩) (fun k l h => by
              rcases h with h | h
              · exact .inl (.inl h)
              · by_cases e : l = j
                · exact .inr ⟨h.1, e⟩
                · exact .inl (.inr ⟨h.1, by omega⟩))
            refine ⟨xs, hD5, Nat.lt_of_le_of_lt (show xs.length ≤ 1640 by omega) (by decide), xs ++ [.ref t4], _, upd_same, paired_snoc ((tu.same (sT1.trans sT4)).updL hD5) ⟨t4, rfl, ?_⟩, en2, by rw [List.length_append]; show xs.length + 1 ≤ _; omega, sameAt (s4.trans sT4) nD⟩
            rw [upd_ne (ne_of upd_same hD5 (by intro z; cases z)), upd_same, ed]
            rfl
        · rintro H3 ⟨xs, ks, hD3, tu, en, lx, s3⟩
          rw [rl] at en lx
          refine ⟨xs, ks, hD3, tu, en.imp (fun k l h => ?_) (fun k l h => ?_), by omega, s3⟩
          · rcases h with h | h
            · exact ⟨by omega, h.2⟩
            · exact ⟨by omega, h.2⟩
          · by_cases e : k = i
            · exact .inl (.inr ⟨e, h.2⟩)
            · exact .inl (.inl ⟨by omega, h.2⟩)
  · rintro H1 ⟨xs, ks, hD1, tu, en, lx, s1⟩
    rw [al] at en
    refine ⟨_, rfl, D, xs, ks, .non, rfl, rfl, SqL.of hD1, tu, fun e => q _ _ s1 (.inl ⟨rfl, fun k l hk hl nk => ?_⟩), fun v k lt => ?_⟩
    · subst e
      cases tu
      cases er : Rm Rs k l with
      | none => rfl
      | some x => exact nomatch en.cpl k l x ⟨hk, hl⟩ nk er
    · obtain ⟨⟨n, hx, hk⟩, least⟩ := lt
      obtain ⟨k2, hk2, t4, rfl, ht4⟩ := paired_get tu hx
      rw [hk] at hk2
      obtain rfl := Option.some.inj hk2
      obtain ⟨i, j, c, ⟨hi, hj⟩, ni, er, rfl⟩ := en.snd k (List.mem_of_getElem? hk)
      refine q _ _ s1 (.inr ⟨t4, i, j, c, rfl, ht4, hi, hj, ni, er, fun k l x hk hl nk ek z => ?_⟩)
      have lf := least _ (en.cpl k l x ⟨hk, hl⟩ nk ek)
      have : ltL [dQ (partsOf L) k + x, (k : Int), x, (l : Int)] [dQ (partsOf L) i + c, (i : Int), c, (j : Int)] = true := by
        rw [ltL_cons]
        rcases z with z | ⟨z1, z2⟩
        · exact .inl z
        · refine .inr ⟨z1, ?_⟩
          rw [ltL_cons]
          exact .inl (by have : k < i := z2; omega)
      rw [this] at lf
      cases lf
end
end Ur
/-! HC: histories: _find_stopped. -/
namespace Ur
open PySem PySem.Spec PyProof.Rows L2
theorem ixN_at {n j : Nat} (hj : j < n) : ixN n (j : Int) = some j := by
  unfold ixN
  rw [if_pos (by omega), if_pos (by omega)]
  simp
theorem Rm_set {Rs : List (List (Option Int))} {o p : Nat} {r : List (Option Int)} {v : Option Int} (h : Rs[o]? = some r) (hp : p < r.length) (i l : Nat) : Rm (Rs.set o (r.set p v)) i l = if i = o ∧ l = p then v else Rm Rs i l := by
  have ho : o < Rs.length := (List.getElem?_eq_some_iff.mp h).1
  by_cases e : i = o
  · subst e
    have e1 : (Rs.set i (r.set p v))[i]? = some (r.set p v) := by rw [List.getElem?_set_self ho]
    by_cases e2 : l = p
    · subst e2
      rw [if_pos ⟨rfl, rfl⟩]
      exact Rm_at e1 (by rw [List.getElem?_set_self hp])
    · rw [if_neg (fun z => e2 z.2)]
      unfold Rm
      rw [e1, h]
      show (match (r.set p v)[l]? with | some x => x | none => none) = (match r[l]? with | some x => x | none => none)
      rw [List.getElem?_set_ne (fun z => e2 z.symm)]
  · rw [if_neg (fun z => e z.1)]
    unfold Rm
    rw [List.getElem?_set_ne (fun z => e z.symm)]
theorem MatAt.set {N : Nat} {H : Hp} {as : List Addr} {Rs : List (List (Option Int))} {o p : Nat} {a : Addr} {r : List (Option Int)} {v : Option Int} (h : MatAt N H as Rs) (ha : as[o]? = some a) (hr : Rs[o]? = some r) : MatAt N (upd H a (.lst ((r.map optV).set p (optV v)))) as (Rs.set o (r.set p v)) := by
  have ho : o < Rs.length := (List.getElem?_eq_some_iff.mp hr).1
  refine ⟨h.al, by rw [List.length_set]; exact h.rl, h.nd, fun i b x e1 e2 => ?_⟩
  by_cases e : i = o
  · subst e
    rw [ha] at e1
    obtain rfl := Option.some.inj e1
    rw [List.getElem?_set_self ho] at e2
    obtain rfl := Option.some.inj e2
    rw [upd_same, List.map_set]
    exact ⟨rfl, by rw [List.length_set]; exact (h.row i a r ha hr).2⟩
  · rw [List.getElem?_set_ne (fun z => e z.symm)] at e2
    have ne : b ≠ a := fun z => by
      subst z
      have h1 := (List.getElem?_eq_some_iff.mp e1)
      have h2 := (List.getElem?_eq_some_iff.mp ha)
      exact e ((List.getElem_inj h.nd).mp (h1.2.trans h2.2.symm))
    rw [upd_ne ne]
    exact h.row i b x e1 e2
/-- the dict of those who stop: their counts, their blockers -/
def StopD (H : Hp) (kvs : List (Key × V)) (N : Nat) (Cn : Nat → Option Int) (Bn : Nat → Nat) : Prop := ∀ i, i < N → (Cn i = none ∧ valV kvs (Sum.inl (i : Int) : Key) = none) ∨ ∃ c a, Cn i = some c ∧ valV kvs (Sum.inl (i : Int) : Key) = some (.ref a) ∧ H a = some (.tup [.int c, .int (Bn i : Int)])
theorem StopD.known {H : Hp} {kvs : List (Key × V)} {N : Nat} {Cn : Nat → Option Int} {Bn : Nat → Nat} (h : StopD H kvs N Cn Bn) : Known kvs N Cn := fun i hi => by
  rcases h i hi with ⟨e1, e2⟩ | ⟨c, a, e1, e2, _⟩
  · rw [e1, e2]
    rfl
  · rw [e1, e2]
    rfl
theorem StopD.same {H H' : Hp} {kvs : List (Key × V)} {N : Nat} {Cn : Nat → Option Int} {Bn : Nat → Nat} (h : StopD H kvs N Cn Bn) (s : Same H H') : StopD H' kvs N Cn Bn := fun i hi => (h i hi).imp id fun ⟨c, a, e1, e2, e3⟩ => ⟨c, a, e1, e2, s _ _ e3⟩
theorem StopD.upd {H : Hp} {kvs : List (Key × V)} {N : Nat} {Cn : Nat → Option Int} {Bn : Nat → Nat} {b : Addr} {o o' : HO} (h : StopD H kvs N Cn Bn) (hb : H b = some o) (nt : ∀ xs, o ≠ .tup xs) : StopD (upd H b o') kvs N Cn Bn := fun i hi => (h i hi).imp id fun ⟨c, a, e1, e2, e3⟩ => ⟨c, a, e1, e2, by rw [upd_ne (ne_of e3 hb (fun z => nt _ z.symm))]; exact e3⟩
theorem StopD.put {H : Hp} {kvs : List (Key × V)} {N : Nat} {Cn : Nat → Option Int} {Bn : Nat → Nat} {i j : Nat} {c : Int} {a : Addr} (h : StopD H kvs N Cn Bn) (ha : H a = some (.tup [.int c, .int (j : Int)])) : StopD H (putK kvs (Sum.inl (i : Int)) (.ref a)) N (putC Cn i c) (putB Bn i j) := fun k hk => by
  rw [valV_put]
  by_cases e : k = i
  · subst e
    rw [putC_at, putB_at, if_pos rfl]
    exact .inr ⟨c, a, rfl, rfl, ha⟩
  · rw [putC_ne e, putB_ne e, if_neg (fun z => e (by have := Sum.inl.inj z; omega))]
    exact h k hk
/-- the counts and the blockers of a history, within bounds -/
structure HistC (N : Nat) (d : Nat → Int) (SP : SPt) (Cn : Nat → Option Int) (Bn : Nat → Nat) : Prop where
  is : IsHist N d SP Cn
  bl : Blkr N SP Cn Bn
  bd : ∀ i c, i < N → Cn i = some c → 0 ≤ c ∧ c ≤ 10 ^ 70
/-- what the function block stands on: the heap, its address, the tuple of painters, the painters, the posts -/
abbrev GBl := Hp → Addr → Addr → List Pt → SPt → Prop
def spBk (Gp : GBl) (C f : Addr) : Sp := fun vs H Q _ => ∃ (t : Addr) (L : List Pt) (SP : SPt) (i j : Nat) (cnt : Option Int), Gp H f t L SP ∧ vs = [.int (i : Int), .int (j : Int), optV cnt] ∧ H t = some (.tup (refsOf L)) ∧ Crew C H L ∧ i < L.length ∧ j < L.length ∧ (∀ c, cnt = some c → 0 ≤ c ∧ c ≤ 10 ^ 80) ∧
  ∀ r H', PairB (dQ (partsOf L)) SP i j cnt r → Same H H' → Q (optV r) H'
structure GOk (Gp : GBl) : Prop where
  same : ∀ H H' f t L SP, Same H H' → Gp H f t L SP → Gp H' f t L SP
  lam : ∀ H f t L SP, Gp H f t L SP → ∃ F, H f = some (LamO f F)
abbrev s__find_stopped : Stmt := (topS 4)
abbrev N_sc__find_stopped : List Str := ["painters", "block", "places", "blocks", "two", "one", "stopped", "found", "_", "place", "count", "blocker", "other"]
abbrev P__find_stopped : List Str := ["painters", "block"]
theorem sc__find_stopped : FnScope N_sc__find_stopped P__find_stopped (defScope s__find_stopped) := ⟨rfl, rfl, rfl, by decide +kernel, rfl, by decide +kernel, by decide +kernel⟩
def stE : Stmt → Expr
  | .Assign _ e _ => e
  | _ => .Constant .none 0 ⟨0, 0, 0, 0⟩
def lcSc : Expr → Scope
  | .ListComp _ _ s _ => s
  | _ => { kind := .function, names := [], isGenerator := false, isCoroutine := false }
def nth1 : List Stmt → Stmt
  | _ :: s :: _ => s
  | _ => .Pass ⟨0, 0, 0, 0⟩
abbrev fsSc : Scope := lcSc (stE (nth1 (defBody s__find_stopped)))
def spFS (Gp : GBl) (C : Addr) : Sp := fun vs H Q _ => ∃ (t f : Addr) (L : List Pt) (SP : SPt), vs = [.ref t, .ref f] ∧ H t = some (.tup (refsOf L)) ∧ Crew C H L ∧ Gp H f t L SP ∧
  ∀ sd kvs Cn Bn H', H' sd = some (.dK kvs) → StopD H' kvs L.length Cn Bn → HistC L.length (dQ (partsOf L)) SP Cn Bn → Same H H' → Q (.ref sd) H'
theorem crew_d0 {C : Addr} {H : Hp} {L : List Pt} (cr : Crew C H L) {i : Nat} (hi : i < L.length) : 0 ≤ dQ (partsOf L) i := by
  have hx := List.getElem?_eq_getElem hi
  rw [(q_at (parts_at hx)).2.1]
  exact (cr.at_ _ (List.getElem_mem hi)).2.d0
section
variable {P : Program} {w : World} {K : PySem.W.Frag} {mg : Str → Option Value} {base : Heap} {C : Addr} {Gp : GBl}
set_option maxHeartbeats 16000000 in
theorem ok_fs (hG : GOk Gp) (FnB : ∀ f, LOk P w K mg base 10 3 f (spBk Gp C f)) (D : Dfn K mg "_find_stopped" s__find_stopped P__find_stopped) (B : Blt mg) (CEB : Cal P w K mg base 3 "_earliest_block" P__earliest_block (spEB C)) : Cal P w K mg base 11 "_find_stopped" P__find_stopped (spFS Gp C) := by
  refine D.cal sc__find_stopped (fun vs H Q E h => ?_) fun f cdv A outer s H vs Q E hr h => ?_
  · obtain ⟨t, f, _, _, rfl, _⟩ := h
    rfl
  obtain ⟨t, f, L, SP, rfl, ht, cr, gp, q⟩ := h
  have hu := hu_of hr
  have few := cr.few
  refine ⟨_, (pss_cons (ps_set (i := 2) sc__find_stopped.nd rfl (Or.inr rfl) (pe_rng rfl B.range_ (pa_cons (pe_callB call_len_seq rfl B.len_ PySem.boot_len (pa_cons (pv 0) pa_nil)) pa_nil))) (pss_cons (ps_setLc (i := 3) (own := [("one", 5)]) (g := gName 5) (tt := tYes) rfl sc__find_stopped.nd rfl rfl (sw_true rfl rfl rfl (by decide +kernel)) (pi_rngV (pv 2)) (blkOk_by (N := N_sc__find_stopped) (sc := defScope s__find_stopped) (by decide +kernel)) (fun _ _ _ _ _ => pg_name (i := 5) sc__find_stopped.nd rfl (Or.inr rfl)) (fun _ _ _ _ _ => pts_nil) (fun _ _ _ _ _ => pe_lc (own := [("two", 4)]) (g := gName 4) (tt := tYes) rfl sc__find_stopped.nd (pi_rngV (pv 2)) (blkOk_by (N := N_sc__find_stopped) (sc := relS fsSc (defScope s__find_stopped)) (by decide +kernel)) (fun _ _ _ _ _ => pg_name (i := 4) sc__find_stopped.nd rfl (Or.inl rfl)) (fun _ _ _ _ _ => pts_nil) (fun _ _ _ _ _ => pe_callV (i := 1) FnB (hr.mono (by decide)) (pa_cons (pv 5) (pa_cons (pv 4) (pa_cons pe_non pa_nil)))))) (pss_cons (ps_set (i := 6) sc__find_stopped.nd rfl (Or.inl rfl) pe_dnewK) (pss_one (ps_while PassesOwn.never (pt_val pe_bl) (pss_cons (ps_set (i := 7) sc__find_stopped.nd rfl (Or.inl rfl) (pe_cal CEB (hr.mono (by decide)) (pa_cons (pv 0) (pa_cons (pv 3) (pa_cons (pv 6) pa_nil))))) (pss_cons (ps_if (pt_cmpR op_isN (pv 7) pe_non (nomark _)) (pss_one (ps_ret (pv 6))) pss_nil) (pss_cons (ps_asg (pv 7) (pg_tup rfl (pgs_cons (pg_name (i := 8) sc__find_stopped.nd rfl (Or.inl rfl)) (pgs_cons (pg_name (i := 9) sc__find_stopped.nd rfl (Or.inl rfl)) (pgs_cons (pg_name (i := 10) sc__find_stopped.nd rfl (Or.inl rfl)) (pgs_cons (pg_name (i := 11) sc__find_stopped.nd rfl (Or.inl rfl)) pgs_nil)))))) (pss_cons (ps_dput hu (pv 6) (pv 9) (pe_tup (pa_cons (pv 10) (pa_cons (pv 11) pa_nil))) rfl) (pss_one (ps_for PassesOwn.never rfl (pi_rngV (pv 2)) (pg_name (i := 12) sc__find_stopped.nd rfl (Or.inl rfl)) (pss_one (ps_if (pt_cmp (pc_dnotin hu (pv 12) (pv 6))) (pss_one (ps_asg (pe_callV (i := 1) FnB (hr.mono (by decide)) (pa_cons (pv 12) (pa_cons (pv 9) (pa_cons (pv 10) pa_nil)))) (pg_sub (pe_ix ix_list (pv 3) (pv 12) (fun _ _ => rfl)) (pv 9) set_list))) pss_nil))))))))))))), ?_⟩
  have rlen : (refsOf L).length = L.length := by unfold refsOf; rw [List.length_map]
  refine ⟨_, rfl, t, _, rfl, .inr (SqT.of ht), _, rfl, by omega, by omega, fun r nr => ?_⟩
  rw [rlen]
  have s0 := same_new nr (RngO 0 (L.length : Int) r)
  have toN : ((L.length : Int) - 0).toNat = L.length := by omega
  have call : ∀ (H1 : Hp) (i j : Nat) (cnt : Option Int) (Q1 : VK), Same H H1 → i < L.length → j < L.length → (∀ c, cnt = some c → 0 ≤ c ∧ c ≤ 10 ^ 80) → (∀ r H2, PairB (dQ (partsOf L)) SP i j cnt r → Same H1 H2 → Q1 (optV r) H2) → spBk Gp C f [.int (i : Int), .int (j : Int), optV cnt] H1 Q1 E0 :=
    fun H1 i j cnt Q1 s1 hi hj hc k => ⟨t, L, SP, i, j, cnt, hG.same _ _ _ _ _ _ s1 gp, rfl, s1 _ _ ht, cr.same s1, hi, hj, hc, k⟩
  have lamF : ∀ H1, Same H H1 → ∃ F, H1 f = some (LamO f F) := fun H1 s1 => hG.lam _ _ _ _ _ (hG.same _ _ _ _ _ _ s1 gp)
  have snone : ∀ {H1 H2 : Hp} {a : Addr}, Same H1 H2 → H2 a = none → H1 a = none := fun {H1 H2 a} s n => by
    cases e : H1 a with
    | none => rfl
    | some o => rw [s _ _ e] at n; cases n
  refine ⟨_, rfl, r, 0, (L.length : Int), rfl, upd_same, ⟨by omega, by omega, by omega, by omega⟩, fun bl nbl => ?_⟩
  rw [toN]
  have nbl0 : H bl = none := snone s0 nbl
  refine gen_it walk_range0 (fun i H1 => ∃ (as : List Addr) (Rs : List (List (Option Int))), H1 bl = some (.lst (as.map V.ref)) ∧ H1 r = some (RngO 0 (L.length : Int) r) ∧ as.length = i ∧ Rs.length = i ∧ as.Nodup ∧ bl ∉ as ∧ (∀ a ∈ as, H a = none) ∧
    (∀ (k : Nat) (a : Addr) (x : List (Option Int)), as[k]? = some a → Rs[k]? = some x → H1 a = some (.lst (x.map optV)) ∧ x.length = L.length ∧ ∀ (j : Nat) (y : Option Int), x[j]? = some y → PairB (dQ (partsOf L)) SP k j none y) ∧ Same H H1) ⟨[], [], upd_same, by rw [upd_ne (ne_of_none upd_same nbl)]; exact upd_same, rfl, rfl, List.nodup_nil, List.not_mem_nil, (fun a h => nomatch h), fun k a x e => by simp at e, sameAt s0 nbl0⟩ (fun _ _ _ _ => trivial) ?_ ?_
  · rintro i v H1 H2 hi ⟨as, Rs, hbl, hr1, al, Rl, nd, nb, new, rows, s1⟩ ⟨rfl, rfl⟩
    refine ⟨rfl, _, rfl, r, 0, (L.length : Int), rfl, hr1, ⟨by omega, by omega, by omega, by omega⟩, fun D nD => ?_⟩
    rw [toN]
    refine gen_it walk_range0 (fun j H3 => ∃ xs : List (Option Int), H3 D = some (.lst (xs.map optV)) ∧ xs.length = j ∧ (∀ (j' : Nat) (y : Option Int), xs[j']? = some y → PairB (dQ (partsOf L)) SP i j' none y) ∧ Same H2 H3) ⟨[], upd_same, rfl, fun j' y e => by simp at e, same_new nD _⟩ (fun _ _ _ _ => trivial) ?_ ?_
    · rintro j v H3 H4 hj ⟨xs, hD3, lx, hp, s3⟩ ⟨rfl, rfl⟩
      have s4 := s1.trans s3
      refine ⟨rfl, f, rfl, ⟨_, (lamF _ s4).choose_spec, _, rfl⟩, _, rfl, _, rfl, lamF _ s4, call _ i j none _ s4 hi hj (fun c z => by cases z) fun rr H5 pb s5 => ?_⟩
      refine ⟨xs.map optV, s5 _ _ hD3, by rw [List.length_map]; exact Nat.lt_of_le_of_lt (show xs.length ≤ 40 by omega) (by decide), xs ++ [rr], by rw [upd_same, List.map_append]; rfl, by rw [List.length_append, lx]; rfl, fun j' y e => ?_, sameAt (s3.trans s5) nD⟩
      by_cases c : j' < xs.length
      · rw [List.getElem?_append_left c] at e
        exact hp j' y e
      · rw [List.getElem?_append_right (by omega)] at e
        have e0 : j' - xs.length = 0 := by
          cases q : j' - xs.length with
          | zero => rfl
          | succ n => rw [q] at e; simp at e
        rw [e0] at e
        obtain rfl := Option.some.inj e
        have : j' = j := by omega
        subst this
        exact pb
    · rintro H3 ⟨xs, hD3, lx, hp, s3⟩
      have s4 := s1.trans s3
      have nDb : bl ≠ D := ne_of_none hbl nD
      have nDa : ∀ a ∈ as, a ≠ D := fun a ha => by
        obtain ⟨k, hk⟩ := List.mem_iff_getElem?.mp ha
        obtain ⟨x, hx⟩ : ∃ x, Rs[k]? = some x := ⟨_, List.getElem?_eq_getElem (by have := (List.getElem?_eq_some_iff.mp hk).1; omega)⟩
        exact ne_of_none (rows k a x hk hx).1 nD
      have hbl3 := s3 _ _ hbl
      refine ⟨as.map V.ref, hbl3, by rw [List.length_map]; exact Nat.lt_of_le_of_lt (show as.length ≤ 40 by omega) (by decide), as ++ [D], Rs ++ [xs], by rw [upd_same, List.map_append]; rfl, by rw [upd_ne (ne_of (s3 _ _ hr1) hbl3 (by intro z; unfold RngO at z; cases z))]; exact s3 _ _ hr1, by rw [List.length_append, al]; rfl, by rw [List.length_append, Rl]; rfl, ?_, ?_, ?_, ?_, sameAt s4 nbl0⟩
      · rw [List.nodup_append]
        exact ⟨nd, by simp, fun a ha b hb => by rw [List.mem_singleton.mp hb]; exact nDa a ha⟩
      · intro z
        rcases List.mem_append.mp z with z | z
        · exact nb z
        · exact nDb (List.mem_singleton.mp z)
      · intro a ha
        rcases List.mem_append.mp ha with ha | ha
        · exact new a ha
        · rw [List.mem_singleton.mp ha]
          exact snone s1 nD
      · intro k a x e1 e2
        by_cases c : k < i
        · rw [List.getElem?_append_left (by omega)] at e1 e2
          obtain ⟨g1, g2, g3⟩ := rows k a x e1 e2
          exact ⟨by rw [upd_ne (fun z => nb (by rw [← z]; exact List.mem_of_getElem? e1))]; exact s3 _ _ g1, g2, g3⟩
        · rw [List.getElem?_append_right (by omega)] at e1 e2
          have e0 : k - as.length = 0 := by
            cases q : k - as.length with
            | zero => rfl
            | succ n => rw [q] at e1; simp at e1
          rw [e0] at e1
          rw [show k - Rs.length = 0 by omega] at e2
          obtain rfl := Option.some.inj e1
          obtain rfl := Option.some.inj e2
          have : k = i := by omega
          subst this
          exact ⟨by rw [upd_ne nDb.symm]; exact hD3, lx, hp⟩
  · rintro H1 ⟨as, Rs, hbl, hr1, al, Rl, nd, nb, new, rows, s1⟩
    have M1 : MatAt L.length H1 as Rs := ⟨al, Rl, nd, fun i a x e1 e2 => ⟨(rows i a x e1 e2).1, (rows i a x e1 e2).2.1⟩⟩
    have pair0 : ∀ i j, i < L.length → j < L.length → PairB (dQ (partsOf L)) SP i j none (Rm Rs i j) := fun i j hi hj => by
      have e2 : Rs[i]? = some Rs[i] := List.getElem?_eq_getElem (by omega)
      obtain ⟨g1, g2, g3⟩ := rows i as[i] Rs[i] (List.getElem?_eq_getElem (by omega)) e2
      have e3 : (Rs[i])[j]? = some (Rs[i])[j] := List.getElem?_eq_getElem (by omega)
      rw [Rm_at e2 e3]
      exact g3 j _ e3
    refine fun sd nsd => ?_
    have nsd0 : H sd = none := snone s1 nsd
    have s2 := same_new nsd (.dK [])
    refine while_ex (fun m σ H2 => ∃ (kvs : List (Key × V)) (Cn : Nat → Option Int) (Bn : Nat → Nat) (Rs : List (List (Option Int))) (Kk : Int × Nat) (o4 o5 o7 o8 o9 o10 o11 o12 : Option V), σ = [some (.ref t), some (.ref f), some (.ref r), some (.ref bl), o4, o5, some (.ref sd), o7, o8, o9, o10, o11, o12] ∧ m = openN L.length Cn ∧ kvs.length + m ≤ L.length ∧
      H2 sd = some (.dK kvs) ∧ StopD H2 kvs L.length Cn Bn ∧ H2 bl = some (.lst (as.map V.ref)) ∧ H2 r = some (RngO 0 (L.length : Int) r) ∧ MatAt L.length H2 as Rs ∧ PairsOk L.length (dQ (partsOf L)) SP Cn (Rm Rs) ∧ (∀ i j x, i < L.length → j < L.length → Rm Rs i j = some x → x ≤ 10 ^ 70) ∧ Part L.length (dQ (partsOf L)) SP Cn Bn Kk ∧
      (∀ i c, i < L.length → Cn i = some c → 0 ≤ c ∧ c ≤ 10 ^ 70) ∧ Same H H2) (openN L.length fun _ => none) ⟨[], fun _ => none, fun _ => 0, Rs, (0, 0), _, _, _, _, _, _, _, _, rfl, rfl, ?_, upd_same, fun i hi => .inl ⟨rfl, rfl⟩, s2 _ _ hbl, s2 _ _ hr1, M1.same s2, fun i j hi hj _ => (pair0 i j hi hj).1, ?_, ?_, (fun i c _ z => by cases z), sameAt s1 nsd0⟩ ?_ (fun σ H Q Q' k h => h.elim fun b hb => ⟨b, hb.1, k _ _ hb.2⟩)
    · have le : openN L.length (fun _ => none) ≤ L.length := by
        unfold openN
        exact Nat.le_trans (List.length_filter_le _ _) (Nat.le_of_eq List.length_range)
      show 0 + openN L.length (fun _ => none) ≤ L.length
      omega
    · exact fun i j x hi hj e => (pair0 i j hi hj).2 x e
    · refine Part.start fun i n hi n0 z => ?_
      have := crew_d0 cr hi
      unfold KLt at z
      simp only [kOf] at z
      omega
    rintro m σ H2 ⟨kvs, Cn, Bn, Rs, Kk, o4, o5, o7, o8, o9, o10, o11, o12, rfl, rfl, lk, hsd, st, hbl2, hr2, M2, po, bd, pt, cb, sH2⟩
    refine ⟨true, rfl, ?_⟩
    refine ⟨_, rfl, _, rfl, _, rfl, t, bl, sd, L, as, Rs, kvs, Cn, rfl, sH2 _ _ ht, cr.same sH2, hbl2, M2, hsd, st.known, fun v H3 s3 fb => ?_⟩
    refine ⟨_, rfl, rfl, _, rfl, ?_⟩
    rcases fb with ⟨rfl, no⟩ | ⟨rr, i, j, c, rfl, htup, hi, hj, ni, er, least⟩
    · refine iteDT rfl ⟨_, rfl, ?_⟩
      obtain ⟨h1, h2⟩ := pt.end_ po fun k l hk hl nk => no k l hk hl nk
      exact q sd kvs Cn Bn H3 (s3 _ _ hsd) (st.same s3) ⟨h1, h2, cb⟩ (sH2.trans s3)
    refine iteDF (fun z => by cases z) ?_
    refine ⟨_, rfl, rr, _, rfl, .inl (.inl htup), rfl, _, _, rfl, _, _, rfl, _, _, rfl, _, _, rfl, rfl, ?_⟩
    obtain ⟨c0, pb⟩ := po.block hi hj ni er
    have c1 := bd i j c hi hj er
    have pt2 := pt.next po hi hj ni er least
    have sH3 := sH2.trans s3
    have op := openN_put (c := c) hi ni
    refine ⟨_, rfl, _, rfl, by show 2 ≤ sizeLine; decide, fun tp ntp => ?_⟩
    have sT := same_new ntp (.tup [V.int c, V.int (j : Int)])
    have sd4 := sT _ _ (s3 _ _ hsd)
    refine ⟨_, rfl, _, rfl, sd, _, rfl, DPut.k (k := (Sum.inl (i : Int) : Key)) sd4 (Nat.lt_of_le_of_lt (show kvs.length ≤ 40 by omega) (by decide)), ?_⟩
    have vn : valV kvs (Sum.inl (i : Int) : Key) = none := by
      rcases st i hi with ⟨_, e⟩ | ⟨c', _, e, _⟩
      · exact e
      · rw [ni] at e
        cases e
    have lput : (putK kvs (Sum.inl (i : Int) : Key) (.ref tp)).length = kvs.length + 1 := by
      rw [putK_new _ vn, List.length_append]
      rfl
    have kp : ∀ (b : Addr) (o : HO), H2 b = some o → (∀ z, o ≠ .dK z) → upd (upd H3 tp (.tup [V.int c, V.int (j : Int)])) sd (.dK (putK kvs (Sum.inl (i : Int)) (.ref tp))) b = some o := fun b o e n => by
      have e2 := sT _ _ (s3 _ _ e)
      rw [upd_ne (ne_of e2 sd4 (n _))]
      exact e2
    have kS : Same H (upd (upd H3 tp (.tup [V.int c, V.int (j : Int)])) sd (.dK (putK kvs (Sum.inl (i : Int)) (.ref tp)))) := sameAt (sH3.trans sT) nsd0
    have st2 : StopD (upd (upd H3 tp (.tup [V.int c, V.int (j : Int)])) sd (.dK (putK kvs (Sum.inl (i : Int)) (.ref tp)))) (putK kvs (Sum.inl (i : Int)) (.ref tp)) L.length (putC Cn i c) (putB Bn i j) := (((st.same s3).same sT).put (i := i) upd_same).upd sd4 (fun xs z => by cases z)
    have M5 : MatAt L.length (upd (upd H3 tp (.tup [V.int c, V.int (j : Int)])) sd (.dK (putK kvs (Sum.inl (i : Int)) (.ref tp)))) as Rs := ⟨M2.al, M2.rl, M2.nd, fun k a x e1 e2 => ⟨kp _ _ (M2.row k a x e1 e2).1 (fun z e => by cases e), (M2.row k a x e1 e2).2⟩⟩
    refine ⟨_, rfl, r, 0, (L.length : Int), rfl, kp _ _ hr2 (fun z e => by unfold RngO at e; cases e), ⟨by omega, by omega, by omega, by omega⟩, ?_⟩
    rw [toN]
    refine for_it walk_range0 (fun k σ H5 => ∃ (Rs' : List (List (Option Int))) (o12 : Option V), σ = [some (.ref t), some (.ref f), some (.ref r), some (.ref bl), o4, o5, some (.ref sd), some (.ref rr), some (.int (dQ (partsOf L) i + c)), some (.int (i : Int)), some (.int c), some (.int (j : Int)), o12] ∧
      H5 sd = some (.dK (putK kvs (Sum.inl (i : Int)) (.ref tp))) ∧ StopD H5 (putK kvs (Sum.inl (i : Int)) (.ref tp)) L.length (putC Cn i c) (putB Bn i j) ∧ H5 bl = some (.lst (as.map V.ref)) ∧ H5 r = some (RngO 0 (L.length : Int) r) ∧ MatAt L.length H5 as Rs' ∧
      (∀ a l, a < L.length → l < L.length → (l ≠ i ∨ k ≤ a) → Rm Rs' a l = Rm Rs a l) ∧ (∀ a, a < k → a < L.length → putC Cn i c a = none → PairB (dQ (partsOf L)) SP a i (some c) (Rm Rs' a i)) ∧ (∀ i j x, i < L.length → j < L.length → Rm Rs' i j = some x → x ≤ 10 ^ 70) ∧ Same H H5)
      ⟨Rs, o12, rfl, upd_same, st2, kp _ _ hbl2 (fun z e => by cases e), kp _ _ hr2 (fun z e => by unfold RngO at e; cases e), M5, fun a l _ _ _ => rfl, (fun a ha => absurd ha (Nat.not_lt_zero a)), bd, kS⟩ (fun _ _ _ _ _ => trivial) ?_ ?_
    · rintro k v σ H5 H6 hk ⟨Rs', o12, rfl, hsd5, st5, hbl5, hr5, M5, same5, new5, bd5, sH5⟩ ⟨rfl, rfl⟩
      refine ⟨_, rfl, _, rfl, sd, _, rfl, DGet.k (k := (Sum.inl (k : Int) : Key)) hsd5, _, rfl, ?_⟩
      rcases st5 k hk with ⟨ek, ev⟩ | ⟨c', a', ek, ev, _⟩
      · rw [ev]
        refine iteT ?_
        obtain ⟨a, ha⟩ : ∃ a, as[k]? = some a := ⟨_, List.getElem?_eq_getElem (by rw [M5.al]; exact hk)⟩
        obtain ⟨row, hrow⟩ : ∃ x, Rs'[k]? = some x := ⟨_, List.getElem?_eq_getElem (by rw [M5.rl]; exact hk)⟩
        refine ⟨f, rfl, ⟨_, (lamF _ sH5).choose_spec, _, rfl⟩, _, rfl, _, rfl, _, rfl, lamF _ sH5, call _ k i (some c) _ sH5 hk hi (fun x z => by cases z; omega) fun rr2 H7 pb s7 => ?_⟩
        obtain ⟨m1, m2⟩ := (M5.same s7).row k a row ha hrow
        refine ⟨_, rfl, _, rfl, bl, _, _, _, rfl, rfl, SqL.of (s7 _ _ hbl5), atI_nat (show (as.map V.ref)[k]? = some (V.ref a) by rw [List.getElem?_map, ha]; rfl), _, rfl, a, _, _, i, rfl, rfl, m1, ixN_at (by rw [List.length_map, m2]; exact hi), ?_⟩
        have nab : bl ≠ a := fun z => nb (by rw [z]; exact List.mem_of_getElem? ha)
        have rm := Rm_set (v := rr2) hrow (show i < row.length by rw [m2]; exact hi)
        refine ⟨Rs'.set k (row.set i rr2), _, rfl, ?_, (st5.same s7).upd m1 (fun xs z => by cases z), ?_, ?_, (M5.same s7).set ha hrow, fun x l hx hl o => ?_, fun x hx hxN nx => ?_, fun x l y hx hl e => ?_, sameAt (sH5.trans s7) (new a (List.mem_of_getElem? ha))⟩
        · rw [upd_ne (ne_of (s7 _ _ hsd5) m1 (by intro z; cases z))]
          exact s7 _ _ hsd5
        · rw [upd_ne nab]
          exact s7 _ _ hbl5
        · rw [upd_ne (ne_of (s7 _ _ hr5) m1 (by intro z; unfold RngO at z; cases z))]
          exact s7 _ _ hr5
        · rw [rm, if_neg (by omega)]
          exact same5 x l hx hl (by omega)
        · rw [rm]
          by_cases e : x = k
          · subst e
            rw [if_pos ⟨rfl, rfl⟩]
            exact pb
          · rw [if_neg (fun z => e z.1)]
            exact new5 x (by omega) hxN nx
        · rw [rm] at e
          by_cases c : x = k ∧ l = i
          · rw [if_pos c] at e
            exact pb.2 y e
          · rw [if_neg c] at e
            exact bd5 x l y hx hl e
      · rw [ev]
        refine iteF ?_
        exact ⟨Rs', _, rfl, hsd5, st5, hbl5, hr5, M5, fun x l hx hl o => same5 x l hx hl (by omega), fun x hx hxN nx => by
          by_cases e : x = k
          · rw [e, ek] at nx
            cases nx
          · exact new5 x (by omega) hxN nx, bd5, sH5⟩
    · rintro σ H5 ⟨Rs', o12, rfl, hsd5, st5, hbl5, hr5, M5, same5, new5, bd5, sH5⟩
      refine ⟨openN L.length (putC Cn i c), op, _, putC Cn i c, putB Bn i j, Rs', _, o4, o5, _, _, _, _, _, o12, rfl, rfl, by rw [lput]; omega, hsd5, st5, hbl5, hr5, M5, po.put hi (fun k l hk hl nk nl => same5 k l hk hl (.inl nl)) (fun k hk nk => (new5 k hk hk nk).1), bd5, pt2, fun x y hx e => ?_, sH5⟩
      by_cases e2 : x = i
      · rw [e2, putC_at] at e
        obtain rfl := Option.some.inj e
        exact ⟨c0, c1⟩
      · rw [putC_ne e2] at e
        exact cb x y hx e
end
end Ur
/-! UrZ: defs that may raise, called; own errors with one field, made and raised. -/
namespace Ur
open PySem PySem.Spec PyProof.Rows L2
/-- a name of the module that can be called and may raise -/
def CalX (P : Program) (w : World) (K : PySem.W.Frag) (mg : Str → Option Value) (base : Heap) (k : Nat) (x : Str) (ps : List Str) (sp : Sp) : Prop :=
  ∃ (f : Addr) (fd : FuncData), FnOk P w K mg base (L2.CX P w) k f fd ps sp ∧ PySem.W.keepIn K (.ref f) = true ∧ Binds K fd ps [] ∧ mg x = some (.ref f)
def MethX (P : Program) (w : World) (K : PySem.W.Frag) (mg : Str → Option Value) (base : Heap) (C : Addr) (m : Str) (k : Nat) (ps : List Str) (sp : Sp) : Prop := ∃ f fd, Meth K C m f ∧ FnOk P w K mg base (L2.CX P w) k f fd ps sp ∧ Binds K fd ps []
section
variable {P : Program} {w : World} {K : PySem.W.Frag} {mg : Str → Option Value} {base : Heap} {k : Nat} {x : Str} {ps : List Str} {sp : Sp} {st : Stmt}
theorem Dfn.calX {N : List Str} (D : Dfn K mg x st ps) (S : FnScope N ps (defScope st)) (len : ∀ vs H Q E, sp vs H Q E → vs.length = ps.length)
    (hbody : ∀ (f : Addr) (cdv : Value) (A : Around) (out : List Env) (s : Shared) (H : Hp) (vs : List V) (Q : VK) (E : XK), Room k (A.deeper (envOfC x (defScope st) s.heap.objs.size f cdv)) → sp vs H Q E →
      ∃ t, PSs (cxOf (L2.CX P w) P w K mg base N x (defScope st) f cdv A out s H E) (defBody st) t ∧ t { nx := fun _ H' => Q .non H', rt := Q } (start N vs) H) : CalX P w K mg base (k + 1) x ps sp := by
  obtain ⟨f, fd, F, b, m⟩ := D
  exact ⟨f, fd, F.okX S len (hbody f), F.kp, b, m⟩
end
section
variable {X : Cx} {k : Nat} {x m : Str} {ps : List Str} {sp : Sp} {o e : Expr} {es : List Expr} {t : TA} {ta : TE} {p pos apos : Pos} {E : XK} {C : Addr} {pl : Sem Bool}
theorem pe_calX (c : CalX X.prog X.w X.K X.mg X.base k x ps sp) (hr : Room k X.A) (hx : Passes (L2.CX X.prog X.w) X E) (ha : PA X (e :: es) t) (hg : Gl X x := by rfl) (hdb : (x == ("__debug__" : Str)) = false := by decide)
    (he : starEach (e :: es) X.env = (false, eval e X.env) :: starEach es X.env := by rfl) (hpl : (backTo pos (starEach es X.env)).any (·.1) = false := by rfl) :
    PE X (.Call (.Name x p) (e :: es) [] pos) (tCall sp [] E t) := by
  obtain ⟨f, fd, F, kp, b, mm⟩ := c
  exact pe_call F hr hg mm kp b .nil hx ha (hdb := hdb) (he := he) (hpl := hpl)
theorem pe_meX (he : PE X o ta) (c : Cls X.K C) (hm : MethX X.prog X.w X.K X.mg X.base C m k ps sp) (hr : Room k X.A) (hx : Passes (L2.CX X.prog X.w) X E) (ha : PA X (e :: es) t)
    (hst : starEach (e :: es) X.env = (false, eval e X.env) :: starEach es X.env := by rfl) (hpl : (backTo pos (starEach es X.env)).any (·.1) = false := by rfl)
    (ht : eval (.Call (.Attribute o m apos) (e :: es) [] pos) X.env = (do let ov ← eval o X.env; standAt apos.atName; let (f, first) ← holding [ov] (getMethod ov m pl); callWith pos f first (backTo pos (starEach (e :: es) X.env)) (backToKw pos (keywordEach [] X.env))) := by rfl) :
    PE X (.Call (.Attribute o m apos) (e :: es) [] pos) (tMeth C m sp [] E ta t) := by
  obtain ⟨f, fd, h1, F, b⟩ := hm
  exact pe_meth he c h1 F hr b .nil hx ha hst hpl ht
/-- what a callee lets out leaves the def too -/
theorem passD (hs : X.stack = X.env :: X.outer) (hf : X.env.frame = some X.env.locals) (hex : X.ex = []) {E₁ : Value → Shared → Prop}
    (hx : X.xe = fun e s' => wpAny (model X.prog X.w) X.A (leaving X.env e) (fun _ s'' => L2.CX X.prog X.w X.outer X.H_0 X.s_0 E e s'') E₁ s') : Passes (L2.CX X.prog X.w) X E :=
  passes_call (takes_of hs hf hex hx) fun _ _ _ _ h => h
end
/-! ### own errors with one field -/
/-- self.f = v, nothing else -/
def spXI (C : Addr) (f : Str) : Sp := fun vs H Q _ => ∃ (a : Addr) (v : V), vs = [.ref a, v] ∧ H a = some (exo a C none) ∧ ∀ dx, H dx = none → dx ≠ a → Q .non (upd (upd H dx (exd dx [(f, v)])) a (exo a C (some dx)))
/-- what the written part says of such a class: its place C, the field's name f -/
structure ErrK (K : PySem.W.Frag) (C : Addr) (f : Str) : Prop where
  o : OexC K C
  no : PySem.W.findIn K (.ref C) f = some none
  x : XfC K C
  c : ExcC K C
/-- the class at C of the name x can be made with one value -/
def ErrOk (P : Program) (w : World) (K : PySem.W.Frag) (mg : Str → Option Value) (base : Heap) (C : Addr) (x f : Str) : Prop :=
  mg x = some (.ref C) ∧ ErrK K C f ∧ ∃ (fI : Addr) (fd : FuncData) (ps : List Str), PySem.W.findIn K (.ref C) "__init__" = some (some (.ref fI)) ∧ PySem.W.typeIn K (.ref fI) = some (.type "function") ∧ FnOk P w K mg base (L2.CX P w) 1 fI fd ps (spXI C f) ∧ Binds K fd ps []
section
variable {X : Cx} {x f : Str} {C : Addr} {e : Expr} {es : List Expr} {t : TA} {p pos : Pos}
theorem pmk_err (h : ErrOk X.prog X.w X.K X.mg X.base C x f) (hr : Room 2 X.A) (ha : PA X (e :: es) t) (hg : Gl X x := by rfl)
    (hdb : (x == ("__debug__" : Str)) = false := by decide) (he : starEach (e :: es) X.env = (false, eval e X.env) :: starEach es X.env := by rfl) (hpl : (backTo pos (starEach es X.env)).any (·.1) = false := by rfl) :
    PMk X (.Call (.Name x p) (e :: es) [] pos) (tMkO C (spXI C f) [] t) := by
  obtain ⟨m, ek, fI, fd, ps, h1, h2, F, b⟩ := h
  exact pmk_oex ek.o h1 h2 F hr b .nil passL hg m ha hdb he hpl
end
theorem Un.swap {H : Hp} {a dx : Addr} {o1 o2 o3 u : HO} (ha : H a = none) (n : dx ≠ a) : upd (del (upd (upd (upd H a o1) dx o2) a o3) a) dx u = upd H dx u := by
  funext b
  by_cases hb : b = dx
  · rw [hb, upd_same, upd_same]
  · rw [upd_ne hb, upd_ne hb]
    by_cases hc : b = a
    · rw [hc, del_same, ha]
    · rw [del_ne hc, upd_ne hc, upd_ne hb, upd_ne hc]
/-- the reading of X(v) behind its value -/
theorem err_made {C : Addr} {f : Str} {v : V} {H : Hp} {Q : XK} (h : ∀ dx, H dx = none → Q (.ref C) (some dx) (upd H dx (.xd [(f, v)]))) :
    ([v] : List V).length ≤ 1000 ∧ ∀ a, H a = none → spXI C f (.ref a :: ([v] ++ [])) (upd H a (exo a C none))
      (fun u H2 => u = .non ∧ ∃ (d : Addr) (fs : List (Str × V)), H2 a = some (exo a C (some d)) ∧ H2 d = some (exd d fs) ∧ H d = none ∧ Q (.ref C) (some d) (upd (del H2 a) d (.xd fs))) (fun _ _ _ => False) := by
  refine ⟨by show 1 ≤ 1000; decide, fun a ha => ⟨a, v, rfl, upd_same, fun dx hd n => ⟨rfl, dx, [(f, v)], upd_same, ?_, ?_, ?_⟩⟩⟩
  · rw [upd_ne n, upd_same]
  · rw [upd_ne n] at hd
    exact hd
  · rw [upd_ne n] at hd
    rw [Un.swap ha n]
    exact h dx hd
/-- E of a def that lets this error out, its value v, from the heap H -/
def Lets (E : XK) (C : Addr) (f : Str) (v : V) (H : Hp) : Prop := ∀ dx, H dx = none → E (.ref C) (some dx) (upd H dx (.xd [(f, v)]))
end Ur
/-! UrT: defs that make lambdas: their code object is known; what stays while tables grow. -/
namespace Ur
open PySem PySem.Spec PyProof.Rows L2
section
variable {P : Program} {w : World} {K : PySem.W.Frag} {mg : Str → Option Value} {base : Heap} {k : Nat} {f : Addr} {fd : FuncData} {ps : List Str} {sp : Sp} {x qual : Str} {st : Stmt}
/-- as runG, for a def whose code object stands at c -/
theorem runGc {N : List Str} {c : Addr} (F : Fun K x qual st f fd) (code : fd.code = .ref c) (S : FnScope N ps (defScope st)) (len : ∀ vs H Q E, sp vs H Q E → vs.length = ps.length)
    (hbody : ∀ (A : Around) (out : List Env) (s : Shared) (H : Hp) (vs : List V) (Q : VK) (E : XK), Still A → Room k (A.deeper (envOfC qual (defScope st) s.heap.objs.size f (.ref c))) → sp vs H Q E → ∃ t, PSs (cxOf CX0 P w K mg base N qual (defScope st) f (.ref c) A out s H E).nox (defBody st) t ∧ t { nx := fun _ H' => Q .non H', rt := Q } (start N vs) H) :
    FnG P w K mg base (k + 1) f fd ps sp := by
  obtain ⟨oc, od, kV, doc, pm, an, cdv, ct, osl, efd, lk, hcd⟩ := F.ex
  subst efd
  have ec : cdv = .ref c := code
  subst ec
  constructor
  · exact len
  intro A out s H args us vs Q E still room e0 hb rel ask
  have old : ∀ b o, base.get? b = some o → s.heap.get? b = some o := fun b o e => (e0.bs b o e).1
  have kin : K.In s.heap := e0.mod.kin.keeps old
  have kinds : ∀ y ∈ ps.zip us, (defScope st).names.lookup y.1 = some .local ∨ ((defScope st).names.lookup y.1 = some .cell ∧ ((cellsFrom (s.heap.objs.size + 1) (defScope st).names []).lookup y.1).isSome = true) := by
    intro y hy
    cases S.par y.1 (List.of_mem_zip (a := y.1) (b := y.2) hy).1 with
    | inl h => exact Or.inl h
    | inr h => exact Or.inr ⟨h, PySem.W.cellsFrom_some _ _ _ (Or.inl h)⟩
  refine codeAny_call_function room.depth (kin _ _ lk) rfl S.co S.gen rfl (PySem.W.codeRec_of kin hcd) (hb _ _ _ _ (wpAny_newFunctionEnv_cells S.kind kinds fun env he s1 made => ?_))
  subst he
  refine ⟨(e0.mod.nolimit.keeps old).keeps made.toInCall.keep, codeAny_func ?_⟩
  obtain ⟨t, ht0, hq⟩ := hbody A out s H vs Q E still (room.deeper _) ask
  have J : Inv (cxOf CX0 P w K mg base N qual (defScope st) f (.ref c) A out s H E) [] (start N vs) H s1 := inv_start S room.hd e0 (len _ _ _ _ ask) rel made
  refine wpAny_mono (ht0.nox.run [] s1 (start N vs) H _ J hq) ?_ (fun _ _ z => z)
  intro fl s2 done
  match fl, done with
  | .ret u, ⟨v, σ', H', J', rv, q⟩ => exact ⟨v, H', J'.os, J'.bare, J'.base, J'.hok, rv, q⟩
  | .next, ⟨σ', H', J', q⟩ => exact ⟨V.non, H', J'.os, J'.bare, J'.base, J'.hok, rfl, q⟩
  | .brk, ⟨_, _, _, q⟩ => exact q.elim
  | .cont, ⟨_, _, _, q⟩ => exact q.elim
/-- a def of the text, where it stands, with its code object -/
def DfnT (K : PySem.W.Frag) (mg : Str → Option Value) (x : Str) (st : Stmt) (ps : List Str) (c : Addr) : Prop :=
  ∃ (f : Addr) (fd : FuncData), Fun K x x st f fd ∧ Binds K fd ps [] ∧ mg x = some (.ref f) ∧ fd.code = .ref c
theorem DfnT.calG {N : List Str} {c : Addr} (D : DfnT K mg x st ps c) (S : FnScope N ps (defScope st)) (len : ∀ vs H Q E, sp vs H Q E → vs.length = ps.length)
    (hbody : ∀ (f : Addr) (A : Around) (out : List Env) (s : Shared) (H : Hp) (vs : List V) (Q : VK) (E : XK), Still A → Room k (A.deeper (envOfC x (defScope st) s.heap.objs.size f (.ref c))) → sp vs H Q E → ∃ t, PSs (cxOf CX0 P w K mg base N x (defScope st) f (.ref c) A out s H E).nox (defBody st) t ∧ t { nx := fun _ H' => Q .non H', rt := Q } (start N vs) H) :
    CalG P w K mg base (k + 1) x ps sp := by
  obtain ⟨f, fd, F, b, m, code⟩ := D
  exact ⟨f, fd, runGc F code S len (hbody f), F.kp, b, m⟩
end
/-! ### what stays while tables grow -/
/-- all stands as it stood, but what is at p, and the tables -/
def KeepN (p : Addr) (H H' : Hp) : Prop := ∀ b o, H b = some o → b ≠ p → (∀ ps, o ≠ .tbl ps) → H' b = some o
theorem KeepN.refl {p : Addr} {H : Hp} : KeepN p H H := fun _ _ h _ _ => h
theorem KeepN.trans {p : Addr} {H H1 H2 : Hp} (a : KeepN p H H1) (b : KeepN p H1 H2) : KeepN p H H2 := fun c o h n t => b c o (a c o h n t) n t
theorem KeepN.of {p : Addr} {H H' : Hp} (k : Keep p H H') : KeepN p H H' := fun b o h n _ => k b o h n
theorem KeepN.same {p : Addr} {H H' : Hp} (s : Same H H') : KeepN p H H' := fun b o h _ _ => s b o h
theorem KeepN.ext {p : Addr} {H H' : Hp} (e : LamX.ExtN H H') : KeepN p H H' := fun b o h _ t => e b o h t
theorem KeepN.new {p a : Addr} {H H' : Hp} {o : HO} (k : KeepN p H H') (h : H' a = none) : KeepN p H (upd H' a o) := k.trans (KeepN.same (same_new h o))
theorem DqN.keepN {H H' : Hp} {np : Addr} {kk : List (Key × V)} (k : KeepN np H H') (hn : H np = some (.dK kk)) : ∀ {n : Nat} {v : V} {d : PyData}, DqN H np n v d → DqN H' np n v d
  | 0, _, _, h => h
  | n + 1, v, d, h => by
    rcases h with h | ⟨a, xs, ds, e, ha, ns, ps, ed⟩ | ⟨a, xs, ds, e, ha, ps, ed⟩ | ⟨a, kvs, es, e, na, ha, ps, ed⟩
    · exact .inl h
    · exact .inr (.inl ⟨a, xs, ds, e, k _ _ ha (ne_of ha hn (by intro z; cases z)) (fun _ z => by cases z), ns, Paired.map2 (fun _ _ => DqN.keepN k hn) ps, ed⟩)
    · exact .inr (.inr (.inl ⟨a, xs, ds, e, k _ _ ha (ne_of ha hn (by intro z; cases z)) (fun _ z => by cases z), Paired.map2 (fun _ _ => DqN.keepN k hn) ps, ed⟩))
    · exact .inr (.inr (.inr ⟨a, kvs, es, e, na, k _ _ ha na (fun _ z => by cases z), Paired.map2 (fun _ _ q => ⟨q.1, DqN.keepN k hn q.2⟩) ps, ed⟩))
theorem DqN.any {H : Hp} {np : Addr} {n : Nat} {v : V} {d : PyData} (h : DqN H np n v d) : Any H v d := ⟨np, n, h⟩
theorem Any.same {H H' : Hp} {v : V} {d : PyData} (s : Same H H') (h : Any H v d) : Any H' v d := let ⟨np, n, h⟩ := h; ⟨np, n, h.same s⟩
theorem tabs_keep {T : List (Addr × Str)} {p : Addr} {H H' : Hp} {kk : List (Key × V)} (k : Keep p H H') (hp : H p = some (.dK kk)) (t : LamX.Tabs T H) : LamX.Tabs T H' := by
  intro q hq
  obtain ⟨ps, h1, h2, h3⟩ := t q hq
  refine ⟨ps, k _ _ h1 (ne_of h1 hp (by intro z; cases z)), h2, fun pos cv hc => ?_⟩
  obtain ⟨c, e1, e2⟩ := h3 pos cv hc
  refine ⟨c, e1, k _ _ e2 (ne_of e2 hp (by intro z; unfold LamX.CodeO at z; cases z))⟩
theorem tabs_same {T : List (Addr × Str)} {H H' : Hp} (s : Same H H') (t : LamX.Tabs T H) : LamX.Tabs T H' := t.ext s
end Ur
/-! HD: histories: rows_by, _rows_of. -/
namespace Ur
open PySem PySem.Spec PyProof.Rows L2
/-- a row of a history -/
structure Rw where
  nm : Str
  cnt : Option Int
  stop : Option (Int × Int × Str)
def StopAt (H : Hp) (v : V) : Option (Int × Int × Str) → Prop
  | none => v = .non
  | some (d, p, b) => ∃ t, v = .ref t ∧ H t = some (.tup [.int d, .int p, .str b])
def RwAt (H : Hp) (a : Addr) (r : Rw) : Prop := ∃ v, H a = some (.tup [.str r.nm, optV r.cnt, v]) ∧ StopAt H v r.stop
theorem StopAt.keep {H H' : Hp} {v : V} : ∀ {s : Option (Int × Int × Str)}, StopAt H v s → (∀ b xs, H b = some (.tup xs) → H' b = some (.tup xs)) → StopAt H' v s
  | none, h, _ => h
  | some (_, _, _), ⟨t, e, h⟩, k => ⟨t, e, k _ _ h⟩
theorem RwAt.keep {H H' : Hp} {a : Addr} {r : Rw} (h : RwAt H a r) (k : ∀ b xs, H b = some (.tup xs) → H' b = some (.tup xs)) : RwAt H' a r := let ⟨v, e, s⟩ := h; ⟨v, k _ _ e, s.keep k⟩
/-- rows -/
abbrev RowsAt (H : Hp) (as : List Addr) (rs : List Rw) : Prop := Paired (fun a r => RwAt H a r) as rs
theorem RowsAt.keep {H H' : Hp} {as : List Addr} {rs : List Rw} (h : RowsAt H as rs) (k : ∀ b xs, H b = some (.tup xs) → H' b = some (.tup xs)) : RowsAt H' as rs := Paired.mapP h fun _ _ q => q.keep k
theorem RowsAt.same {H H' : Hp} {as : List Addr} {rs : List Rw} (h : RowsAt H as rs) (s : Same H H') : RowsAt H' as rs := h.keep fun b xs e => s _ _ e
theorem RowsAt.updL {H : Hp} {D : Addr} {as : List Addr} {rs : List Rw} {ys : List V} {o : HO} (h : RowsAt H as rs) (hD : H D = some (.lst ys)) : RowsAt (upd H D o) as rs := h.keep fun b xs e => by rw [upd_ne (ne_of e hD (by intro z; cases z))]; exact e
/-- the row of a painter in a history -/
def rowQ (qs : List Quad) (Cn : Nat → Option Int) (Bn : Nat → Nat) (i : Nat) : Rw := ⟨nQ qs i, Cn i, match Cn i with | none => none | some c => some (dQ qs i + c, pQ qs i + c * sQ qs i, nQ qs (Bn i))⟩
def HistR (qs : List Quad) (SP : SPt) (rs : List Rw) : Prop := ∃ Cn Bn, HistC qs.length (dQ qs) SP Cn Bn ∧ rs = (List.range qs.length).map (rowQ qs Cn Bn)
/-- there is one history only -/
theorem histR_uniq {qs : List Quad} {SP : SPt} {rs rs' : List Rw} (d0 : ∀ i, i < qs.length → 0 ≤ dQ qs i) (sy : ∀ i n j m k l, SP i n j m → SP i n k l → SP j m k l) (h : HistR qs SP rs) (h' : HistR qs SP rs') : rs = rs' := by
  obtain ⟨Cn, Bn, hc, rfl⟩ := h
  obtain ⟨Cn', Bn', hc', rfl⟩ := h'
  refine List.map_congr_left fun i hi => ?_
  have hi := List.mem_range.mp hi
  have e := hist_uniq d0 hc.is hc'.is hi
  have is' : IsHist qs.length (dQ qs) SP Cn' := hc'.is
  unfold rowQ
  rw [← e]
  cases ec : Cn i with
  | none => rfl
  | some c =>
    have b' : Blkr qs.length SP Cn Bn' := fun k x hk ek => by
      have ek' : Cn' k = some x := by rw [← hist_uniq d0 hc.is hc'.is hk]; exact ek
      obtain ⟨h1, m, m0, h2, h3⟩ := hc'.bl k x hk ek'
      exact ⟨h1, m, m0, h2, fun y ey => h3 y (by rw [← hist_uniq d0 hc.is hc'.is h1]; exact ey)⟩
    have eb := blkr_uniq hc.is sy hc.bl b' hi ec
    show (⟨_, _, some (_, _, nQ qs (Bn i))⟩ : Rw) = ⟨_, _, some (_, _, nQ qs (Bn' i))⟩
    rw [eb]
theorem parts_len (L : List Pt) : (partsOf L).length = L.length := by unfold partsOf; rw [List.length_map]
abbrev s_rows_by : Stmt := (topS 3)
abbrev N_sc_rows_by : List Str := ["painters", "block", "stopped", "rows", "place", "painter", "count", "blocker", "stop"]
abbrev P_rows_by : List Str := ["painters", "block"]
theorem sc_rows_by : FnScope N_sc_rows_by P_rows_by (defScope s_rows_by) := ⟨rfl, rfl, rfl, by decide +kernel, rfl, by decide +kernel, by decide +kernel⟩
def spRB (Gp : GBl) (C : Addr) : Sp := fun vs H Q _ => ∃ (t f : Addr) (L : List Pt) (SP : SPt), vs = [.ref t, .ref f] ∧ H t = some (.tup (refsOf L)) ∧ Crew C H L ∧ Gp H f t L SP ∧
  ∀ Ta as rs H', H' Ta = some (.tup (as.map V.ref)) → RowsAt H' as rs → HistR (partsOf L) SP rs → Same H H' → Q (.ref Ta) H'
section
variable {P : Program} {w : World} {K : PySem.W.Frag} {mg : Str → Option Value} {base : Heap} {C : Addr} {Gp : GBl}
set_option maxHeartbeats 16000000 in
theorem ok_rb (D : Dfn K mg "rows_by" s_rows_by P_rows_by) (B : Blt mg) (hEn : mg "enumerate" = none) (nb_tuple : mg "tuple" = none) (T : PTxt K mg C) (hName : PropS P w K mg base C "name" 1 (getSp C "_name")) (hDay : PropS P w K mg base C "day" 1 (getSp C "_day")) (hPost : PropS P w K mg base C "post" 1 (getSp C "_post")) (hStride : PropS P w K mg base C "stride" 1 (getSp C "_stride"))
    (CFS : Cal P w K mg base 11 "_find_stopped" P__find_stopped (spFS Gp C)) : Cal P w K mg base 12 "rows_by" P_rows_by (spRB Gp C) := by
  refine D.cal sc_rows_by (fun vs H Q E h => ?_) fun f cdv A outer s H vs Q E hr h => ?_
  · obtain ⟨t, f, _, _, rfl, _⟩ := h
    rfl
  obtain ⟨t, f, L, SP, rfl, ht, cr, gp, q⟩ := h
  have hu := hu_of hr
  have few := cr.few
  have rlen : (refsOf L).length = L.length := by unfold refsOf; rw [List.length_map]
  refine ⟨_, (pss_cons (ps_set (i := 2) sc_rows_by.nd rfl (Or.inl rfl) (pe_cal CFS (hr.mono (by decide)) (pa_cons (pv 0) (pa_cons (pv 1) pa_nil)))) (pss_cons (ps_set (i := 3) sc_rows_by.nd rfl (Or.inl rfl) (pe_lst pa_nil)) (pss_cons (ps_for PassesOwn.never rfl (pi_enumT rfl hEn (pa_cons (pv 0) pa_nil)) (pg_tup rfl (pgs_cons (pg_name (i := 4) sc_rows_by.nd rfl (Or.inl rfl)) (pgs_cons (pg_name (i := 5) sc_rows_by.nd rfl (Or.inl rfl)) pgs_nil))) (pss_one (ps_if (pt_cmp (pc_din hu (pv 4) (pv 2))) (pss_cons (ps_asg (pe_dget hu (pv 2) (pv 4) (fun _ _ => rfl)) (pg_tup rfl (pgs_cons (pg_name (i := 6) sc_rows_by.nd rfl (Or.inl rfl)) (pgs_cons (pg_name (i := 7) sc_rows_by.nd rfl (Or.inl rfl)) pgs_nil)))) (pss_cons (ps_set (i := 8) sc_rows_by.nd rfl (Or.inl rfl) (pe_tup (pa_cons (pe_op op_add (pe_prS (pv 5) T.cl hDay (hr.mono (by decide))) (pv 6)) (pa_cons (pe_op op_add (pe_prS (pv 5) T.cl hPost (hr.mono (by decide))) (pe_op op_mulW (pv 6) (pe_prS (pv 5) T.cl hStride (hr.mono (by decide))))) (pa_cons (pe_prS (pe_ix ix_tup (pv 0) (pv 7) (fun _ _ => rfl)) T.cl hName (hr.mono (by decide))) pa_nil))))) (pss_one (ps_expr (pe_bm PySem.F.plainAttrs_list PySem.F.slot_list_append PySem.F.type_list_append mt_append (pv 3) (pa_cons (pe_tup (pa_cons (pe_prS (pv 5) T.cl hName (hr.mono (by decide))) (pa_cons (pv 6) (pa_cons (pv 8) pa_nil)))) pa_nil)))))) (pss_one (ps_expr (pe_bm PySem.F.plainAttrs_list PySem.F.slot_list_append PySem.F.type_list_append mt_append (pv 3) (pa_cons (pe_tup (pa_cons (pe_prS (pv 5) T.cl hName (hr.mono (by decide))) (pa_cons pe_non (pa_cons pe_non pa_nil)))) pa_nil))))))) (pss_one (ps_ret (pe_callTy call_tuple_of rfl nb_tuple (by decide +kernel) (pa_cons (pv 3) pa_nil))))))), ?_⟩
  refine ⟨_, rfl, _, rfl, t, f, L, SP, rfl, ht, cr, gp, fun sd kvs Cn Bn H1 hsd st hc s1 => ?_⟩
  refine ⟨by show 0 ≤ sizeLine; decide, fun R nR => ?_⟩
  have nR0 : H R = none := by
    cases e : H R with
    | none => rfl
    | some o => rw [s1 _ _ e] at nR; cases nR
  have sR := same_new nR (.lst [])
  refine ⟨_, rfl, t, _, rfl, SqT.of (sR _ _ (s1 _ _ ht)), ?_⟩
  refine for_it walk_enumT (fun i σ H2 => ∃ (as : List Addr) (o4 o5 o6 o7 o8 : Option V), σ = [some (.ref t), some (.ref f), some (.ref sd), some (.ref R), o4, o5, o6, o7, o8] ∧ H2 R = some (.lst (as.map V.ref)) ∧ as.length = i ∧ RowsAt H2 as ((List.range i).map (rowQ (partsOf L) Cn Bn)) ∧ H2 sd = some (.dK kvs) ∧ StopD H2 kvs L.length Cn Bn ∧ Same H H2)
    ⟨[], _, _, _, _, _, rfl, upd_same, rfl, .nil, sR _ _ hsd, st.same sR, sameAt s1 nR0⟩ (fun i σ H2 _ h => by obtain ⟨_, _, _, _, _, _, _, _, _, _, _, _, h⟩ := h; exact SqT.of (h _ _ ht)) ?_ ?_
  · rintro i v σ H2 H3 hi ⟨as, o4, o5, o6, o7, o8, rfl, hR, al, rows, hsd2, st2, s2⟩ ⟨T0, y1, y2, rfl, hT, rfl, e1, e2⟩
    obtain rfl := Option.some.inj e1
    obtain ⟨x, hx, rfl⟩ := refs_at e2
    have hiL : i < L.length := (List.getElem?_eq_some_iff.mp hx).1
    have sT := same_new hT (.tup [V.int (i : Int), V.ref x.a])
    have s3 := s2.trans sT
    have ax := (cr.at_ x (List.mem_of_getElem? hx)).same s3
    obtain ⟨dx, ex⟩ := id ax.1
    have pk := ax.2
    obtain ⟨qn, qd, qp, qst⟩ := q_at (parts_at hx)
    refine ⟨T0, _, rfl, .inl (.inl upd_same), rfl, _, _, rfl, _, _, rfl, rfl, ?_⟩
    refine ⟨_, rfl, _, rfl, sd, _, rfl, DGet.k (k := (Sum.inl (i : Int) : Key)) (sT _ _ hsd2), _, rfl, ?_⟩
    rcases st2 i hiL with ⟨ec, ev⟩ | ⟨c, a, ec, ev, ha⟩
    · rw [ev]
      refine iteF ?_
      refine ⟨_, rfl, .inl ⟨rfl, _, SqL.of (sT _ _ hR)⟩, _, rfl, x.a, dx, _, rfl, ex, x.a, dx, _, _, rfl, ex, pfs_name _ _ _ _, by show 3 ≤ sizeLine; decide, fun t3 ht3 => ?_⟩
      have s4 := same_new ht3 (.tup [.str x.nm, .non, .non])
      have hR4 := s4 _ _ (sT _ _ hR)
      refine ⟨R, _, _, rfl, rfl, hR4, by rw [List.length_map, al]; exact Nat.lt_of_le_of_lt (show i ≤ 40 by omega) (by decide), as ++ [t3], _, _, _, _, _, rfl, by rw [upd_same, List.map_append]; rfl, by rw [List.length_append, al]; rfl, ?_, ?_, ((st2.same sT).same s4).upd hR4 (fun xs z => by cases z), sameAt (s3.trans s4) nR0⟩
      · rw [List.range_succ, List.map_append]
        refine paired_snoc (((RowsAt.same rows sT).same s4).updL hR4) ⟨.non, ?_, ?_⟩
        · rw [upd_ne (ne_of upd_same hR4 (by intro z; cases z)), upd_same]
          unfold rowQ
          rw [ec, qn]
          rfl
        · unfold rowQ
          rw [ec]
          rfl
      · rw [upd_ne (ne_of (s4 _ _ (sT _ _ hsd2)) hR4 (by intro z; cases z))]
        exact s4 _ _ (sT _ _ hsd2)
    · rw [ev]
      refine iteT ?_
      have ec0 := hc.bd i c hiL ec
      have hb := (hc.bl i c hiL ec).1
      obtain ⟨z, hz⟩ : ∃ z, L[Bn i]? = some z := ⟨_, List.getElem?_eq_getElem hb⟩
      have az := (cr.at_ z (List.mem_of_getElem? hz)).same s3
      obtain ⟨dz, ez⟩ := id az.1
      have ev2 : DGet (upd H2 T0 (.tup [V.int (i : Int), V.ref x.a])) sd (.int (i : Int)) (some (.ref a)) := by
        have g := DGet.k (k := (Sum.inl (i : Int) : Key)) (sT _ _ hsd2)
        rw [ev] at g
        exact g
      refine ⟨_, rfl, _, rfl, sd, _, rfl, ev2, a, _, rfl, .inl (.inl (sT _ _ ha)), rfl, _, _, rfl, _, _, rfl, rfl, ?_⟩
      have mb := pk.s0
      have mb1 := pk.s1
      refine ⟨_, rfl, x.a, dx, _, rfl, ex, x.a, dx, _, _, rfl, ex, pfs_day _ _ _ _, _, rfl, _, _, rfl, rfl, ?_⟩
      refine ⟨_, rfl, x.a, dx, _, rfl, ex, x.a, dx, _, _, rfl, ex, pfs_post _ _ _ _, _, rfl, _, rfl, x.a, dx, _, rfl, ex, x.a, dx, _, _, rfl, ex, pfs_stride _ _ _ _, _, _, rfl, rfl, wide_mul (a := 240) (b := 64) (by omega) (by omega) (by decide) (by decide) (by decide), _, _, rfl, rfl, ?_⟩
      refine ⟨_, rfl, _, rfl, t, _, _, _, rfl, rfl, SqT.of (s3 _ _ ht), atI_nat (refs_ix hz), z.a, dz, _, rfl, ez, z.a, dz, _, _, rfl, ez, pfs_name _ _ _ _, by show 3 ≤ sizeLine; decide, fun ts hts => ?_⟩
      have s4 := same_new hts (.tup [.int (x.d + c), .int (x.p + c * x.s), .str z.nm])
      have ex4 := s4 _ _ ex
      refine ⟨_, rfl, .inl ⟨rfl, _, SqL.of (s4 _ _ (sT _ _ hR))⟩, _, rfl, x.a, dx, _, rfl, ex4, x.a, dx, _, _, rfl, ex4, pfs_name _ _ _ _, _, rfl, _, rfl, by show 3 ≤ sizeLine; decide, fun t3 ht3 => ?_⟩
      have s5 := same_new ht3 (.tup [.str x.nm, .int c, .ref ts])
      have hR5 := s5 _ _ (s4 _ _ (sT _ _ hR))
      obtain ⟨zn, _, _, _⟩ := q_at (parts_at hz)
      refine ⟨R, _, _, rfl, rfl, hR5, by rw [List.length_map, al]; exact Nat.lt_of_le_of_lt (show i ≤ 40 by omega) (by decide), as ++ [t3], _, _, _, _, _, rfl, by rw [upd_same, List.map_append]; rfl, by rw [List.length_append, al]; rfl, ?_, ?_, (((st2.same sT).same s4).same s5).upd hR5 (fun xs z => by cases z), sameAt ((s3.trans s4).trans s5) nR0⟩
      · rw [List.range_succ, List.map_append]
        refine paired_snoc ((((RowsAt.same rows sT).same s4).same s5).updL hR5) ⟨.ref ts, ?_, ?_⟩
        · rw [upd_ne (ne_of upd_same hR5 (by intro z; cases z)), upd_same]
          unfold rowQ
          rw [ec, qn]
          rfl
        · unfold rowQ
          rw [ec]
          show StopAt _ _ (some (_, _, _))
          rw [qd, qp, qst, zn]
          refine ⟨ts, rfl, ?_⟩
          have h5 := s5 _ _ (upd_same (H := upd H2 T0 (.tup [V.int (i : Int), V.ref x.a])) (a := ts) (o := .tup [.int (x.d + c), .int (x.p + c * x.s), .str z.nm]))
          rw [upd_ne (ne_of h5 hR5 (by intro z; cases z))]
          exact h5
      · rw [upd_ne (ne_of (s5 _ _ (s4 _ _ (sT _ _ hsd2))) hR5 (by intro z; cases z))]
        exact s5 _ _ (s4 _ _ (sT _ _ hsd2))
  · rintro σ H2 ⟨as, o4, o5, o6, o7, o8, rfl, hR, al, rows, hsd2, st2, s2⟩
    rw [rlen] at rows
    refine ⟨_, rfl, R, _, rfl, .inl ⟨SqL.of hR, fun Ta nTa => ?_⟩⟩
    have sTa := same_new nTa (.tup (as.map V.ref))
    refine q Ta as _ _ upd_same (RowsAt.same rows sTa) ⟨Cn, Bn, ?_, by rw [parts_len]⟩ (s2.trans sTa)
    rw [parts_len]
    exact hc
end
/-! ### of a fence -/
def GpF : GBl := fun H f t L SP => SP = fSP (partsOf L) ∧ ∃ (F : LF) (cp : Addr) (oc : Obj), isRL F ∧ LamH H f F "painters" cp oc (.ref t)
theorem gpF : GOk GpF := ⟨fun H H' f t L SP s ⟨e, F, cp, oc, r, l⟩ => ⟨e, F, cp, oc, r, l.same s⟩, fun H f t L SP ⟨_, F, cp, oc, r, l⟩ => ⟨F, l.1⟩⟩
theorem bk_of {P : Program} {w : World} {K : PySem.W.Frag} {mg : Str → Option Value} {base : Heap} {C f : Addr} (h : LOk P w K mg base 10 3 f (spBlk C f)) : LOk P w K mg base 10 3 f (spBk GpF C f) := by
  have key : ∀ vs H Q E, spBk GpF C f vs H Q E → spBlk C f vs H Q E := fun vs H Q E ⟨t, L, SP, i, j, cnt, ⟨e, F, cp, oc, r, l⟩, ev, ht, cr, hi, hj, hc, q⟩ => ⟨F, cp, oc, t, L, i, j, cnt, r, l, ev, ht, cr, hi, hj, hc, by subst e; exact q⟩
  exact ⟨fun vs H Q E z => h.len vs H Q E (key vs H Q E z), fun A outer s H us vs Q hr e0 r z => h.run A outer s H us vs Q hr e0 r (key vs H Q E0 z)⟩
def qRw : Str := (envOfC "_rows_of" (defScope s__rows_of) 0 0 .none).qual ++ "<lambda>"
def spRO (T : List (Addr × Str)) (C CF : Addr) : Sp := fun vs H Q _ => ∃ (f : Addr) (L : List Pt), vs = [.ref f] ∧ FcAt C CF H f L ∧ LamX.Tabs T H ∧
  ∀ Ta as rs H', H' Ta = some (.tup (as.map V.ref)) → RowsAt H' as rs → HistR (partsOf L) (fSP (partsOf L)) rs → LamX.ExtN H H' → LamX.Tabs T H' → Q (.ref Ta) H'
theorem tabs_del {T : List (Addr × Str)} {H : Hp} {c : Addr} {oc : Obj} {x : HO} (h : LamX.Tabs T H) (hc : H c = some (.frz oc x)) : LamX.Tabs T (del H c) := by
  intro p hp
  obtain ⟨ps, h1, h2, h3⟩ := h p hp
  refine ⟨ps, by rw [del_ne (ne_of h1 hc (by intro z; cases z))]; exact h1, h2, fun pos cv hcv => ?_⟩
  obtain ⟨c', e1, e2⟩ := h3 pos cv hcv
  exact ⟨c', e1, by rw [del_ne (ne_of e2 hc (by intro z; unfold LamX.CodeO at z; cases z))]; exact e2⟩
section
variable {P : Program} {w : World} {K : PySem.W.Frag} {mg : Str → Option Value} {base : Heap} {C CF : Addr}
theorem ok_ro {c0 P0 : Addr} {T : List (Addr × Str)} (FnB : ∀ f, LOk P w K mg base 10 3 f (spBlk C f)) (D : DfnT K mg "_rows_of" s__rows_of P__rows_of c0) (TB : LamX.TabB base mg c0 P0) (hmT' : (P0, qRw) ∈ T) (huT' : ∀ p ∈ T, p.1 = P0 → p.2 = qRw) (U : FTxt K mg CF) (hPs : PropS P w K mg base CF "painters" 1 (getSp CF "_painters"))
    (CRB : Cal P w K mg base 12 "rows_by" P_rows_by (spRB GpF C)) : Cal P w K mg base 13 "_rows_of" P__rows_of (spRO T C CF) := by
  obtain ⟨f0, fd, F, b, m, code⟩ := D
  refine ⟨f0, fd, fun_okc F code sc__rows_of (fun vs H Q E h => ?_) (fun A outer s H vs Q E hr h => ?_), F.kp, b, m⟩
  · obtain ⟨f, L, rfl, _⟩ := h
    rfl
  obtain ⟨f, L, rfl, hf, tb, q⟩ := h
  obtain ⟨dx, t, d, h1, h2, h3⟩ := hf.ex
  have hmT : (P0, (envOfC "_rows_of" (defScope s__rows_of) s.heap.objs.size f0 (.ref c0)).qual ++ "<lambda>") ∈ T := hmT'
  have huT : ∀ p ∈ T, p.1 = P0 → p.2 = (envOfC "_rows_of" (defScope s__rows_of) s.heap.objs.size f0 (.ref c0)).qual ++ "<lambda>" := huT'
  refine ⟨_, (pss_cons (ps_set (i := 1) sc__rows_of.nd rfl (Or.inr rfl) (pe_prS (pv 0) U.cl hPs (hr.mono (by decide)))) (pss_one (ps_ret (pe_lamTo (y0 := "painters") (i := 1) CRB (hr.mono (by decide)) (pv 1) TB rfl hmT huT (by decide +kernel) (by decide +kernel) rfl rfl rfl rfl)))), ?_⟩
  refine ⟨_, rfl, f, dx, _, rfl, h1, f, dx, _, _, rfl, h1, ffs_p _ _, ?_⟩
  refine ⟨_, rfl, tb, _, rfl, fun g c' cp oc cl H2 eN nn tb2 ng lh ncp => ?_⟩
  have t2 : H2 t = some (.tup (refsOf L)) := eN _ _ h2 (fun ps z => by cases z)
  have sl : Same H2 (upd H2 cp (.frz oc (CellV cp (.ref t)))) := same_new ncp _
  have cr2 : Crew C H2 L := ⟨fun x hx => let ⟨⟨dx, e⟩, z⟩ := hf.crew.at_ x hx; ⟨⟨dx, eN _ _ e (fun ps z => by cases z)⟩, z⟩, hf.crew.nd, hf.crew.few⟩
  refine ⟨t, g, L, fSP (partsOf L), rfl, sl _ _ t2, cr2.same sl, ⟨rfl, _, cp, oc, ⟨rfl, rfl, rfl⟩, lh⟩, fun Ta as rs H3 hTa rows hist s3 => ?_⟩
  have hcp := s3 _ _ (upd_same (H := H2) (a := cp) (o := .frz oc (CellV cp (.ref t))))
  have dn : ∀ b xs, H3 b = some (.tup xs) → del H3 cp b = some (.tup xs) := fun b xs e => by rw [del_ne (ne_of e hcp (by intro z; cases z))]; exact e
  refine q Ta as rs _ (dn _ _ hTa) (RowsAt.keep rows dn) hist (fun b o e n => same_lock ncp s3 _ _ (eN b o e n)) (tabs_del (tabs_same (sl.trans s3) tb2) hcp)
end
end Ur
/-! HE: History.__init__, history, rows. -/
namespace Ur
open PySem PySem.Spec PyProof.Rows L2
def hfs (f t b s : Addr) : List (Str × V) := [("_fence", .ref f), ("_rows", .ref t), ("_by_name", .ref b), ("_stopped", .ref s)]
/-- the rows by their names -/
def bkv (as : List Addr) (rs : List Rw) : List (Key × V) := (as.zip rs).map fun p => (Sum.inr p.2.nm, V.ref p.1)
def stpR (rs : List Rw) (i : Nat) : Bool := match rs[i]? with | some r => r.stop.isSome | none => false
def dayR (rs : List Rw) (i : Nat) : Int := match rs[i]? with | some r => (match r.stop with | some s => s.1 | none => 0) | none => 0
/-- the places of those who stop, by days, then by the list -/
def StopOrd (rs : List Rw) (ps : List Nat) : Prop := ps.Perm ((List.range rs.length).filter (stpR rs)) ∧ ps.Pairwise fun i j => ¬ (dayR rs j < dayR rs i ∨ dayR rs j = dayR rs i ∧ j < i)
/-- what the class of histories must have -/
structure HTxt (K : PySem.W.Frag) (mg : Str → Option Value) (CH : Addr) : Prop where
  cl : Cls K CH
  nF : NoAttr K CH "_fence"
  nR : NoAttr K CH "_rows"
  nB : NoAttr K CH "_by_name"
  nS : NoAttr K CH "_stopped"
  mgH : mg "History" = some (.ref CH)
/-- a History stands at h -/
structure HsAt (C CF CH : Addr) (H : Hp) (h : Addr) (L : List Pt) (rs : List Rw) : Prop where
  ex : ∃ (dx f Ta b so : Addr) (as : List Addr) (ps : List Nat), H h = some (.ins CH dx (hfs f Ta b so)) ∧ FcAt C CF H f L ∧ H Ta = some (.tup (as.map V.ref)) ∧ RowsAt H as rs ∧ H b = some (.dK (bkv as rs)) ∧ H so = some (.lst (ps.map fun i => V.ref (as[i]?.getD 0))) ∧ StopOrd rs ps
theorem HsAt.same {C CF CH : Addr} {H H' : Hp} {h : Addr} {L : List Pt} {rs : List Rw} (x : HsAt C CF CH H h L rs) (s : Same H H') : HsAt C CF CH H' h L rs :=
  let ⟨dx, f, Ta, b, so, as, ps, h1, h2, h3, h4, h5, h6, h7⟩ := x.ex
  ⟨⟨dx, f, Ta, b, so, as, ps, s _ _ h1, h2.same s, s _ _ h3, h4.same s, s _ _ h5, s _ _ h6, h7⟩⟩
theorem histR_len {qs : List Quad} {SP : SPt} {rs : List Rw} (h : HistR qs SP rs) : rs.length = qs.length := by
  obtain ⟨_, _, _, rfl⟩ := h
  rw [List.length_map, List.length_range]
theorem histR_nm {L : List Pt} {SP : SPt} {rs : List Rw} (h : HistR (partsOf L) SP rs) : rs.map Rw.nm = L.map Pt.nm := by
  obtain ⟨_, _, _, rfl⟩ := h
  rw [parts_len, List.map_map]
  refine List.ext_getElem (by rw [List.length_map, List.length_map, List.length_range]) fun i h1 h2 => ?_
  have hi : i < L.length := by rw [List.length_map] at h2; exact h2
  rw [List.getElem_map, List.getElem_map, List.getElem_range]
  exact (q_at (parts_at (List.getElem?_eq_getElem hi))).1
theorem bkv_none {as : List Addr} {rs : List Rw} {nm : Str} (h : ∀ r ∈ rs, r.nm ≠ nm) : valV (bkv as rs) (Sum.inr nm : Key) = none := by
  induction as generalizing rs with
  | nil => rfl
  | cons a as ih =>
    cases rs with
    | nil => rfl
    | cons r rs =>
      show valV ((Sum.inr r.nm, V.ref a) :: bkv as rs) _ = none
      rw [valV_neg (fun e => h r List.mem_cons_self (Sum.inr.inj e))]
      exact ih fun x hx => h x (List.mem_cons_of_mem _ hx)
theorem paired_len {α β : Type} {F : α → β → Prop} {xs : List α} {ys : List β} (h : Paired F xs ys) : xs.length = ys.length := Paired.length h
theorem paired_map {α β : Type} {F : α → β → Prop} {g : α → β} {xs : List α} {ys : List β} (h : Paired F xs ys) (k : ∀ x y, F x y → g x = y) : xs.map g = ys := by
  induction h with
  | nil => rfl
  | cons f _ ih => rw [List.map_cons, k _ _ f, ih]
theorem paired_at {α β : Type} {F : α → β → Prop} : ∀ {xs : List α} {ys : List β} {i : Nat} {x : α} {y : β}, Paired F xs ys → xs[i]? = some x → ys[i]? = some y → F x y := fun {xs ys i x y} h e1 e2 => by
  obtain ⟨z, e3, f⟩ := paired_get h e1
  rw [e2] at e3
  obtain rfl := Option.some.inj e3
  exact f
abbrev s_History_init : Stmt := (inClass (topS 37) 0)
abbrev N_sc_History_init : List Str := ["self", "fence", "row", "order", "place", "_"]
abbrev P_History_init : List Str := ["self", "fence"]
theorem sc_History_init : FnScope N_sc_History_init P_History_init (defScope s_History_init) := ⟨rfl, rfl, rfl, by decide +kernel, rfl, by decide +kernel, by decide +kernel⟩
def spHInit (T : List (Addr × Str)) (C CF CH : Addr) : Sp := fun vs H Q _ => ∃ (x dx f : Addr) (L : List Pt), vs = [.ref x, .ref f] ∧ H x = some (.ins CH dx []) ∧ FcAt C CF H f L ∧ LamX.Tabs T H ∧
  ∀ H' rs, HsAt C CF CH H' x L rs → HistR (partsOf L) (fSP (partsOf L)) rs → KeepN x H H' → LamX.Tabs T H' → Q .non H'
theorem FcAt.keepN {C CF : Addr} {H H' : Hp} {f x : Addr} {L : List Pt} (h : FcAt C CF H f L) (k : KeepN x H H') (hx : ∃ CH dx fs, H x = some (.ins CH dx fs) ∧ CH ≠ C ∧ CH ≠ CF) : FcAt C CF H' f L := by
  obtain ⟨CH, dx', fs, hx, n1, n2⟩ := hx
  obtain ⟨dx, t, d, h1, h2, h3⟩ := h.ex
  have ni : ∀ b D dy gs, H b = some (.ins D dy gs) → D ≠ CH → b ≠ x := fun b D dy gs e n z => by
    rw [z, hx] at e
    have := HO.ins.inj (Option.some.inj e)
    exact n this.1.symm
  refine ⟨⟨dx, t, d, k _ _ h1 (ni _ _ _ _ h1 (fun z => n2 z.symm)) (fun ps z => by cases z), k _ _ h2 (ne_of h2 hx (by intro z; cases z)) (fun ps z => by cases z), k _ _ h3 (ne_of h3 hx (by intro z; cases z)) (fun ps z => by cases z)⟩, fun y hy => ?_, h.crew.nd, h.crew.few⟩
  obtain ⟨⟨dy, e⟩, z⟩ := h.crew.at_ y hy
  exact ⟨⟨dy, k _ _ e (ni _ _ _ _ e (fun z => n1 z.symm)) (fun ps z => by cases z)⟩, z⟩
def kH (H : Hp) (x : V) : Int × Int := match x with | .ref t => (match H t with | some (.tup [.int i, .int j]) => (i, j) | _ => (0, 0)) | _ => (0, 0)
theorem kH_at {H : Hp} {t : Addr} {i j : Int} (h : H t = some (.tup [.int i, .int j])) : kH H (.ref t) = (i, j) := by
  show (match H t with | some (.tup [.int i, .int j]) => (i, j) | _ => ((0, 0) : Int × Int)) = _
  rw [h]
theorem range_filter_succ {f : Nat → Bool} {i : Nat} : (List.range (i + 1)).filter f = (List.range i).filter f ++ (if f i = true then [i] else []) := by
  rw [List.range_succ, List.filter_append]
  congr 1
  rw [List.filter_cons]
  split <;> rfl
theorem bkv_snoc {as : List Addr} {rs : List Rw} {a : Addr} {r : Rw} (h : as.length = rs.length) : bkv (as ++ [a]) (rs ++ [r]) = bkv as rs ++ [(Sum.inr r.nm, V.ref a)] := by
  unfold bkv
  rw [List.zip_append h, List.map_append]
  rfl
section
variable {P : Program} {w : World} {K : PySem.W.Frag} {mg : Str → Option Value} {base : Heap} {C CF CH f : Addr} {fd : FuncData}
set_option maxHeartbeats 16000000 in
theorem ok_hinit {T : List (Addr × Str)} (F : Fun K "__init__" "History.__init__" s_History_init f fd) (hEn : mg "enumerate" = none) (nb_sorted : mg "sorted" = none) (U : HTxt K mg CH) (nC : CH ≠ C) (nCF : CH ≠ CF) (CRO : Cal P w K mg base 13 "_rows_of" P__rows_of (spRO T C CF)) : FnOk P w K mg base CX0 14 f fd P_History_init (spHInit T C CF CH) := by
  refine F.ok sc_History_init (fun vs H Q E h => ?_) (fun cdv A outer s H vs Q E hr h => ?_)
  · obtain ⟨x, dx, f, L, rfl, _⟩ := h
    rfl
  obtain ⟨x, dx, g, L, rfl, hx, hf, tb, q⟩ := h
  refine ⟨_, (pss_cons (ps_fld (pv 0) (pv 1) rfl) (pss_cons (ps_fld (pv 0) (pe_cal CRO (hr.mono (by decide)) (pa_cons (pv 1) pa_nil)) rfl) (pss_cons (ps_fld (pv 0) (pe_dc (own := [("row", 2)]) (g := gName 2) (tt := tYes) rfl sc_History_init.nd (pi_tup (pe_fld (pv 0) rfl)) (blkOk_by (N := N_sc_History_init) (sc := defScope s_History_init) (by decide +kernel)) (fun _ _ _ _ _ => pg_name (i := 2) sc_History_init.nd rfl (Or.inl rfl)) (fun _ _ _ _ _ => pts_nil) (fun _ _ _ _ _ => pe_ix (show IxR _ (rIxT K) from ix_tup) (pv 2) pe_int (fun _ _ => rfl)) (fun _ _ _ _ _ => pv 2)) rfl) (pss_cons (ps_set (i := 3) sc_History_init.nd rfl (Or.inl rfl) (pe_callB cr_sortedPO rfl nb_sorted (by decide +kernel) (pa_cons (pe_lc (own := [("place", 4), ("row", 2)]) (g := gTup K 2 (gCons (gName 4) (gCons (gName 2) gNil))) rfl sc_History_init.nd (pi_enumT rfl hEn (pa_cons (pe_fld (pv 0) rfl) pa_nil)) (blkOk_by (N := N_sc_History_init) (sc := defScope s_History_init) (by decide +kernel)) (fun _ _ _ _ _ => pg_tup rfl (pgs_cons (pg_name (i := 4) sc_History_init.nd rfl (Or.inl rfl)) (pgs_cons (pg_name (i := 2) sc_History_init.nd rfl (Or.inl rfl)) pgs_nil))) (fun _ _ _ _ _ => pts_one (pt_cmpR op_notN (pe_ix (show IxR _ (rIxT K) from ix_tup) (pv 2) pe_int (fun _ _ => rfl)) pe_non (nomark _))) (fun _ _ _ _ _ => pe_tup (pa_cons (pe_ix (show IxR _ (rIxT K) from ix_tup) (pe_ix (show IxR _ (rIxT K) from ix_tup) (pv 2) pe_int (fun _ _ => rfl)) pe_int (fun _ _ => rfl)) (pa_cons (pv 4) pa_nil)))) pa_nil))) (pss_one (ps_fld (pv 0) (pe_lc (own := [("_", 5), ("place", 4)]) (g := gTup K 2 (gCons (gName 5) (gCons (gName 4) gNil))) (tt := tYes) rfl sc_History_init.nd (pi_list (pv 3)) (blkOk_by (N := N_sc_History_init) (sc := defScope s_History_init) (by decide +kernel)) (fun _ _ _ _ _ => pg_tup rfl (pgs_cons (pg_name (i := 5) sc_History_init.nd rfl (Or.inl rfl)) (pgs_cons (pg_name (i := 4) sc_History_init.nd rfl (Or.inl rfl)) pgs_nil))) (fun _ _ _ _ _ => pts_nil) (fun _ _ _ _ _ => pe_ix (show IxR _ (rIxT K) from ix_tup) (show PE _ _ (tFld K (tVar 0) "_rows") from pe_fld (pv 0) rfl) (pv 4) (fun _ _ => rfl))) rfl)))))), ?_⟩
  have KN : ∀ {H1 : Hp}, KeepN x H H1 → FcAt C CF H1 g L := fun k => hf.keepN k ⟨CH, dx, _, hx, nC, nCF⟩
  -- self._fence = fence
  refine ⟨_, rfl, _, rfl, x, CH, dx, [], rfl, hx, U.cl, U.nF, (by show 0 < 1000; decide), ?_⟩
  have k1 : KeepN x H (upd H x (.ins CH dx (putF "_fence" (.ref g) []))) := KeepN.of Keep.at_
  have tb1 : LamX.Tabs T (upd H x (.ins CH dx (putF "_fence" (.ref g) []))) := fun p hp => by
    obtain ⟨ps, h1, h2, h3⟩ := tb p hp
    refine ⟨ps, by rw [upd_ne (ne_of h1 hx (by intro z; cases z))]; exact h1, h2, fun pos cv hcv => ?_⟩
    obtain ⟨c', e1, e2⟩ := h3 pos cv hcv
    exact ⟨c', e1, by rw [upd_ne (ne_of e2 hx (by intro z; unfold LamX.CodeO at z; cases z))]; exact e2⟩
  -- self._rows = _rows_of(fence)
  refine ⟨_, rfl, g, L, rfl, KN k1, tb1, fun Ta as rs H2 hTa rows hist eN tb2 => ?_⟩
  have few := hf.crew.few
  have rl : rs.length = L.length := by rw [histR_len hist, parts_len]
  have al : as.length = L.length := (paired_len rows).trans rl
  have hx2 := eN _ _ upd_same (fun ps z => by cases z)
  have k2 : KeepN x H H2 := k1.trans (KeepN.ext eN)
  refine ⟨_, rfl, x, CH, dx, _, rfl, hx2, U.cl, U.nR, (by show 1 < 1000; decide), ?_⟩
  obtain ⟨H3, e3⟩ : ∃ H3, H3 = upd H2 x (.ins CH dx (putF "_rows" (.ref Ta) (putF "_fence" (.ref g) []))) := ⟨_, rfl⟩
  rw [← e3]
  have hx3 : H3 x = some (.ins CH dx [("_fence", .ref g), ("_rows", .ref Ta)]) := by rw [e3]; exact upd_same
  have kx : ∀ (b : Addr) (o : HO), H2 b = some o → b ≠ x → H3 b = some o := fun b o e n => by rw [e3, upd_ne n]; exact e
  have hTa3 := kx _ _ hTa (ne_of hTa hx2 (by intro z; cases z))
  have rows3 : RowsAt H3 as rs := rows.keep fun b xs e => kx _ _ e (ne_of e hx2 (by intro z; cases z))
  have k3 : KeepN x H H3 := fun b o e n t => kx _ _ (k2 b o e n t) n
  have tb3 : LamX.Tabs T H3 := fun p hp => by
    obtain ⟨ps, h1, h2, h3⟩ := tb2 p hp
    refine ⟨ps, kx _ _ h1 (ne_of h1 hx2 (by intro z; cases z)), h2, fun pos cv hcv => ?_⟩
    obtain ⟨c', e1, e2⟩ := h3 pos cv hcv
    exact ⟨c', e1, kx _ _ e2 (ne_of e2 hx2 (by intro z; unfold LamX.CodeO at z; cases z))⟩
  have alen : (as.map V.ref).length = L.length := by rw [List.length_map, al]
  have row_get : ∀ {i : Nat} {v : V}, (as.map V.ref)[i]? = some v → ∃ a r, v = V.ref a ∧ as[i]? = some a ∧ rs[i]? = some r ∧ ∀ H', Same H3 H' → RwAt H' a r := fun {i v} e => by
    obtain ⟨a, ha, rfl⟩ := map_get e
    obtain ⟨r, hr2, f⟩ := paired_get rows3 ha
    exact ⟨a, r, rfl, ha, hr2, fun H' s => RwAt.keep f fun b xs e => s _ _ e⟩
  have nds : (rs.map Rw.nm).Nodup := by rw [histR_nm hist]; exact hf.crew.nd
  -- self._by_name
  refine ⟨_, rfl, x, CH, dx, _, _, rfl, hx3, U.cl, U.nR, rfl, Ta, rfl, ⟨_, .inl (.inl hTa3)⟩, fun b nb => ?_⟩
  refine gen_it walk_tup (fun i H4 => H4 b = some (.dK (bkv (as.take i) (rs.take i))) ∧ Same H3 H4) ⟨upd_same, same_new nb _⟩ (fun i H4 _ h => .inl (.inl (h.2 _ _ hTa3))) ?_ ?_
  · rintro i v H4 H5 hi ⟨hb, s4⟩ ⟨rfl, e⟩
    obtain ⟨a, r, rfl, ha, hr2, rw_⟩ := row_get e
    obtain ⟨v2, hrow, _⟩ := rw_ _ s4
    have hi2 : i < L.length := by rw [← alen]; exact hi
    refine ⟨rfl, _, rfl, a, _, _, _, rfl, rfl, SqT.of hrow, atI_nat (j := 0) rfl, _, rfl, _, Sum.inr r.nm, rfl, hb, ?_, ?_, ?_⟩
    · unfold bkv
      rw [List.length_map, List.length_zip, List.length_take, List.length_take]
      exact Nat.lt_of_le_of_lt (show min (min i as.length) (min i rs.length) ≤ 40 by omega) (by decide)
    · have nm_new : ∀ z ∈ rs.take i, z.nm ≠ r.nm := fun z hz e => by
        obtain ⟨j, hj⟩ := List.mem_iff_getElem?.mp hz
        have hji : j < i := by
          have := (List.getElem?_eq_some_iff.mp hj).1
          rw [List.length_take] at this
          omega
        rw [List.getElem?_take_of_lt hji] at hj
        have e1 : (rs.map Rw.nm)[j]? = some r.nm := by rw [List.getElem?_map, hj]; exact congrArg some e
        have e2 : (rs.map Rw.nm)[i]? = some r.nm := by rw [List.getElem?_map, hr2]; rfl
        have h1 := List.getElem?_eq_some_iff.mp e1
        have h2 := List.getElem?_eq_some_iff.mp e2
        have := (List.getElem_inj nds).mp (h1.2.trans h2.2.symm)
        omega
      rw [upd_same, putK_new _ (bkv_none nm_new), take_snoc ha, take_snoc hr2, bkv_snoc (by rw [List.length_take, List.length_take]; omega)]
    · exact sameAt s4 nb
  rintro H4 ⟨hb4, s4⟩
  rw [alen, show as.take L.length = as by rw [← al]; exact List.take_length, show rs.take L.length = rs by rw [← rl]; exact List.take_length] at hb4
  have hx4 := s4 _ _ hx3
  refine ⟨_, rfl, x, CH, dx, _, rfl, hx4, U.cl, U.nB, (by show 2 < 1000; decide), ?_⟩
  obtain ⟨H5, e5⟩ : ∃ H5, H5 = upd H4 x (.ins CH dx (putF "_by_name" (.ref b) [("_fence", .ref g), ("_rows", .ref Ta)])) := ⟨_, rfl⟩
  rw [← e5]
  have hx5 : H5 x = some (.ins CH dx [("_fence", .ref g), ("_rows", .ref Ta), ("_by_name", .ref b)]) := by rw [e5]; exact upd_same
  have kx5 : ∀ (c : Addr) (o : HO), H4 c = some o → c ≠ x → H5 c = some o := fun c o e n => by rw [e5, upd_ne n]; exact e
  have hTa5 := kx5 _ _ (s4 _ _ hTa3) (ne_of (s4 _ _ hTa3) hx4 (by intro z; cases z))
  have hb5 := kx5 _ _ hb4 (ne_of hb4 hx4 (by intro z; cases z))
  have rows5 : RowsAt H5 as rs := RowsAt.keep (RowsAt.same rows3 s4) fun c xs e => kx5 _ _ e (ne_of e hx4 (by intro z; cases z))
  have k5 : KeepN x H H5 := fun c o e n t => kx5 _ _ (s4 _ _ (k3 c o e n t)) n
  have tb5 : LamX.Tabs T H5 := fun p hp => by
    obtain ⟨ps, h1, h2, h3⟩ := tabs_same s4 tb3 p hp
    refine ⟨ps, kx5 _ _ h1 (ne_of h1 hx4 (by intro z; cases z)), h2, fun pos cv hcv => ?_⟩
    obtain ⟨c', e1, e2⟩ := h3 pos cv hcv
    exact ⟨c', e1, kx5 _ _ e2 (ne_of e2 hx4 (by intro z; unfold LamX.CodeO at z; cases z))⟩
  -- order
  refine ⟨_, rfl, x, CH, dx, _, _, rfl, hx5, U.cl, U.nR, rfl, Ta, _, rfl, SqT.of hTa5, fun D nD => ?_⟩
  refine gen_it walk_enumT (fun i H6 => ∃ (xs : List V) (zs : List Nat), H6 D = some (.lst xs) ∧ zs = (List.range i).filter (stpR rs) ∧ Paired (fun x z => ∃ t, x = V.ref t ∧ H6 t = some (.tup [.int (dayR rs z), .int (z : Int)])) xs zs ∧ Same H5 H6) ⟨[], [], upd_same, rfl, .nil, same_new nD _⟩ (fun i H6 _ ⟨_, _, _, _, _, s6⟩ => SqT.of (s6 _ _ hTa5)) ?_ ?_
  · rintro i v H6 H7 hi ⟨xs, zs, hD, rfl, pr, s6⟩ ⟨T0, y1, y2, rfl, hT, rfl, e1, e2⟩
    obtain rfl := Option.some.inj e1
    obtain ⟨a, ha, rfl⟩ := map_get e2
    obtain ⟨r, hr2, f5⟩ := paired_get rows5 ha
    have sT := same_new hT (.tup [V.int (i : Int), V.ref a])
    have s7 := s6.trans sT
    have hi2 : i < L.length := by rw [← alen]; exact hi
    have lx : xs.length ≤ 40 := by
      rw [paired_len pr]
      have := List.length_filter_le (stpR rs) (List.range i)
      rw [List.length_range] at this
      omega
    obtain ⟨v2, hrow, stp⟩ := RwAt.keep f5 fun b xs e => s7 _ _ e
    have pr7 := Paired.mapP pr fun x z ⟨t, e, h⟩ => (⟨t, e, sT _ _ h⟩ : ∃ t, x = V.ref t ∧ (upd H6 T0 (.tup [V.int (i : Int), V.ref a])) t = some (HO.tup [V.int (dayR rs z), V.int (z : Int)]))
    have hD7 := sT _ _ hD
    have est : stpR rs i = r.stop.isSome := by unfold stpR; rw [hr2]
    have edy : dayR rs i = (match r.stop with | some s => s.1 | none => 0) := by unfold dayR; rw [hr2]
    refine ⟨T0, _, rfl, .inl (.inl upd_same), rfl, _, _, rfl, _, _, rfl, rfl, ?_⟩
    refine ⟨rfl, _, rfl, a, _, _, _, rfl, rfl, SqT.of hrow, atI_nat (j := 2) rfl, rfl, _, rfl, ?_⟩
    cases es : r.stop with
    | none =>
      rw [es] at stp est
      obtain rfl : v2 = .non := stp
      refine iteNS rfl ?_
      refine ⟨xs, _, hD7, ?_, pr7, s7⟩
      rw [range_filter_succ, est]
      simp
    | some q3 =>
      obtain ⟨d3, p3, b3⟩ := q3
      rw [es] at stp est edy
      obtain ⟨t3, rfl, ht3⟩ := stp
      refine iteNN (fun z => by cases z) ?_
      refine ⟨_, rfl, a, _, _, _, rfl, rfl, SqT.of hrow, atI_nat (j := 2) rfl, t3, _, _, _, rfl, rfl, SqT.of ht3, atI_nat (j := 0) rfl, _, rfl, by show 2 ≤ sizeLine; decide, fun t4 ht4 => ?_⟩
      have s8 := same_new ht4 (.tup [.int d3, .int (i : Int)])
      have hD8 := s8 _ _ hD7
      refine ⟨xs, hD8, Nat.lt_of_le_of_lt lx (by decide), xs ++ [.ref t4], _, upd_same, rfl, ?_, sameAt (s7.trans s8) nD⟩
      rw [range_filter_succ, est]
      refine paired_snoc (Paired.mapP pr7 fun x z ⟨t, e, h⟩ => ⟨t, e, ?_⟩) ⟨t4, rfl, ?_⟩
      · rw [upd_ne (ne_of (s8 _ _ h) hD8 (by intro z; cases z))]
        exact s8 _ _ h
      · rw [upd_ne (ne_of upd_same hD8 (by intro z; cases z)), upd_same, edy]
  rintro H6 ⟨xs, zs, hD6, ez, pr6, s6⟩
  rw [alen, ← rl] at ez
  have kat : ∀ {x : V} {z : Nat}, (∃ t, x = V.ref t ∧ H6 t = some (.tup [.int (dayR rs z), .int (z : Int)])) → kH H6 x = (dayR rs z, (z : Int)) := fun ⟨t, e, h⟩ => by rw [e]; exact kH_at h
  have each : ∀ y ∈ xs, ∃ z, ∃ t, y = V.ref t ∧ H6 t = some (.tup [.int (dayR rs z), .int (z : Int)]) := fun y hy => by
    obtain ⟨i, hi⟩ := List.mem_iff_getElem?.mp hy
    obtain ⟨z, _, t, e, h⟩ := paired_get pr6 hi
    exact ⟨z, t, e, h⟩
  refine ⟨D, xs, kH H6, rfl, SqL.of hD6, fun y hy => ?_, fun ys O srt stb nO => ?_⟩
  · obtain ⟨z, t, e, h⟩ := each y hy
    exact ⟨t, e, by rw [e, kH_at h]; exact h⟩
  have pm := stb.perm
  have sO := same_new nO (.lst ys)
  have hTa7 := sO _ _ (s6 _ _ hTa5)
  have hx7 := sO _ _ (s6 _ _ hx5)
  have xsz : xs.map (fun y => (kH H6 y).2.toNat) = zs := paired_map pr6 fun x z f => by rw [kat f]; exact Int.toNat_natCast z
  have zmem : ∀ y ∈ ys, ∃ z, z < rs.length ∧ kH H6 y = (dayR rs z, (z : Int)) ∧ ∃ t, y = V.ref t ∧ H6 t = some (.tup [.int (dayR rs z), .int (z : Int)]) := fun y hy => by
    obtain ⟨i, hi⟩ := List.mem_iff_getElem?.mp (pm.mem_iff.mp hy)
    obtain ⟨z, hz, f⟩ := paired_get pr6 hi
    have : z ∈ zs := List.mem_of_getElem? hz
    rw [ez] at this
    exact ⟨z, List.mem_range.mp (List.mem_filter.mp this).1, kat f, f⟩
  have ylen : ys.length ≤ 40 := by
    rw [pm.length_eq, paired_len pr6, ez]
    have := List.length_filter_le (stpR rs) (List.range rs.length)
    rw [List.length_range] at this
    omega
  -- self._stopped
  refine ⟨_, rfl, O, rfl, ⟨_, SqL.of upd_same⟩, fun S nS => ?_⟩
  refine gen_it walk_list (fun i H8 => H8 S = some (.lst ((ys.take i).map fun y => V.ref (as[(kH H6 y).2.toNat]?.getD 0))) ∧ Same (upd H6 O (.lst ys)) H8) ⟨upd_same, same_new nS _⟩ (fun i H8 _ h => SqL.of (h.2 _ _ upd_same)) ?_ ?_
  · rintro i y H8 H9 hi ⟨hS, s8⟩ ⟨rfl, e⟩
    obtain ⟨z, hz, kz, t, rfl, ht⟩ := zmem y (List.mem_of_getElem? e)
    have ht8 := s8 _ _ (sO _ _ ht)
    obtain ⟨a, ha⟩ : ∃ a, as[z]? = some a := ⟨_, List.getElem?_eq_getElem (by omega)⟩
    refine ⟨t, _, rfl, .inl (.inl ht8), rfl, _, _, rfl, _, _, rfl, rfl, ?_⟩
    refine ⟨rfl, _, rfl, x, CH, dx, _, _, rfl, s8 _ _ hx7, U.cl, U.nR, rfl, _, rfl, Ta, _, _, _, rfl, rfl, SqT.of (s8 _ _ hTa7), atI_nat (show (as.map V.ref)[z]? = some (V.ref a) by rw [List.getElem?_map, ha]; rfl), _, hS, ?_, ?_, sameAt s8 nS⟩
    · rw [List.length_map, List.length_take]
      exact Nat.lt_of_le_of_lt (show min i ys.length ≤ 40 by omega) (by decide)
    · rw [upd_same, take_snoc e, List.map_append]
      show _ = some (HO.lst (_ ++ [V.ref (as[(kH H6 (.ref t)).2.toNat]?.getD 0)]))
      rw [kz]
      show _ = some (HO.lst (_ ++ [V.ref (as[((z : Int)).toNat]?.getD 0)]))
      rw [Int.toNat_natCast, ha]
      rfl
  rintro H8 ⟨hS, s8⟩
  rw [List.take_length] at hS
  have s58 := (s6.trans sO).trans s8
  have hx8 := s58 _ _ hx5
  refine ⟨_, rfl, x, CH, dx, _, rfl, hx8, U.cl, U.nS, (by show 3 < 1000; decide), ?_⟩
  obtain ⟨H9, e9⟩ : ∃ H9, H9 = upd H8 x (.ins CH dx (putF "_stopped" (.ref S) [("_fence", .ref g), ("_rows", .ref Ta), ("_by_name", .ref b)])) := ⟨_, rfl⟩
  rw [← e9]
  have kx9 : ∀ (c : Addr) (o : HO), H8 c = some o → c ≠ x → H9 c = some o := fun c o e n => by rw [e9, upd_ne n]; exact e
  have k9 : KeepN x H H9 := fun c o e n t => kx9 _ _ (s58 _ _ (k5 c o e n t)) n
  refine q H9 rs ⟨⟨dx, g, Ta, b, S, as, ys.map (fun y => (kH H6 y).2.toNat), by rw [e9]; exact upd_same, KN k9, kx9 _ _ (s58 _ _ hTa5) (ne_of (s58 _ _ hTa5) hx8 (by intro z; cases z)), RowsAt.keep (RowsAt.same rows5 s58) (fun c xs e => kx9 _ _ e (ne_of e hx8 (by intro z; cases z))), kx9 _ _ (s58 _ _ hb5) (ne_of (s58 _ _ hb5) hx8 (by intro z; cases z)), ?_, ?_, ?_⟩⟩ hist k9 ?_
  · rw [List.map_map]
    exact kx9 _ _ hS (ne_of hS hx8 (by intro z; cases z))
  · rw [← ez, ← xsz]
    exact pm.map _
  · refine List.pairwise_map.mpr (List.Pairwise.imp_of_mem (fun {a b} ha hb h z => ?_) srt)
    obtain ⟨za, _, ka, _⟩ := zmem a ha
    obtain ⟨zb, _, kb, _⟩ := zmem b hb
    rw [ka, kb] at z
    have : SrtO.lexB (kH H6 b) (kH H6 a) = true := by
      rw [ka, kb, SrtO.lexB_iff]
      simp only [Int.toNat_natCast] at z
      rcases z with z | z
      · exact .inl z
      · exact .inr ⟨z.1, by show (zb : Int) < za; omega⟩
    have h' : SrtO.lexB (kH H6 b) (kH H6 a) = false := h
    rw [this] at h'
    cases h'
  · intro p hp
    obtain ⟨ps, h1, h2, h3⟩ := tabs_same s58 tb5 p hp
    refine ⟨ps, kx9 _ _ h1 (ne_of h1 hx8 (by intro z; cases z)), h2, fun pos cv hcv => ?_⟩
    obtain ⟨c', e1, e2⟩ := h3 pos cv hcv
    exact ⟨c', e1, kx9 _ _ e2 (ne_of e2 hx8 (by intro z; unfold LamX.CodeO at z; cases z))⟩
end
/-! ### History(..), history(..), .rows -/
def MkH (P : Program) (w : World) (K : PySem.W.Frag) (mg : Str → Option Value) (base : Heap) (T : List (Addr × Str)) (C CF CH : Addr) : Prop := ∃ f fd, Mk K CH f ∧ FnOk P w K mg base CX0 14 f fd P_History_init (spHInit T C CF CH) ∧ Binds K fd P_History_init []
section
variable {X : Cx} {T : List (Addr × Str)} {C CF CH : Addr} {e : Expr} {es : List Expr} {pos p : Pos} {t : TA}
theorem pe_mkH (hp : MkH X.prog X.w X.K X.mg X.base T C CF CH) (U : HTxt X.K X.mg CH) (hr : Room 15 X.A) (ha : PA X (e :: es) t) (hg : Gl X "History" := by rfl)
    (he : starEach (e :: es) X.env = (false, eval e X.env) :: starEach es X.env := by rfl) (hpl : (backTo pos (starEach es X.env)).any (·.1) = false := by rfl) : PE X (.Call (.Name "History" p) (e :: es) [] pos) (tMake CH (spHInit T C CF CH) [] E0 t) := by
  obtain ⟨f, fd, M, F, b⟩ := hp
  exact pe_make M F hr hg U.mgH b .nil pass0 ha (he := he) (hpl := hpl)
end
/-- how a History is asked for -/
theorem ask_hist {T : List (Addr × Str)} {C CF CH : Addr} {H : Hp} {x dx f : Addr} {L : List Pt} {Q : VK} {E : XK} (nx : H x = none) (nd : H dx = none) (nex : dx ≠ x) (hf : FcAt C CF H f L) (tb : LamX.Tabs T H)
    (q : ∀ H' rs, HsAt C CF CH H' x L rs → HistR (partsOf L) (fSP (partsOf L)) rs → LamX.ExtN H H' → LamX.Tabs T H' → Q .non H') : spHInit T C CF CH [.ref x, .ref f] (upd (upd H dx (.own x)) x (.ins CH dx [])) Q E := by
  have s1 : Same H (upd (upd H dx (.own x)) x (.ins CH dx [])) := fun b o e => by rw [upd_ne (ne_of_none e nx), upd_ne (ne_of_none e nd)]; exact e
  refine ⟨x, dx, f, L, rfl, upd_same, hf.same s1, tabs_same s1 tb, fun H' rs h1 h2 k tb' => q H' rs h1 h2 (fun b o e n => k b o (s1 b o e) (ne_of_none e nx) n) tb'⟩
abbrev s_History_rows : Stmt := (inClass (topS 37) 2)
abbrev N_sc_History_rows : List Str := ["self"]
abbrev P_History_rows : List Str := ["self"]
theorem sc_History_rows : FnScope N_sc_History_rows P_History_rows (defScope s_History_rows) := ⟨rfl, rfl, rfl, by decide +kernel, rfl, by decide +kernel, by decide +kernel⟩
section
variable {P : Program} {w : World} {K : PySem.W.Frag} {mg : Str → Option Value} {base : Heap} {CH f : Addr} {fd : FuncData}
theorem ok_get_rows (F : Fun K "rows" "History.rows" s_History_rows f fd) (U : HTxt K mg CH) : FnOk P w K mg base CX0 1 f fd ["self"] (getSp CH "_rows") := by
  refine F.ok sc_History_rows (fun vs H Q E h => ?_) (fun cdv A outer s H vs Q E hr h => ?_)
  · obtain ⟨_, _, _, _, rfl, _⟩ := h
    rfl
  obtain ⟨a, dx, fs, v, rfl, ha, hv, q⟩ := h
  refine ⟨_, (pss_one (ps_ret (pe_fld (pv 0) rfl))), ?_⟩
  exact ⟨_, rfl, a, CH, dx, fs, v, rfl, ha, U.cl, U.nR, hv, q⟩
end
end Ur
/-! KI: the law's own inverse, greatest divisor, common numbers. -/
namespace Ur
open PySem PySem.Spec PyProof.Rows L2
abbrev s__law_inverse : Stmt := (topS 57)
abbrev N_sc__law_inverse : List Str := ["_law_thing", "_law_size", "_law_this", "_law_that", "_law_front", "_law_second", "_law_times"]
abbrev P__law_inverse : List Str := ["_law_thing", "_law_size"]
theorem sc__law_inverse : FnScope N_sc__law_inverse P__law_inverse (defScope s__law_inverse) := ⟨rfl, rfl, rfl, by decide +kernel, rfl, by decide +kernel, by decide +kernel⟩
def spInv : Sp := fun vs H Q _ => ∃ n m : Int, vs = [.int n, .int m] ∧ 0 < m ∧ m < 2 ^ 100 ∧ Int.gcd n m = 1 ∧ ∀ (i : Int) (H' : Hp), 0 ≤ i → i < m → m ∣ n * i - 1 → Same H H' → Q (.int i) H'
def restOf3 (σ : List (Option L2.V)) : Nat := match σ[3]? with
  | some (some (L2.V.int r)) => r.toNat
  | _ => 0
theorem inv_done {n m d f : Int} (D : DivFac (n % m) m d f) (mp : 0 < m) (hg : Int.gcd n m = 1) : m ∣ n * (f % m) - 1 := by
  obtain ⟨d0, dn, dm, cg, _⟩ := D
  have dn' : d ∣ n := by
    have e := Int.mul_ediv_add_emod n m
    obtain ⟨a, ha⟩ := dn
    obtain ⟨b, hb⟩ := dm
    exact ⟨b * (n / m) + a, by grind⟩
  have d1 : d = 1 := by
    have z : d.natAbs ∣ Int.gcd n m := Nat.dvd_gcd (Int.natAbs_dvd_natAbs.mpr dn') (Int.natAbs_dvd_natAbs.mpr dm)
    rw [hg] at z
    have := Nat.le_of_dvd (by decide) z
    omega
  subst d1
  obtain ⟨c, hc⟩ := cg
  have e1 := Int.mul_ediv_add_emod n m
  have e2 := Int.mul_ediv_add_emod f m
  generalize n % m = x at *
  generalize f % m = y at *
  generalize n / m = a at *
  generalize f / m = b at *
  exact ⟨c + a * y - x * b, by grind⟩
section
variable {P : Program} {w : World} {K : PySem.W.Frag} {mg : Str → Option Value} {base : Heap}
theorem ok_inv (D : Dfn K mg "_law_inverse" s__law_inverse P__law_inverse) (B : Blt mg) : Cal P w K mg base 1 "_law_inverse" P__law_inverse spInv := by
  refine D.cal sc__law_inverse (fun vs H Q E h => ?_) fun f cdv A outer s H vs Q E hr h => ?_
  · obtain ⟨n, m, rfl, _⟩ := h
    rfl
  obtain ⟨n, m, rfl, mp, m1, hg, q⟩ := h
  refine ⟨_, (pss_cons (ps_asg (pe_tup (pa_cons (pe_op op_mod (pe_callTy call_int1 rfl B.int_ (by decide +kernel) (pa_cons (pv 0) pa_nil)) (pv 1)) (pa_cons (pv 1) (pa_cons pe_int (pa_cons pe_int pa_nil))))) (pg_tup rfl (pgs_cons (pg_name (i := 2) sc__law_inverse.nd rfl (Or.inl rfl)) (pgs_cons (pg_name (i := 3) sc__law_inverse.nd rfl (Or.inl rfl)) (pgs_cons (pg_name (i := 4) sc__law_inverse.nd rfl (Or.inl rfl)) (pgs_cons (pg_name (i := 5) sc__law_inverse.nd rfl (Or.inl rfl)) pgs_nil)))))) (pss_cons (ps_while PassesOwn.never (pt_cmpR op_gt (pv 3) pe_int (nomark _)) (pss_cons (ps_set (i := 6) sc__law_inverse.nd rfl (Or.inl rfl) (pe_op op_fdivW (pv 2) (pv 3))) (pss_cons (ps_par (i := 2) (j := 3) rfl sc__law_inverse.nd rfl rfl (by decide) rfl rfl (pa_cons (pv 3) (pa_cons (pe_op op_sub (pv 2) (pe_op op_mulW (pv 6) (pv 3))) pa_nil)) (by rfl)) (pss_one (ps_par (i := 4) (j := 5) rfl sc__law_inverse.nd rfl rfl (by decide) rfl rfl (pa_cons (pv 5) (pa_cons (pe_op op_sub (pv 4) (pe_op op_mulW (pv 6) (pv 5))) pa_nil)) (by rfl)))))) (pss_one (ps_ret (pe_op op_mod (pe_callTy call_int1 rfl B.int_ (by decide +kernel) (pa_cons (pv 4) pa_nil)) (pv 1)))))), ?_⟩
  refine ⟨_, rfl, .inl ⟨_, rfl, _, rfl, _, _, rfl, rfl, mp, _, rfl, (by show 4 ≤ sizeLine; decide), fun t ht => ?_⟩⟩
  refine ⟨t, _, rfl, SqT.of upd_same, rfl, _, _, rfl, _, _, rfl, _, _, rfl, _, _, rfl, rfl, ?_⟩
  have nm0 := Int.emod_nonneg n (show m ≠ 0 by omega)
  have nm1 := Int.emod_lt_of_pos n mp
  refine while_by (fun σ' H' => ∃ (d r f g : Int) (t : Option V), σ' = [some (.int n), some (.int m), some (.int d), some (.int r), some (.int f), some (.int g), t] ∧ Euc (n % m) m d r f g ∧ d ≤ m ∧ r ≤ m ∧ Same H H') (fun σ _ => restOf3 σ) ⟨_, _, _, _, _, rfl, Euc.start nm0 mp, by omega, by omega, same_new ht _⟩ ?_ (fun σ H Q Q' k ⟨v, hv, x, y, e1, e2, b, hb, q⟩ => ⟨v, hv, x, y, e1, e2, b, hb, k _ _ q⟩)
  rintro σ' H' ⟨d, r, f, g, t, rfl, E, dm, rm, sm⟩
  have r0 := E.r0
  refine ⟨_, rfl, _, _, rfl, rfl, _, rfl, ?_⟩
  by_cases rp : 0 < r
  · refine iteDT rp ?_
    have d0 := E.d0
    have f0 := E.f0
    have f1 := E.f1
    have g0 := E.g0
    have g1 := E.g1
    have t0 : 0 ≤ d / r := Int.ediv_nonneg d0 r0
    have t1 : d / r ≤ d := Int.ediv_le_self r d0
    have em := Int.emod_lt_of_pos d (show 0 < r by omega)
    have en := Int.emod_nonneg d (show r ≠ 0 by omega)
    have e : d - d / r * r = d % r := by
      have h := Int.mul_ediv_add_emod d r
      have h2 : r * (d / r) = d / r * r := Int.mul_comm _ _
      omega
    refine ⟨_, rfl, _, rfl, _, _, rfl, rfl, wide_div (b := 120) (by omega) (by omega) (by decide) (by decide), ?_⟩
    refine ⟨_, rfl, _, rfl, _, rfl, _, rfl, _, _, rfl, rfl, wide_mul (a := 120) (b := 120) (by omega) (by omega) (by decide) (by decide) (by decide), _, _, rfl, rfl, _, _, rfl, ?_⟩
    refine ⟨_, rfl, _, rfl, _, rfl, _, rfl, _, _, rfl, rfl, wide_mul (a := 120) (b := 120) (by omega) (by omega) (by decide) (by decide) (by decide), _, _, rfl, rfl, _, _, rfl, ?_⟩
    refine ⟨⟨_, _, _, _, _, rfl, E.step (by omega), rm, by omega, sm⟩, ?_⟩
    show (d - d / r * r).toNat < r.toNat
    omega
  · refine iteDF rp ?_
    obtain rfl : r = 0 := by omega
    refine ⟨_, rfl, .inl ⟨_, rfl, _, rfl, _, _, rfl, rfl, mp, ?_⟩⟩
    exact q _ _ (Int.emod_nonneg f (by omega)) (Int.emod_lt_of_pos f mp) (inv_done (E.done mp) mp hg) sm
end
abbrev s__law_gcd : Stmt := (topS 58)
abbrev N_sc__law_gcd : List Str := ["_law_this", "_law_that"]
abbrev P__law_gcd : List Str := ["_law_this", "_law_that"]
theorem sc__law_gcd : FnScope N_sc__law_gcd P__law_gcd (defScope s__law_gcd) := ⟨rfl, rfl, rfl, by decide +kernel, rfl, by decide +kernel, by decide +kernel⟩
def spGcd : Sp := fun vs H Q _ => ∃ a b : Int, vs = [.int a, .int b] ∧ Q (.int (Int.gcd a b : Int)) H
def restOf1 (σ : List (Option L2.V)) : Nat := match σ[1]? with
  | some (some (L2.V.int r)) => r.toNat
  | _ => 0
theorem gcd_step {x y : Int} (hx : 0 ≤ x) (hy : 0 ≤ y) : Int.gcd y (x % y) = Int.gcd x y := by
  obtain ⟨a, rfl⟩ := Int.eq_ofNat_of_zero_le hx
  obtain ⟨b, rfl⟩ := Int.eq_ofNat_of_zero_le hy
  show Nat.gcd b ((a : Int) % (b : Int)).natAbs = Nat.gcd a b
  rw [← Int.natCast_emod, Int.natAbs_natCast, Nat.gcd_comm b (a % b), ← Nat.gcd_rec, Nat.gcd_comm]
section
variable {P : Program} {w : World} {K : PySem.W.Frag} {mg : Str → Option Value} {base : Heap}
theorem ok_gcd (D : Dfn K mg "_law_gcd" s__law_gcd P__law_gcd) (B : Blt mg) : Cal P w K mg base 1 "_law_gcd" P__law_gcd spGcd := by
  refine D.cal sc__law_gcd (fun vs H Q E h => ?_) fun f cdv A outer s H vs Q E hr h => ?_
  · obtain ⟨a, b, rfl, _⟩ := h
    rfl
  obtain ⟨a, b, rfl, q⟩ := h
  refine ⟨_, (pss_cons (ps_par (i := 0) (j := 1) rfl sc__law_gcd.nd rfl rfl (by decide) rfl rfl (pa_cons (pe_callB call_abs rfl B.abs_ (by decide +kernel) (pa_cons (pv 0) pa_nil)) (pa_cons (pe_callB call_abs rfl B.abs_ (by decide +kernel) (pa_cons (pv 1) pa_nil)) pa_nil)) (by rfl)) (pss_cons (ps_while PassesOwn.never (pt_cmpR op_gt (pv 1) pe_int (nomark _)) (pss_one (ps_par (i := 0) (j := 1) rfl sc__law_gcd.nd rfl rfl (by decide) rfl rfl (pa_cons (pv 1) (pa_cons (pe_op op_mod (pe_callTy call_int1 rfl B.int_ (by decide +kernel) (pa_cons (pv 0) pa_nil)) (pv 1)) pa_nil)) (by rfl)))) (pss_one (ps_ret (pv 0))))), ?_⟩
  refine ⟨_, rfl, _, rfl, _, rfl, _, rfl, _, _, rfl, ?_⟩
  have ea : (if a < 0 then -a else a) = (a.natAbs : Int) := by split <;> omega
  have eb : (if b < 0 then -b else b) = (b.natAbs : Int) := by split <;> omega
  refine while_by (fun σ' H' => ∃ (x y : Int), σ' = [some (.int x), some (.int y)] ∧ 0 ≤ x ∧ 0 ≤ y ∧ Int.gcd x y = Int.gcd a b ∧ H' = H) (fun σ _ => restOf1 σ) ⟨_, _, rfl, by omega, by omega, by rw [ea, eb]; simp [Int.gcd], rfl⟩ ?_ (fun σ H Q Q' k ⟨v, hv, x, y, e1, e2, b, hb, q⟩ => ⟨v, hv, x, y, e1, e2, b, hb, k _ _ q⟩)
  rintro σ' H' ⟨x, y, rfl, x0, y0, hg, rfl⟩
  refine ⟨_, rfl, _, _, rfl, rfl, _, rfl, ?_⟩
  by_cases yp : 0 < y
  · refine iteDT yp ?_
    refine ⟨_, rfl, _, rfl, .inl ⟨_, rfl, _, rfl, _, _, rfl, rfl, yp, _, _, rfl, ?_⟩⟩
    have e0 := Int.emod_nonneg x (show y ≠ 0 by omega)
    have e1 := Int.emod_lt_of_pos x yp
    refine ⟨⟨_, _, rfl, y0, e0, by rw [gcd_step x0 y0]; exact hg, rfl⟩, ?_⟩
    show (x % y).toNat < y.toNat
    omega
  · refine iteDF yp ?_
    obtain rfl : y = 0 := by omega
    refine ⟨_, rfl, ?_⟩
    have e : x = (Int.gcd a b : Int) := by rw [← hg, Int.gcd_zero_right]; omega
    rw [e]
    exact q
end
abbrev s__law_common : Stmt := (topS 59)
abbrev N_sc__law_common : List Str := ["_law_this", "_law_that", "_law_gap", "_law_part", "_law_period", "_law_k", "_law_j"]
abbrev P__law_common : List Str := ["_law_this", "_law_that"]
theorem sc__law_common : FnScope N_sc__law_common P__law_common (defScope s__law_common) := ⟨rfl, rfl, rfl, by decide +kernel, rfl, by decide +kernel, by decide +kernel⟩
def spCom (K : PySem.W.Frag) : Sp := fun vs H Q _ => ∃ (t1 t2 : Addr) (x1 e1 : V) (p1 s1 : Int) (x2 e2 : V) (p2 s2 : Int), vs = [.ref t1, .ref t2] ∧ SqT K H t1 [x1, e1, .int p1, .int s1] ∧ SqT K H t2 [x2, e2, .int p2, .int s2] ∧ s1 ≠ 0 ∧ s2 ≠ 0 ∧ s1.natAbs ≤ 10 ^ 18 ∧ s2.natAbs ≤ 10 ^ 18 ∧ p1.natAbs ≤ 10 ^ 30 ∧ p2.natAbs ≤ 10 ^ 30 ∧
  ∀ (v : V) (H' : Hp), Same H H' → ((v = .non ∧ CommW p1 s1 p2 s2 none) ∨ ∃ (t : Addr) (st k j sp : Int), v = .ref t ∧ H' t = some (.tup [.int k, .int st, .int j, .int sp]) ∧ Meet s1 s2 (p2 - p1) (Int.gcd s1 s2 : Int) st k ∧ j * s2 = k * s1 - (p2 - p1) ∧ sp * s2 = s1 * st) → Q v H'
theorem sgn_div {s : Int} (h : s ≠ 0) : ((s.natAbs : Int).fdiv s) * s = s.natAbs ∧ ((s.natAbs : Int).fdiv s).natAbs = 1 := by
  by_cases c : 0 < s
  · have e : (s.natAbs : Int) = 1 * s := by omega
    rw [e, Int.mul_fdiv_cancel 1 h]
    exact ⟨rfl, rfl⟩
  · have e : (s.natAbs : Int) = (-1) * s := by omega
    rw [e, Int.mul_fdiv_cancel (-1) h]
    exact ⟨rfl, rfl⟩
theorem on_div {p1 s1 p2 s2 d st k : Int} (h2 : s2 ≠ 0) (M : Meet s1 s2 (p2 - p1) d st k) : (p1 + k * s1 - p2).fdiv s2 * s2 = k * s1 - (p2 - p1) := by
  obtain ⟨y, hy⟩ := (M.at_ k).mpr ⟨0, by omega⟩
  have e : p1 + k * s1 - p2 = y * s2 := by rw [Int.mul_comm y]; omega
  rw [e, Int.mul_fdiv_cancel y h2]
  omega
section
variable {P : Program} {w : World} {K : PySem.W.Frag} {mg : Str → Option Value} {base : Heap}
set_option maxHeartbeats 16000000 in
theorem ok_com (D : Dfn K mg "_law_common" s__law_common P__law_common) (B : Blt mg) (CGd : Cal P w K mg base 1 "_law_gcd" P__law_gcd spGcd) (CIv : Cal P w K mg base 1 "_law_inverse" P__law_inverse spInv) : Cal P w K mg base 2 "_law_common" P__law_common (spCom K) := by
  refine D.cal sc__law_common (fun vs H Q E h => ?_) fun f cdv A outer s H vs Q E hr h => ?_
  · obtain ⟨t1, t2, _, _, _, _, _, _, _, _, rfl, _⟩ := h
    rfl
  obtain ⟨t1, t2, x1, e1, p1, s1, x2, e2, p2, s2, rfl, h1, h2, n1, n2, b1, b2, c1, c2, q⟩ := h
  obtain ⟨u, st, hu, hst, stp, d0, cop, dle⟩ := gcd_parts (s1 := s1) n2
  refine ⟨_, (pss_cons (ps_par (i := 2) (j := 3) rfl sc__law_common.nd rfl rfl (by decide) rfl rfl (pa_cons (pe_op op_sub (pe_ix ix_tup (pv 1) pe_int (fun _ _ => rfl)) (pe_ix ix_tup (pv 0) pe_int (fun _ _ => rfl))) (pa_cons (pe_cal CGd (hr.mono (by decide)) (pa_cons (pe_ix ix_tup (pv 0) pe_int (fun _ _ => rfl)) (pa_cons (pe_ix ix_tup (pv 1) pe_int (fun _ _ => rfl)) pa_nil))) pa_nil)) (by rfl)) (pss_cons (ps_if (pt_cmpR op_ne (pe_op op_mod (pe_callTy call_int1 rfl B.int_ (by decide +kernel) (pa_cons (pv 2) pa_nil)) (pv 3)) pe_int (nomark _)) (pss_one (ps_ret pe_non)) pss_nil) (C8.pss_cut (ps_set (i := 4) sc__law_common.nd rfl (Or.inl rfl) (pe_op op_fdivW (pe_callB call_abs rfl B.abs_ (by decide +kernel) (pa_cons (pe_ix ix_tup (pv 1) pe_int (fun _ _ => rfl)) pa_nil)) (pv 3))) (C8.pss_cut (ps_set (i := 5) sc__law_common.nd rfl (Or.inl rfl) (pe_op op_mod (pe_callTy call_int1 rfl B.int_ (by decide +kernel) (pa_cons (pe_op op_mulW (pe_op op_fdivW (pv 2) (pv 3)) (pe_cal CIv (hr.mono (by decide)) (pa_cons (pe_op op_fdivW (pe_ix ix_tup (pv 0) pe_int (fun _ _ => rfl)) (pv 3)) (pa_cons (pv 4) pa_nil)))) pa_nil)) (pv 4))) (C8.pss_cut (ps_set (i := 6) sc__law_common.nd rfl (Or.inl rfl) (pe_op op_fdivX (pe_op op_sub (pe_op op_add (pe_ix ix_tup (pv 0) pe_int (fun _ _ => rfl)) (pe_op op_mulW (pv 5) (pe_ix ix_tup (pv 0) pe_int (fun _ _ => rfl)))) (pe_ix ix_tup (pv 1) pe_int (fun _ _ => rfl))) (pe_ix ix_tup (pv 1) pe_int (fun _ _ => rfl)))) (pss_one (ps_ret (pe_tup (pa_cons (pv 5) (pa_cons (pv 4) (pa_cons (pv 6) (pa_cons (pe_op op_mulW (pe_op op_fdivW (pe_ix ix_tup (pv 0) pe_int (fun _ _ => rfl)) (pv 3)) (pe_op op_fdivX (pe_callB call_abs rfl B.abs_ (by decide +kernel) (pa_cons (pe_ix ix_tup (pv 1) pe_int (fun _ _ => rfl)) pa_nil)) (pe_ix ix_tup (pv 1) pe_int (fun _ _ => rfl)))) pa_nil)))))))))))), ?_⟩
  refine ⟨_, rfl, t2, _, _, _, rfl, rfl, h2, rfl, _, rfl, t1, _, _, _, rfl, rfl, h1, rfl, _, _, rfl, rfl, _, rfl, t1, _, _, _, rfl, rfl, h1, rfl, _, rfl, t2, _, _, _, rfl, rfl, h2, rfl, s1, s2, rfl, _, _, rfl, ?_⟩
  refine ⟨_, rfl, .inl ⟨_, rfl, _, rfl, _, _, rfl, rfl, d0, rfl, _, rfl, ?_⟩⟩
  by_cases hg : (p2 - p1) % (Int.gcd s1 s2 : Int) = 0
  · refine iteNS (congrArg V.int hg) ?_
    have dg : (Int.gcd s1 s2 : Int) ∣ p2 - p1 := Int.dvd_of_emod_eq_zero hg
    have eu : s1 / (Int.gcd s1 s2 : Int) = u := by
      conv => lhs; lhs; rw [hu]
      exact Int.mul_ediv_cancel_left _ (by omega)
    have ea : (if s2 < 0 then -s2 else s2) = (s2.natAbs : Int) := by split <;> omega
    have est : (s2.natAbs : Int) / (Int.gcd s1 s2 : Int) = st := by rw [hst]; exact Int.mul_ediv_cancel_left _ (by omega)
    have stl : st ≤ s2.natAbs := by rw [← est]; exact Int.ediv_le_self _ (by omega)
    have dbd : (Int.gcd s1 s2 : Int).natAbs < 2 ^ 100 := by omega
    have ul : u.natAbs ≤ s1.natAbs := by rw [← eu]; exact Int.natAbs_ediv_le_natAbs _ _
    refine ⟨fun σ' H' => σ' = [some (.ref t1), some (.ref t2), some (.int (p2 - p1)), some (.int (Int.gcd s1 s2 : Int)), some (.int st), none, none] ∧ H' = H, ?_, ?_⟩
    · refine ⟨_, rfl, t2, _, _, _, rfl, rfl, h2, rfl, _, rfl, _, rfl, _, _, rfl, rfl, wide_div (b := 100) d0 (by omega) (by decide) (by decide), ?_⟩
      rw [ea]
      exact ⟨congrArg (fun z => [some (V.ref t1), some (V.ref t2), some (V.int (p2 - p1)), some (V.int (Int.gcd s1 s2 : Int)), some (V.int z), none, none]) est, rfl⟩
    rintro σ' H' ⟨rfl, rfl⟩
    refine ⟨fun σ' H1 => ∃ k : Int, σ' = [some (.ref t1), some (.ref t2), some (.int (p2 - p1)), some (.int (Int.gcd s1 s2 : Int)), some (.int st), some (.int k), none] ∧ Meet s1 s2 (p2 - p1) (Int.gcd s1 s2 : Int) st k ∧ Same H' H1, ?_, ?_⟩
    · have gq : ((p2 - p1) / (Int.gcd s1 s2 : Int)).natAbs < 2 ^ 120 := by
        have : ((p2 - p1) / (Int.gcd s1 s2 : Int)).natAbs ≤ (p2 - p1).natAbs := Int.natAbs_ediv_le_natAbs (p2 - p1) _
        omega
      refine ⟨_, rfl, _, rfl, _, _, rfl, rfl, wide_div (b := 100) d0 (by omega) (by decide) (by decide), _, rfl, t1, _, _, _, rfl, rfl, h1, rfl, _, rfl, _, _, rfl, rfl, wide_div (b := 100) d0 (by omega) (by decide) (by decide), _, rfl, s1 / (Int.gcd s1 s2 : Int), st, rfl, stp, by omega, by rw [eu]; exact cop, fun i H1 i0 i1 hi sm => ?_⟩
      rw [eu] at hi
      refine ⟨_, _, rfl, rfl, wide_mul (a := 120) (b := 100) gq (by omega) (by decide) (by decide) (by decide), .inl ⟨_, rfl, _, rfl, _, _, rfl, rfl, stp, ?_⟩⟩
      exact ⟨_, rfl, meet_by d0 hu hst stp hi dg, sm⟩
    rintro σ' H1 ⟨k, rfl, M, sm⟩
    have k0 := M.r0
    have k1 := M.r1
    have h1' := sameTup sm h1
    have h2' := sameTup sm h2
    have dvx : CDivX (p1 + k * s1 - p2) s2 := ⟨n2, Nat.lt_of_lt_of_le (PySem.Flt.log2_lt_of (by decide) (show s2.natAbs < 2 ^ 120 by omega)) (by decide)⟩
    refine ⟨fun σ' H2 => ∃ j : Int, σ' = [some (.ref t1), some (.ref t2), some (.int (p2 - p1)), some (.int (Int.gcd s1 s2 : Int)), some (.int st), some (.int k), some (.int j)] ∧ j * s2 = k * s1 - (p2 - p1) ∧ H2 = H1, ?_, ?_⟩
    · refine ⟨_, rfl, t1, _, _, _, rfl, rfl, h1', rfl, _, rfl, _, rfl, t1, _, _, _, rfl, rfl, h1', rfl, _, _, rfl, rfl, wide_mul (a := 100) (b := 100) (by omega) (by omega) (by decide) (by decide) (by decide), _, _, rfl, rfl, _, rfl, t2, _, _, _, rfl, rfl, h2', rfl, _, _, rfl, rfl, _, rfl, t2, _, _, _, rfl, rfl, h2', rfl, _, _, rfl, rfl, dvx, ?_⟩
      exact ⟨_, rfl, on_div n2 M, rfl⟩
    rintro σ' H2 ⟨j, rfl, hj, rfl⟩
    obtain ⟨g1, g2⟩ := sgn_div n2
    have dvy : CDivX (s2.natAbs : Int) s2 := dvx
    refine ⟨_, rfl, _, rfl, _, rfl, _, rfl, t1, _, _, _, rfl, rfl, h1', rfl, _, rfl, _, _, rfl, rfl, wide_div (b := 100) d0 (by omega) (by decide) (by decide), _, rfl, t2, _, _, _, rfl, rfl, h2', rfl, _, rfl, _, rfl, t2, _, _, _, rfl, rfl, h2', rfl, _, _, rfl, rfl, (by rw [ea]; exact dvy), _, _, rfl, rfl, wide_mul (a := 100) (b := 4) (by rw [eu]; omega) (by rw [ea]; omega) (by decide) (by decide) (by decide), (by show 4 ≤ sizeLine; decide), fun t ht => ?_⟩
    refine q _ _ (sm.trans (same_new ht _)) (.inr ⟨t, st, k, j, u * (s2.natAbs : Int).fdiv s2, rfl, by rw [upd_same, eu, ea], M, hj, ?_⟩)
    rw [Int.mul_assoc, g1, hst]
    grind
  · refine iteNN (fun z => hg (V.int.inj z)) ?_
    refine q _ _ (Same.refl _) (.inl ⟨rfl, ?_⟩)
    exact (comm_gap (Int.gcd_dvd_left s1 s2) (Int.gcd_dvd_right s1 s2) fun z => hg (Int.emod_eq_zero_of_dvd z)).weak
end
end Ur
/-! HG: the law's own first block of a pair. -/
namespace Ur
open PySem PySem.Spec PyProof.Rows L2
def ComAt (H : Hp) (v : V) (q1 q2 : Quad) : Prop := (v = .non ∧ CommW q1.2.2.1 q1.2.2.2 q2.2.2.1 q2.2.2.2 none) ∨ ∃ (t : Addr) (st k j sp : Int), v = .ref t ∧ H t = some (.tup [.int k, .int st, .int j, .int sp]) ∧
  Meet q1.2.2.2 q2.2.2.2 (q2.2.2.1 - q1.2.2.1) (Int.gcd q1.2.2.2 q2.2.2.2 : Int) st k ∧ j * q2.2.2.2 = k * q1.2.2.2 - (q2.2.2.1 - q1.2.2.1) ∧ sp * q2.2.2.2 = q1.2.2.2 * st
theorem ComAt.same {H H' : Hp} {v : V} {q1 q2 : Quad} (h : ComAt H v q1 q2) (s : Same H H') : ComAt H' v q1 q2 := h.imp id fun ⟨t, st, k, j, sp, e, ht, r⟩ => ⟨t, st, k, j, sp, e, s _ _ ht, r⟩
/-- the lines of a pair -/
def fLines (d1 d2 st k j sp : Int) (cnt : Option Int) (fl : Bool) : List (Int × Int) := [(j, sp), (d1 + k - d2 - j - (if fl = true then 0 else 1), st - sp)] ++ cnt.toList.map fun c => (c - 1 - j, 0 - sp)
theorem first_up {p1 d1 s1 p2 d2 s2 st k j sp : Int} (h2 : s2 ≠ 0) (hj : j * s2 = k * s1 - (p2 - p1)) (hs : sp * s2 = s1 * st) {cnt : Option Int} {fl : Bool} (x : Int) : Up (fLines d1 d2 st k j sp cnt fl) x ↔ Blk p1 d1 s1 p2 d2 s2 cnt fl (k + x * st) := by
  have e1 : x * (st - sp) = x * st - x * sp := Int.mul_sub x st sp
  have e2 : x * (0 - sp) = -(x * sp) := by rw [Int.zero_sub]; exact Int.mul_neg x sp
  have ej : p1 + (k + x * st) * s1 = p2 + (j + x * sp) * s2 := by grind
  have uj : ∀ m : Int, p1 + (k + x * st) * s1 = p2 + m * s2 → m = j + x * sp := fun m h => Int.eq_of_mul_eq_mul_right h2 (by rw [ej] at h; omega)
  unfold fLines
  rw [up_app, up_opt]
  constructor
  · rintro ⟨g, gc⟩
    have g1 : 0 ≤ j + x * sp := g (j, sp) List.mem_cons_self
    have g2 : 0 ≤ d1 + k - d2 - j - (if fl = true then 0 else 1) + x * (st - sp) := g _ (List.mem_cons_of_mem _ List.mem_cons_self)
    refine ⟨j + x * sp, g1, ej, fun c ec => ?_, ?_⟩
    · have : 0 ≤ c - 1 - j + x * (0 - sp) := gc c ec
      omega
    · cases fl with
      | true =>
        have g2 : 0 ≤ d1 + k - d2 - j - 0 + x * (st - sp) := g2
        by_cases c : d2 + (j + x * sp) < d1 + (k + x * st)
        · exact .inl c
        · exact .inr ⟨rfl, by omega⟩
      | false =>
        have g2 : 0 ≤ d1 + k - d2 - j - 1 + x * (st - sp) := g2
        exact .inl (by omega)
  · rintro ⟨m, m0, e, pc, o⟩
    obtain rfl := uj m e
    refine ⟨fun z hz => ?_, fun c ec => ?_⟩
    · rcases List.mem_cons.mp hz with rfl | hz
      · exact m0
      · obtain rfl := List.mem_singleton.mp hz
        show 0 ≤ d1 + k - d2 - j - (if fl = true then 0 else 1) + x * (st - sp)
        rcases o with o | ⟨rfl, o⟩
        · split <;> omega
        · show 0 ≤ d1 + k - d2 - j - 0 + x * (st - sp)
          omega
    · have := pc c ec
      show 0 ≤ c - 1 - j + x * (0 - sp)
      omega
theorem first_least {p1 d1 s1 p2 d2 s2 g st k j sp : Int} (h2 : s2 ≠ 0) (M : Meet s1 s2 (p2 - p1) g st k) (hj : j * s2 = k * s1 - (p2 - p1)) (hs : sp * s2 = s1 * st) {cnt : Option Int} {fl : Bool} : ∀ {r : Option (Int × Option Int)}, SpnOf (fLines d1 d2 st k j sp cnt fl) r →
    Least (Blk p1 d1 s1 p2 d2 s2 cnt fl) (r.map fun z => k + z.1 * st) := by
  have stp := M.st.1
  have k0 := M.r0
  have k1 := M.r1
  have at_ : ∀ n, 0 ≤ n → Blk p1 d1 s1 p2 d2 s2 cnt fl n → ∃ x, 0 ≤ x ∧ n = k + x * st := fun n n0 ⟨m, m0, e, _⟩ => by
    have e' : p1 + n * s1 = p2 + m * s2 := e
    obtain ⟨x, hx⟩ := (M.at_ n).mp ⟨m, by rw [Int.mul_comm s2 m]; omega⟩
    refine ⟨x, ?_, by rw [Int.mul_comm] at hx; omega⟩
    by_cases c : 0 ≤ x
    · exact c
    · have := Int.mul_le_mul_of_nonneg_left (show x ≤ -1 by omega) (show 0 ≤ st by omega)
      omega
  intro r hr
  cases r with
  | none =>
    intro n n0 b
    obtain ⟨x, x0, rfl⟩ := at_ n n0 b
    exact hr x x0 ((first_up h2 hj hs x).mpr b)
  | some z =>
    obtain ⟨a, b⟩ := z
    obtain ⟨a0, ab, iff⟩ := hr
    have as := Int.mul_nonneg a0 (show 0 ≤ st by omega)
    refine ⟨show 0 ≤ k + a * st by omega, (first_up h2 hj hs a).mp ((iff a a0).mpr ⟨Int.le_refl a, ab⟩), fun n n0 nl bl => ?_⟩
    obtain ⟨x, x0, rfl⟩ := at_ n n0 bl
    have ax := ((iff x x0).mp ((first_up h2 hj hs x).mpr bl)).1
    have := Int.mul_le_mul_of_nonneg_right ax (show 0 ≤ st by omega)
    have nl : k + x * st < k + a * st := nl
    omega
theorem commW_no {p1 s1 p2 s2 d1 d2 : Int} (C : CommW p1 s1 p2 s2 none) {cnt : Option Int} {fl : Bool} : Least (Blk p1 d1 s1 p2 d2 s2 cnt fl) none := by
  cases C with
  | no h => exact fun n n0 ⟨j, j0, e, _⟩ => h n n0 ⟨j, j0, e⟩
abbrev s__law_first : Stmt := (topS 60)
abbrev N_sc__law_first : List Str := ["_law_this", "_law_that", "_law_common_here", "_law_number", "_law_early", "_law_k", "_law_period", "_law_j", "_law_step", "_law_late", "_law_bounds", "_law_low", "_law_high", "_law_growth", "_law_free"]
abbrev P__law_first : List Str := ["_law_this", "_law_that", "_law_common_here", "_law_number", "_law_early"]
theorem sc__law_first : FnScope N_sc__law_first P__law_first (defScope s__law_first) := ⟨rfl, rfl, rfl, by decide +kernel, rfl, by decide +kernel, by decide +kernel⟩
def spFirst (K : PySem.W.Frag) : Sp := fun vs H Q _ => ∃ (t1 t2 : Addr) (q1 q2 : Quad) (cv : V) (cnt : Option Int) (fl : Bool), vs = [.ref t1, .ref t2, cv, optV cnt, .bl fl] ∧ SqT K H t1 (quadV q1) ∧ SqT K H t2 (quadV q2) ∧ QuadOk q1 ∧ QuadOk q2 ∧ ComAt H cv q1 q2 ∧ (∀ c, cnt = some c → 0 ≤ c) ∧
  ∀ r H', Least (Blk q1.2.2.1 q1.2.1 q1.2.2.2 q2.2.2.1 q2.2.1 q2.2.2.2 cnt fl) r → (∀ n, r = some n → n ≤ 10 ^ 70) → Same H H' → Q (optV r) H'
section
variable {P : Program} {w : World} {K : PySem.W.Frag} {mg : Str → Option Value} {base : Heap}
set_option maxHeartbeats 16000000 in
theorem ok_first (D : Dfn K mg "_law_first" s__law_first P__law_first) (B : Blt mg) : Cal P w K mg base 1 "_law_first" P__law_first (spFirst K) := by
  refine D.cal sc__law_first (fun vs H Q E h => ?_) fun f cdv A outer s H vs Q E hr h => ?_
  · obtain ⟨_, _, _, _, _, _, _, rfl, _⟩ := h
    rfl
  obtain ⟨t1, t2, ⟨n1, d1, p1, s1⟩, ⟨n2, d2, p2, s2⟩, cv, cnt, fl, rfl, h1, h2, o1, o2, hc, c0, q⟩ := h
  refine ⟨_, (pss_cons (ps_if (pt_cmpR op_isN (pv 2) pe_non (nomark _)) (pss_one (ps_ret pe_non)) pss_nil) (pss_cons (ps_asg (pv 2) (pg_tup rfl (pgs_cons (pg_name (i := 5) sc__law_first.nd rfl (Or.inl rfl)) (pgs_cons (pg_name (i := 6) sc__law_first.nd rfl (Or.inl rfl)) (pgs_cons (pg_name (i := 7) sc__law_first.nd rfl (Or.inl rfl)) (pgs_cons (pg_name (i := 8) sc__law_first.nd rfl (Or.inl rfl)) pgs_nil)))))) (C8.pss_cut (ps_set (i := 9) sc__law_first.nd rfl (Or.inl rfl) (pe_op op_sub (pe_op op_sub (pe_op op_sub (pe_op op_add (pe_ix ix_tup (pv 0) pe_int (fun _ _ => rfl)) (pv 5)) (pe_ix ix_tup (pv 1) pe_int (fun _ _ => rfl))) (pv 7)) (pe_callTy call_int1 rfl B.int_ (by decide +kernel) (pa_cons (pe_not (pv 4)) pa_nil)))) (pss_cons (ps_set (i := 10) sc__law_first.nd rfl (Or.inl rfl) (pe_lst (pa_cons (pe_tup (pa_cons (pv 8) (pa_cons (pv 7) pa_nil))) (pa_cons (pe_tup (pa_cons (pe_op op_sub (pv 6) (pv 8)) (pa_cons (pv 9) pa_nil))) pa_nil)))) (C8.pss_cut (ps_if (pt_cmpR op_notN (pv 3) pe_non (nomark _)) (pss_one (ps_expr (pe_bm PySem.F.plainAttrs_list PySem.F.slot_list_append PySem.F.type_list_append mt_append (pv 10) (pa_cons (pe_tup (pa_cons (pe_op op_sub pe_int (pv 8)) (pa_cons (pe_op op_sub (pe_op op_sub (pv 3) pe_int) (pv 7)) pa_nil))) pa_nil)))) pss_nil) (pss_cons (ps_asg (pe_tup (pa_cons pe_int (pa_cons pe_non pa_nil))) (pg_tup rfl (pgs_cons (pg_name (i := 11) sc__law_first.nd rfl (Or.inl rfl)) (pgs_cons (pg_name (i := 12) sc__law_first.nd rfl (Or.inl rfl)) pgs_nil)))) (pss_cons (ps_for PassesOwn.never rfl (pi_list (pv 10)) (pg_tup rfl (pgs_cons (pg_name (i := 13) sc__law_first.nd rfl (Or.inl rfl)) (pgs_cons (pg_name (i := 14) sc__law_first.nd rfl (Or.inl rfl)) pgs_nil))) (pss_cons (ps_if (PW.pt (pw_and (pt_cmpR op_eq (pv 13) pe_int (nomark _)) (pw_and1 (pt_cmpR op_lt (pv 14) pe_int (nomark _))))) (pss_one (ps_ret pe_non)) pss_nil) (pss_cons (ps_if (pt_cmpR op_gt (pv 13) pe_int (nomark _)) (pss_one (ps_set (i := 11) sc__law_first.nd rfl (Or.inl rfl) (pe_callB (call_max2 rfl) rfl B.max_ (by decide +kernel) (pa_cons (pv 11) (pa_cons (pe_op op_sub pe_int (pe_op op_fdivX (pv 14) (pv 13))) pa_nil))))) pss_nil) (pss_one (ps_if (PW.pt (pw_and (pt_cmpR op_lt (pv 13) pe_int (nomark _)) (pw_and1 (PW.pt (pw_or (pt_cmpR op_isN (pv 12) pe_non (nomark _)) (pw_or1 (pt_cmpR op_lt (pe_op op_fdivX (pv 14) (pe_op op_sub pe_int (pv 13))) (pv 12) (nomark _)))))))) (pss_one (ps_set (i := 12) sc__law_first.nd rfl (Or.inl rfl) (pe_op op_fdivX (pv 14) (pe_op op_sub pe_int (pv 13))))) pss_nil))))) (pss_one (ps_ret (pe_ifExp (PW.pt (pw_or (pt_cmpR op_isN (pv 12) pe_non (nomark _)) (pw_or1 (pt_cmpR op_le (pv 11) (pv 12) (nomark _))))) (pe_op op_add (pv 5) (pe_op op_mulW (pv 11) (pv 6))) pe_non)))))))))), ?_⟩
  rcases hc with ⟨rfl, cw⟩ | ⟨t, st, k, j, sp, rfl, ht, M, hj, hs⟩
  · exact ⟨_, rfl, rfl, _, rfl, iteDT rfl (q none H (commW_no cw) (fun n e => by cases e) (Same.refl _))⟩
  have o1 : PartOk n1 d1 p1 s1 := o1
  have o2 : PartOk n2 d2 p2 s2 := o2
  have M : Meet s1 s2 (p2 - p1) (Int.gcd s1 s2 : Int) st k := M
  have hj : j * s2 = k * s1 - (p2 - p1) := hj
  have hs : sp * s2 = s1 * st := hs
  refine ⟨_, rfl, rfl, _, rfl, iteDF (fun z => by cases z) ?_⟩
  refine ⟨_, rfl, t, _, rfl, .inl (.inl ht), rfl, _, _, rfl, _, _, rfl, _, _, rfl, _, _, rfl, rfl, ?_⟩
  refine ⟨fun σ' H' => σ' = [some (.ref t1), some (.ref t2), some (.ref t), some (optV cnt), some (.bl fl), some (.int k), some (.int st), some (.int j), some (.int sp), some (.int (d1 + k - d2 - j - (if fl = true then 0 else 1))), none, none, none, none, none] ∧ H' = H, ?_, ?_⟩
  · refine ⟨_, rfl, t1, _, _, _, rfl, rfl, h1, atI_nat (j := 1) rfl, _, rfl, _, _, rfl, rfl, _, rfl, t2, _, _, _, rfl, rfl, h2, atI_nat (j := 1) rfl, _, _, rfl, rfl, _, rfl, _, _, rfl, rfl, _, rfl, _, rfl, .inr ⟨_, rfl, _, _, rfl, rfl, ?_⟩⟩
    cases fl <;> exact ⟨rfl, rfl⟩
  rintro σ' H' ⟨rfl, rfl⟩
  have b1 := o1.d1
  have b2 := o2.d1
  have b3 := o1.d0
  have b4 := o2.d0
  have r0 := M.r0
  have r1 := M.r1
  have stp := M.st.1
  have stl : st ≤ 10 ^ 18 := by
    have h1 := M.se
    have h2 := M.d0
    have h3 : st * 1 ≤ st * (Int.gcd s1 s2 : Int) := Int.mul_le_mul_of_nonneg_left (by omega) (by omega)
    have := o2.s0
    have := o2.s1
    omega
  have jb : -(10 ^ 37) ≤ j ∧ j ≤ 10 ^ 37 := by
    have h0 := mul_bd (a := k) (b := s1) (A := 10 ^ 18) (B := 10 ^ 18) r0 (by omega) o1.s0 o1.s1 (by decide)
    have h1 := o1.p0
    have h2 := o1.p1
    have h3 := o2.p0
    have h4 := o2.p1
    have h5 : (j * s2).natAbs ≤ 10 ^ 37 := by rw [hj]; omega
    rw [Int.natAbs_mul] at h5
    have h6 : 1 ≤ s2.natAbs := by have := o2.sn; omega
    have h7 := Nat.mul_le_mul_left j.natAbs h6
    omega
  have spb : sp.natAbs ≤ 10 ^ 37 := by
    have h0 := mul_bd (a := st) (b := s1) (A := 10 ^ 18) (B := 10 ^ 18) (by omega) stl o1.s0 o1.s1 (by decide)
    have h5 : (sp * s2).natAbs ≤ 10 ^ 37 := by rw [hs, Int.mul_comm]; omega
    rw [Int.natAbs_mul] at h5
    have h6 : 1 ≤ s2.natAbs := by have := o2.sn; omega
    have h7 := Nat.mul_le_mul_left sp.natAbs h6
    omega
  refine ⟨_, rfl, _, rfl, by show 2 ≤ sizeLine; decide, fun u1 nu1 => ?_⟩
  refine ⟨_, rfl, _, rfl, _, _, rfl, rfl, _, rfl, by show 2 ≤ sizeLine; decide, fun u2 nu2 => ?_⟩
  refine ⟨by show 2 ≤ sizeLine; decide, fun Lb nLb => ?_⟩
  have w1 := same_new nu1 (.tup [.int sp, .int j])
  have w2 := same_new nu2 (.tup [.int (st - sp), .int (d1 + k - d2 - j - (if fl = true then 0 else 1))])
  have w3 := same_new nLb (.lst [.ref u1, .ref u2])
  have nLb0 : H' Lb = none := by
    cases e : H' Lb with
    | none => rfl
    | some o => rw [w2 _ _ (w1 _ _ e)] at nLb; cases nLb
  refine ⟨fun σ' H2 => ∃ zs : List (Addr × Int × Int), σ' = [some (.ref t1), some (.ref t2), some (.ref t), some (optV cnt), some (.bl fl), some (.int k), some (.int st), some (.int j), some (.int sp), some (.int (d1 + k - d2 - j - (if fl = true then 0 else 1))), some (.ref Lb), none, none, none, none] ∧ H2 Lb = some (.lst (zs.map fun z => V.ref z.1)) ∧
    (∀ z ∈ zs, H2 z.1 = some (.tup [.int z.2.2, .int z.2.1])) ∧ zs.map (·.2) = fLines d1 d2 st k j sp cnt fl ∧ Same H' H2, ?_, ?_⟩
  · have a1 := w3 _ _ (w2 _ _ (upd_same (H := H') (a := u1) (o := .tup [.int sp, .int j])))
    have a2 := w3 _ _ (upd_same (H := upd H' u1 (.tup [.int sp, .int j])) (a := u2) (o := .tup [.int (st - sp), .int (d1 + k - d2 - j - (if fl = true then 0 else 1))]))
    refine ⟨_, rfl, rfl, _, rfl, ?_⟩
    cases cnt with
    | none =>
      refine iteNS rfl ⟨[(u1, j, sp), (u2, d1 + k - d2 - j - (if fl = true then 0 else 1), st - sp)], rfl, upd_same, fun z hz => ?_, rfl, (w1.trans w2).trans w3⟩
      rcases List.mem_cons.mp hz with rfl | hz
      · exact a1
      · obtain rfl := List.mem_singleton.mp hz
        exact a2
    | some c =>
      refine iteNN (fun z => by cases z) ?_
      refine ⟨_, rfl, .inl ⟨rfl, _, SqL.of upd_same⟩, _, rfl, _, _, rfl, rfl, _, rfl, _, _, rfl, rfl, _, rfl, _, _, rfl, rfl, by show 2 ≤ sizeLine; decide, fun u3 nu3 => ?_⟩
      have w4 := same_new nu3 (.tup [.int (0 - sp), .int (c - 1 - j)])
      have hLb := w4 _ _ upd_same
      refine ⟨Lb, _, _, rfl, rfl, hLb, by show 2 < sizeLine; decide, [(u1, j, sp), (u2, d1 + k - d2 - j - (if fl = true then 0 else 1), st - sp), (u3, c - 1 - j, 0 - sp)], rfl, upd_same, fun z hz => ?_, rfl, sameAt (((w1.trans w2).trans w3).trans w4) nLb0⟩
      rcases List.mem_cons.mp hz with rfl | hz
      · rw [upd_ne (ne_of (w4 _ _ a1) hLb (by intro z; cases z))]
        exact w4 _ _ a1
      · rcases List.mem_cons.mp hz with rfl | hz
        · rw [upd_ne (ne_of (w4 _ _ a2) hLb (by intro z; cases z))]
          exact w4 _ _ a2
        · obtain rfl := List.mem_singleton.mp hz
          rw [upd_ne (ne_of upd_same hLb (by intro z; cases z)), upd_same]
  rintro σ' H2 ⟨zs, rfl, hLb, hz, ez, s2'⟩
  have bd : ∀ z ∈ zs, -(10 ^ 38) ≤ z.2.1 ∧ z.2.2.natAbs ≤ 10 ^ 38 := fun z hzz => by
    have hm : z.2 ∈ fLines d1 d2 st k j sp cnt fl := by rw [← ez]; exact List.mem_map_of_mem hzz
    unfold fLines at hm
    rcases List.mem_append.mp hm with hm | hm
    · rcases List.mem_cons.mp hm with e | hm
      · rw [e]
        exact ⟨by show -(10 ^ 38) ≤ j; omega, by show sp.natAbs ≤ 10 ^ 38; omega⟩
      · rw [List.mem_singleton.mp hm]
        refine ⟨?_, by show (st - sp).natAbs ≤ 10 ^ 38; omega⟩
        show -(10 ^ 38) ≤ d1 + k - d2 - j - (if fl = true then 0 else 1)
        split <;> omega
    · obtain ⟨c, hc, e⟩ := List.mem_map.mp hm
      rw [← e]
      have := c0 c (by cases cnt with | none => cases hc | some x => obtain rfl := List.mem_singleton.mp hc; rfl)
      exact ⟨by show -(10 ^ 38) ≤ c - 1 - j; omega, by show (0 - sp).natAbs ≤ 10 ^ 38; omega⟩
  have zget : ∀ (i : Nat) (x : V), (zs.map fun z => V.ref z.1)[i]? = some x → ∃ z, z ∈ zs ∧ x = V.ref z.1 ∧ (zs.map (·.2)).take (i + 1) = (zs.map (·.2)).take i ++ [z.2] := fun i x hx => by
    obtain ⟨z, e, rfl⟩ := map_get hx
    refine ⟨z, List.mem_of_getElem? e, rfl, ?_⟩
    rw [List.take_add_one, List.getElem?_map, e]
    rfl
  refine ⟨by show 2 ≤ sizeLine; decide, fun u0 hu0 => ⟨u0, _, rfl, SqT.of upd_same, rfl, _, _, rfl, _, _, rfl, rfl, ?_⟩⟩
  have s0 := same_new hu0 (.tup [.int 0, .non])
  refine ⟨_, rfl, Lb, rfl, ⟨_, SqL.of (s0 _ _ hLb)⟩, for_list (K := K) (a := Lb) (xs := zs.map fun z => V.ref z.1) (fun i σ' H3 => ∃ (a : Int) (b : Option Int) (o13 o14 : Option V), σ' = [some (.ref t1), some (.ref t2), some (.ref t), some (optV cnt), some (.bl fl), some (.int k), some (.int st), some (.int j), some (.int sp), some (.int (d1 + k - d2 - j - (if fl = true then 0 else 1))), some (.ref Lb), some (.int a), some (optV b), o13, o14] ∧
    Spn (10 ^ 38) ((zs.map (·.2)).take i) a b ∧ Same H2 H3) ⟨0, none, none, none, rfl, Spn.start (by decide), s0⟩ (fun i σ' H' _ h => by obtain ⟨_, _, _, _, _, _, h⟩ := h; exact SqL.of (h _ _ hLb)) ?_ ?_⟩
  · rintro i v σ' H3 hv ⟨a, b, o13, o14, rfl, I, sm⟩
    obtain ⟨z, zm, rfl, tk⟩ := zget i v hv
    obtain ⟨tz, s, g⟩ := z
    have htz : H3 tz = some (.tup [.int g, .int s]) := sm _ _ (hz _ zm)
    obtain ⟨a0, g0⟩ : -(10 ^ 38) ≤ s ∧ g.natAbs ≤ 10 ^ 38 := bd _ zm
    have tk : (zs.map (·.2)).take (i + 1) = (zs.map (·.2)).take i ++ [(s, g)] := tk
    have dvx : ∀ x : Int, x.natAbs = g.natAbs → x ≠ 0 → CDivX s x := fun x e n => ⟨n, Nat.lt_of_lt_of_le (log2_small (show x.natAbs < 2 ^ 140 by omega) (by decide)) (by decide)⟩
    refine ⟨tz, _, rfl, SqT.of htz, rfl, _, _, rfl, _, _, rfl, rfl, ?_⟩
    by_cases z0 : g = 0
    · subst z0
      refine ⟨_, rfl, rfl, _, rfl, iteDT rfl ?_⟩
      refine ⟨_, rfl, _, _, rfl, rfl, _, rfl, ?_⟩
      by_cases c : s < 0
      · refine iteDT c ?_
        exact q none H3 (first_least o2.sn M hj hs (r := none) (by rw [← ez]; exact spn_zero (List.mem_map.mpr ⟨_, zm, rfl⟩) c)) (fun n e => by cases e) (s2'.trans sm)
      · refine iteDF c ?_
        refine ⟨_, rfl, _, _, rfl, rfl, _, rfl, iteDF (by decide) ?_⟩
        refine ⟨_, rfl, _, _, rfl, rfl, _, rfl, iteDF (by decide) ?_⟩
        exact ⟨a, b, _, _, rfl, by rw [tk]; exact I.flat (by omega), sm⟩
    refine ⟨_, rfl, rfl, _, rfl, iteDF (fun z => z0 (V.int.inj z)) ?_⟩
    refine ⟨_, rfl, _, _, rfl, rfl, _, rfl, ?_⟩
    by_cases pos : 0 < g
    · refine iteDT pos ?_
      refine ⟨_, rfl, _, rfl, _, rfl, _, _, rfl, rfl, dvx g rfl z0, _, _, rfl, rfl, _, _, rfl, ?_⟩
      have e : (if 0 - s.fdiv g > a then 0 - s.fdiv g else a) = max a (-(s / g)) := by
        rw [Int.fdiv_eq_ediv_of_nonneg s (by omega)]
        split <;> omega
      refine ⟨_, rfl, _, _, rfl, rfl, _, rfl, iteDF (by omega) ?_⟩
      exact ⟨_, b, _, _, rfl, by rw [tk, e]; exact I.pos pos a0, sm⟩
    · refine iteDF pos ?_
      have neg : g < 0 := by omega
      refine ⟨_, rfl, _, _, rfl, rfl, _, rfl, iteDT neg ?_⟩
      have e : s.fdiv (0 - g) = s / (-g) := by rw [Int.zero_sub, Int.fdiv_eq_ediv_of_nonneg s (by omega)]
      cases b with
      | none =>
        refine ⟨_, rfl, rfl, _, rfl, iteDT rfl ?_⟩
        refine ⟨_, rfl, _, rfl, _, _, rfl, rfl, _, _, rfl, rfl, dvx _ (by omega) (by omega), ?_⟩
        exact ⟨a, some _, _, _, rfl, by rw [tk, e]; exact I.neg neg, sm⟩
      | some m =>
        refine ⟨_, rfl, rfl, _, rfl, iteDF (by intro z; cases z) ?_⟩
        refine ⟨_, rfl, _, rfl, _, _, rfl, rfl, _, _, rfl, rfl, dvx _ (by omega) (by omega), _, rfl, _, _, rfl, rfl, _, rfl, ?_⟩
        by_cases c : s.fdiv (0 - g) < m
        · refine iteDT c ?_
          refine ⟨_, rfl, _, rfl, _, _, rfl, rfl, _, _, rfl, rfl, dvx _ (by omega) (by omega), ?_⟩
          have e2 : min m (s / (-g)) = s.fdiv (0 - g) := by rw [e] at c ⊢; omega
          exact ⟨a, some _, _, _, rfl, by rw [tk, ← e2]; exact I.neg neg, sm⟩
        · refine iteDF c ?_
          have e2 : min m (s / (-g)) = m := by rw [e] at c; omega
          refine ⟨a, some m, _, _, rfl, ?_, sm⟩
          have z : Spn (10 ^ 38) ((zs.map (·.2)).take i ++ [(s, g)]) a (some (min m (s / (-g)))) := I.neg neg
          rw [e2] at z
          rw [tk]
          exact z
  rintro σ' H3 ⟨a, b, o13, o14, rfl, I, sm⟩
  rw [List.length_map, ← List.length_map (f := fun z : Addr × Int × Int => z.2), List.take_length, ez] at I
  have a0 := I.a0
  have aM := I.aM
  have ab := mul_bd (a := a) (b := st) (A := 10 ^ 38) (B := 10 ^ 18) a0 aM (by omega) stl (by decide)
  have fin : ∀ v' : V, v' = .int (k + a * st) → SpnOf (fLines d1 d2 st k j sp cnt fl) (some (a, b)) → Q v' H3 := fun v' e S => by
    rw [e]
    exact q (some (k + a * st)) H3 (first_least o2.sn M hj hs S) (fun n e => by cases e; omega) (s2'.trans sm)
  refine ⟨_, rfl, rfl, _, rfl, ?_⟩
  cases b with
  | none =>
    refine iteDT rfl ?_
    refine ⟨_, rfl, _, rfl, _, rfl, _, _, rfl, rfl, wide_mul (a := 140) (b := 64) (by omega) (by omega) (by decide) (by decide) (by decide), _, _, rfl, rfl, ?_⟩
    exact fin _ rfl (I.done fun m e => by cases e)
  | some m =>
    refine iteDF (by intro z; cases z) ?_
    refine ⟨_, rfl, _, rfl, _, _, rfl, rfl, _, rfl, ?_⟩
    by_cases c : a ≤ m
    · refine iteDT c ?_
      refine ⟨_, rfl, _, rfl, _, rfl, _, _, rfl, rfl, wide_mul (a := 140) (b := 64) (by omega) (by omega) (by decide) (by decide) (by decide), _, _, rfl, rfl, ?_⟩
      exact fin _ rfl (I.done fun n e => by cases e; exact c)
    · refine iteDF c ?_
      exact q none H3 (first_least o2.sn M hj hs (r := none) (I.fail (by omega))) (fun n e => by cases e) (s2'.trans sm)
end
end Ur
/-! HH: the law's own pairs, and the next stop of a painter. -/
namespace Ur
open PySem PySem.Spec PyProof.Rows L2
theorem natAbs_le {x b : Int} (h0 : -b ≤ x) (h1 : x ≤ b) : (x.natAbs : Int) ≤ b := by omega
section
variable {K : PySem.W.Frag}
theorem Team.ix {H : Hp} {ts : List Addr} {qs : List Quad} (h : Team H ts qs) {i : Nat} (hi : i < qs.length) : ∃ t q, ts[i]? = some t ∧ qs[i]? = some q ∧ H t = some (.tup (quadV q)) ∧ QuadOk q ∧ (ts.map V.ref)[i]? = some (V.ref t) := by
  have hi1 : i < ts.length := by rw [h.len]; exact hi
  have e1 : ts[i]? = some ts[i] := List.getElem?_eq_getElem hi1
  have e2 : qs[i]? = some qs[i] := List.getElem?_eq_getElem hi
  exact ⟨_, _, e1, e2, h.at_ i _ _ e1 e2, h.ok _ (List.getElem_mem hi), by rw [List.getElem?_map, e1]; rfl⟩
theorem same_sql {H H' : Hp} {F : Addr} {xs : List V} (s : Same H H') (h : SqL K H F xs) : SqL K H' F xs := by
  rcases h with (h | ⟨o, h⟩) | h
  · exact .inl (.inl (s _ _ h))
  · exact .inl (.inr ⟨o, s _ _ h⟩)
  · exact .inr h
end
/-- the common posts of all pairs -/
def PairD (H : Hp) (kvs : List (List Key × V)) (qs : List Quad) (S : Nat → Nat → Prop) : Prop := ∀ (a b : Nat) (x y : Quad), qs[a]? = some x → qs[b]? = some y → a ≠ b → S a b → ∃ v, valV kvs [Sum.inl (a : Int), Sum.inl (b : Int)] = some v ∧ ComAt H v x y
theorem PairD.same {H H' : Hp} {kvs : List (List Key × V)} {qs : List Quad} {S : Nat → Nat → Prop} (h : PairD H kvs qs S) (s : Same H H') : PairD H' kvs qs S := fun a b x y h1 h2 h3 h4 => let ⟨v, e, c⟩ := h a b x y h1 h2 h3 h4; ⟨v, e, c.same s⟩
theorem ComAt.upd {H : Hp} {v : V} {q1 q2 : Quad} {d : Addr} {o o' : HO} (h : ComAt H v q1 q2) (hd : H d = some o) (n : ∀ xs, o ≠ .tup xs) : ComAt (upd H d o') v q1 q2 := h.imp id fun ⟨t, st, k, j, sp, e, ht, r⟩ => ⟨t, st, k, j, sp, e, by rw [upd_ne (ne_of ht hd (fun z => n _ z.symm))]; exact ht, r⟩
abbrev s__law_pairs : Stmt := (topS 61)
abbrev N_sc__law_pairs : List Str := ["_law_painters", "_law_found", "_law_a", "_law_b"]
abbrev P__law_pairs : List Str := ["_law_painters"]
theorem sc__law_pairs : FnScope N_sc__law_pairs P__law_pairs (defScope s__law_pairs) := ⟨rfl, rfl, rfl, by decide +kernel, rfl, by decide +kernel, by decide +kernel⟩
def spPairs (K : PySem.W.Frag) : Sp := fun vs H Q _ => ∃ (F : Addr) (ts : List Addr) (qs : List Quad), vs = [.ref F] ∧ SqL K H F (ts.map V.ref) ∧ Team H ts qs ∧ ∀ d kvs H', H' d = some (.dT kvs) → PairD H' kvs qs (fun _ _ => True) → Same H H' → Q (.ref d) H'
section
variable {P : Program} {w : World} {K : PySem.W.Frag} {mg : Str → Option Value} {base : Heap}
set_option maxHeartbeats 16000000 in
theorem ok_pairs (D : Dfn K mg "_law_pairs" s__law_pairs P__law_pairs) (B : Blt mg) (CCo : Cal P w K mg base 2 "_law_common" P__law_common (spCom K)) : Cal P w K mg base 3 "_law_pairs" P__law_pairs (spPairs K) := by
  refine D.cal sc__law_pairs (fun vs H Q E h => ?_) fun f cdv A outer s H vs Q E hr h => ?_
  · obtain ⟨_, _, _, rfl, _⟩ := h
    rfl
  obtain ⟨F, ts, qs, rfl, hF, tm, q⟩ := h
  have hu := hu_of hr
  have few := tm.few
  have tl : (ts.map V.ref).length = qs.length := by rw [List.length_map, tm.len]
  refine ⟨_, (pss_cons (ps_set (i := 1) sc__law_pairs.nd rfl (Or.inl rfl) pe_dnewT) (pss_cons (ps_for PassesOwn.never rfl (pi_range1 rfl B.range_ (pa_cons (pe_callB call_len_seq rfl B.len_ PySem.boot_len (pa_cons (pv 0) pa_nil)) pa_nil)) (pg_name (i := 2) sc__law_pairs.nd rfl (Or.inl rfl)) (pss_one (ps_for PassesOwn.never rfl (pi_range1 rfl B.range_ (pa_cons (pe_callB call_len_seq rfl B.len_ PySem.boot_len (pa_cons (pv 0) pa_nil)) pa_nil)) (pg_name (i := 3) sc__law_pairs.nd rfl (Or.inl rfl)) (pss_one (ps_if (pt_cmpR op_ne (pv 2) (pv 3) (nomark _)) (pss_one (ps_dput hu (pv 1) (pe_tup (pa_cons (pv 2) (pa_cons (pv 3) pa_nil))) (pe_cal CCo (hr.mono (by decide)) (pa_cons (pe_ix ix_list (pv 0) (pv 2) (fun _ _ => rfl)) (pa_cons (pe_ix ix_list (pv 0) (pv 3) (fun _ _ => rfl)) pa_nil))) rfl)) pss_nil))))) (pss_one (ps_ret (pv 1))))), ?_⟩
  refine fun d nd => ?_
  have sd := same_new nd (.dT [])
  refine ⟨_, rfl, F, _, rfl, .inl (same_sql sd hF), _, rfl, by omega, by omega, ?_⟩
  rw [tl]
  refine for_range (lo := 0) (n := qs.length) (fun i σ H1 => ∃ (kvs : List (List Key × V)) (o2 o3 : Option V), σ = [some (.ref F), some (.ref d), o2, o3] ∧ H1 d = some (.dT kvs) ∧ PairD H1 kvs qs (fun a _ => a < i) ∧ kvs.length ≤ 40 * i ∧ Same H H1) ⟨[], _, _, rfl, upd_same, (fun a b x y h1 h2 h3 h4 => absurd h4 (Nat.not_lt_zero a)), Nat.zero_le _, sd⟩ ?_ ?_
  · rintro i σ H1 hi ⟨kvs, o2, o3, rfl, hd, pd, lk, s1⟩
    obtain ⟨t1, q1, f1, f2, f3, f4, f5⟩ := tm.ix hi
    refine ⟨_, rfl, F, _, rfl, .inl (same_sql s1 hF), _, rfl, by omega, by omega, ?_⟩
    rw [tl]
    refine for_range (lo := 0) (n := qs.length) (fun j σ H2 => ∃ (kvs : List (List Key × V)) (o3 : Option V), σ = [some (.ref F), some (.ref d), some (.int (0 + (i : Int))), o3] ∧ H2 d = some (.dT kvs) ∧ PairD H2 kvs qs (fun a b => a < i ∨ a = i ∧ b < j) ∧ kvs.length ≤ 40 * i + j ∧ Same H H2) ⟨kvs, _, rfl, hd, (fun a b x y h1 h2 h3 h4 => pd a b x y h1 h2 h3 (by omega)), by omega, s1⟩ ?_ ?_
    · rintro j σ H2 hj ⟨kvs, o3, rfl, hd, pd, lk, s2⟩
      obtain ⟨t2, q2, g1, g2, g3, g4, g5⟩ := tm.ix hj
      have zi : (0 : Int) + (i : Int) = i := by omega
      have zj : (0 : Int) + (j : Int) = j := by omega
      refine ⟨_, rfl, _, rfl, rfl, _, rfl, ?_⟩
      by_cases e : i = j
      · subst e
        refine iteNS rfl ?_
        exact ⟨kvs, _, rfl, hd, fun a b x y h1 h2 h3 h4 => pd a b x y h1 h2 h3 (by omega), by omega, s2⟩
      · refine iteNN (fun z => e (by have := V.int.inj z; omega)) ?_
        refine ⟨_, rfl, _, rfl, F, _, _, _, rfl, rfl, same_sql s2 hF, by rw [zi]; exact atI_nat f5, _, rfl, _, rfl, F, _, _, _, rfl, rfl, same_sql s2 hF, by rw [zj]; exact atI_nat g5, ?_⟩
        obtain ⟨n1, d1, p1, s1'⟩ := q1
        obtain ⟨n2, d2, p2, s2'⟩ := q2
        have k1 : PartOk n1 d1 p1 s1' := f4
        have k2 : PartOk n2 d2 p2 s2' := g4
        have a1 := k1.s0
        have a2 := k1.s1
        have a3 := k1.p0
        have a4 := k1.p1
        have a5 := k2.s0
        have a6 := k2.s1
        have a7 := k2.p0
        have a8 := k2.p1
        refine ⟨t1, t2, _, _, p1, s1', _, _, p2, s2', rfl, .inl (.inl (s2 _ _ f3)), .inl (.inl (s2 _ _ g3)), k1.sn, k2.sn, by omega, by omega, by omega, by omega, fun v H3 s3 hv => ?_⟩
        have hd3 := s3 _ _ hd
        refine ⟨_, rfl, _, rfl, _, rfl, by show 2 ≤ sizeLine; decide, fun tk ntk => ?_⟩
        have s4 := same_new ntk (.tup [.int (0 + (i : Int)), .int (0 + (j : Int))])
        have hd4 := s4 _ _ hd3
        have hk : upd H3 tk (.tup [.int (0 + (i : Int)), .int (0 + (j : Int))]) tk = some (.tup (([Sum.inl (i : Int), Sum.inl (j : Int)] : List Key).map kV)) := by rw [upd_same, zi, zj]; rfl
        refine ⟨d, _, rfl, DPut.t hd4 hk (Nat.lt_of_le_of_lt (show kvs.length ≤ 1640 by omega) (by decide)), ?_⟩
        refine ⟨_, _, rfl, upd_same, fun a b x y h1 h2 h3 h4 => ?_, ?_, ?_⟩
        · rw [valV_put]
          by_cases c : a = i ∧ b = j
          · obtain ⟨rfl, rfl⟩ := c
            rw [if_pos rfl]
            rw [f2] at h1
            rw [g2] at h2
            cases h1
            cases h2
            refine ⟨v, rfl, ?_⟩
            have cv : ComAt H3 v (n1, d1, p1, s1') (n2, d2, p2, s2') := by
              rcases hv with ⟨rfl, c⟩ | ⟨t, st, k, jj, sp, rfl, c1, c2, c3, c4⟩
              · exact .inl ⟨rfl, c⟩
              · exact .inr ⟨t, st, k, jj, sp, rfl, c1, c2, c3, c4⟩
            exact (cv.same s4).upd hd4 (fun xs z => by cases z)
          · have ne : ¬ ([Sum.inl (a : Int), Sum.inl (b : Int)] : List Key) = [Sum.inl (i : Int), Sum.inl (j : Int)] := fun z => by
              injection z with z1 z2
              injection z2 with z2 _
              have z1 := Sum.inl.inj z1
              have z2 := Sum.inl.inj z2
              exact c ⟨by omega, by omega⟩
            rw [if_neg ne]
            obtain ⟨u, e1, e2⟩ := pd a b x y h1 h2 h3 (by omega)
            exact ⟨u, e1, ((e2.same s3).same s4).upd hd4 (fun xs z => by cases z)⟩
        · have := length_putK kvs ([Sum.inl (i : Int), Sum.inl (j : Int)] : List Key) v
          omega
        · have nd0 : H d = none := nd
          exact sameAt ((s2.trans s3).trans s4) nd0
    · rintro σ H2 ⟨kvs, o3, rfl, hd, pd, lk, s2⟩
      exact ⟨kvs, _, _, rfl, hd, fun a b x y h1 h2 h3 h4 => pd a b x y h1 h2 h3 (by have := (List.getElem?_eq_some_iff.mp h2).1; omega), by omega, s2⟩
  · rintro σ H1 ⟨kvs, o2, o3, rfl, hd, pd, lk, s1⟩
    exact ⟨_, rfl, q d kvs H1 hd (fun a b x y h1 h2 h3 h4 => pd a b x y h1 h2 h3 (List.getElem?_eq_some_iff.mp h1).1) s1⟩
end
theorem blk_pblk {qs : List Quad} {a b : Nat} {x y : Quad} {cnt : Option Int} (h1 : qs[a]? = some x) (h2 : qs[b]? = some y) {n : Int} : Blk x.2.2.1 x.2.1 x.2.2.2 y.2.2.1 y.2.1 y.2.2.2 cnt (decide (b < a)) n ↔ PBlk (dQ qs) (fSP qs) a b cnt n := by
  obtain ⟨_, d1, d2, d3⟩ := q_at h1
  obtain ⟨_, d4, d5, d6⟩ := q_at h2
  unfold Blk PBlk fSP
  rw [d1, d2, d3, d4, d5, d6]
  constructor
  · rintro ⟨m, m0, e, pj, o⟩
    exact ⟨m, m0, e, pj, o.imp id fun q => ⟨q.2, of_decide_eq_true q.1⟩⟩
  · rintro ⟨m, m0, e, pj, o⟩
    exact ⟨m, m0, e, pj, o.imp id fun q => ⟨decide_eq_true q.2, q.1⟩⟩
/-- the counts of a list -/
def cnL (cs : List (Option Int)) (i : Nat) : Option Int := match cs[i]? with | some x => x | none => none
theorem cnL_at {cs : List (Option Int)} {i : Nat} {x : Option Int} (h : cs[i]? = some x) : cnL cs i = x := by
  unfold cnL
  rw [h]
/-- the first stop of a painter that could be -/
def NextAt (H : Hp) (v : V) (qs : List Quad) (Cn : Nat → Option Int) (a m : Nat) : Prop := (v = .non ∧ ∀ b, b < m → ∀ n, 0 ≤ n → ¬ PBlk (dQ qs) (fSP qs) a b (Cn b) n) ∨
  ∃ (t : Addr) (k : Int) (b : Nat), v = .ref t ∧ H t = some (.tup [.int (dQ qs a + k), .int (a : Int), .int k, .int (b : Int)]) ∧ b < m ∧ 0 ≤ k ∧ k ≤ 10 ^ 70 ∧ PBlk (dQ qs) (fSP qs) a b (Cn b) k ∧ ∀ c, c < m → ∀ n, 0 ≤ n → n < k → ¬ PBlk (dQ qs) (fSP qs) a c (Cn c) n
theorem NextAt.keep {H H' : Hp} {v : V} {qs : List Quad} {Cn : Nat → Option Int} {a m : Nat} (h : NextAt H v qs Cn a m) (k : ∀ b xs, H b = some (.tup xs) → H' b = some (.tup xs)) : NextAt H' v qs Cn a m := h.imp id fun ⟨t, x, b, e, ht, r⟩ => ⟨t, x, b, e, k _ _ ht, r⟩
abbrev s__law_next : Stmt := (topS 62)
abbrev N_sc__law_next : List Str := ["_law_painters", "_law_pairs_here", "_law_counts", "_law_a", "_law_best", "_law_b", "_law_k"]
abbrev P__law_next : List Str := ["_law_painters", "_law_pairs_here", "_law_counts", "_law_a"]
theorem sc__law_next : FnScope N_sc__law_next P__law_next (defScope s__law_next) := ⟨rfl, rfl, rfl, by decide +kernel, rfl, by decide +kernel, by decide +kernel⟩
def spNext (K : PySem.W.Frag) : Sp := fun vs H Q _ => ∃ (F : Addr) (ts : List Addr) (qs : List Quad) (d Cl : Addr) (kvs : List (List Key × V)) (cs : List (Option Int)) (a : Nat), vs = [.ref F, .ref d, .ref Cl, .int (a : Int)] ∧ SqL K H F (ts.map V.ref) ∧ Team H ts qs ∧ H d = some (.dT kvs) ∧ PairD H kvs qs (fun _ _ => True) ∧ H Cl = some (.lst (cs.map optV)) ∧ cs.length = qs.length ∧
  a < qs.length ∧ (∀ i c, i < qs.length → cnL cs i = some c → 0 ≤ c) ∧ ∀ v H', NextAt H' v qs (cnL cs) a qs.length → Same H H' → Q v H'
section
variable {P : Program} {w : World} {K : PySem.W.Frag} {mg : Str → Option Value} {base : Heap}
set_option maxHeartbeats 16000000 in
theorem ok_next (D : Dfn K mg "_law_next" s__law_next P__law_next) (B : Blt mg) (CFi : Cal P w K mg base 1 "_law_first" P__law_first (spFirst K)) : Cal P w K mg base 2 "_law_next" P__law_next (spNext K) := by
  refine D.cal sc__law_next (fun vs H Q E h => ?_) fun f cdv A outer s H vs Q E hr h => ?_
  · obtain ⟨_, _, _, _, _, _, _, _, rfl, _⟩ := h
    rfl
  obtain ⟨F, ts, qs, d, Cl, kvs, cs, a, rfl, hF, tm, hd, pd, hCl, cl, ha, c0, q⟩ := h
  have hu := hu_of hr
  have few := tm.few
  have tl : (ts.map V.ref).length = qs.length := by rw [List.length_map, tm.len]
  obtain ⟨t1, q1, f1, f2, f3, f4, f5⟩ := tm.ix ha
  have e1 := q_at f2
  refine ⟨_, (pss_cons (ps_set (i := 4) sc__law_next.nd rfl (Or.inl rfl) pe_non) (pss_cons (ps_for PassesOwn.never rfl (pi_range1 rfl B.range_ (pa_cons (pe_callB call_len_seq rfl B.len_ PySem.boot_len (pa_cons (pv 0) pa_nil)) pa_nil)) (pg_name (i := 5) sc__law_next.nd rfl (Or.inl rfl)) (pss_one (ps_if (pt_cmpR op_ne (pv 5) (pv 3) (nomark _)) (pss_cons (ps_set (i := 6) sc__law_next.nd rfl (Or.inl rfl) (pe_cal CFi (hr.mono (by decide)) (pa_cons (pe_ix ix_list (pv 0) (pv 3) (fun _ _ => rfl)) (pa_cons (pe_ix ix_list (pv 0) (pv 5) (fun _ _ => rfl)) (pa_cons (pe_dget hu (pv 1) (pe_tup (pa_cons (pv 3) (pa_cons (pv 5) pa_nil))) (fun _ _ => rfl)) (pa_cons (pe_ix ix_list (pv 2) (pv 5) (fun _ _ => rfl)) (pa_cons (pe_cmpR op_lt (pv 5) (pv 3) (nomark _)) pa_nil))))))) (pss_one (ps_if (PW.pt (pw_and (pt_cmpR op_notN (pv 6) pe_non (nomark _)) (pw_and1 (PW.pt (pw_or (pt_cmpR op_isN (pv 4) pe_non (nomark _)) (pw_or1 (pt_cmpR op_lt (pe_op op_add (pe_ix ix_tup (pe_ix ix_list (pv 0) (pv 3) (fun _ _ => rfl)) pe_int (fun _ _ => rfl)) (pv 6)) (pe_ix ix_tup (pv 4) pe_int (fun _ _ => rfl)) (nomark _)))))))) (pss_one (ps_set (i := 4) sc__law_next.nd rfl (Or.inl rfl) (pe_tup (pa_cons (pe_op op_add (pe_ix ix_tup (pe_ix ix_list (pv 0) (pv 3) (fun _ _ => rfl)) pe_int (fun _ _ => rfl)) (pv 6)) (pa_cons (pv 3) (pa_cons (pv 6) (pa_cons (pv 5) pa_nil))))))) pss_nil))) pss_nil))) (pss_one (ps_ret (pv 4))))), ?_⟩
  refine ⟨_, rfl, F, _, rfl, .inl hF, _, rfl, by omega, by omega, ?_⟩
  rw [tl]
  refine for_range (lo := 0) (n := qs.length) (fun j σ H1 => ∃ (best : V) (o5 o6 : Option V), σ = [some (.ref F), some (.ref d), some (.ref Cl), some (.int (a : Int)), some best, o5, o6] ∧ NextAt H1 best qs (cnL cs) a j ∧ Same H H1) ⟨_, _, _, rfl, .inl ⟨rfl, fun b hb => absurd hb (Nat.not_lt_zero b)⟩, Same.refl _⟩ ?_ ?_
  · rintro j σ H1 hj ⟨best, o5, o6, rfl, nx, s1⟩
    have zj : (0 : Int) + (j : Int) = j := by omega
    obtain ⟨t2, q2, g1, g2, g3, g4, g5⟩ := tm.ix hj
    -- one more that blocks nobody
    have skip : (∀ n, 0 ≤ n → ¬ PBlk (dQ qs) (fSP qs) a j (cnL cs j) n) → ∀ {H2 : Hp}, Same H1 H2 → NextAt H2 best qs (cnL cs) a (j + 1) := fun no H2 s2 => by
      rcases nx with ⟨e, h⟩ | ⟨t, k, b, e, ht, hb, k0, k1, pb, least⟩
      · refine .inl ⟨e, fun b hb n n0 z => ?_⟩
        by_cases c : b = j
        · rw [c] at z
          exact no n n0 z
        · exact h b (by omega) n n0 z
      · refine .inr ⟨t, k, b, e, s2 _ _ ht, by omega, k0, k1, pb, fun c hc n n0 nk z => ?_⟩
        by_cases e : c = j
        · rw [e] at z
          exact no n n0 z
        · exact least c (by omega) n n0 nk z
    refine ⟨_, rfl, _, rfl, rfl, _, rfl, ?_⟩
    by_cases e : j = a
    · subst e
      refine iteNS (congrArg V.int zj) ?_
      exact ⟨best, _, _, rfl, skip (fun n n0 => no_self f2 f4.sn) (Same.refl _), s1⟩
    refine iteNN (fun z => e (by have := V.int.inj z; omega)) ?_
    have tkk : (.tup [.int (a : Int), .int (0 + (j : Int))] : HO) = .tup (([Sum.inl (a : Int), Sum.inl (j : Int)] : List Key).map kV) := by rw [zj]; rfl
    obtain ⟨cv, ecv, hcv⟩ := pd a j q1 q2 f2 g2 (fun z => e z.symm) trivial
    obtain ⟨cn, hcn⟩ : ∃ x, cs[j]? = some x := ⟨_, List.getElem?_eq_getElem (by omega)⟩
    have ecn := cnL_at hcn
    have ecm : (cs.map optV)[j]? = some (optV cn) := by rw [List.getElem?_map, hcn]; rfl
    -- _law_first(..)
    refine ⟨_, rfl, _, rfl, F, _, _, _, rfl, rfl, same_sql s1 hF, atI_nat f5, _, rfl, _, rfl, F, _, _, _, rfl, rfl, same_sql s1 hF, by rw [zj]; exact atI_nat g5, _, rfl, _, rfl, _, rfl, by show 2 ≤ sizeLine; decide, fun tk ntk => ?_⟩
    have s2 := same_new ntk (.tup [.int (a : Int), .int (0 + (j : Int))])
    have dg : DGet (upd H1 tk (.tup [.int (a : Int), .int (0 + (j : Int))])) d (.ref tk) (some cv) := by
      have g := DGet.t (k := [Sum.inl (a : Int), Sum.inl (j : Int)]) (s2 _ _ (s1 _ _ hd)) (by rw [upd_same, tkk])
      rw [ecv] at g
      exact g
    have s12 := s1.trans s2
    refine ⟨d, _, rfl, dg, _, rfl, _, rfl, Cl, _, _, _, rfl, rfl, SqL.of (s12 _ _ hCl), by rw [zj]; exact atI_nat ecm, _, rfl, _, rfl, _, _, rfl, rfl, ?_⟩
    refine ⟨t1, t2, q1, q2, cv, cn, _, rfl, .inl (.inl (s12 _ _ f3)), .inl (.inl (s12 _ _ g3)), f4, g4, hcv.same s12, fun c ec => c0 j c hj (by rw [ecn]; exact ec), fun r H3 le bd s3 => ?_⟩
    have le : Least (PBlk (dQ qs) (fSP qs) a j (cnL cs j)) r := by
      rw [ecn]
      refine le.congr fun n n0 => ?_
      rw [← blk_pblk f2 g2, show decide ((0 : Int) + (j : Int) < (a : Int)) = decide (j < a) from decide_eq_decide.mpr (by omega)]
    have s13 := s12.trans s3
    -- k is not None and ..
    refine ⟨_, rfl, rfl, _, rfl, ?_⟩
    cases r with
    | none =>
      refine iteNS rfl ?_
      exact ⟨best, _, _, rfl, skip (fun n n0 => le n n0) (s2.trans s3), s13⟩
    | some k =>
      refine iteNN (fun z => by cases z) ?_
      obtain ⟨k0, pk, lk⟩ := le
      have k1 := bd k rfl
      have rd : ∀ H4, Same H H4 → H4 t1 = some (.tup (quadV q1)) := fun H4 s => s _ _ f3
      obtain ⟨n1, d1, p1, st1⟩ := q1
      have ed : dQ qs a = d1 := e1.2.1
      -- the new best
      have put : (∀ c, c < j → ∀ n, 0 ≤ n → n < k → ¬ PBlk (dQ qs) (fSP qs) a c (cnL cs c) n) → ∀ (H4 : Hp) (u : Addr), H4 u = some (.tup [.int (d1 + k), .int (a : Int), .int k, .int (0 + (j : Int))]) → NextAt H4 (.ref u) qs (cnL cs) a (j + 1) := fun h H4 u hu => by
        refine .inr ⟨u, k, j, rfl, by rw [hu, ed, zj], by omega, k0, k1, pk, fun c hc n n0 nk z => ?_⟩
        by_cases e : c = j
        · rw [e] at z
          exact lk n n0 nk z
        · exact h c (by omega) n n0 nk z
      rcases nx with ⟨rfl, h⟩ | ⟨t, kb, b, rfl, ht, hb, kb0, kb1, pb, least⟩
      · refine ⟨_, rfl, rfl, _, rfl, iteDT rfl ?_⟩
        refine ⟨_, rfl, _, rfl, F, _, _, _, rfl, rfl, same_sql s13 hF, atI_nat f5, t1, _, _, _, rfl, rfl, SqT.of (rd _ s13), atI_nat (j := 1) rfl, _, rfl, _, _, rfl, rfl, _, rfl, _, rfl, _, rfl, by show 4 ≤ sizeLine; decide, fun u nu => ?_⟩
        have s4 := same_new nu (.tup [.int (d1 + k), .int (a : Int), .int k, .int (0 + (j : Int))])
        exact ⟨.ref u, _, _, rfl, put (fun c hc n n0 nk => h c hc n n0) _ u upd_same, s13.trans s4⟩
      · refine ⟨_, rfl, rfl, _, rfl, iteDF (fun z => by cases z) ?_⟩
        have ht3 := (s2.trans s3) _ _ ht
        refine ⟨_, rfl, _, rfl, F, _, _, _, rfl, rfl, same_sql s13 hF, atI_nat f5, t1, _, _, _, rfl, rfl, SqT.of (rd _ s13), atI_nat (j := 1) rfl, _, rfl, _, _, rfl, rfl, _, rfl, t, _, _, _, rfl, rfl, SqT.of ht3, atI_nat (j := 0) rfl, _, _, rfl, rfl, _, rfl, ?_⟩
        by_cases c : d1 + k < dQ qs a + kb
        · refine iteDT c ?_
          refine ⟨_, rfl, _, rfl, F, _, _, _, rfl, rfl, same_sql s13 hF, atI_nat f5, t1, _, _, _, rfl, rfl, SqT.of (rd _ s13), atI_nat (j := 1) rfl, _, rfl, _, _, rfl, rfl, _, rfl, _, rfl, _, rfl, by show 4 ≤ sizeLine; decide, fun u nu => ?_⟩
          have s4 := same_new nu (.tup [.int (d1 + k), .int (a : Int), .int k, .int (0 + (j : Int))])
          exact ⟨.ref u, _, _, rfl, put (fun c hc n n0 nk => least c hc n n0 (by omega)) _ u upd_same, s13.trans s4⟩
        · refine iteDF c ?_
          refine ⟨.ref t, _, _, rfl, .inr ⟨t, kb, b, rfl, ht3, by omega, kb0, kb1, pb, fun x hx n n0 nk z => ?_⟩, s13⟩
          by_cases e : x = j
          · rw [e] at z
            exact lk n n0 (by omega) z
          · exact least x (by omega) n n0 nk z
  · rintro σ H1 ⟨best, o5, o6, rfl, nx, s1⟩
    exact ⟨_, rfl, q best H1 nx s1⟩
end
end Ur
/-! UrFl: [x for x in xs if x is not None], as one step. -/
namespace Ur
open PySem PySem.Spec PyProof.Rows L2
def keepV (v : V) : Bool := !decide (v = .non)
/-- the new list of those that are not None -/
def tFilt (i : Nat) : TE := fun σ H Q => ∃ (a : Addr) (xs : List V), σ[i]? = some (some (.ref a)) ∧ H a = some (.lst xs) ∧ xs.length < sizeLine ∧ ∀ D, H D = none → Q (.ref D) (upd H D (.lst (xs.filter keepV)))
theorem filter_take_succ {xs : List V} {i : Nat} {v : V} (h : xs[i]? = some v) : (xs.take (i + 1)).filter keepV = (xs.take i).filter keepV ++ (if keepV v = true then [v] else []) := by
  rw [List.take_add_one, h, List.filter_append]
  congr 1
  show [v].filter keepV = _
  rw [List.filter_cons]
  split <;> rfl
section
variable {X : Cx} {x l : Str} {i j : Nat} {elt tg : Expr} {ifs : List Expr} {scope : Scope} {pos p3 : Pos} {tt : TT}
theorem pe_filt (htt : ∀ σ H Q v, σ[j]? = some (some v) → Q (keepV v) H → tt σ H Q) (hc : X.calm = true) (nd : X.N.Nodup) (hl : PE X (.Name l p3) (tVar i)) (hj : X.N[j]? = some x) (ok : BlkOk X.N X.env.scope scope [(x, j)])
    (hg : ∀ (s : Shared) (H : Hp) (C : Addr) (cl : List (Str × Addr)) (fp : List Addr), PG (X.blk s H scope (compEnvC scope cl C X.env) fp) tg (gName j)) (ht : ∀ (s : Shared) (H : Hp) (C : Addr) (cl : List (Str × Addr)) (fp : List Addr), PTs (X.blk s H scope (compEnvC scope cl C X.env) fp) ifs tt)
    (he : ∀ (s : Shared) (H : Hp) (C : Addr) (cl : List (Str × Addr)) (fp : List Addr), PE (X.blk s H scope (compEnvC scope cl C X.env) fp) elt (tVar j)) :
    PE X (.ListComp elt [⟨tg, .Name l p3, ifs, 0⟩] scope pos) (tFilt i) := by
  refine ⟨fun pins s σ H Q I h => ?_⟩
  have h0 := pe_lc (own := [(x, j)]) (g := gName j) (tt := tt) (te := tVar j) (pos := pos) hc nd (pi_list hl) ok hg ht he
  refine h0.run pins s σ H Q I ?_
  obtain ⟨a, xs, hs, ha, lx, q⟩ := h
  have jl : j < σ.length := by rw [I.len]; exact (List.getElem?_eq_some_iff.mp hj).1
  refine ⟨_, hs, a, rfl, ⟨xs, SqL.of ha⟩, fun D nD => ?_⟩
  have nDa : a ≠ D := ne_of_none ha nD
  refine gen_it walk_list (fun k H1 => H1 = upd H D (.lst ((xs.take k).filter keepV))) rfl (fun k H1 _ e => by rw [e]; exact SqL.of (by rw [upd_ne nDa]; exact ha)) ?_ ?_
  · rintro k v H1 H2 hk rfl ⟨rfl, e⟩
    have ew : wipe σ ([(x, j)].map (·.2)) = σ.set j none := rfl
    rw [ew]
    have at_ : ((σ.set j none).set j (some v))[j]? = some (some v) := List.getElem?_set_self (by rw [List.length_set]; exact jl)
    refine ⟨?_, htt _ _ _ v at_ ?_⟩
    · show ((σ.set j none).set j (some v)).set j none = σ.set j none
      rw [List.set_set, List.set_set]
    · cases ek : keepV v with
      | true =>
        refine iteT ⟨v, at_, _, upd_same, Nat.lt_of_le_of_lt (Nat.le_trans (List.length_filter_le _ _) (List.length_take_le _ _)) (Nat.lt_trans hk lx), ?_⟩
        rw [upd_upd, filter_take_succ e, if_pos ek]
      | false =>
        refine iteF ?_
        rw [filter_take_succ e, if_neg (by rw [ek]; exact Bool.false_ne_true), List.append_nil]
  · rintro H1 rfl
    rw [List.take_length]
    exact q D nD
end
/-- the items of a list that are not None are tuples, each with its numbers -/
theorem filt_tups {H : Hp} : ∀ {xs : List V}, (∀ v ∈ xs, v = .non ∨ ∃ (t : Addr) (k : List Int), v = .ref t ∧ H t = some (.tup (k.map V.int))) → ∃ ks : List (List Int), TupsI H (xs.filter keepV) ks ∧ (∀ k ∈ ks, ∃ t, V.ref t ∈ xs ∧ H t = some (.tup (k.map V.int))) ∧ ∀ t, V.ref t ∈ xs → ∃ k ∈ ks, H t = some (.tup (k.map V.int))
  | [], _ => ⟨[], .nil, (fun k h => nomatch h), fun t h => nomatch h⟩
  | v :: xs, h => by
    obtain ⟨ks, h1, h2, h3⟩ := filt_tups fun u hu => h u (List.mem_cons_of_mem _ hu)
    rcases h v List.mem_cons_self with rfl | ⟨t, k, rfl, ht⟩
    · refine ⟨ks, h1, fun k hk => let ⟨t, a, b⟩ := h2 k hk; ⟨t, List.mem_cons_of_mem _ a, b⟩, fun t ht => ?_⟩
      rcases List.mem_cons.mp ht with e | ht
      · cases e
      · exact h3 t ht
    · refine ⟨k :: ks, .cons ⟨t, rfl, ht⟩ h1, fun z hz => ?_, fun u hu => ?_⟩
      · rcases List.mem_cons.mp hz with rfl | hz
        · exact ⟨t, List.mem_cons_self, ht⟩
        · obtain ⟨u, a, b⟩ := h2 z hz
          exact ⟨u, List.mem_cons_of_mem _ a, b⟩
      · rcases List.mem_cons.mp hu with e | hu
        · cases e
          exact ⟨k, List.mem_cons_self, ht⟩
        · obtain ⟨z, a, b⟩ := h3 u hu
          exact ⟨z, List.mem_cons_of_mem _ a, b⟩
/-! ### tuples of whole numbers as data -/
def tupData (k : List Int) : PyData := .tuple (k.map .int)
theorem ints_lay : ∀ k : List Int, PyData.canLayAll0 (k.map .int) = true
  | [] => by simp [PyData.canLayAll0]
  | i :: k => by simp [PyData.canLayAll0, PyData.canLay0, ints_lay k]
theorem ints_depth : ∀ k : List Int, PyData.depthAll (k.map .int) = 0
  | [] => by simp [PyData.depthAll]
  | i :: k => by simp [PyData.depthAll, PyData.depth, ints_depth k]
theorem tups_lay : ∀ ks : List (List Int), PyData.canLayAll0 (ks.map tupData) = true
  | [] => by simp [PyData.canLayAll0]
  | k :: ks => by simp [PyData.canLayAll0, tupData, PyData.canLay0, ints_lay k, tups_lay ks]
theorem tups_depth : ∀ ks : List (List Int), PyData.depthAll (ks.map tupData) ≤ 1
  | [] => by simp [PyData.depthAll]
  | k :: ks => by
    have h1 := tups_depth ks
    have h2 := ints_depth k
    simp only [List.map_cons, PyData.depthAll, tupData, PyData.depth]
    omega
theorem tups_shaped (ks : List (List Int)) : SeqAt.shaped (.list (ks.map tupData)) = true := by
  have h1 := tups_depth ks
  have h2 : PyData.depth (.list (ks.map tupData)) ≤ 64 := by
    simp only [PyData.depth]
    omega
  show (PyData.canLay0 (.list (ks.map tupData)) && decide (PyData.depth (.list (ks.map tupData)) ≤ 64)) = true
  rw [Bool.and_eq_true]
  exact ⟨by simp only [PyData.canLay0]; exact tups_lay ks, decide_eq_true h2⟩
theorem tups_eqv_nil (ks : List (List Int)) : PyData.eqv (.list (ks.map tupData)) (.list []) = ks.isEmpty := by
  cases ks with
  | nil => simp [PyData.eqv, PyData.eqvAll]
  | cons k ks => simp [PyData.eqv, PyData.eqvAll]
theorem dp_ints {K : PySem.W.Frag} {H : Hp} : ∀ k : List Int, DpAll K H (k.map V.int) (k.map .int)
  | [] => .nil
  | i :: k => .cons (.int i) (dp_ints k)
theorem dp_tups {K : PySem.W.Frag} {H : Hp} : ∀ {xs : List V} {ks : List (List Int)}, TupsI H xs ks → DpAll K H xs (ks.map tupData)
  | _, _, .nil => .nil
  | _, _, .cons ⟨t, e, ht⟩ r => by
    subst e
    exact .cons (.tup (SqT.of ht) (dp_ints _)) (dp_tups r)
end Ur
/-! HI of the g36 group: the law's own counts. -/
namespace Ur
open PySem PySem.Spec PyProof.Rows L2
theorem cnL_set {cs : List (Option Int)} {a : Nat} {k : Int} (h : a < cs.length) : cnL (cs.set a (some k)) = putC (cnL cs) a k := by
  funext i
  unfold cnL putC
  by_cases e : i = a
  · subst e
    rw [List.getElem?_set_self h, if_pos rfl]
  · rw [List.getElem?_set_ne (fun z => e z.symm), if_neg e]
theorem NextAt.put {H : Hp} {v : V} {qs : List Quad} {Cn : Nat → Option Int} {i N c0 : Nat} {k : Int} (hc : Cn c0 = none) (h : NextAt H v qs Cn i N) (nb : ∀ (t : Addr) (y x : Int) (b : Nat), v = .ref t → H t = some (.tup [.int y, .int (i : Int), .int x, .int (b : Int)]) → b ≠ c0) : NextAt H v qs (putC Cn c0 k) i N := by
  have less : ∀ b n, PBlk (dQ qs) (fSP qs) i b (putC Cn c0 k b) n → PBlk (dQ qs) (fSP qs) i b (Cn b) n := fun b n ⟨m, m0, e, pj, o⟩ => ⟨m, m0, e, putC_le hc pj, o⟩
  rcases h with ⟨e, h⟩ | ⟨t, x, b, e, ht, hb, k0, k1, pb, least⟩
  · exact .inl ⟨e, fun b hb n n0 z => h b hb n n0 (less b n z)⟩
  · have ne := nb t _ _ b e ht
    exact .inr ⟨t, x, b, e, ht, hb, k0, k1, by rw [putC_ne ne]; exact pb, fun c hc n n0 nk z => least c hc n n0 nk (less c n z)⟩
def stopQ (qs : List Quad) (Cn : Nat → Option Int) (Bn : Nat → Nat) (i : Nat) : Option (Int × Int × Str) := match Cn i with | none => none | some c => some (dQ qs i + c, pQ qs i + c * sQ qs i, nQ qs (Bn i))
theorem list_at {α : Type} {l : List α} {i : Nat} {N : Nat} (h : l.length = N) (hi : i < N) : ∃ x, l[i]? = some x := ⟨_, List.getElem?_eq_getElem (by omega)⟩
theorem ints_inj : ∀ {k l : List Int}, k.map V.int = l.map V.int → k = l
  | [], [], _ => rfl
  | [], _ :: _, h => by cases h
  | _ :: _, [], h => by cases h
  | x :: k, y :: l, h => by
    rw [List.map_cons, List.map_cons] at h
    injection h with h1 h2
    rw [V.int.inj h1, ints_inj h2]
abbrev s__law_history : Stmt := (topS 68)
abbrev N_sc__law_history : List Str := ["_law_painters", "_law_many", "_law_pairs_here", "_law_counts", "_law_halts", "_law_nexts", "_law_a", "_law_one", "_law_date", "_law_k", "_law_b", "_law_c"]
abbrev P__law_history : List Str := ["_law_painters"]
theorem sc__law_history : FnScope N_sc__law_history P__law_history (defScope s__law_history) := ⟨rfl, rfl, rfl, by decide +kernel, rfl, by decide +kernel, by decide +kernel⟩
def spLCnt (K : PySem.W.Frag) : Sp := fun vs H Q _ => ∃ (F : Addr) (ts : List Addr) (qs : List Quad), vs = [.ref F] ∧ SqL K H F (ts.map V.ref) ∧ Team H ts qs ∧ ∀ Ca cs Bn H', H' Ca = some (.lst (cs.map optV)) → cs.length = qs.length → HistC qs.length (dQ qs) (fSP qs) (cnL cs) Bn → H Ca = none → Same H H' → Q (.ref Ca) H'
section
variable {P : Program} {w : World} {K : PySem.W.Frag} {mg : Str → Option Value} {base : Heap}
set_option maxHeartbeats 16000000 in
theorem ok_lhist (D : Dfn K mg "_law_history" s__law_history P__law_history) (B : Blt mg) (CPa : Cal P w K mg base 3 "_law_pairs" P__law_pairs (spPairs K)) (CNx : Cal P w K mg base 2 "_law_next" P__law_next (spNext K)) : Cal P w K mg base 4 "_law_history" P__law_history (spLCnt K) := by
  refine D.cal sc__law_history (fun vs H Q E h => ?_) fun f cdv A outer s H vs Q E hr h => ?_
  · obtain ⟨_, _, _, rfl, _⟩ := h
    rfl
  obtain ⟨F, ts, qs, rfl, hF, tm, q⟩ := h
  have few := tm.few
  have tl : (ts.map V.ref).length = qs.length := by rw [List.length_map, tm.len]
  refine ⟨_, (pss_cons (ps_asg (pe_tup (pa_cons (pe_callB call_len_seq rfl B.len_ PySem.boot_len (pa_cons (pv 0) pa_nil)) (pa_cons (pe_cal CPa (hr.mono (by decide)) (pa_cons (pv 0) pa_nil)) pa_nil))) (pg_tup rfl (pgs_cons (pg_name (i := 1) sc__law_history.nd rfl (Or.inl rfl)) (pgs_cons (pg_name (i := 2) sc__law_history.nd rfl (Or.inr rfl)) pgs_nil)))) (pss_cons (ps_asg (pe_tup (pa_cons (pe_op op_rep (pe_lst (pa_cons pe_non pa_nil)) (pv 1)) (pa_cons (pe_op op_rep (pe_lst (pa_cons pe_non pa_nil)) (pv 1)) pa_nil))) (pg_tup rfl (pgs_cons (pg_name (i := 3) sc__law_history.nd rfl (Or.inr rfl)) (pgs_cons (pg_name (i := 4) sc__law_history.nd rfl (Or.inl rfl)) pgs_nil)))) (pss_cons (ps_setLc (i := 5) (own := [("_law_a", 6)]) (g := gName 6) (tt := tYes) rfl sc__law_history.nd rfl rfl (sw_true rfl rfl rfl (by decide +kernel)) (pi_range1 rfl B.range_ (pa_cons (pv 1) pa_nil)) (blkOk_by (N := N_sc__law_history) (sc := defScope s__law_history) (by decide +kernel)) (fun _ _ _ _ _ => pg_name (i := 6) sc__law_history.nd rfl (Or.inl rfl)) (fun _ _ _ _ _ => pts_nil) (fun _ _ _ _ _ => (pe_cal CNx (hr.mono (by decide)) (pa_cons (pv 0) (pa_cons (pv 2) (pa_cons (pv 3) (pa_cons (pv 6) pa_nil))))))) (pss_cons (ps_while PassesOwn.never (pt_cmpR (op_neD hr.units) (pe_filt (i := 5) (j := 7) (x := "_law_one") (fun σ H Q v h q => ⟨v, h, rfl, _, rfl, q⟩) rfl sc__law_history.nd (pv 5) rfl (blkOk_by (N := N_sc__law_history) (sc := defScope s__law_history) (by decide +kernel)) (fun _ _ _ _ _ => pg_name (i := 7) sc__law_history.nd rfl (Or.inl rfl)) (fun _ _ _ _ _ => pts_one (pt_cmpR op_notN (pv 7) pe_non (nomark _))) (fun _ _ _ _ _ => pv 7)) (pe_lst pa_nil) (nomark _)) (pss_cons (ps_asg (pe_callB (cr_minT rfl hr.units) rfl B.min_ (by decide +kernel) (pa_cons (pe_filt (i := 5) (j := 7) (x := "_law_one") (fun σ H Q v h q => ⟨v, h, rfl, _, rfl, q⟩) rfl sc__law_history.nd (pv 5) rfl (blkOk_by (N := N_sc__law_history) (sc := defScope s__law_history) (by decide +kernel)) (fun _ _ _ _ _ => pg_name (i := 7) sc__law_history.nd rfl (Or.inl rfl)) (fun _ _ _ _ _ => pts_one (pt_cmpR op_notN (pv 7) pe_non (nomark _))) (fun _ _ _ _ _ => pv 7)) pa_nil)) (pg_tup rfl (pgs_cons (pg_name (i := 8) sc__law_history.nd rfl (Or.inl rfl)) (pgs_cons (pg_name (i := 6) sc__law_history.nd rfl (Or.inl rfl)) (pgs_cons (pg_name (i := 9) sc__law_history.nd rfl (Or.inl rfl)) (pgs_cons (pg_name (i := 10) sc__law_history.nd rfl (Or.inl rfl)) pgs_nil)))))) (pss_cons (ps_asg (pe_tup (pa_cons (pv 9) (pa_cons (pe_tup (pa_cons (pv 8) (pa_cons (pe_op op_add (pe_ix ix_tup (pe_ix ix_list (pv 0) (pv 6) (fun _ _ => rfl)) pe_int (fun _ _ => rfl)) (pe_op op_mulW (pv 9) (pe_ix ix_tup (pe_ix ix_list (pv 0) (pv 6) (fun _ _ => rfl)) pe_int (fun _ _ => rfl)))) (pa_cons (pe_ix ix_tup (pe_ix ix_list (pv 0) (pv 10) (fun _ _ => rfl)) pe_int (fun _ _ => rfl)) pa_nil)))) (pa_cons pe_non pa_nil)))) (pg_tup rfl (pgs_cons (pg_sub (pv 3) (pv 6) set_list) (pgs_cons (pg_sub (pv 4) (pv 6) set_list) (pgs_cons (pg_sub (pv 5) (pv 6) set_list) pgs_nil))))) (pss_one (ps_for PassesOwn.never rfl (pi_range1 rfl B.range_ (pa_cons (pv 1) pa_nil)) (pg_name (i := 11) sc__law_history.nd rfl (Or.inl rfl)) (pss_one (ps_if (PW.pt (pw_and (pt_cmpR op_notN (pe_ix ix_list (pv 5) (pv 11) (fun _ _ => rfl)) pe_non (nomark _)) (pw_and1 (pt_cmpR op_eq (pe_ix ix_tup (pe_ix ix_list (pv 5) (pv 11) (fun _ _ => rfl)) pe_int (fun _ _ => rfl)) (pv 6) (nomark _))))) (pss_one (ps_asg (pe_cal CNx (hr.mono (by decide)) (pa_cons (pv 0) (pa_cons (pv 2) (pa_cons (pv 3) (pa_cons (pv 11) pa_nil))))) (pg_sub (pv 5) (pv 11) set_list))) pss_nil))))))) (pss_one (ps_ret (pv 3))))))), ?_⟩
  refine ⟨_, rfl, F, _, rfl, .inl hF, _, rfl, F, ts, qs, rfl, hF, tm, fun d kvs H1 hd pd s1 => ⟨by show 2 ≤ sizeLine; decide, fun u nu => ⟨u, _, rfl, SqT.of upd_same, rfl, _, _, rfl, _, _, rfl, rfl, ?_⟩⟩⟩
  rw [tl]
  have s2 := s1.trans (same_new nu (.tup [.int (qs.length : Int), .ref d]))
  obtain ⟨H2, e2⟩ : ∃ H2, H2 = upd H1 u (.tup [.int (qs.length : Int), .ref d]) := ⟨_, rfl⟩
  have hd2 : H2 d = some (.dT kvs) := by rw [e2]; exact same_new nu _ _ _ hd
  have pd2 : PairD H2 kvs qs (fun _ _ => True) := by rw [e2]; exact pd.same (same_new nu _)
  rw [← e2] at s2 ⊢
  have rep : ∀ n : Nat, (List.replicate n [V.non]).flatten = (List.replicate n (none : Option Int)).map optV := fun n => by
    rw [List.map_replicate]
    exact List.flatten_replicate_singleton
  have nn : ((qs.length : Int)).toNat = qs.length := Int.toNat_natCast _
  -- counts, halts
  refine ⟨by show 1 ≤ sizeLine; decide, fun D1 nD1 => ⟨_, rfl, D1, _, [.non], rfl, rfl, upd_same, by omega, by omega, by rw [sizeLine_eq, nn]; show 1 * qs.length ≤ _; omega, fun Cl nCl => ?_⟩⟩
  refine ⟨by show 1 ≤ sizeLine; decide, fun D2 nD2 => ⟨_, rfl, D2, _, [.non], rfl, rfl, upd_same, by omega, by omega, by rw [sizeLine_eq, nn]; show 1 * qs.length ≤ _; omega, fun Sl nSl => ⟨by show 2 ≤ sizeLine; decide, fun u2 nu2 => ⟨u2, _, rfl, SqT.of upd_same, rfl, _, _, rfl, _, _, rfl, rfl, ?_⟩⟩⟩⟩
  rw [nn, rep]
  rw [nn, rep] at nD2 nSl nu2
  obtain ⟨cs0, ecs⟩ : ∃ cs0 : List (Option Int), cs0 = List.replicate qs.length none := ⟨_, rfl⟩
  rw [← ecs]
  rw [← ecs] at nD2 nSl nu2
  obtain ⟨H3, e3⟩ : ∃ H3, H3 = upd (upd (upd (upd (upd H2 D1 (.lst [.non])) Cl (.lst (cs0.map optV))) D2 (.lst [.non])) Sl (.lst (cs0.map optV))) u2 (.tup [.ref Cl, .ref Sl]) := ⟨_, rfl⟩
  rw [← e3]
  have snone : ∀ {H1 H2 : Hp} {a : Addr}, Same H1 H2 → H2 a = none → H1 a = none := fun {H1 H2 a} s n => by
    cases e : H1 a with
    | none => rfl
    | some o => rw [s _ _ e] at n; cases n
  have g1 := same_new nD1 (.lst [V.non])
  have g2 := same_new nCl (.lst (cs0.map optV))
  have g3 := same_new nD2 (.lst [V.non])
  have g4 := same_new nSl (.lst (cs0.map optV))
  have g5 := same_new nu2 (.tup [.ref Cl, .ref Sl])
  have hCl : H3 Cl = some (.lst (cs0.map optV)) := by rw [e3]; exact g5 _ _ (g4 _ _ (g3 _ _ upd_same))
  have hSl : H3 Sl = some (.lst (cs0.map optV)) := by rw [e3]; exact g5 _ _ upd_same
  have nCS : Cl ≠ Sl := ne_of_none (g3 _ _ upd_same) nSl
  have s23 : Same H2 H3 := by rw [e3]; exact (((g1.trans g2).trans g3).trans g4).trans g5
  have s3 := s2.trans s23
  have nCl0 : H Cl = none := snone (s2.trans g1) nCl
  have nSl0 : H Sl = none := snone (((s2.trans g1).trans g2).trans g3) nSl
  have csl : cs0.length = qs.length := by rw [ecs, List.length_replicate]
  have cn0 : cnL cs0 = fun _ => none := by
    funext i
    unfold cnL
    rw [ecs, List.getElem?_replicate]
    split <;> rename_i h
    · split at h
      · exact (Option.some.inj h).symm
      · cases h
    · rfl
  have tm3 := tm.same s3
  -- nexts
  refine ⟨_, rfl, _, rfl, by omega, by omega, fun Nl nNl => ?_⟩
  have nNl0 : H Nl = none := snone s3 nNl
  refine gen_it (walk_range0 (n := qs.length)) (fun i H4 => ∃ ns : List V, H4 Nl = some (.lst ns) ∧ ns.length = i ∧ (∀ j, j < i → ∃ v, ns[j]? = some v ∧ NextAt H4 v qs (cnL cs0) j qs.length) ∧ Same H3 H4) ⟨[], upd_same, rfl, (fun j hj => absurd hj (Nat.not_lt_zero j)), same_new nNl _⟩ (fun _ _ _ _ => trivial) ?_ ?_
  · rintro i v H4 H5 hi ⟨ns, hNl, nl, nx, s4⟩ ⟨rfl, rfl⟩
    have s34 := s3.trans s4
    refine ⟨rfl, _, rfl, _, rfl, _, rfl, _, rfl, F, ts, qs, d, Cl, kvs, cs0, i, rfl, same_sql s34 hF, tm.same s34, (s23.trans s4) _ _ hd2, pd2.same (s23.trans s4), s4 _ _ hCl, csl, hi, (fun j c _ e => by rw [cn0] at e; cases e), fun v H6 nv s6 => ?_⟩
    have hNl6 := s6 _ _ hNl
    refine ⟨ns, hNl6, Nat.lt_of_le_of_lt (show ns.length ≤ 40 by omega) (by decide), ns ++ [v], upd_same, by rw [List.length_append, nl]; rfl, fun j hj => ?_, sameAt (s4.trans s6) nNl⟩
    have kp : ∀ (b : Addr) xs, H6 b = some (.tup xs) → upd H6 Nl (.lst (ns ++ [v])) b = some (.tup xs) := fun b xs e => by rw [upd_ne (ne_of e hNl6 (by intro z; cases z))]; exact e
    by_cases c : j < i
    · obtain ⟨z, hz, nz⟩ := nx j c
      exact ⟨z, by rw [List.getElem?_append_left (by omega)]; exact hz, (nz.keep fun b xs e => s6 _ _ e).keep kp⟩
    · obtain rfl : j = i := by omega
      exact ⟨v, by rw [List.getElem?_append_right (by omega), nl, Nat.sub_self]; rfl, nv.keep kp⟩
  rintro H4 ⟨ns0, hNl4, nsl0, nx0, s4⟩
  have nCN : Cl ≠ Nl := ne_of_none hCl nNl
  have nSN : Sl ≠ Nl := ne_of_none hSl nNl
  have d0 : ∀ i, i < qs.length → 0 ≤ dQ qs i := fun i hi => by
    obtain ⟨t, qd, _, e, _, ok, _⟩ := tm.ix hi
    rw [(q_at e).2.1]
    exact ok.d0
  -- while
  refine while_ex (fun m σ H5 => ∃ (cs : List (Option Int)) (Bn : Nat → Nat) (ss ns : List V) (Kk : Int × Nat) (o7 o8 o9 o10 o11 o12 : Option V), σ = [some (.ref F), some (.int (qs.length : Int)), some (.ref d), some (.ref Cl), some (.ref Sl), some (.ref Nl), o7, o8, o9, o10, o11, o12] ∧ m = openN qs.length (cnL cs) ∧
    H5 Cl = some (.lst (cs.map optV)) ∧ cs.length = qs.length ∧ H5 Sl = some (.lst ss) ∧ ss.length = qs.length ∧ H5 Nl = some (.lst ns) ∧ ns.length = qs.length ∧
    (∀ i, i < qs.length → (cnL cs i = none → ∃ v, ns[i]? = some v ∧ NextAt H5 v qs (cnL cs) i qs.length) ∧ (cnL cs i ≠ none → ns[i]? = some .non)) ∧ Part qs.length (dQ qs) (fSP qs) (cnL cs) Bn Kk ∧ (∀ i c, i < qs.length → cnL cs i = some c → 0 ≤ c ∧ c ≤ 10 ^ 70) ∧
    H5 d = some (.dT kvs) ∧ PairD H5 kvs qs (fun _ _ => True) ∧ Same H H5) (openN qs.length (cnL cs0)) ⟨cs0, fun _ => 0, cs0.map optV, ns0, (0, 0), _, _, _, _, _, _, rfl, rfl, s4 _ _ hCl, csl, s4 _ _ hSl, by rw [List.length_map]; exact csl, hNl4, nsl0, fun i hi => ⟨fun _ => nx0 i hi, fun z => absurd (by rw [cn0]) z⟩, ?_, (fun i c _ e => by rw [cn0] at e; cases e), (s23.trans s4) _ _ hd2, pd2.same (s23.trans s4), s3.trans s4⟩ ?_ (fun σ H Q Q' k h => ?_)
  · rw [cn0]
    refine Part.start fun i n hi n0 z => ?_
    have := d0 i hi
    unfold KLt at z
    simp only [kOf] at z
    omega
  · rintro m σ H5 ⟨cs, Bn, ss, ns, Kk, o7, o8, o9, o10, o11, o12, rfl, rfl, hCl5, cl, hSl5, sl, hNl5, nl, nx, pt, bd, hd5, pd5, s5⟩
    have items : ∀ v ∈ ns, v = .non ∨ ∃ (t : Addr) (k : List Int), v = .ref t ∧ H5 t = some (.tup (k.map V.int)) := fun v hv => by
      obtain ⟨i, hi⟩ := List.mem_iff_getElem?.mp hv
      have hin : i < qs.length := by have := (List.getElem?_eq_some_iff.mp hi).1; omega
      cases e : cnL cs i with
      | some c =>
        have := (nx i hin).2 (by rw [e]; intro z; cases z)
        rw [hi] at this
        exact .inl (Option.some.inj this)
      | none =>
        obtain ⟨z, hz, nz⟩ := (nx i hin).1 e
        rw [hi] at hz
        obtain rfl := Option.some.inj hz
        rcases nz with ⟨rfl, _⟩ | ⟨t, k, b, rfl, ht, _⟩
        · exact .inl rfl
        · exact .inr ⟨t, [dQ qs i + k, (i : Int), k, (b : Int)], rfl, ht⟩
    obtain ⟨ks, tu, snd, cpl⟩ := filt_tups items
    refine ⟨Nl, ns, rfl, hNl5, Nat.lt_of_le_of_lt (show ns.length ≤ 40 by omega) (by decide), fun D nD => ⟨by show 0 ≤ sizeLine; decide, fun D2 nD2 => ?_⟩⟩
    have w1 := same_new nD (.lst (ns.filter keepV))
    have w2 := same_new nD2 (.lst [])
    have w12 := w1.trans w2
    refine ⟨.list (ks.map tupData), .list [], .lst (SqL.of (w2 _ _ upd_same)) (dp_tups (tu.same w12)), .lst (SqL.of upd_same) .nil, tups_shaped ks, tups_shaped [], _, rfl, ?_⟩
    rw [tups_eqv_nil]
    cases ks with
    | nil =>
      refine iteF ?_
      -- nobody stops any more
      have allnone : ∀ i, i < qs.length → ns[i]? = some .non := fun i hi => by
        obtain ⟨v, hv⟩ := list_at nl hi
        rcases items v (List.mem_of_getElem? hv) with rfl | ⟨t, k, rfl, ht⟩
        · exact hv
        · obtain ⟨z, hz, _⟩ := cpl t (List.mem_of_getElem? hv)
          cases hz
      obtain ⟨hi1, hi2⟩ := pt.done fun i n hi ni n0 b => by
        obtain ⟨v, hv, nv⟩ := (nx i hi).1 ni
        rw [allnone i hi] at hv
        obtain rfl := Option.some.inj hv
        rcases nv with ⟨_, h⟩ | ⟨_, _, _, e, _⟩
        · obtain ⟨b, hb, pb⟩ := b
          exact h b hb n n0 pb
        · cases e
      exact ⟨_, rfl, q Cl cs Bn _ (w12 _ _ hCl5) cl ⟨hi1, hi2, bd⟩ nCl0 (s5.trans w12)⟩
    | cons k0 ks0 =>
      refine iteT ?_
      refine ⟨Nl, ns, rfl, w12 _ _ hNl5, Nat.lt_of_le_of_lt (show ns.length ≤ 40 by omega) (by decide), fun D3 nD3 => ⟨D3, _, k0 :: ks0, rfl, SqL.of upd_same, ?_, by simp, fun x kk lt => ?_⟩⟩
      · exact tu.same (w12.trans (same_new nD3 (.lst (ns.filter keepV))))
      have w3 := same_new nD3 (.lst (ns.filter keepV))
      have w53 := w12.trans w3
      obtain ⟨⟨ix, hx, hk⟩, least⟩ := lt
      obtain ⟨k2, hk2, tm4, rfl, ht4⟩ := paired_get tu hx
      rw [hk] at hk2
      obtain rfl := Option.some.inj hk2
      obtain ⟨tb, htb, htk⟩ := snd kk (List.mem_of_getElem? hk)
      obtain ⟨a, hans⟩ := List.mem_iff_getElem?.mp htb
      have ha : a < qs.length := by have := (List.getElem?_eq_some_iff.mp hans).1; omega
      have na : cnL cs a = none := by
        cases e : cnL cs a with
        | none => rfl
        | some c =>
          have := (nx a ha).2 (by rw [e]; intro z; cases z)
          rw [hans] at this
          cases this
      obtain ⟨z, hz, nz⟩ := (nx a ha).1 na
      rw [hans] at hz
      obtain rfl := Option.some.inj hz
      rcases nz with ⟨e, _⟩ | ⟨t', k, b, et, htk', hb, kp0, kp1, pb, lst⟩
      · cases e
      obtain rfl := V.ref.inj et
      have ek : kk = [dQ qs a + k, (a : Int), k, (b : Int)] := by
        rw [htk'] at htk
        have := HO.tup.inj (Option.some.inj htk)
        exact (ints_inj (l := [dQ qs a + k, (a : Int), k, (b : Int)]) this.symm).symm ▸ rfl
      subst ek
      have ht53 := w53 _ _ ht4
      refine ⟨tm4, _, rfl, SqT.of ht53, rfl, _, _, rfl, _, _, rfl, _, _, rfl, _, _, rfl, rfl, ?_⟩
      have pt2 := pt.step ha hb na kp0 pb fun i n hi ni n0 hbk zlt => by
        obtain ⟨v, hv, nv⟩ := (nx i hi).1 ni
        obtain ⟨b2, hb2, pb2⟩ := hbk
        rcases nv with ⟨_, h⟩ | ⟨t2, x2, b3, rfl, ht2, _, _, _, _, l2⟩
        · exact h b2 hb2 n n0 pb2
        · obtain ⟨k3, hk3, e3⟩ := cpl t2 (List.mem_of_getElem? hv)
          have ek3 : k3 = [dQ qs i + x2, (i : Int), x2, (b3 : Int)] := by
            rw [ht2] at e3
            have := HO.tup.inj (Option.some.inj e3)
            exact (ints_inj (l := [dQ qs i + x2, (i : Int), x2, (b3 : Int)]) this.symm).symm ▸ rfl
          have nl2 : x2 ≤ n := by
            by_cases c : x2 ≤ n
            · exact c
            · exact absurd pb2 (l2 b2 hb2 n n0 (by omega))
          have lf := least k3 hk3
          rw [ek3] at lf
          have : ltL [dQ qs i + x2, (i : Int), x2, (b3 : Int)] [dQ qs a + k, (a : Int), k, (b : Int)] = true := by
            unfold KLt at zlt
            simp only [kOf] at zlt
            rw [ltL_cons]
            by_cases c : dQ qs i + x2 < dQ qs a + k
            · exact .inl c
            · refine .inr ⟨by omega, ?_⟩
              rw [ltL_cons]
              exact .inl (by omega)
          rw [this] at lf
          cases lf
      have op := openN_put (c := k) ha na
      have ecs2 : cnL (cs.set a (some k)) = putC (cnL cs) a k := cnL_set (by omega)
      obtain ⟨ta, qa, f1, f2, f3, f4, f5⟩ := tm.ix ha
      obtain ⟨tb2, qb, b1, b2, b3, b4, b5⟩ := tm.ix hb
      obtain ⟨xa, hxa⟩ := list_at cl ha
      have w53s : Same H _ := s5.trans w53
      obtain ⟨n1, d1, p1, t1⟩ := qa
      obtain ⟨nb1, db1, pb1, sb1⟩ := qb
      have oka : PartOk n1 d1 p1 t1 := f4
      have oa0 := oka.s0
      have oa1 := oka.s1
      -- counts[a], halts[a], nexts[a] = k, (..), None
      refine ⟨_, rfl, _, rfl, _, rfl, _, rfl, F, _, _, _, rfl, rfl, same_sql w53s hF, atI_nat f5, ta, _, _, _, rfl, rfl, SqT.of (w53s _ _ f3), atI_nat (j := 2) rfl, _, rfl, _, rfl, _, rfl, F, _, _, _, rfl, rfl, same_sql w53s hF, atI_nat f5, ta, _, _, _, rfl, rfl, SqT.of (w53s _ _ f3), atI_nat (j := 3) rfl, _, _, rfl, rfl, wide_mul (a := 240) (b := 64) (by omega) (by show t1.natAbs < 2 ^ 64; omega) (by decide) (by decide) (by decide), _, _, rfl, rfl, _, rfl, _, rfl, F, _, _, _, rfl, rfl, same_sql w53s hF, atI_nat b5, tb2, _, _, _, rfl, rfl, SqT.of (w53s _ _ b3), atI_nat (j := 0) rfl, by show 3 ≤ sizeLine; decide, fun u6 nu6 => ?_⟩
      have w6 := same_new nu6 (.tup [.int (dQ qs a + k), .int (p1 + k * t1), .str nb1])
      refine ⟨by show 3 ≤ sizeLine; decide, fun u5 nu5 => ⟨u5, _, rfl, SqT.of upd_same, rfl, _, _, rfl, ?_⟩⟩
      have w5 := same_new nu5 (.tup [.int k, .ref u6, .non])
      have w55 := (w53.trans w6).trans w5
      have hC5 := w55 _ _ hCl5
      refine ⟨_, rfl, _, rfl, Cl, _, _, a, rfl, rfl, hC5, ixN_at (by rw [List.length_map]; omega), ?_⟩
      have hS5 := w55 _ _ hSl5
      refine ⟨_, _, rfl, _, rfl, _, rfl, Sl, _, _, a, rfl, rfl, by rw [upd_ne nCS.symm]; exact hS5, ixN_at (by omega), ?_⟩
      have hN5 := w55 _ _ hNl5
      refine ⟨_, _, rfl, _, rfl, _, rfl, Nl, _, _, a, rfl, rfl, by rw [upd_ne nSN.symm, upd_ne nCN.symm]; exact hN5, ixN_at (by omega), rfl, ?_⟩
      have eC : (cs.map optV).set a (.int k) = (cs.set a (some k)).map optV := by rw [List.map_set]; rfl
      rw [eC]
      obtain ⟨H9, e9⟩ : ∃ H9, H9 = upd (upd (upd (upd (upd (upd (upd (upd H5 D (.lst (ns.filter keepV))) D2 (.lst [])) D3 (.lst (ns.filter keepV))) u6 (.tup [.int (dQ qs a + k), .int (p1 + k * t1), .str nb1])) u5 (.tup [.int k, .ref u6, .non])) Cl (.lst ((cs.set a (some k)).map optV))) Sl (.lst (ss.set a (.ref u6)))) Nl (.lst (ns.set a .non)) := ⟨_, rfl⟩
      rw [← e9]
      have kp9 : ∀ (b : Addr) (o : HO), H5 b = some o → b ≠ Cl → b ≠ Sl → b ≠ Nl → H9 b = some o := fun b o e n1 n2 n3 => by rw [e9, upd_ne n3, upd_ne n2, upd_ne n1]; exact w55 _ _ e
      have kt9 : ∀ (b : Addr) xs, H5 b = some (.tup xs) → H9 b = some (.tup xs) := fun b xs e => kp9 b _ e (ne_of e hCl5 (by intro z; cases z)) (ne_of e hSl5 (by intro z; cases z)) (ne_of e hNl5 (by intro z; cases z))
      have hC9 : H9 Cl = some (.lst ((cs.set a (some k)).map optV)) := by rw [e9, upd_ne nCN, upd_ne nCS, upd_same]
      have hS9 : H9 Sl = some (.lst (ss.set a (.ref u6))) := by rw [e9, upd_ne nSN, upd_same]
      have hN9 : H9 Nl = some (.lst (ns.set a .non)) := by rw [e9, upd_same]
      have hd9 : H9 d = some (.dT kvs) := kp9 _ _ hd5 (ne_of hd5 hCl5 (by intro z; cases z)) (ne_of hd5 hSl5 (by intro z; cases z)) (ne_of hd5 hNl5 (by intro z; cases z))
      have s9 : Same H H9 := by rw [e9]; exact sameAt (sameAt (sameAt (s5.trans w55) nCl0) nSl0) nNl0
      have pd9 : PairD H9 kvs qs (fun _ _ => True) := fun a b x y h1 h2 h3 h4 => by
        obtain ⟨v, e, c⟩ := pd5 a b x y h1 h2 h3 h4
        exact ⟨v, e, c.imp id fun ⟨t, st, k, j, sp, e, ht, r⟩ => ⟨t, st, k, j, sp, e, kt9 _ _ ht, r⟩⟩
      have bd9 : ∀ i c, i < qs.length → putC (cnL cs) a k i = some c → 0 ≤ c ∧ c ≤ 10 ^ 70 := fun i c hi e => by
        by_cases e2 : i = a
        · rw [e2, putC_at] at e
          obtain rfl := Option.some.inj e
          exact ⟨kp0, kp1⟩
        · rw [putC_ne e2] at e
          exact bd i c hi e
      -- for c in range(many)
      refine ⟨_, rfl, _, rfl, by omega, by omega, ?_⟩
      refine for_range (lo := 0) (n := qs.length) (fun j σ H7 => ∃ (ns2 : List V) (o12 : Option V), σ = [some (.ref F), some (.int (qs.length : Int)), some (.ref d), some (.ref Cl), some (.ref Sl), some (.ref Nl), some (.int (a : Int)), o8, some (.int (dQ qs a + k)), some (.int k), some (.int (b : Int)), o12] ∧
        H7 Cl = some (.lst ((cs.set a (some k)).map optV)) ∧ H7 Sl = some (.lst (ss.set a (.ref u6))) ∧ H7 Nl = some (.lst ns2) ∧ ns2.length = qs.length ∧
        (∀ i, i < qs.length → (putC (cnL cs) a k i = none → ∃ v, ns2[i]? = some v ∧ (i < j → NextAt H7 v qs (putC (cnL cs) a k) i qs.length) ∧ (j ≤ i → NextAt H7 v qs (cnL cs) i qs.length)) ∧ (putC (cnL cs) a k i ≠ none → ns2[i]? = some .non)) ∧ H7 d = some (.dT kvs) ∧ PairD H7 kvs qs (fun _ _ => True) ∧ Same H H7)
        ⟨ns.set a .non, _, rfl, hC9, hS9, hN9, by rw [List.length_set]; exact nl, fun i hi => ⟨fun ni => ?_, fun ni => ?_⟩, hd9, pd9, s9⟩ ?_ ?_
      · have e : i ≠ a := fun e => by rw [e, putC_at] at ni; cases ni
        rw [putC_ne e] at ni
        obtain ⟨v, hv, nv⟩ := (nx i hi).1 ni
        exact ⟨v, by rw [List.getElem?_set_ne (fun z => e z.symm)]; exact hv, fun h => absurd h (Nat.not_lt_zero i), fun _ => nv.keep fun b xs h => kt9 _ _ h⟩
      · by_cases e : i = a
        · subst e
          exact List.getElem?_set_self (by omega)
        · rw [putC_ne e] at ni
          rw [List.getElem?_set_ne (fun z => e z.symm)]
          exact (nx i hi).2 ni
      · rintro j σ H7 hj ⟨ns2, o12, rfl, hC7, hS7, hN7, nl7, nx7, hd7, pd7, s7⟩
        have zj : (0 : Int) + (j : Int) = j := by omega
        obtain ⟨v, hv⟩ := list_at nl7 hj
        -- the list of next stops as it is
        have stay : (putC (cnL cs) a k j = none → NextAt H7 v qs (putC (cnL cs) a k) j qs.length) → (∀ i, i < qs.length → (putC (cnL cs) a k i = none → ∃ v, ns2[i]? = some v ∧ (i < j + 1 → NextAt H7 v qs (putC (cnL cs) a k) i qs.length) ∧ (j + 1 ≤ i → NextAt H7 v qs (cnL cs) i qs.length)) ∧ (putC (cnL cs) a k i ≠ none → ns2[i]? = some .non)) := fun h i hi => by
          refine ⟨fun ni => ?_, (nx7 i hi).2⟩
          obtain ⟨z, hz, z1, z2⟩ := (nx7 i hi).1 ni
          refine ⟨z, hz, fun l => ?_, fun l => z2 (by omega)⟩
          by_cases e : i = j
          · subst e
            rw [hv] at hz
            obtain rfl := Option.some.inj hz
            exact h ni
          · exact z1 (by omega)
        refine ⟨_, rfl, _, rfl, Nl, _, _, _, rfl, rfl, SqL.of hN7, by rw [zj]; exact atI_nat hv, rfl, _, rfl, ?_⟩
        cases ej : putC (cnL cs) a k j with
        | some cj =>
          have hnon := (nx7 j hj).2 (by rw [ej]; intro z; cases z)
          rw [hv] at hnon
          obtain rfl := Option.some.inj hnon
          refine iteNS rfl ?_
          exact ⟨ns2, _, rfl, hC7, hS7, hN7, nl7, stay (fun z => by rw [ej] at z; cases z), hd7, pd7, s7⟩
        | none =>
          obtain ⟨z, hz, _, z2⟩ := (nx7 j hj).1 ej
          rw [hv] at hz
          obtain rfl := Option.some.inj hz
          have old := z2 (Nat.le_refl j)
          have oldc := old
          rcases oldc with ⟨rfl, _⟩ | ⟨t2, x2, b3, rfl, ht2, hb3, _, _, _, _⟩
          · refine iteNS rfl ?_
            exact ⟨ns2, _, rfl, hC7, hS7, hN7, nl7, stay (fun _ => old.put na fun t y x b e _ => by cases e), hd7, pd7, s7⟩
          · refine iteNN (fun z => by cases z) ?_
            refine ⟨_, rfl, _, rfl, Nl, _, _, _, rfl, rfl, SqL.of hN7, by rw [zj]; exact atI_nat hv, t2, _, _, _, rfl, rfl, SqT.of ht2, atI_nat (j := 3) rfl, _, rfl, rfl, _, rfl, ?_⟩
            by_cases c : b3 = a
            · refine iteDT (congrArg V.int (by omega)) ?_
              refine ⟨_, rfl, _, rfl, _, rfl, _, rfl, F, ts, qs, d, Cl, kvs, cs.set a (some k), j, (by rw [zj]; rfl), same_sql s7 hF, tm.same s7, hd7, pd7, hC7, by rw [List.length_set]; exact cl, hj, (fun i c hi e => (bd9 i c hi (by rw [← ecs2]; exact e)).1), fun v2 H10 nv s10 => ?_⟩
              rw [ecs2] at nv
              have hN10 := s10 _ _ hN7
              refine ⟨_, rfl, _, rfl, Nl, _, _, j, rfl, rfl, hN10, by rw [zj]; exact ixN_at (by omega), ?_⟩
              have kp : ∀ (b : Addr) (o : HO), H7 b = some o → b ≠ Nl → upd H10 Nl (.lst (ns2.set j v2)) b = some o := fun b o e n => by rw [upd_ne n]; exact s10 _ _ e
              have kt : ∀ (b : Addr) xs, H10 b = some (.tup xs) → upd H10 Nl (.lst (ns2.set j v2)) b = some (.tup xs) := fun b xs e => by rw [upd_ne (ne_of e hN10 (by intro z; cases z))]; exact e
              refine ⟨ns2.set j v2, _, rfl, kp _ _ hC7 nCN, kp _ _ hS7 nSN, upd_same, by rw [List.length_set]; exact nl7, fun i hi => ⟨fun ni => ?_, fun ni => ?_⟩, kp _ _ hd7 (ne_of hd7 hN7 (by intro z; cases z)), fun a b x y h1 h2 h3 h4 => ?_, sameAt (s7.trans s10) nNl0⟩
              · by_cases e : i = j
                · subst e
                  exact ⟨v2, List.getElem?_set_self (by omega), fun _ => nv.keep kt, fun l => absurd l (by omega)⟩
                · obtain ⟨u, hu, u1, u2⟩ := (nx7 i hi).1 ni
                  exact ⟨u, by rw [List.getElem?_set_ne (fun z => e z.symm)]; exact hu, fun l => ((u1 (by omega)).keep fun b xs h => s10 _ _ h).keep kt, fun l => ((u2 (by omega)).keep fun b xs h => s10 _ _ h).keep kt⟩
              · have e : i ≠ j := fun e => by rw [e, ej] at ni; exact ni rfl
                rw [List.getElem?_set_ne (fun z => e z.symm)]
                exact (nx7 i hi).2 ni
              · obtain ⟨u, e, c⟩ := pd7 a b x y h1 h2 h3 h4
                exact ⟨u, e, (c.same s10).imp id fun ⟨t, st, k, j, sp, e, ht, r⟩ => ⟨t, st, k, j, sp, e, kt _ _ ht, r⟩⟩
            · refine iteDF (fun z => c (by have := V.int.inj z; omega)) ?_
              refine ⟨ns2, _, rfl, hC7, hS7, hN7, nl7, stay (fun _ => old.put na fun t y x b e ht => ?_), hd7, pd7, s7⟩
              obtain rfl := V.ref.inj e
              rw [ht2] at ht
              have := HO.tup.inj (Option.some.inj ht)
              have e4 : (b3 : Int) = b := by
                injection this with _ q1
                injection q1 with _ q2
                injection q2 with _ q3
                injection q3 with q4 _
                exact V.int.inj q4
              omega
      · rintro σ H7 ⟨ns2, o12, rfl, hC7, hS7, hN7, nl7, nx7, hd7, pd7, s7⟩
        refine ⟨openN qs.length (putC (cnL cs) a k), op, cs.set a (some k), putB Bn a b, _, ns2, _, _, _, _, _, _, _, rfl, by rw [ecs2], hC7, by rw [List.length_set]; exact cl, hS7, by rw [List.length_set]; exact sl, hN7, nl7, ?_, by rw [ecs2]; exact pt2, by rw [ecs2]; exact bd9, hd7, pd7, s7⟩
        rw [ecs2]
        intro i hi
        refine ⟨fun ni => ?_, (nx7 i hi).2⟩
        obtain ⟨u, hu, u1, _⟩ := (nx7 i hi).1 ni
        exact ⟨u, hu, u1 hi⟩
  · obtain ⟨a, xs, e1, e2, e3, h⟩ := h
    exact ⟨a, xs, e1, e2, e3, fun D nD => ⟨(h D nD).1, fun D2 nD2 => let ⟨d, e, p1, p2, p3, p4, b, eb, q⟩ := (h D nD).2 D2 nD2; ⟨d, e, p1, p2, p3, p4, b, eb, k _ _ q⟩⟩⟩
end
end Ur
/-! UrSh: what can be shown, with short leaves; a call of what an expression gives. -/
namespace Ur
open PySem PySem.Spec PyProof.Rows L2
/-! ### what can be shown, with short leaves -/
structure ShB (d : PyData) (n k : Nat) : Prop where
  sh : d.showable = true
  nd : d.hasDict = false
  dp : d.depth ≤ k
  lv : d.leavesShort 110 = true
  wt : d.weight ≤ n
structure ShBAll (ds : List PyData) (n k : Nat) : Prop where
  sh : PyData.showableAll ds = true
  nd : PyData.hasDictAll ds = false
  dp : PyData.depthAll ds ≤ k
  lv : PyData.leavesShortAll 110 ds = true
  wt : PyData.weightAll ds ≤ n
theorem ShB.mono {d : PyData} {n k m j : Nat} (s : ShB d n k) (h1 : n ≤ m) (h2 : k ≤ j) : ShB d m j := ⟨s.sh, s.nd, Nat.le_trans s.dp h2, s.lv, Nat.le_trans s.wt h1⟩
theorem ShB.int {i : Int} {b : Nat} (h : i.natAbs < 2 ^ b) (h0 : 0 < b) (h1 : b ≤ 105) : ShB (.int i) b 0 := by
  have z := PySem.Flt.log2_lt_of h0 h
  refine ⟨decide_eq_true (by omega), rfl, Nat.le_refl _, decide_eq_true ?_, ?_⟩
  · have e : PyData.shown (.int i) = Str.ofString (toString i) := by simp only [PyData.shown]
    rw [e, PySem.ofString_length]
    exact Nat.le_trans (PySem.int_text_length_le (k := b) h0 z) (by omega)
  · show (if i == 0 then 0 else i.natAbs.log2 + 1) ≤ b
    split <;> omega
theorem ShB.str {x : Str} (h : ∀ c ∈ x.cps.toList, c < 16 ^ 8) : ShB (.str x) x.length 0 := ⟨rfl, rfl, Nat.le_refl _, List.all_eq_true.mpr fun c hc => decide_eq_true (h c hc), Nat.le_refl _⟩
theorem ShB.non : ShB .none 0 0 := ⟨rfl, rfl, Nat.le_refl _, rfl, Nat.le_refl _⟩
theorem ShBAll.nil : ShBAll [] 0 0 := ⟨rfl, rfl, Nat.le_refl _, rfl, Nat.le_refl _⟩
theorem ShBAll.cons {d : PyData} {ds : List PyData} {n k m j : Nat} (a : ShB d n k) (b : ShBAll ds m j) : ShBAll (d :: ds) (n + 1 + m) (max k j) := by
  refine ⟨?_, ?_, ?_, ?_, ?_⟩
  · show (d.showable && PyData.showableAll ds) = true
    rw [a.sh, b.sh]; rfl
  · show (d.hasDict || PyData.hasDictAll ds) = false
    rw [a.nd, b.nd]; rfl
  · show max d.depth (PyData.depthAll ds) ≤ max k j
    have := a.dp; have := b.dp; omega
  · show (d.leavesShort 110 && PyData.leavesShortAll 110 ds) = true
    rw [a.lv, b.lv]; rfl
  · show d.weight + 1 + PyData.weightAll ds ≤ n + 1 + m
    have := a.wt; have := b.wt; omega
theorem ShBAll.lst {ds : List PyData} {n k : Nat} (a : ShBAll ds n k) : ShB (.list ds) n (k + 1) := ⟨a.sh, a.nd, Nat.succ_le_succ a.dp, a.lv, a.wt⟩
theorem ShBAll.tup {ds : List PyData} {n k : Nat} (a : ShBAll ds n k) : ShB (.tuple ds) n (k + 1) := ⟨a.sh, a.nd, Nat.succ_le_succ a.dp, a.lv, a.wt⟩
theorem ShBAll.all {ds : List PyData} {n k : Nat} (h : ∀ d ∈ ds, ShB d n k) : ShBAll ds ((n + 1) * ds.length) k := by
  induction ds with
  | nil => exact ⟨rfl, rfl, Nat.zero_le _, rfl, Nat.le_refl _⟩
  | cons d r ih =>
    have a := h d List.mem_cons_self
    have b := ih fun x hx => h x (List.mem_cons_of_mem _ hx)
    have c := ShBAll.cons a b
    refine ⟨c.sh, c.nd, by have := c.dp; omega, c.lv, Nat.le_trans c.wt ?_⟩
    rw [List.length_cons, Nat.mul_succ]
    omega
/-- it can be shown -/
structure Fit (d : PyData) : Prop where
  sh : d.showable = true
  nd : d.hasDict = false
  dp : d.depth ≤ 64
  sz : d.shown.length ≤ sizeLine
theorem ShB.fit {d : PyData} {n k : Nat} (s : ShB d n k) (h : n ≤ 100000) (h2 : k ≤ 64) : Fit d := by
  refine ⟨s.sh, s.nd, Nat.le_trans s.dp h2, ?_⟩
  have z := PyData.shown_le 110 (by decide) d s.lv
  have w : (110 + 2) * d.weight ≤ 112 * 100000 := Nat.mul_le_mul_left _ (Nat.le_trans s.wt h)
  have e : sizeLine = 16777216 := by decide
  omega
def rReprT (K : PySem.W.Frag) : List V → Hp → VK → Prop := fun xs H Q => ∃ (x : V) (d : PyData), xs = [x] ∧ Dp K H x d ∧ Fit d ∧ ∀ z : Str, z = d.shown → Q (.str z) H
theorem call_reprT {X : Cx} (hs : Still X.A) (hu : X.A.units + 66 < cLine) : CallR X (.builtin "repr") (rReprT X.K) := by
  intro pins s σ H xs us Q I r h
  obtain ⟨x, d, rfl, hd, f, q⟩ := h
  exact call_reprD hs hu pins s σ H [x] us Q I r ⟨x, d, rfl, hd, f.sh, f.nd, f.dp, f.sz, q _ rfl⟩
theorem ShB.int10 {i : Int} {k : Nat} (h : i.natAbs < 10 ^ k) (h0 : 0 < k) (h1 : k ≤ 105) : ShB (.int i) 400 0 := by
  have lt : i.natAbs < 2 ^ 400 := Nat.lt_of_lt_of_le h (Nat.le_trans (Nat.pow_le_pow_right (by decide) h1) (by decide))
  have z := PySem.Flt.log2_lt_of (show 0 < 400 by decide) lt
  refine ⟨decide_eq_true (by omega), rfl, Nat.le_refl _, decide_eq_true ?_, ?_⟩
  · have e : PyData.shown (.int i) = Str.ofString (toString i) := by simp only [PyData.shown]
    rw [e, PySem.ofString_length]
    exact Nat.le_trans (PySem.int_text_length_le10 h0 h) (by omega)
  · show (if i == 0 then 0 else i.natAbs.log2 + 1) ≤ 400
    split <;> omega
/-! ### a call of what an expression gives -/
/-- the def at f keeps the promise sp -/
def FunAt (P : Program) (w : World) (K : PySem.W.Frag) (mg : Str → Option Value) (base : Heap) (k : Nat) (f : Addr) (sp : Sp) : Prop := ∃ fd ps, FnOk P w K mg base CX0 k f fd ps sp ∧ PySem.W.keepIn K (.ref f) = true ∧ Binds K fd ps []
def tCallE (P : Program) (w : World) (K : PySem.W.Frag) (mg : Str → Option Value) (base : Heap) (k : Nat) (te : TE) (t : TA) : TE := fun σ H Q => te σ H fun v H1 => ∃ (f : Addr) (sp : Sp), v = .ref f ∧ FunAt P w K mg base k f sp ∧ t σ H1 fun vs H2 => sp vs H2 Q E0
section
variable {X : Cx} {k : Nat} {fe e : Expr} {es : List Expr} {te : TE} {t : TA} {pos : Pos}
theorem pe_callE (hf : PE X fe te) (hr : Room k X.A) (ha : PA X (e :: es) t) (hc : eval (.Call fe (e :: es) [] pos) X.env = (do callWith pos (← eval fe X.env) [] (backTo pos (starEach (e :: es) X.env)) (backToKw pos (keywordEach [] X.env))) := by rfl)
    (he : starEach (e :: es) X.env = (false, eval e X.env) :: starEach es X.env := by rfl) (hpl : (backTo pos (starEach es X.env)).any (·.1) = false := by rfl) :
    PE X (.Call fe (e :: es) [] pos) (tCallE X.prog X.w X.K X.mg X.base k te t) := by
  refine ⟨fun pins s σ H Q I h => ?_⟩
  refine Call_ (thn (hf.run pins s σ H _ I h) fun u s1 ⟨v, H1, I1, r1, q1⟩ => ?_) hc
  obtain ⟨f, sp, ev, ⟨fd, ps, F, kp, b⟩, q⟩ := q1
  subst ev
  obtain rfl : u = Value.ref f := r1
  refine PySem.W.callWith_K (first := []) (h₀ := X.base) I1.ok.mod.kin kp (thn (ha.run pos pins s1 σ H1 _ I1 q) fun us s2 ⟨vs, H2, I2, r2, q2⟩ => ⟨I2.kIn, ?_⟩) he hpl
  exact run_fn F hr b .nil pass0 I2 r2 (by rw [List.append_nil]; exact q2)
end
end Ur
/-! HJ: rows of histories as data that can be shown. -/
namespace Ur
open PySem PySem.Spec PyProof.Rows L2
def optDt : Option Int → PyData
  | none => .none
  | some i => .int i
def stopD : Option (Int × Int × Str) → PyData
  | none => .none
  | some (d, p, b) => .tuple [.int d, .int p, .str b]
def rwD (r : Rw) : PyData := .tuple [.str r.nm, optDt r.cnt, stopD r.stop]
theorem dp_opt {K : PySem.W.Frag} {H : Hp} : ∀ o : Option Int, Dp K H (optV o) (optDt o)
  | none => .non
  | some i => .int i
theorem dp_stop {K : PySem.W.Frag} {H : Hp} {v : V} : ∀ {s : Option (Int × Int × Str)}, StopAt H v s → Dp K H v (stopD s)
  | none, h => by
    obtain rfl : v = .non := h
    exact .non
  | some (d, p, b), h => by
    obtain ⟨t, rfl, ht⟩ := h
    exact .tup (SqT.of ht) (.cons (.int d) (.cons (.int p) (.cons (.str b) .nil)))
theorem dp_row {K : PySem.W.Frag} {H : Hp} {a : Addr} {r : Rw} (h : RwAt H a r) : Dp K H (.ref a) (rwD r) := by
  obtain ⟨v, e, s⟩ := h
  exact .tup (SqT.of e) (.cons (.str _) (.cons (dp_opt _) (.cons (dp_stop s) .nil)))
theorem dp_rows {K : PySem.W.Frag} {H : Hp} : ∀ {as : List Addr} {rs : List Rw}, RowsAt H as rs → DpAll K H (as.map V.ref) (rs.map rwD)
  | _, _, .nil => .nil
  | _, _, .cons h t => .cons (dp_row h) (dp_rows t)
/-- the numbers and the names of a row are short -/
structure RwB (r : Rw) : Prop where
  nm : NameOk r.nm
  ct : ∀ c, r.cnt = some c → c.natAbs < 10 ^ 90
  st : ∀ d p b, r.stop = some (d, p, b) → d.natAbs < 10 ^ 90 ∧ p.natAbs < 10 ^ 90 ∧ NameOk b
theorem name_shortR {z : Str} (h : NameOk z) : ∀ c ∈ z.cps.toList, c < 16 ^ 8 := fun c hc => by
  have := h.2.2 c hc
  have e : (16 : Nat) ^ 8 = 4294967296 := by decide
  omega
theorem rw_sh {r : Rw} (h : RwB r) : ShB (rwD r) 1700 2 := by
  have a := (ShB.str (name_shortR h.nm)).mono h.nm.2.1 (Nat.le_refl 0)
  have b : ShB (optDt r.cnt) 400 0 := by
    cases e : r.cnt with
    | none => exact ShB.non.mono (Nat.zero_le _) (Nat.le_refl 0)
    | some c => exact ShB.int10 (h.ct c e) (by decide) (by decide)
  have c : ShB (stopD r.stop) 811 1 := by
    cases e : r.stop with
    | none => exact ShB.non.mono (Nat.zero_le _) (Nat.zero_le _)
    | some q =>
      obtain ⟨d, p, z⟩ := q
      obtain ⟨h1, h2, h3⟩ := h.st d p z e
      have z1 := (ShB.str (name_shortR h3)).mono h3.2.1 (Nat.le_refl 0)
      exact (ShBAll.cons (ShB.int10 h1 (by decide) (by decide)) (ShBAll.cons (ShB.int10 h2 (by decide) (by decide)) (ShBAll.cons z1 ShBAll.nil))).tup.mono (by decide) (by decide)
  exact (ShBAll.cons a (ShBAll.cons b (ShBAll.cons c ShBAll.nil))).tup.mono (by decide) (by decide)
theorem rows_sh {rs : List Rw} (h : ∀ r ∈ rs, RwB r) (few : rs.length ≤ 40) : Fit (.tuple (rs.map rwD)) := by
  have a : ShBAll (rs.map rwD) (1701 * (rs.map rwD).length) 2 := ShBAll.all fun d hd => by
    obtain ⟨r, hr, rfl⟩ := List.mem_map.mp hd
    exact rw_sh (h r hr)
  refine a.tup.fit ?_ (by decide)
  rw [List.length_map]
  omega
theorem rows_b {qs : List Quad} {SP : SPt} {rs : List Rw} (ok : ∀ q ∈ qs, QuadOk q) (h : HistR qs SP rs) : ∀ r ∈ rs, RwB r := by
  obtain ⟨Cn, Bn, hc, rfl⟩ := h
  intro r hr
  obtain ⟨i, hi, rfl⟩ := List.mem_map.mp hr
  have hi := List.mem_range.mp hi
  have e1 : qs[i]? = some qs[i] := List.getElem?_eq_getElem hi
  have k : QuadOk qs[i] := ok _ (List.getElem_mem hi)
  obtain ⟨qn, qd, qp, qst⟩ := q_at e1
  have k1 := k.d0
  have k2 := k.d1
  have k3 := k.p0
  have k4 := k.p1
  have k5 := k.s0
  have k6 := k.s1
  refine ⟨by show NameOk (nQ qs i); rw [qn]; exact k.nm, fun c ec => ?_, fun d p b e => ?_⟩
  · have := hc.bd i c hi ec
    omega
  · have e : (match Cn i with | none => none | some c => some (dQ qs i + c, pQ qs i + c * sQ qs i, nQ qs (Bn i))) = some (d, p, b) := e
    cases ec : Cn i with
    | none => rw [ec] at e; cases e
    | some c =>
      rw [ec] at e
      have e := Option.some.inj e
      have hb := (hc.bl i c hi ec).1
      have kb : QuadOk qs[Bn i] := ok _ (List.getElem_mem hb)
      have e2 : qs[Bn i]? = some qs[Bn i] := List.getElem?_eq_getElem hb
      have cb := hc.bd i c hi ec
      have mb := mul_bd (a := c) (b := sQ qs i) (A := 10 ^ 70) (B := 10 ^ 18) cb.1 cb.2 (by rw [qst]; exact k5) (by rw [qst]; exact k6) (by decide)
      injection e with e3 e4
      injection e4 with e4 e5
      refine ⟨?_, ?_, ?_⟩
      · rw [← e3, qd]
        omega
      · rw [← e4, qp]
        omega
      · rw [← e5, (q_at e2).1]
        exact kb.nm
end Ur
/-! FE: the laws' own fence, made of rows at once. -/
namespace Ur
open PySem PySem.Spec PyProof.Rows L2
abbrev s__law_fence : Stmt := (topS 63)
abbrev N_sc__law_fence : List Str := ["_law_painters", "_law_fence_here", "_law_name", "_law_start", "_law_post", "_law_stride"]
abbrev P__law_fence : List Str := ["_law_painters"]
theorem sc__law_fence : FnScope N_sc__law_fence P__law_fence (defScope s__law_fence) := ⟨rfl, rfl, rfl, by decide +kernel, rfl, by decide +kernel, by decide +kernel⟩
def spFence (K : PySem.W.Frag) (C CF : Addr) : Sp := fun vs H Q _ => ∃ (F : Addr) (ts : List Addr) (qs : List Quad), vs = [.ref F] ∧ SqL K H F (ts.map V.ref) ∧ Team H ts qs ∧ ∀ g L H', FcAt C CF H' g L → partsOf L = qs → Same H H' → Q (.ref g) H'
section
variable {P : Program} {w : World} {K : PySem.W.Frag} {mg : Str → Option Value} {base : Heap} {C CF : Addr}
theorem ok_fence (D : Dfn K mg "_law_fence" s__law_fence P__law_fence) (T : PTxt K mg C) (U : FTxt K mg CF) (hMk0 : MkP P w K mg base C) (hMk : MkF P w K mg base C CF) (hFAdd : OwnR P w K mg base CF "__add__" 5 P_Fence_add (spFAdd C CF)) (hAT : AddTwo K CF C) :
    Cal P w K mg base 6 "_law_fence" P__law_fence (spFence K C CF) := by
  obtain ⟨fI, MF, FI⟩ := hMk
  refine D.cal sc__law_fence (fun vs H Q E h => ?_) fun f cdv A outer s H vs Q E hr h => ?_
  · obtain ⟨F, ts, qs, rfl, _⟩ := h
    rfl
  obtain ⟨F, ts, qs, rfl, hF, tm, q⟩ := h
  have sqF : ∀ {H' : Hp}, Same H H' → SqL K H' F (ts.map V.ref) := fun s => by
    rcases hF with (h | ⟨o, h⟩) | h
    · exact .inl (.inl (s _ _ h))
    · exact .inl (.inr ⟨o, s _ _ h⟩)
    · exact .inr h
  refine ⟨_, (pss_cons (ps_set (i := 1) sc__law_fence.nd rfl (Or.inl rfl) (pe_makeR0 MF FI (hr.mono (by decide)) rfl U.mgF pass0)) (pss_cons (ps_for PassesOwn.never rfl (pi_list (pv 0)) (pg_tup rfl (pgs_cons (pg_name (i := 2) sc__law_fence.nd rfl (Or.inl rfl)) (pgs_cons (pg_name (i := 3) sc__law_fence.nd rfl (Or.inl rfl)) (pgs_cons (pg_name (i := 4) sc__law_fence.nd rfl (Or.inl rfl)) (pgs_cons (pg_name (i := 5) sc__law_fence.nd rfl (Or.inl rfl)) pgs_nil))))) (pss_one (ps_set (i := 1) sc__law_fence.nd rfl (Or.inl rfl) (pe_op (op_addTwo hFAdd hAT (hr.mono (by decide))) (pv 1) (pe_mkP hMk0 T (hr.mono (by decide)) (pa_cons (pv 2) (pa_cons (pv 3) (pa_cons (pv 4) (pa_cons (pv 5) pa_nil))))))))) (pss_one (ps_ret (pv 1))))), ?_⟩
  refine fun x dx nx nd ne => ask_fence (L := []) nx nd ⟨(fun x h => nomatch h), List.nodup_nil, Nat.zero_le _⟩ fun H1 f1 s1 => ⟨rfl, ?_⟩
  refine ⟨_, rfl, F, rfl, ⟨_, sqF s1⟩, for_list (K := K) (a := F) (xs := ts.map V.ref) (fun i σ' H' => ∃ (g : Addr) (L : List Pt) (o2 o3 o4 o5 : Option V), σ' = [some (.ref F), some (.ref g), o2, o3, o4, o5] ∧ FcAt C CF H' g L ∧ partsOf L = qs.take i ∧ Same H H') ⟨x, [], none, none, none, none, rfl, f1, rfl, s1⟩ (fun i σ' H' _ h => by obtain ⟨_, _, _, _, _, _, _, _, _, h⟩ := h; exact sqF h) ?_ ?_⟩
  · rintro i v σ' H' e ⟨g, L, o2, o3, o4, o5, rfl, hg, eL, sm⟩
    obtain ⟨t, qd, rfl, e1, e2, ht, ok⟩ := tm.get e
    obtain ⟨dg, tg, d, g1, g2, g3⟩ := hg.ex
    obtain ⟨nm, d0, p0, st⟩ := qd
    have ok' : PartOk nm d0 p0 st := ok
    refine ⟨t, _, rfl, SqT.of (sm _ _ ht), rfl, _, _, rfl, _, _, rfl, _, _, rfl, _, _, rfl, rfl, ?_⟩
    refine ⟨_, rfl, _, rfl, _, rfl, _, rfl, _, rfl, fun y dy ny ndy ney => ⟨y, dy, nm, d0, p0, st, rfl, upd_same, ok', fun H7 hx7 kp7 => ⟨rfl, ?_⟩⟩⟩
    have s2 : Same H' H7 := Same.made ny ndy kp7
    obtain ⟨cr, eL2⟩ := crew_snoc (x := ⟨y, nm, d0, p0, st⟩) (hg.same s2).crew eL e2 ⟨dy, hx7⟩ rfl tm.ok tm.nd tm.few
    refine ⟨g, dg, _, y, dy, _, rfl, rfl, s2 _ _ g1, hx7, g, L, ⟨y, nm, d0, p0, st⟩, rfl, hg.same s2, cr, fun g' H3 hg' s3 => ⟨⟨g', rfl⟩, ?_⟩⟩
    exact ⟨g', _, _, _, _, _, rfl, hg', eL2, (sm.trans s2).trans s3⟩
  · rintro σ' H' ⟨g, L, o2, o3, o4, o5, rfl, hg, eL, sm⟩
    have hl : (ts.map V.ref).length = qs.length := by rw [List.length_map, tm.len]
    rw [hl, List.take_length] at eL
    exact ⟨_, rfl, q g L H' hg eL sm⟩
end
end Ur
/-! HK: rows of painters in another order (_law_shuffled). -/
namespace Ur
open PySem PySem.Spec PyProof.Rows L2
/-- pairs: a row's place and its numbers -/
abbrev Pr := Addr × Quad
def PrAt (H : Hp) (z : Pr) : Prop := H z.1 = some (.tup (quadV z.2))
theorem prs_team {H : Hp} {ts : List Addr} {qs : List Quad} (tm : Team H ts qs) : (ts.zip qs).map (·.1) = ts ∧ (ts.zip qs).map (·.2) = qs ∧ ∀ z ∈ ts.zip qs, PrAt H z := by
  have hl := tm.len
  refine ⟨List.map_fst_zip (by omega), List.map_snd_zip (by omega), fun z hz => ?_⟩
  obtain ⟨i, hi, e⟩ := List.getElem_of_mem hz
  rw [List.length_zip] at hi
  rw [List.getElem_zip] at e
  subst e
  exact tm.at_ i _ _ (List.getElem?_eq_getElem (by omega)) (List.getElem?_eq_getElem (by omega))
theorem team_prs {H : Hp} {zs : List Pr} (h : ∀ z ∈ zs, PrAt H z) (ok : ∀ q ∈ zs.map (·.2), QuadOk q) (nd : ((zs.map (·.2)).map (·.1)).Nodup) (few : zs.length ≤ 40) : Team H (zs.map (·.1)) (zs.map (·.2)) := by
  refine ⟨by rw [List.length_map, List.length_map], fun j t q a b => ?_, ok, nd, by rw [List.length_map]; exact few⟩
  rw [List.getElem?_map] at a b
  cases e : zs[j]? with
  | none => rw [e] at a; cases a
  | some z =>
    rw [e] at a b
    obtain rfl := Option.some.inj a
    obtain rfl := Option.some.inj b
    exact h z (List.mem_of_getElem? e)
def prD (z : Pr) : PyData := .tuple [.str z.2.1, .int z.2.2.1, .int z.2.2.2.1, .int z.2.2.2.2]
theorem name_strOk {z : Str} (h : NameOk z) : PyData.strOk z = true := arr_all fun c hc => decide_eq_true (by have := h.2.2 c hc; omega)
theorem prs_lay : ∀ zs : List Pr, (∀ z ∈ zs, NameOk z.2.1) → PyData.canLayAll0 (zs.map prD) = true
  | [], _ => by simp [PyData.canLayAll0]
  | k :: ks, h => by simp [PyData.canLayAll0, prD, PyData.canLay0, prs_lay ks fun z hz => h z (List.mem_cons_of_mem _ hz), name_strOk (h k List.mem_cons_self)]
theorem prs_depth : ∀ zs : List Pr, PyData.depthAll (zs.map prD) ≤ 1
  | [] => by simp [PyData.depthAll]
  | k :: ks => by
    have h1 := prs_depth ks
    simp only [List.map_cons, PyData.depthAll, prD, PyData.depth]
    omega
theorem prs_shaped (zs : List Pr) (ok : ∀ z ∈ zs, NameOk z.2.1) : SeqAt.shaped (.list (zs.map prD)) = true := by
  have h1 := prs_depth zs
  have h2 : PyData.depth (.list (zs.map prD)) ≤ 64 := by
    simp only [PyData.depth]
    omega
  show (PyData.canLay0 (.list (zs.map prD)) && decide (PyData.depth (.list (zs.map prD)) ≤ 64)) = true
  rw [Bool.and_eq_true]
  exact ⟨by simp only [PyData.canLay0]; exact prs_lay zs ok, decide_eq_true h2⟩
theorem prs_eqv_nil (zs : List Pr) : PyData.eqv (.list (zs.map prD)) (.list []) = zs.isEmpty := by
  cases zs with
  | nil => simp [PyData.eqv, PyData.eqvAll]
  | cons k ks => simp [PyData.eqv, PyData.eqvAll]
theorem dp_prs {K : PySem.W.Frag} {H : Hp} : ∀ {zs : List Pr}, (∀ z ∈ zs, PrAt H z) → DpAll K H (zs.map fun z => V.ref z.1) (zs.map prD)
  | [], _ => .nil
  | z :: zs, h => .cons (.tup (SqT.of (h z List.mem_cons_self)) (.cons (.str _) (.cons (.int _) (.cons (.int _) (.cons (.int _) .nil))))) (dp_prs fun y hy => h y (List.mem_cons_of_mem _ hy))
theorem take_out {α : Type} : ∀ (xs : List α) (k : Nat) (h : k < xs.length), (xs[k] :: xs.eraseIdx k).Perm xs
  | [], _, h => absurd h (Nat.not_lt_zero _)
  | x :: xs, 0, _ => List.Perm.refl _
  | x :: xs, k + 1, h => by
    have h2 : k < xs.length := by rw [List.length_cons] at h; omega
    show (xs[k] :: x :: xs.eraseIdx k).Perm (x :: xs)
    exact (List.Perm.swap x _ _).trans ((take_out xs k h2).cons x)
theorem map_out {α β : Type} (f : α → β) : ∀ (xs : List α) (k : Nat), (xs.map f).eraseIdx k = (xs.eraseIdx k).map f
  | [], _ => rfl
  | x :: xs, 0 => rfl
  | x :: xs, k + 1 => by
    show f x :: (xs.map f).eraseIdx k = f x :: (xs.eraseIdx k).map f
    rw [map_out f xs k]
theorem sq_index {v : Int} {n : Nat} (h0 : 0 ≤ v) (h1 : v < (n : Int)) : seqIndex? v n = some v.toNat := by
  have e : (if v < 0 then v + (n : Int) else v) = v := if_neg (by omega)
  unfold seqIndex?
  simp only [e]
  rw [decide_eq_true h0, decide_eq_true h1]
  rfl
theorem PrAt.keep {H H' : Hp} {p : Addr} {kvs : List (Key × V)} {z : Pr} (h : PrAt H z) (k : Keep p H H') (hp : H p = some (.dK kvs)) : PrAt H' z := k _ _ h (ne_of h hp (by intro e; cases e))
end Ur
/-! HQ: what the laws of histories share. -/
namespace Ur
open PySem PySem.Spec PyProof.Rows L2
def spLaw (K : PySem.W.Frag) (T : List (Addr × Str)) : Sp := fun vs H Q _ => ∃ (a : Addr) (ns : List Int), vs = [.ref a] ∧ SqL K H a (ns.map V.int) ∧ ns.length ≤ 63 ∧ LamX.Tabs T H ∧ ∀ H', Q (.bl true) H'
theorem Pen.extN {H H' : Hp} {p l : Addr} {n : Nat} (P : Pen H p l n) (e : LamX.ExtN H H') : Pen H' p l n := by
  obtain ⟨cs, b, r, h1, h2, z⟩ := P.ex
  exact ⟨cs, b, r, e _ _ h1 (fun _ z => by cases z), e _ _ h2 (fun _ z => by cases z), z⟩
theorem Team.extN {H H' : Hp} {ts : List Addr} {qs : List Quad} (h : Team H ts qs) (e : LamX.ExtN H H') : Team H' ts qs := ⟨h.len, fun j t q a b => e _ _ (h.at_ j t q a b) (fun _ z => by cases z), h.ok, h.nd, h.few⟩
theorem Crew.extN {C : Addr} {H H' : Hp} {L : List Pt} (h : Crew C H L) (e : LamX.ExtN H H') : Crew C H' L := ⟨fun x hx => let ⟨⟨dx, a⟩, z⟩ := h.at_ x hx; ⟨⟨dx, e _ _ a (fun _ z => by cases z)⟩, z⟩, h.nd, h.few⟩
theorem FcAt.extN {C CF : Addr} {H H' : Hp} {f : Addr} {L : List Pt} (h : FcAt C CF H f L) (e : LamX.ExtN H H') : FcAt C CF H' f L :=
  let ⟨dx, t, d, h1, h2, h3⟩ := h.ex
  ⟨⟨dx, t, d, e _ _ h1 (fun _ z => by cases z), e _ _ h2 (fun _ z => by cases z), e _ _ h3 (fun _ z => by cases z)⟩, h.crew.extN e⟩
theorem team_d0 {H : Hp} {ts : List Addr} {qs : List Quad} (tm : Team H ts qs) : ∀ i, i < qs.length → 0 ≤ dQ qs i := fun i hi => by
  obtain ⟨t, qd, _, e, _, ok, _⟩ := tm.ix hi
  rw [(q_at e).2.1]
  exact ok.d0
theorem new_at {H : Hp} {a : Addr} {o : HO} (_ : Same H (upd H a o)) : upd H a o a = some o := upd_same
theorem nma : NameOk "a" := ⟨by decide, by decide, by unfold LetOk; decide⟩
theorem nmb : NameOk "b" := ⟨by decide, by decide, by unfold LetOk; decide⟩
theorem nmc : NameOk "c" := ⟨by decide, by decide, by unfold LetOk; decide⟩
theorem nt_tup {ys : List V} : ∀ ps, HO.tup ys ≠ .tbl ps := fun _ z => by cases z
theorem nt_lst {ys : List V} : ∀ ps, HO.lst ys ≠ .tbl ps := fun _ z => by cases z
theorem tabs_upd {T : List (Addr × Str)} {H : Hp} {F : Addr} {xs : List V} {o : HO} (h : LamX.Tabs T H) (hF : H F = some (.lst xs)) : LamX.Tabs T (upd H F o) := by
  intro p hp
  obtain ⟨ps, h1, h2, h3⟩ := h p hp
  refine ⟨ps, by rw [upd_ne (ne_of h1 hF (by intro z; cases z))]; exact h1, h2, fun pos cv hcv => ?_⟩
  obtain ⟨c', e1, e2⟩ := h3 pos cv hcv
  exact ⟨c', e1, by rw [upd_ne (ne_of e2 hF (by intro z; unfold LamX.CodeO at z; cases z))]; exact e2⟩
/-- the first one goes on, all others stop at their start -/
theorem hist0 {N : Nat} {d : Nat → Int} {SP : SPt} (n0 : ∀ n cnt, ¬ PBlk d SP 0 0 cnt n) (h : ∀ i, i < N → i ≠ 0 → ∃ m, 0 ≤ m ∧ SP i 0 0 m ∧ (d 0 + m < d i ∨ d 0 + m = d i)) : HistC N d SP (fun i => if i = 0 then none else some 0) (fun _ => 0) := by
  refine ⟨fun i hi => ?_, fun i c hi e => ?_, fun i c hi e => ?_⟩
  · by_cases e : i = 0
    · subst e
      rintro n _ ⟨j, hj, b⟩
      by_cases e : j = 0
      · subst e
        exact n0 _ _ b
      · obtain ⟨m, m0, _, l, _⟩ := b
        have := l 0 (by show (if j = 0 then none else some 0) = some 0; rw [if_neg e])
        omega
    · show Least _ (if i = 0 then none else some 0)
      rw [if_neg e]
      obtain ⟨m, m0, sp, o⟩ := h i hi e
      refine ⟨Int.le_refl 0, ⟨0, by omega, m, m0, sp, (fun c z => by cases z), ?_⟩, fun n h0 h1 => absurd h1 (by omega)⟩
      rcases o with o | o
      · exact .inl (by omega)
      · exact .inr ⟨by omega, by omega⟩
  · by_cases e0 : i = 0
    · subst e0
      cases e
    · have e : (if i = 0 then none else some 0) = some c := e
      rw [if_neg e0] at e
      obtain rfl := Option.some.inj e
      obtain ⟨m, m0, sp, _⟩ := h i hi e0
      exact ⟨by omega, m, m0, sp, fun c z => by cases z⟩
  · have e : (if i = 0 then none else some 0) = some c := e
    by_cases e0 : i = 0
    · rw [if_pos e0] at e
      cases e
    · rw [if_neg e0] at e
      obtain rfl := Option.some.inj e
      decide
theorem not_self {qs : List Quad} {x : Quad} (h : qs[0]? = some x) (ns : x.2.2.2 ≠ 0) : ∀ n cnt, ¬ PBlk (dQ qs) (fSP qs) 0 0 cnt n := fun _ _ => no_self h ns
theorem inV_strs (z : Str) : ∀ ss : List Str, inV (.str z) (ss.map V.str) = decide (z ∈ ss)
  | [] => by simp [inV]
  | s :: ss => by
    have ih := inV_strs z ss
    unfold inV at ih ⊢
    rw [List.map_cons, List.any_cons, ih]
    by_cases e : s = z
    · subst e
      simp [eqV]
    · have e2 : ¬ z = s := fun q => e q.symm
      simp [eqV, e, e2]
end Ur
/-! UrU: the law's own call, where defs make lambdas: their tables are tracked. -/
namespace Ur
open PySem PySem.Spec PyProof.Rows L2
theorem law_callGT {P : Program} {w : World} {K : PySem.W.Frag} {mg mb : Str → Option Value} {k : Nat} {fa a : Addr} {ct : List (Addr × Addr)} {fd : FuncData} {x : Str} {sp : Sp} {s1 : Shared} {vs : List Value} {ns : List Int}
    (kin : K.In s1.heap) (hns : s1.heap.Ns mainGlobals mg) (hb : s1.heap.Ns builtinsNs mb) (hbb : ∀ x : Str, x ≠ "__name__" → mb x = bootBuiltins x) (hlim : s1.heap.NoLimit) (hg : s1.gens = #[])
    (tabs : ∀ q ∈ ct, s1.heap.get? q.2 = some (PySem.W.tabObj #[]) ∧ K.lookup q.2 = none ∧ PySem.W.CodeHd s1.heap q.1 q.2)
    (hbm : ∃ (bm : Addr) (ob : Obj), mg "__builtins__" = some (.ref bm) ∧ bm ≠ builtinsNs ∧ s1.heap.get? bm = some ob ∧ ob.cls = .type "module" ∧ ob.dict = some builtinsNs ∧ ob.data = .plain)
    (ha : s1.heap.get? a = some { cls := .type "list", data := .seq vs.toArray }) (hi : IntsAre vs ns) (hl : ns.length ≤ sizeLine) (hr : Room k callerA)
    (F : ∀ base : Heap, K.In base → base.Ns mainGlobals mg → (∀ q ∈ ct, LamX.TabB base mg q.1 q.2) → FnG P w K mg base k fa fd [x] sp) (hbind : ∀ (s : Shared) (u : Value), BindsTo s fd ⟨[u], []⟩ [(x, u)])
    (hsp : ∀ H : Hp, (∀ q ∈ ct, H q.2 = some (.tbl #[])) → SqL K H a (ns.map V.int) → sp [.ref a] H (fun v _ => v = .bl true) fun _ _ _ => False) :
    codeAny (model P w) callerA (.call (.ref fa) ⟨[.ref a], []⟩) (fun r s' => r = .ok (.ret (.bool true)) ∧ OldK s1.heap s'.heap ∧ s'.os = s1.os ∧ AllBare s'.gens) s1 := by
  have rv : Vals (ns.map V.int) vs := vals_ints hi
  have lenV : vs.length = ns.length := hi.length
  let ob : Obj := { cls := .type "list", data := .seq vs.toArray }
  let tb : Addr → Prop := fun b => b ∈ ct.map (·.2)
  have tbAt : ∀ b, tb b → s1.heap.get? b = some (PySem.W.tabObj #[]) ∧ K.lookup b = none := by
    intro b h
    obtain ⟨q, hq, rfl⟩ := List.mem_map.mp h
    exact ⟨(tabs q hq).1, (tabs q hq).2.1⟩
  have tbOf : ∀ q ∈ ct, tb q.2 := fun q hq => List.mem_map.mpr ⟨q, hq, rfl⟩
  have aNo : ¬ tb a := by
    intro h
    have z := (tbAt a h).1
    rw [ha] at z
    cases congrArg Obj.data (Option.some.inj z)
  -- the abstract heap: the script, where it is none of the module's own objects, and the tables
  obtain ⟨H, hH, hS, hT, hN⟩ : ∃ H : Hp, (∀ b u, H b = some u → (b = a ∧ u = .frz ob (.lst (ns.map V.int)) ∧ K.lookup a = none) ∨ (tb b ∧ u = .tbl #[])) ∧ SqL K H a (ns.map V.int) ∧ (∀ b, tb b → H b = some (.tbl #[])) ∧ True := by
    classical
    cases hk : K.lookup a with
    | some o =>
      have e : s1.heap.get? a = some o := kin a o hk
      have e2 : o = ob := Option.some.inj (e.symm.trans ha)
      refine ⟨fun b => if tb b then some (.tbl #[]) else none, fun b u z => ?_, Or.inr ⟨o, vs.toArray, 0, hk, by rw [e2], by rw [e2], by rw [e2], ?_, ?_⟩, fun b h => if_pos h, trivial⟩
      · by_cases h : tb b
        · have z : (if tb b then some (HO.tbl #[]) else none) = some u := z
          rw [if_pos h] at z
          exact Or.inr ⟨h, (Option.some.inj z).symm⟩
        · have z : (if tb b then some (HO.tbl #[]) else none) = some u := z
          rw [if_neg h] at z
          cases z
      · rw [List.size_toArray, lenV]; exact hl
      · simpa using rv
    | none =>
      refine ⟨fun b => if b = a then some (.frz ob (.lst (ns.map V.int))) else if tb b then some (.tbl #[]) else none, fun b u z => ?_, Or.inl (Or.inr ⟨ob, if_pos rfl⟩), fun b h => ?_, trivial⟩
      · have z : (if b = a then some (HO.frz ob (.lst (ns.map V.int))) else if tb b then some (HO.tbl #[]) else none) = some u := z
        by_cases hba : b = a
        · rw [if_pos hba] at z
          exact Or.inl ⟨hba, (Option.some.inj z).symm, rfl⟩
        · rw [if_neg hba] at z
          by_cases h : tb b
          · rw [if_pos h] at z
            exact Or.inr ⟨h, (Option.some.inj z).symm⟩
          · rw [if_neg h] at z
            cases z
      · have nb : b ≠ a := fun e => aNo (e ▸ h)
        show (if b = a then _ else if tb b then _ else _) = _
        rw [if_neg nb, if_pos h]
  have hok : HOk P w H s1.heap := by
    intro b u z
    rcases hH b u z with ⟨rfl, rfl, _⟩ | ⟨h, rfl⟩
    · exact ⟨ha, by rw [List.length_map]; exact hl, vs, _, rv, ha⟩
    · exact (tbAt b h).1
  -- what is neither the script nor a table is not tracked
  have free : ∀ {b : Addr} {o : Obj}, s1.heap.get? b = some o → (b = a → o = ob → K.lookup a ≠ none) → o ≠ PySem.W.tabObj #[] → H b = none := by
    intro b o e n nt
    cases z : H b with
    | none => rfl
    | some u =>
      rcases hH b u z with ⟨h1, _, h3⟩ | ⟨h, _⟩
      · subst h1
        exact absurd h3 (n rfl (Option.some.inj (e.symm.trans ha)))
      · exact absurd (Option.some.inj (e.symm.trans (tbAt b h).1)) nt
  have nsB : ∀ {b : Addr} {m : Str → Option Value}, s1.heap.Ns b m → (hidT s1.heap H).Ns b m := by
    intro b m ⟨o, es, ep, e, d, r⟩
    refine ⟨o, es, ep, hidT_get e (free e (fun _ z => ?_) fun z => ?_), d, r⟩
    · rw [z] at d
      cases d
    · rw [z] at d
      cases d
  have kinB : K.In (hidT s1.heap H) := by
    intro b o e
    have g := kin b o e
    refine hidT_get g ?_
    cases z : H b with
    | none => rfl
    | some u =>
      rcases hH b u z with ⟨h1, _, h3⟩ | ⟨h, _⟩
      · subst h1
        rw [e] at h3
        cases h3
      · have := (tbAt b h).2
        rw [e] at this
        cases this
  have modB : Mod K mg (hidT s1.heap H) := by
    obtain ⟨mc, l1, l2⟩ := hlim
    exact ⟨kinB, nsB hns, ⟨mb, nsB hb, hbb⟩, ⟨mc, nsB l1, l2⟩⟩
  have TB : ∀ q ∈ ct, LamX.TabB (hidT s1.heap H) mg q.1 q.2 := by
    intro q hq
    obtain ⟨t1, t2, t3⟩ := tabs q hq
    refine ⟨?_, ?_, ?_⟩
    · obtain ⟨o, us, file, tf, flags, tg, inF, text, tt, e1, r1, r2, r3, r⟩ := t3
      refine ⟨o, us, file, tf, flags, tg, inF, text, tt, hidT_get e1 (free e1 (fun _ z => ?_) fun z => ?_), r1, r2, r3, r⟩
      · rw [z] at r2
        cases r2
      · rw [z] at r2
        have := Data.fields.inj r2
        rw [← this] at r3
        simp at r3
    · obtain ⟨bm, o, b1, b2, b3, b4, b5, b6⟩ := hbm
      refine ⟨bm, o, b1, b2, ?_, ?_, hidT_get b3 (free b3 (fun _ z => ?_) fun z => ?_), b4, b5, b6⟩
      · rintro rfl
        obtain ⟨o2, es, ep, e, hd, _⟩ := hns
        rw [e] at b3
        cases b3
        rw [hd] at b6
        cases b6
      · rintro rfl
        rw [t1] at b3
        cases b3
        cases b6
      · rw [z] at b6
        cases b6
      · rw [z] at b6
        cases b6
    · intro z
      obtain ⟨o2, es, ep, e, hd, _⟩ := hns
      rw [z, t1] at e
      cases e
      cases hd
  have none_in : ∀ b : Addr, b ∉ ([] : List Addr) := fun b z => nomatch z
  have e0 : Env0 P w K mg (hidT s1.heap H) callerA [] s1 H := ⟨rfl, modB, fun b o e => of_hidT e, Nat.le_of_eq (hidT_size _ _), trivial, fun b z => absurd z (none_in b), hok, .of_eq hg⟩
  refine codeAny_mono ((F _ kinB (nsB hns) TB).go callerA [] s1 H ⟨[.ref a], []⟩ [.ref a] [.ref a] _ _ rfl hr e0 (hbind s1 (.ref a)) (.cons rfl .nil) (hsp H (fun q hq => hT _ (tbOf q hq)) hS)) ?_
  intro r s2 h
  match r, h with
  | .error _, h => exact False.elim h
  | .ok .next, h => exact False.elim h
  | .ok .brk, h => exact False.elim h
  | .ok .cont, h => exact False.elim h
  | .ok (.ret u), h =>
    obtain ⟨v, H2, os, bare, un, hok2, rv2, q⟩ := h
    have q : v = .bl true := q
    subst q
    obtain rfl : u = Value.bool true := rv2
    have grown : ∀ b, tb b → ∃ more : Array Value, s2.heap.get? b = some (PySem.W.tabObj more) := by
      intro b h
      obtain ⟨more, z⟩ := un.tbls b #[] (hT b h)
      exact ⟨_, hok2 b _ z⟩
    have same : ∀ b o, ¬ tb b → s1.heap.get? b = some o → s2.heap.get? b = some o := by
      intro b o nt e
      cases z : H b with
      | none => exact un.keep b o e z (none_in b) (none_in b)
      | some u =>
        rcases hH b u z with ⟨rfl, rfl, _⟩ | ⟨h, _⟩
        · have z2 := un.frzs b ob _ z
          have e2 := (hok2 b _ z2).1
          rw [ha] at e
          rw [← Option.some.inj e]
          exact e2
        · exact absurd h nt
    refine ⟨rfl, ⟨fun b o e => ?_, fun b o e => ?_⟩, os, bare⟩
    · by_cases hb : tb b
      · obtain ⟨q, hq, rfl⟩ := List.mem_map.mp hb
        obtain ⟨t1, t2, t3⟩ := tabs q hq
        obtain ⟨more, g⟩ := grown q.2 hb
        rw [t1] at e
        obtain rfl := Option.some.inj e
        exact Or.inr (Or.inl ⟨(t3.tab t1).isCodeTable, rfl, #[], more, rfl, by rw [Array.empty_append]; exact g⟩)
      · exact Or.inl (same b o hb e)
    · by_cases hb : tb b
      · obtain ⟨more, g⟩ := grown b hb
        exact ⟨_, g⟩
      · exact ⟨o, same b o hb e⟩
/-- the end of a law whose defs make lambdas: xs the names of these defs -/
theorem walk_ofGT {l : PySem.W.OpenLaw} {n k : Nat} {q : Program} {loose : List Str} {XP : (Str → Option Value) → Heap → Prop} {YP : World → Heap → Prop} {d : DefRec} {K : Params → PySem.W.Frag} {x : Str} {xs : List Str}
    (hn : l.most = some n) (hn2 : n ≤ sizeLine) (hdf : d.params.defaults = []) (hr : Room k callerA) (hrec : ∀ y ∈ xs, ((recsOf q).find? fun e => e.name == y).isSome = true) (hY : ∀ (w : World) (h : Heap), YP w h → (K w.params).In h)
    (F : ∀ (w : World) (mg : Str → Option Value) (fa : Addr) (h : Heap), (K w.params).In h → h.Ns mainGlobals mg → mg d.name = some (.ref fa) →
      ∃ (fd : FuncData) (ct : List (Addr × Addr)) (sp : Sp), (∀ (s : Shared) (u : Value), BindsTo s fd ⟨[u], []⟩ [(x, u)]) ∧ (∀ q ∈ ct, (K w.params).lookup q.2 = none ∧ ∃ y ∈ xs, PySem.W.tabIn (K w.params) y = some q) ∧
        (∀ (H : Hp) (a : Addr) (ns : List Int), ns.length ≤ n → (∀ q ∈ ct, H q.2 = some (.tbl #[])) → SqL (K w.params) H a (ns.map V.int) → sp [.ref a] H (fun v _ => v = .bl true) fun _ _ _ => False) ∧
        ∀ base : Heap, (K w.params).In base → base.Ns mainGlobals mg → (∀ q ∈ ct, LamX.TabB base mg q.1 q.2) → FnG l.prog w (K w.params) mg base k fa fd [x] sp) :
    PySem.W.WalkO q loose XP YP l.row.toRowW d [] (fun f vs => PySem.call f vs) := by
  refine Att.attach_call hn hdf ?_
  intro w s0 s1 mg mb fa o pm cd doc a vs ns G Y ho hd hcd hmg hobj hints hlen hg
  have kin := hY w _ Y
  obtain ⟨fd, ct, sp, hb, hct, hsp, hF⟩ := F w mg fa _ kin G.T.g hmg
  refine law_callGT kin G.T.g G.T.b G.T.builtins G.T.nolimit hg (fun t ht => ?_) G.T.bmain hobj hints (Nat.le_trans hlen hn2) hr hF hb fun H hT hS => hsp H a ns hlen hT hS
  obtain ⟨no, y, hy, tin⟩ := hct t ht
  obtain ⟨dr, hdr⟩ := Option.isSome_iff_exists.mp (hrec y hy)
  obtain ⟨c1, c2⟩ := PySem.W.tab_of (c := t.1) (P := t.2) G.T kin hdr tin
  exact ⟨c2, no, c1⟩
end Ur
/-! UrSo: sorted(xs) of tuples of any kinds, all alike: the new list stands for the sorted data. -/
namespace Ur
open PySem PySem.Spec PyProof.Rows L2
section
variable {β : Type} {F : V → β → Prop}
theorem each_fwd : ∀ {xs : List V} {us : List Value} {bs : List β}, Vals xs us → Paired F xs bs → PySem.W.EachIs (fun u b => ∃ x, RelV x u ∧ F x b) us bs
  | _, _, _, .nil, .nil => .nil
  | _, _, _, .cons r rs, .cons p ps => .cons ⟨_, r, p⟩ (each_fwd rs ps)
theorem each_bwd : ∀ {us : List Value} {bs : List β}, PySem.W.EachIs (fun u b => ∃ x, RelV x u ∧ F x b) us bs → ∃ ys, Vals ys us ∧ Paired F ys bs
  | _, _, .nil => ⟨[], .nil, .nil⟩
  | _, _, .cons ⟨x, r, p⟩ t => by
    obtain ⟨ys, a, b⟩ := each_bwd t
    exact ⟨x :: ys, .cons r a, .cons p b⟩
theorem each_imp {R S : Value → β → Prop} (h : ∀ u b, R u b → S u b) : ∀ {us : List Value} {bs : List β}, PySem.W.EachIs R us bs → PySem.W.EachIs S us bs
  | _, _, .nil => .nil
  | _, _, .cons p t => .cons (h _ _ p) (each_imp h t)
end
/-- bs in the order of the data that they are -/
abbrev sortD {β : Type} (enc : β → PyData) (bs : List β) : List β := bs.mergeSort (PySem.W.dataLe false enc)
theorem sortD_len {β : Type} (enc : β → PyData) (bs : List β) : (sortD enc bs).length = bs.length := List.length_mergeSort ..
theorem sortD_mem {β : Type} {enc : β → PyData} {bs : List β} {b : β} : b ∈ sortD enc bs ↔ b ∈ bs := List.mem_mergeSort
/-- sorted(xs): every item x of xs stands for some b as F says -/
def rSortD {β : Type} (K : PySem.W.Frag) (enc : β → PyData) : List V → Hp → VK → Prop := fun vs H Q => ∃ (a : Addr) (xs : List V) (bs : List β) (F : V → β → Prop), vs = [V.ref a] ∧ SqL K H a xs ∧ Paired F xs bs ∧
  (∀ x b, F x b → Dp K H x (enc b)) ∧ (∀ b c : β, PySem.W.alike (enc b) (enc c) = true) ∧ (∀ b, ∃ x r, enc b = .tuple (x :: r)) ∧ (∀ b, (enc b).depth ≤ 8) ∧
  ∀ ys p, Paired F ys (sortD enc bs) → H p = none → Q (.ref p) (upd H p (.lst ys))
theorem cr_sortD {X : Cx} {β : Type} {enc : β → PyData} (hu : X.A.units + 64 < cLine) : CallR X (.builtin "sorted") (rSortD X.K enc) := by
  intro pins s σ H vs us Q I r h
  obtain ⟨a, xs, bs, F, rfl, hs, hp, hd, hal, ht, hdp, q⟩ := h
  obtain ⟨its, rv, hl, hz⟩ := I.list hs
  obtain rfl := Vals.ref1 r
  have e := each_fwd rv hp
  have ln : its.length = bs.length := e.length
  refine PySem.W.sorted_data (enc := enc) (R := fun u b => ∃ x, RelV x u ∧ F x b) hl.isList e (each_imp (fun u b ⟨x, rx, fx⟩ => Dp.reads I _ _ _ (hd x b fx) rx) e) (PySem.W.AllAlike.of hal) (PySem.W.Sortable.tuples ht)
    (by rw [← ln, ← rv.length]; exact hz) (fun b _ => by have := hdp b; show X.A.units + 1 + 1 + _ < cLine; omega) fun out lo eo => ?_
  obtain ⟨ys, ry, py⟩ := each_bwd eo
  obtain ⟨n, hn⟩ := PyProof.Rows.sortedAll_at s.heap its out.toArray
  refine ⟨.ref (s.heap.objs.size + 1), upd H (s.heap.objs.size + 1) (.lst ys), I.laid (t' := s.toks) (fun b o e => PyProof.Rows.sortedAll_old e) (Nat.le_succ _) ⟨?_, out, n, ry, hn⟩, rfl, q ys _ py (I.hok.fresh (Nat.le_succ _))⟩
  rw [ry.length, lo, ← ln, ← rv.length]
  exact hz
end Ur
/-! IC: all who come to a post, by their days: the comings as data, sorted. -/
namespace Ur
open PySem PySem.Spec PyProof.Rows L2
/-- a coming: its day, the painter's place, its name, the word -/
abbrev Cm := Int × Int × Str × Str
def wordFor (n : Int) : Option Int → Str
  | none => "paints"
  | some k => if n < k then "paints" else if n = k then "stops" else "gone"
def stpF (p s q : Int) : Option Int := if (q - p).fmod s = 0 ∧ 0 ≤ (q - p).fdiv s then some ((q - p).fdiv s) else none
theorem steps_uniq {p s q : Int} {r r' : Option Int} (h : StepsTo p s q r) (h' : StepsTo p s q r') : r = r' := by
  cases r with
  | none =>
    cases r' with
    | none => rfl
    | some j => exact (h j).mpr ((h' j).mp rfl)
  | some j => exact ((h' j).mpr ((h j).mp rfl)).symm
theorem stpF_is {p s q : Int} {r : Option Int} (hs : s ≠ 0) (h : StepsTo p s q r) : r = stpF p s q := steps_uniq h (steps_to_spec hs)
def cntR (rs : List Rw) (i : Nat) : Option Int := match rs[i]? with
  | some r => r.cnt
  | none => none
def cmOf (qs : List Quad) (rs : List Rw) (q : Int) (i : Nat) : Option Cm := (stpF (pQ qs i) (sQ qs i) q).map fun n => (dQ qs i + n, (i : Int), nQ qs i, wordFor n (cntR rs i))
def cms (qs : List Quad) (rs : List Rw) (q : Int) (k : Nat) : List Cm := (List.range k).filterMap (cmOf qs rs q)
theorem cms_none {qs : List Quad} {rs : List Rw} {q : Int} {k : Nat} (h : cmOf qs rs q k = none) : cms qs rs q (k + 1) = cms qs rs q k := by
  unfold cms
  rw [List.range_succ, List.filterMap_append, List.filterMap_cons_none h, List.filterMap_nil, List.append_nil]
theorem cms_some {qs : List Quad} {rs : List Rw} {q : Int} {k : Nat} {e : Cm} (h : cmOf qs rs q k = some e) : cms qs rs q (k + 1) = cms qs rs q k ++ [e] := by
  unfold cms
  rw [List.range_succ, List.filterMap_append, List.filterMap_cons_some h, List.filterMap_nil]
theorem cms_len (qs : List Quad) (rs : List Rw) (q : Int) (k : Nat) : (cms qs rs q k).length ≤ k := by
  have := List.length_filterMap_le (cmOf qs rs q) (List.range k)
  rw [List.length_range] at this
  exact this
/-- the comings as tuples -/
def cmV (e : Cm) : List V := [.int e.1, .int e.2.1, .str e.2.2.1, .str e.2.2.2]
abbrev CmsAt (H : Hp) (as : List Addr) (es : List Cm) : Prop := Paired (fun a e => H a = some (.tup (cmV e))) as es
/-- the comings as data, and sorted -/
def cmD (e : Cm) : PyData := .tuple [.int e.1, .int e.2.1, .str e.2.2.1, .str e.2.2.2]
abbrev cmsS (qs : List Quad) (rs : List Rw) (q : Int) (k : Nat) : List Cm := sortD cmD (cms qs rs q k)
abbrev CmV (H : Hp) (v : V) (e : Cm) : Prop := ∃ a, v = V.ref a ∧ H a = some (.tup (cmV e))
theorem cmD_like (e f : Cm) : PySem.W.alike (cmD e) (cmD f) = true := by
  unfold cmD
  simp only [PySem.W.alike, PySem.W.alikeAll, Bool.and_self]
theorem cmD_dp {K : PySem.W.Frag} {H : Hp} {v : V} {e : Cm} (h : CmV H v e) : Dp K H v (cmD e) := by
  obtain ⟨a, rfl, ha⟩ := h
  exact .tup (SqT.of ha) (.cons (.int _) (.cons (.int _) (.cons (.str _) (.cons (.str _) .nil))))
theorem cmD_depth (e : Cm) : (cmD e).depth ≤ 8 := by
  unfold cmD
  simp only [PyData.depth, PyData.depthAll]
  decide
theorem cms_val {H : Hp} : ∀ {as : List Addr} {es : List Cm}, CmsAt H as es → Paired (CmV H) (as.map V.ref) es
  | _, _, .nil => .nil
  | _, _, .cons h t => .cons ⟨_, rfl, h⟩ (cms_val t)
theorem cms_ad {H : Hp} : ∀ {ys : List V} {es : List Cm}, Paired (CmV H) ys es → ∃ bs : List Addr, ys = bs.map V.ref ∧ CmsAt H bs es
  | _, _, .nil => ⟨[], rfl, .nil⟩
  | _, _, .cons ⟨a, e, h⟩ t => by
    obtain ⟨bs, e2, c⟩ := cms_ad t
    exact ⟨a :: bs, by rw [e, e2]; rfl, .cons h c⟩
theorem rows_ixC {H : Hp} {as : List Addr} {rs : List Rw} (h : RowsAt H as rs) : as.length = rs.length ∧ ∀ (j : Nat) (r : Rw), rs[j]? = some r → ∃ a, as[j]? = some a ∧ RwAt H a r := by
  induction h with
  | nil => exact ⟨rfl, fun j r e => by simp at e⟩
  | cons x t ih =>
    refine ⟨congrArg (· + 1) ih.1, fun j r e => ?_⟩
    cases j with
    | zero => obtain rfl := Option.some.inj e; exact ⟨_, rfl, x⟩
    | succ j => exact ih.2 j r e
theorem paired_ix {α β : Type} {R : α → β → Prop} {as : List α} {bs : List β} (h : Paired R as bs) : ∀ {i : Nat} {a : α}, as[i]? = some a → ∃ b, bs[i]? = some b ∧ R a b := by
  induction h with
  | nil => intro i a e; simp at e
  | cons x t ih =>
    intro i a e
    cases i with
    | zero => obtain rfl := Option.some.inj e; exact ⟨_, rfl, x⟩
    | succ i => exact ih e
end Ur
/-! HX: a crosses b twice: the numbers of _law_crossed. -/
namespace Ur
open PySem PySem.Spec PyProof.Rows L2
theorem gauss {k n m : Int} (h : k ∣ n * m) (g : Int.gcd k m = 1) : k ∣ n := by
  have := Int.dvd_mul_gcd_iff_dvd_mul.mpr h
  rw [g] at this
  simpa using this
structure Crs (one two turns more day late : Int) : Prop where
  o0 : 2 ≤ one
  o1 : one ≤ 10 ^ 9 + 7
  t0 : 4 ≤ two
  t1 : two ≤ 10 ^ 6 + 4
  g : Int.gcd one two = 1
  u0 : 2 ≤ turns
  u1 : turns ≤ 6
  m0 : 1 ≤ more
  m1 : more < one
  d0 : 0 ≤ day
  d1 : day ≤ 10 ^ 16
  l0 : day + turns * one ≤ late
  l1 : late ≤ day + turns * one + 9
def aQ (one base late : Int) : Quad := ("a", late, base + one, one)
def bQ (one two turns base day : Int) : Quad := ("b", day, base + turns * (one * two), 0 - two)
def cntC (one turns more : Int) : Int := (turns - 2) * one + more
def haltC (one two turns more base : Int) : Int := base + turns * (one * two) - cntC one turns more * two
def cQ (one two turns more base : Int) : Quad := ("c", 0, haltC one two turns more base, 0 - 10 ^ 17)
def crs3 (one two turns more base day late : Int) : List Quad := [aQ one base late, bQ one two turns base day, cQ one two turns more base]
def crs2 (one two turns base day late : Int) : List Quad := [aQ one base late, bQ one two turns base day]
section
variable {one two turns more base day late : Int}
/-- where a and b meet -/
theorem crs_ab (h : Crs one two turns more day late) {n m : Int} (e : base + one + n * one = base + turns * (one * two) + m * (0 - two)) : ∃ k, 1 + n = two * k ∧ m = turns * one - one * k := by
  have e1 : (1 + n) * one = two * (turns * one - m) := by
    have a1 : (1 + n) * one = one + n * one := by rw [Int.add_mul, Int.one_mul]
    have a2 : two * (turns * one - m) = turns * (one * two) - m * two := by
      rw [Int.mul_sub, Int.mul_comm two m, Int.mul_comm two (turns * one), Int.mul_assoc]
    have a3 : m * (0 - two) = 0 - m * two := by rw [Int.mul_sub, Int.mul_zero]
    omega
  have d1 : two ∣ (1 + n) * one := ⟨_, e1⟩
  have d2 : two ∣ 1 + n := gauss d1 (by rw [Int.gcd_comm]; exact h.g)
  obtain ⟨k, hk⟩ := d2
  refine ⟨k, hk, ?_⟩
  rw [hk, Int.mul_assoc] at e1
  have t0 := h.t0
  have e2 : k * one = turns * one - m := Int.eq_of_mul_eq_mul_left (by omega) e1
  rw [Int.mul_comm one k]
  omega
/-- what is left of b's way behind its stop -/
theorem crs_left : turns * (one * two) - cntC one turns more * two = two * (2 * one - more) := by
  unfold cntC
  rw [Int.add_mul, Int.sub_mul, Int.sub_mul, Int.mul_sub, Int.mul_assoc turns one two, Int.mul_comm two more, ← Int.mul_assoc two 2 one, Int.mul_comm two 2, Int.mul_assoc 2 two one, Int.mul_comm two one, Int.mul_assoc 2 one two]
  omega
theorem crs_small (h : Crs one two turns more day late) : 0 ≤ two * (2 * one - more) ∧ two * (2 * one - more) < 10 ^ 17 := by
  have := h.o0
  have := h.o1
  have := h.t0
  have := h.t1
  have := h.m0
  have := h.m1
  have mb := mul_bd (a := two) (b := 2 * one - more) (A := 10 ^ 6 + 4) (B := 2 * 10 ^ 9 + 14) (by omega) (by omega) (by omega) (by omega) (by decide)
  have p := Int.mul_nonneg (show 0 ≤ two by omega) (show 0 ≤ 2 * one - more by omega)
  omega
/-- a never comes to a post of c -/
theorem crs_ac (h : Crs one two turns more day late) {n m : Int} (n0 : 0 ≤ n) (m0 : 0 ≤ m) (e : base + one + n * one = haltC one two turns more base + m * (0 - 10 ^ 17)) : False := by
  have sm := crs_small h
  have lf := crs_left (one := one) (two := two) (turns := turns) (more := more)
  unfold haltC at e
  have a1 : (1 + n) * one = one + n * one := by rw [Int.add_mul, Int.one_mul]
  have o0 := h.o0
  have p := Int.mul_nonneg n0 (show 0 ≤ one by omega)
  have m00 : m = 0 := by omega
  subst m00
  have e1 : (1 + n) * one = two * (2 * one - more) := by omega
  have d1 : one ∣ two * (2 * one - more) := ⟨1 + n, by rw [← e1, Int.mul_comm]⟩
  have d2 : one ∣ 2 * one - more := gauss (by rw [Int.mul_comm]; exact d1) h.g
  have d3 : one ∣ more := by
    have := Int.dvd_sub (Int.dvd_mul_left 2 one) d2
    rwa [show 2 * one - (2 * one - more) = more by omega] at this
  have := Int.le_of_dvd (by have := h.m0; omega) d3
  have := h.m1
  omega
/-- where b comes to a post of c -/
theorem crs_bc (h : Crs one two turns more day late) {n m : Int} (m0 : 0 ≤ m) (e : base + turns * (one * two) + n * (0 - two) = haltC one two turns more base + m * (0 - 10 ^ 17)) : cntC one turns more ≤ n := by
  unfold haltC at e
  have a3 : n * (0 - two) = 0 - n * two := by rw [Int.mul_sub, Int.mul_zero]
  have t0 := h.t0
  have le : cntC one turns more * two ≤ n * two := by omega
  exact Int.le_of_mul_le_mul_right le (by omega)
theorem crs_cnt (h : Crs one two turns more day late) : 1 ≤ cntC one turns more ∧ cntC one turns more < turns * one ∧ cntC one turns more = turns * one - 2 * one + more := by
  have := h.o0
  have := h.m0
  have := h.m1
  have p := Int.mul_nonneg (show 0 ≤ turns - 2 by have := h.u0; omega) (show 0 ≤ one by omega)
  have e : (turns - 2) * one = turns * one - 2 * one := Int.sub_mul ..
  unfold cntC
  omega
def crsC3 (one two turns more : Int) : Nat → Option Int := fun i => if i = 0 then some (2 * two - 1) else if i = 1 then some (cntC one turns more) else none
def crsB3 : Nat → Nat := fun i => if i = 0 then 1 else if i = 1 then 2 else 0
theorem crs_meet2 (h : Crs one two turns more day late) : base + one + (2 * two - 1) * one = base + turns * (one * two) + (turns * one - 2 * one) * (0 - two) := by
  have a1 : (2 * two - 1) * one = 2 * (one * two) - one := by rw [Int.sub_mul, Int.one_mul, Int.mul_assoc, Int.mul_comm two one]
  have a2 : (turns * one - 2 * one) * (0 - two) = 2 * (one * two) - turns * (one * two) := by
    rw [Int.mul_sub, Int.mul_zero, Int.sub_mul, Int.mul_assoc, Int.mul_assoc]
    omega
  omega
theorem crs_meet1 (h : Crs one two turns more day late) : base + one + (two - 1) * one = base + turns * (one * two) + (turns * one - one) * (0 - two) := by
  have a1 : (two - 1) * one = one * two - one := by rw [Int.sub_mul, Int.one_mul, Int.mul_comm two one]
  have a2 : (turns * one - one) * (0 - two) = one * two - turns * (one * two) := by
    rw [Int.mul_sub, Int.mul_zero, Int.sub_mul, Int.mul_assoc]
    omega
  omega
theorem crs_halt : base + turns * (one * two) + cntC one turns more * (0 - two) = haltC one two turns more base + 0 * (0 - 10 ^ 17) := by
  unfold haltC
  rw [Int.mul_sub, Int.mul_zero, Int.zero_mul]
  omega
theorem crs_self3 (h : Crs one two turns more day late) : ∀ i, i < 3 → ∀ n cnt, ¬ PBlk (dQ (crs3 one two turns more base day late)) (fSP (crs3 one two turns more base day late)) i i cnt n := fun i hi n cnt => by
  have o0 := h.o0
  have t0 := h.t0
  have e : i = 0 ∨ i = 1 ∨ i = 2 := by omega
  rcases e with rfl | rfl | rfl
  · exact no_self (x := aQ one base late) rfl (by show one ≠ 0; omega)
  · exact no_self (x := bQ one two turns base day) rfl (by show 0 - two ≠ 0; omega)
  · exact no_self (x := cQ one two turns more base) rfl (by show (0 : Int) - 10 ^ 17 ≠ 0; decide)
theorem crs_self2 (h : Crs one two turns more day late) : ∀ i, i < 2 → ∀ n cnt, ¬ PBlk (dQ (crs2 one two turns base day late)) (fSP (crs2 one two turns base day late)) i i cnt n := fun i hi n cnt => by
  have o0 := h.o0
  have t0 := h.t0
  have e : i = 0 ∨ i = 1 := by omega
  rcases e with rfl | rfl
  · exact no_self (x := aQ one base late) rfl (by show one ≠ 0; omega)
  · exact no_self (x := bQ one two turns base day) rfl (by show 0 - two ≠ 0; omega)
theorem crs_h3 (h : Crs one two turns more day late) : HistC 3 (dQ (crs3 one two turns more base day late)) (fSP (crs3 one two turns more base day late)) (crsC3 one two turns more) crsB3 := by
  have o0 := h.o0
  have t0 := h.t0
  have u0 := h.u0
  have m0 := h.m0
  have m1 := h.m1
  have l0 := h.l0
  have d0 := h.d0
  have self := crs_self3 (base := base) h
  obtain ⟨c0, c1, c2⟩ := crs_cnt h
  have tp := Int.mul_nonneg (show 0 ≤ turns - 2 by omega) (show 0 ≤ one by omega)
  rw [Int.sub_mul] at tp
  have s01 : ∀ n m, fSP (crs3 one two turns more base day late) 0 n 1 m ↔ base + one + n * one = base + turns * (one * two) + m * (0 - two) := fun n m => Iff.rfl
  have s02 : ∀ n m, fSP (crs3 one two turns more base day late) 0 n 2 m ↔ base + one + n * one = haltC one two turns more base + m * (0 - 10 ^ 17) := fun n m => Iff.rfl
  have s10 : ∀ n m, fSP (crs3 one two turns more base day late) 1 n 0 m ↔ base + turns * (one * two) + n * (0 - two) = base + one + m * one := fun n m => Iff.rfl
  have s12 : ∀ n m, fSP (crs3 one two turns more base day late) 1 n 2 m ↔ base + turns * (one * two) + n * (0 - two) = haltC one two turns more base + m * (0 - 10 ^ 17) := fun n m => Iff.rfl
  have s20 : ∀ n m, fSP (crs3 one two turns more base day late) 2 n 0 m ↔ haltC one two turns more base + n * (0 - 10 ^ 17) = base + one + m * one := fun n m => Iff.rfl
  have s21 : ∀ n m, fSP (crs3 one two turns more base day late) 2 n 1 m ↔ haltC one two turns more base + n * (0 - 10 ^ 17) = base + turns * (one * two) + m * (0 - two) := fun n m => Iff.rfl
  have dd0 : dQ (crs3 one two turns more base day late) 0 = late := rfl
  have dd1 : dQ (crs3 one two turns more base day late) 1 = day := rfl
  have dd2 : dQ (crs3 one two turns more base day late) 2 = 0 := rfl
  have k0 : crsC3 one two turns more 0 = some (2 * two - 1) := rfl
  have k1 : crsC3 one two turns more 1 = some (cntC one turns more) := rfl
  have k2 : crsC3 one two turns more 2 = none := rfl
  have three : ∀ i, i < 3 → i = 0 ∨ i = 1 ∨ i = 2 := fun i hi => by omega
  refine ⟨fun i hi => ?_, fun i c hi e => ?_, fun i c hi e => ?_⟩
  · rcases three i hi with rfl | rfl | rfl
    · rw [k0]
      refine ⟨by omega, ⟨1, by decide, turns * one - 2 * one, by omega, (s01 _ _).mpr (crs_meet2 h), fun c z => by rw [k1] at z; obtain rfl := Option.some.inj z; omega, .inl (by rw [dd0, dd1]; omega)⟩, fun n h0 h1 b => ?_⟩
      obtain ⟨j, hj, pb⟩ := b
      rcases three j hj with rfl | rfl | rfl
      · exact self 0 (by decide) _ _ pb
      · obtain ⟨m, mm, sp, lt, _⟩ := pb
        obtain ⟨k, e1, e2⟩ := crs_ab h ((s01 n m).mp sp)
        have lt := lt _ k1
        have kk : one * 1 < one * k := by omega
        have k2 : 1 < k := Int.lt_of_mul_lt_mul_left kk (by omega)
        have := Int.mul_le_mul_of_nonneg_left (show 2 ≤ k by omega) (show 0 ≤ two by omega)
        omega
      · obtain ⟨m, mm, sp, _, _⟩ := pb
        exact crs_ac h h0 mm ((s02 n m).mp sp)
    · rw [k1]
      refine ⟨by omega, ⟨2, by decide, 0, by decide, (s12 _ _).mpr crs_halt, (fun c z => by rw [k2] at z; cases z), .inl (by rw [dd1, dd2]; omega)⟩, fun n h0 h1 b => ?_⟩
      obtain ⟨j, hj, pb⟩ := b
      rcases three j hj with rfl | rfl | rfl
      · obtain ⟨m, mm, sp, lt, o⟩ := pb
        rw [dd0, dd1] at o
        omega
      · exact self 1 (by decide) _ _ pb
      · obtain ⟨m, mm, sp, _, _⟩ := pb
        have := crs_bc h mm ((s12 n m).mp sp)
        omega
    · rw [k2]
      rintro n h0 ⟨j, hj, pb⟩
      rcases three j hj with rfl | rfl | rfl
      · obtain ⟨m, mm, sp, _, _⟩ := pb
        exact crs_ac h mm h0 ((s20 n m).mp sp).symm
      · obtain ⟨m, mm, sp, lt, _⟩ := pb
        have lt := lt _ k1
        have := crs_bc h h0 ((s21 n m).mp sp).symm
        omega
      · exact self 2 (by decide) _ _ pb
  · rcases three i hi with rfl | rfl | rfl
    · rw [k0] at e
      obtain rfl := Option.some.inj e
      exact ⟨by decide, turns * one - 2 * one, by omega, (s01 _ _).mpr (crs_meet2 h), fun c z => by rw [show crsB3 0 = 1 from rfl, k1] at z; obtain rfl := Option.some.inj z; omega⟩
    · rw [k1] at e
      obtain rfl := Option.some.inj e
      exact ⟨by decide, 0, by decide, (s12 _ _).mpr crs_halt, fun c z => by rw [show crsB3 1 = 2 from rfl, k2] at z; cases z⟩
    · rw [k2] at e
      cases e
  · have o1 := h.o1
    have t1 := h.t1
    have u1 := h.u1
    have mb := mul_bd (a := turns) (b := one) (A := 6) (B := 10 ^ 10) (by omega) (by omega) (by omega) (by omega) (by decide)
    rcases three i hi with rfl | rfl | rfl
    · rw [k0] at e
      obtain rfl := Option.some.inj e
      omega
    · rw [k1] at e
      obtain rfl := Option.some.inj e
      omega
    · rw [k2] at e
      cases e
def crsC2 (two : Int) : Nat → Option Int := fun i => if i = 0 then some (two - 1) else none
theorem crs_h2 (h : Crs one two turns more day late) : HistC 2 (dQ (crs2 one two turns base day late)) (fSP (crs2 one two turns base day late)) (crsC2 two) (fun _ => 1) := by
  have o0 := h.o0
  have t0 := h.t0
  have u0 := h.u0
  have l0 := h.l0
  have d0 := h.d0
  have self := crs_self2 (base := base) h
  have tp := Int.mul_nonneg (show 0 ≤ turns - 1 by omega) (show 0 ≤ one by omega)
  rw [Int.sub_mul, Int.one_mul] at tp
  have s01 : ∀ n m, fSP (crs2 one two turns base day late) 0 n 1 m ↔ base + one + n * one = base + turns * (one * two) + m * (0 - two) := fun n m => Iff.rfl
  have s10 : ∀ n m, fSP (crs2 one two turns base day late) 1 n 0 m ↔ base + turns * (one * two) + n * (0 - two) = base + one + m * one := fun n m => Iff.rfl
  have dd0 : dQ (crs2 one two turns base day late) 0 = late := rfl
  have dd1 : dQ (crs2 one two turns base day late) 1 = day := rfl
  have k0 : crsC2 two 0 = some (two - 1) := rfl
  have k1 : crsC2 two 1 = none := rfl
  have pos : ∀ {n k : Int}, 0 ≤ n → 1 + n = two * k → 1 ≤ k := fun {n k} n0 e => by
    have a : two * 0 < two * k := by omega
    have := Int.lt_of_mul_lt_mul_left a (by omega)
    omega
  have duo : ∀ i, i < 2 → i = 0 ∨ i = 1 := fun i hi => by omega
  refine ⟨fun i hi => ?_, fun i c hi e => ?_, fun i c hi e => ?_⟩
  · rcases duo i hi with rfl | rfl
    · rw [k0]
      refine ⟨by omega, ⟨1, by decide, turns * one - one, by omega, (s01 _ _).mpr (crs_meet1 h), (fun c z => by rw [k1] at z; cases z), .inl (by rw [dd0, dd1]; omega)⟩, fun n h0 h1 b => ?_⟩
      obtain ⟨j, hj, pb⟩ := b
      rcases duo j hj with rfl | rfl
      · exact self 0 (by decide) _ _ pb
      · obtain ⟨m, mm, sp, lt, _⟩ := pb
        obtain ⟨k, e1, e2⟩ := crs_ab h ((s01 n m).mp sp)
        have := Int.mul_le_mul_of_nonneg_left (pos h0 e1) (show 0 ≤ two by omega)
        omega
    · rw [k1]
      rintro n h0 ⟨j, hj, pb⟩
      rcases duo j hj with rfl | rfl
      · obtain ⟨m, mm, sp, lt, o⟩ := pb
        rw [dd0, dd1] at o
        obtain ⟨k, e1, e2⟩ := crs_ab h ((s10 n m).mp sp).symm
        have := Int.mul_le_mul_of_nonneg_left (pos mm e1) (show 0 ≤ one by omega)
        omega
      · exact self 1 (by decide) _ _ pb
  · rcases duo i hi with rfl | rfl
    · rw [k0] at e
      obtain rfl := Option.some.inj e
      exact ⟨by decide, turns * one - one, by omega, (s01 _ _).mpr (crs_meet1 h), fun c z => by rw [k1] at z; cases z⟩
    · rw [k1] at e
      cases e
  · have t1 := h.t1
    rcases duo i hi with rfl | rfl
    · rw [k0] at e
      obtain rfl := Option.some.inj e
      omega
    · rw [k1] at e
      cases e
end
end Ur
/-! HY: _law_crossed; a history's row by its name. -/
namespace Ur
open PySem PySem.Spec PyProof.Rows L2
abbrev s_check_name : Stmt := (topS 25)
abbrev N_sc_check_name : List Str := ["fence", "value"]
abbrev P_check_name : List Str := ["fence", "value"]
theorem sc_check_name : FnScope N_sc_check_name P_check_name (defScope s_check_name) := ⟨rfl, rfl, rfl, by decide +kernel, rfl, by decide +kernel, by decide +kernel⟩
def spName (C CF : Addr) : Sp := fun vs H Q _ => ∃ (f : Addr) (L : List Pt) (x : Pt), vs = [.ref f, .str x.nm] ∧ FcAt C CF H f L ∧ x ∈ L ∧ ∀ H', Same H H' → Q .non H'
section
variable {P : Program} {w : World} {K : PySem.W.Frag} {mg : Str → Option Value} {base : Heap} {C CF CH : Addr}
theorem ok_check_name (D : Dfn K mg "check_name" s_check_name P_check_name) (hIn : OwnR P w K mg base CF "__contains__" 1 P_Fence_contains (spIn (InF K C CF))) : Cal P w K mg base 3 "check_name" P_check_name (spName C CF) := by
  refine D.cal sc_check_name (fun vs H Q E h => ?_) fun f cdv A outer s H vs Q E hr h => ?_
  · obtain ⟨f, L, x, rfl, _⟩ := h
    rfl
  obtain ⟨f, L, x, rfl, hf, hx, q⟩ := h
  obtain ⟨dx, t, dd, h1, h2, h3⟩ := hf.ex
  refine ⟨_, (pss_one (ps_if (pt_cmpR (op_notInO hIn (hr.mono (by decide))) (pv 1) (pv 0) (by rfl)) (pss_one ps_never) pss_nil)), ?_⟩
  refine ⟨_, rfl, _, rfl, f, dx, _, true, rfl, h1, ⟨L, _, hf, kin_str K H x.nm, ?_⟩, fun H' e => ⟨false, rfl, iteF ?_⟩⟩
  · exact (decide_eq_true (List.mem_map_of_mem hx)).symm
  exact q H' fun b o z => e b o z
end
abbrev s_History_getitem : Stmt := (inClass (topS 37) 7)
abbrev N_sc_History_getitem : List Str := ["self", "at"]
abbrev P_History_getitem : List Str := ["self", "at"]
theorem sc_History_getitem : FnScope N_sc_History_getitem P_History_getitem (defScope s_History_getitem) := ⟨rfl, rfl, rfl, by decide +kernel, rfl, by decide +kernel, by decide +kernel⟩
def spHGet (C CF CH : Addr) : Sp := fun vs H Q _ => ∃ (h : Addr) (L : List Pt) (rs : List Rw) (j : Nat) (r : Rw), vs = [.ref h, .str r.nm] ∧ HsAt C CF CH H h L rs ∧ rs.map Rw.nm = L.map Pt.nm ∧ (L.map Pt.nm).Nodup ∧ rs[j]? = some r ∧ ∀ a H', RwAt H' a r → Same H H' → Q (.ref a) H'
theorem bkv_at {as : List Addr} : ∀ {rs : List Rw} {j : Nat} {r : Rw} {a : Addr}, as.length = rs.length → (rs.map Rw.nm).Nodup → rs[j]? = some r → as[j]? = some a → valV (bkv as rs) (Sum.inr r.nm : Key) = some (.ref a) := by
  induction as with
  | nil => intro rs j r a _ _ _ e; simp at e
  | cons b as ih =>
    intro rs j r a hl nd e1 e2
    cases rs with
    | nil => simp at e1
    | cons s rs =>
      have nd2 := List.nodup_cons.mp nd
      cases j with
      | zero =>
        obtain rfl := Option.some.inj e1
        obtain rfl := Option.some.inj e2
        exact valV_pos (p := ((Sum.inr s.nm : Key), V.ref b)) rfl
      | succ j =>
        have e1 : rs[j]? = some r := e1
        have e2 : as[j]? = some a := e2
        have ne : s.nm ≠ r.nm := fun z => nd2.1 (by rw [z]; exact List.mem_map_of_mem (List.mem_of_getElem? e1))
        show valV ((Sum.inr s.nm, V.ref b) :: bkv as rs) _ = _
        rw [valV_neg (p := ((Sum.inr s.nm : Key), V.ref b)) (fun z => ne (Sum.inr.inj z))]
        exact ih (Nat.succ.inj hl) nd2.2 e1 e2
theorem rows_ix {H : Hp} {as : List Addr} {rs : List Rw} (h : RowsAt H as rs) : as.length = rs.length ∧ ∀ (j : Nat) (r : Rw), rs[j]? = some r → ∃ a, as[j]? = some a ∧ RwAt H a r := by
  induction h with
  | nil => exact ⟨rfl, fun j r e => by simp at e⟩
  | cons x t ih =>
    refine ⟨congrArg (· + 1) ih.1, fun j r e => ?_⟩
    cases j with
    | zero => obtain rfl := Option.some.inj e; exact ⟨_, rfl, x⟩
    | succ j => exact ih.2 j r e
section
variable {P : Program} {w : World} {K : PySem.W.Frag} {mg : Str → Option Value} {base : Heap} {C CF CH : Addr} {f : Addr} {fd : FuncData}
theorem ok_hget (F : Fun K "__getitem__" "History.__getitem__" s_History_getitem f fd) (UH : HTxt K mg CH) (CN : Cal P w K mg base 3 "check_name" P_check_name (spName C CF)) : FnOk P w K mg base CX0 5 f fd P_History_getitem (spHGet C CF CH) := by
  refine F.ok sc_History_getitem (fun vs H Q E h => ?_) (fun cdv A outer s H vs Q E hr h => ?_)
  · obtain ⟨h, L, rs, j, r, rfl, _⟩ := h
    rfl
  obtain ⟨h, L, rs, j, r, rfl, hh, en, nd, er, q⟩ := h
  have hu := hu_of hr
  obtain ⟨dx, fc, Ta, b, so, as, ps, h1, hf, hTa, rows, hb, _⟩ := hh.ex
  obtain ⟨x, hx, ex⟩ : ∃ x, x ∈ L ∧ x.nm = r.nm := by
    have : r.nm ∈ L.map Pt.nm := by rw [← en]; exact List.mem_map_of_mem (List.mem_of_getElem? er)
    obtain ⟨x, hx, e⟩ := List.mem_map.mp this
    exact ⟨x, hx, e⟩
  obtain ⟨al, ra⟩ := rows_ix rows
  obtain ⟨a, ea, rw_⟩ := ra j r er
  refine ⟨_, (pss_cons (ps_expr (pe_cal CN (hr.mono (by decide)) (pa_cons (pe_fld (pv 0) rfl) (pa_cons (pv 1) pa_nil)))) (pss_one (ps_ret (pe_dget hu (pe_fld (pv 0) rfl) (pv 1) (fun _ _ => rfl))))), ?_⟩
  refine ⟨_, rfl, h, CH, dx, _, _, rfl, h1, UH.cl, UH.nF, rfl, _, rfl, fc, L, x, by rw [ex]; rfl, hf, hx, fun H' s => ?_⟩
  have v := DGet.k (k := (Sum.inr r.nm : Key)) (s _ _ hb)
  rw [bkv_at al (by rw [en]; exact nd) er ea] at v
  exact ⟨_, rfl, h, CH, dx, _, _, rfl, s _ _ h1, UH.cl, UH.nB, rfl, _, rfl, b, _, rfl, v, q a H' (rw_.keep fun b xs e => s _ _ e) s⟩
end
end Ur
/-! KA: count_at, day_at. -/
namespace Ur
open PySem PySem.Spec PyProof.Rows L2
/-- divmod by any divisor but 0: a new tuple -/
theorem call_divmodX {X : Cx} : CallR X (.builtin "divmod") (fun xs H Q => ∃ i j, xs = [.int i, .int j] ∧ CDivX i j ∧ ∀ p, H p = none → Q (.ref p) (upd H p (.tup [.int (i.fdiv j), .int (i.fmod j)]))) := by
  intro pins s σ H xs us Q I r h
  obtain ⟨i, j, rfl, hc, q⟩ := h
  obtain ⟨u, w', rfl, ⟨t, rfl⟩, ⟨t', rfl⟩⟩ := vals2 r
  refine PyProof.Rows.divmod_int hc.1 ?_ (.inl (PyProof.noPylong_of_log2 hc.2))
  have free : H s.heap.objs.size = none := I.hok.fresh (Nat.le_refl _)
  refine ⟨.ref s.heap.objs.size, upd H s.heap.objs.size (.tup [.int (i.fdiv j), .int (i.fmod j)]), I.laid (fun b o e => Heap.get?_push_of_some _ e) (Nat.le_refl _) ⟨(by show 2 ≤ sizeLine; decide), [.int (i.fdiv j) s.toks, .int (i.fmod j) (s.toks + 1)], .cons ⟨_, rfl⟩ (.cons ⟨_, rfl⟩ .nil), ⟨_, Heap.get?_push_size s.heap rfl, rfl, 0, rfl⟩⟩, rfl, q _ free⟩
abbrev s_check_post : Stmt := (topS 21)
abbrev N_sc_check_post : List Str := ["value"]
abbrev P_check_post : List Str := ["value"]
theorem sc_check_post : FnScope N_sc_check_post P_check_post (defScope s_check_post) := ⟨rfl, rfl, rfl, by decide +kernel, rfl, by decide +kernel, by decide +kernel⟩
def spCkPost : Sp := fun vs H Q _ => ∃ c : Int, vs = [.int c] ∧ -(10 ^ 80) ≤ c ∧ c ≤ 10 ^ 80 ∧ Q .non H
section
variable {P : Program} {w : World} {K : PySem.W.Frag} {mg : Str → Option Value} {base : Heap} {C : Addr}
theorem ok_check_post (D : Dfn K mg "check_post" s_check_post P_check_post) {uM : Value} (hM : mg "MAX_ARGUMENT" = some uM) (rM : L2.RelV (.int (10 ^ 80)) uM) (CB : Cal P w K mg base 2 "is_between" P_is_between spBetween) : Cal P w K mg base 3 "check_post" P_check_post spCkPost := by
  refine D.cal sc_check_post (fun vs H Q E h => ?_) fun f cdv A outer s H vs Q E hr h => ?_
  · obtain ⟨c, rfl, _⟩ := h
    rfl
  obtain ⟨c, rfl, c0, c1, q⟩ := h
  refine ⟨_, (pss_one (ps_if (pt_not (pt_val (pe_cal CB (hr.mono (by decide)) (pa_cons (pv 0) (pa_cons (pe_un un_neg (pe_glob (v := .int (10 ^ 80)) rfl hM rM)) (pa_cons (pe_glob (v := .int (10 ^ 80)) rfl hM rM) pa_nil)))))) (pss_one ps_never) pss_nil)), ?_⟩
  exact ⟨_, rfl, _, rfl, c, _, _, rfl, _, rfl, iteNS ⟨c0, c1⟩ q⟩
end
abbrev s_Painter_count_at : Stmt := (inClass (topS 46) 10)
abbrev N_sc_Painter_count_at : List Str := ["self", "post", "count", "rest"]
abbrev P_Painter_count_at : List Str := ["self", "post"]
theorem sc_Painter_count_at : FnScope N_sc_Painter_count_at P_Painter_count_at (defScope s_Painter_count_at) := ⟨rfl, rfl, rfl, by decide +kernel, rfl, by decide +kernel, by decide +kernel⟩
def spCountAt (C : Addr) : Sp := fun vs H Q _ => ∃ (a : Addr) (nm : Str) (d p s c : Int), vs = [.ref a, .int c] ∧ PnAt C H a nm d p s ∧ s ≠ 0 ∧ s.natAbs < 2 ^ 200 ∧ -(10 ^ 80) ≤ c ∧ c ≤ 10 ^ 80 ∧ ∀ r H', StepsTo p s c r → Same H H' → Q (optV r) H'
section
variable {P : Program} {w : World} {K : PySem.W.Frag} {mg : Str → Option Value} {base : Heap} {C : Addr} {f : Addr} {fd : FuncData}
theorem ok_count_at (F : Fun K "count_at" "Painter.count_at" s_Painter_count_at f fd) (B : Blt mg) (T : PTxt K mg C) (CKP : Cal P w K mg base 3 "check_post" P_check_post spCkPost) : FnOk P w K mg base CX0 4 f fd P_Painter_count_at (spCountAt C) := by
  refine F.ok sc_Painter_count_at (fun vs H Q E h => ?_) (fun cdv A outer s H vs Q E hr h => ?_)
  · obtain ⟨a, nm, d, p, st, c, rfl, _⟩ := h
    rfl
  obtain ⟨a, nm, d, p, st, c, rfl, ⟨dx, ha⟩, hs, hs2, c0, c1, k⟩ := h
  have dv : CDivX (c - p) st := ⟨hs, Nat.lt_of_lt_of_le (PySem.Flt.log2_lt_of (by decide) hs2) (by decide)⟩
  have Z := steps_to_spec (p := p) (q := c) hs
  refine ⟨_, (pss_cons (ps_expr (pe_cal CKP (hr.mono (by decide)) (pa_cons (pv 1) pa_nil))) (pss_cons (ps_asg (pe_callB call_divmodX rfl B.divmod_ (by decide +kernel) (pa_cons (pe_op op_sub (pv 1) (pe_fld (pv 0) rfl)) (pa_cons (pe_fld (pv 0) rfl) pa_nil))) (pg_tup rfl (pgs_cons (pg_name (i := 2) sc_Painter_count_at.nd rfl (Or.inl rfl)) (pgs_cons (pg_name (i := 3) sc_Painter_count_at.nd rfl (Or.inl rfl)) pgs_nil)))) (pss_one (ps_ret (pe_ifExp (PW.pt (pw_and (pt_cmpR op_eq (pv 3) pe_int (nomark _)) (pw_and1 (pt_cmpR op_ge (pv 2) pe_int (nomark _))))) (pv 2) pe_non))))), ?_⟩
  refine ⟨_, rfl, c, rfl, c0, c1, ?_⟩
  refine ⟨_, rfl, _, rfl, a, C, dx, _, _, rfl, ha, T.cl, T.nP, pfs_post _ _ _ _, _, _, rfl, rfl, _, rfl, a, C, dx, _, _, rfl, ha, T.cl, T.nS, pfs_stride _ _ _ _, _, _, rfl, dv, fun t ht => ?_⟩
  refine ⟨t, _, rfl, SqT.of upd_same, rfl, _, _, rfl, _, _, rfl, rfl, ?_⟩
  have sm := same_new ht (.tup [.int ((c - p).fdiv st), .int ((c - p).fmod st)])
  refine ⟨_, rfl, rfl, _, rfl, ?_⟩
  by_cases e : (c - p).fmod st = 0
  · refine iteDT (by rw [e]) ?_
    refine ⟨_, rfl, _, _, rfl, rfl, _, rfl, ?_⟩
    by_cases e2 : 0 ≤ (c - p).fdiv st
    · refine iteDT e2 ?_
      rw [if_pos ⟨e, e2⟩] at Z
      exact ⟨_, rfl, k _ _ Z sm⟩
    · refine iteDF e2 ?_
      rw [if_neg fun z => e2 z.2] at Z
      exact k _ _ Z sm
  · refine iteDF (fun z => e (V.int.inj z)) ?_
    rw [if_neg fun z => e z.1] at Z
    exact iteF (k _ _ Z sm)
end
end Ur
/-! MA: who painted a post (painting, History.fence, day_of). -/
namespace Ur
open PySem PySem.Spec PyProof.Rows L2
theorem walk_zipP {K : PySem.W.Frag} {a b : Addr} {xs ys : List V} {n : Nat} (h1 : n = xs.length) (h2 : n = ys.length) : Walk (RZ.ItzT K a b) n (fun H => SqT K H a xs ∧ SqT K H b ys) (YPair (fun i => xs[i]?) (fun i => ys[i]?)) where
  goes := fun i H hi q => by
    obtain ⟨x, ex⟩ : ∃ x, xs[i]? = some x := ⟨_, List.getElem?_eq_getElem (by omega)⟩
    obtain ⟨y, ey⟩ : ∃ y, ys[i]? = some y := ⟨_, List.getElem?_eq_getElem (by omega)⟩
    exact ⟨xs, ys, x, y, q.1, q.2, ex, ey⟩
  stops := fun H q => ⟨xs, ys, q.1, q.2, .inl (Nat.le_of_eq h1.symm)⟩
  yields := fun i H v H' _ q y => by
    obtain ⟨T, x, z, e1, e2, e3, f1, f2⟩ := y
    exact ⟨T, x, z, e1, e2, e3, f1 _ q.1, f2 _ q.2⟩
abbrev s_History_fence : Stmt := (inClass (topS 37) 1)
abbrev N_sc_History_fence : List Str := ["self"]
abbrev P_History_fence : List Str := ["self"]
theorem sc_History_fence : FnScope N_sc_History_fence P_History_fence (defScope s_History_fence) := ⟨rfl, rfl, rfl, by decide +kernel, rfl, by decide +kernel, by decide +kernel⟩
section
variable {P : Program} {w : World} {K : PySem.W.Frag} {mg : Str → Option Value} {base : Heap} {CH f : Addr} {fd : FuncData}
theorem ok_get_fence (F : Fun K "fence" "History.fence" s_History_fence f fd) (U : HTxt K mg CH) : FnOk P w K mg base CX0 1 f fd ["self"] (getSp CH "_fence") := by
  refine F.ok sc_History_fence (fun vs H Q E h => ?_) (fun cdv A outer s H vs Q E hr h => ?_)
  · obtain ⟨_, _, _, _, rfl, _⟩ := h
    rfl
  obtain ⟨a, dx, fs, v, rfl, ha, hv, q⟩ := h
  refine ⟨_, (pss_one (ps_ret (pe_fld (pv 0) rfl))), ?_⟩
  exact ⟨_, rfl, a, CH, dx, fs, v, rfl, ha, U.cl, U.nF, hv, q⟩
end
/-- painter j paints the post q at its step n -/
def PntAt (qs : List Quad) (rs : List Rw) (q : Int) (j : Nat) (n : Int) : Prop := j < qs.length ∧ stpF (pQ qs j) (sQ qs j) q = some n ∧ ∀ c, cntR rs j = some c → n < c
abbrev s_painting : Stmt := (topS 38)
abbrev N_sc_painting : List Str := ["told", "post", "painter", "name", "count", "_", "number"]
abbrev P_painting : List Str := ["told", "post"]
theorem sc_painting : FnScope N_sc_painting P_painting (defScope s_painting) := ⟨rfl, rfl, rfl, by decide +kernel, rfl, by decide +kernel, by decide +kernel⟩
def spPntg (C CF CH : Addr) : Sp := fun vs H Q _ => ∃ (h : Addr) (L : List Pt) (rs : List Rw) (q : Int), vs = [.ref h, .int q] ∧ HsAt C CF CH H h L rs ∧ HistR (partsOf L) (fSP (partsOf L)) rs ∧ -(10 ^ 80) ≤ q ∧ q ≤ 10 ^ 80 ∧
  (∀ H', (∀ j n, ¬ PntAt (partsOf L) rs q j n) → Same H H' → Q .non H') ∧ ∀ j n u H', PntAt (partsOf L) rs q j n → (∀ i, i < j → ∀ m, ¬ PntAt (partsOf L) rs q i m) → H' u = some (.tup [.str (nQ (partsOf L) j), .int (dQ (partsOf L) j + n)]) → Same H H' → Q (.ref u) H'
section
variable {P : Program} {w : World} {K : PySem.W.Frag} {mg : Str → Option Value} {base : Heap} {C CF CH : Addr}
theorem ok_pntg (D : Dfn K mg "painting" s_painting P_painting) (B : Blt mg) (hZip : mg "zip" = none) (T : PTxt K mg C) (U : FTxt K mg CF) (UH : HTxt K mg CH) (hFe : PropS P w K mg base CH "fence" 1 (getSp CH "_fence")) (hRows : PropS P w K mg base CH "rows" 1 (getSp CH "_rows")) (hPs : PropS P w K mg base CF "painters" 1 (getSp CF "_painters"))
    (hDay : PropS P w K mg base C "day" 1 (getSp C "_day")) (hCA : MethS P w K mg base C "count_at" 4 P_Painter_count_at (spCountAt C)) : Cal P w K mg base 5 "painting" P_painting (spPntg C CF CH) := by
  refine D.cal sc_painting (fun vs H Q E h => ?_) fun f cdv A outer s H vs Q E hr h => ?_
  · obtain ⟨h, L, rs, q, rfl, _⟩ := h
    rfl
  obtain ⟨h, L, rs, po, rfl, hs1, hist, q0, q1, kn, ks⟩ := h
  refine ⟨_, (pss_cons (ps_for PassesOwn.never rfl (RZ.pi_zipA rfl hZip (pa_cons (pe_prS (pe_prS (pv 0) UH.cl hFe (hr.mono (by decide))) U.cl hPs (hr.mono (by decide))) (pa_cons (pe_prS (pv 0) UH.cl hRows (hr.mono (by decide))) pa_nil))) (pg_tup rfl (pgs_cons (pg_name (i := 2) sc_painting.nd rfl (Or.inl rfl)) (pgs_cons (pg_tup rfl (pgs_cons (pg_name (i := 3) sc_painting.nd rfl (Or.inl rfl)) (pgs_cons (pg_name (i := 4) sc_painting.nd rfl (Or.inl rfl)) (pgs_cons (pg_name (i := 5) sc_painting.nd rfl (Or.inl rfl)) pgs_nil)))) pgs_nil))) (pss_cons (ps_set (i := 6) sc_painting.nd rfl (Or.inl rfl) (pe_meS (pv 2) T.cl hCA (hr.mono (by decide)) (pa_cons (pv 1) pa_nil))) (pss_one (ps_if (PW.pt (pw_and (pt_cmpR op_notN (pv 6) pe_non (nomark _)) (pw_and1 (PW.pt (pw_or (pt_cmpR op_isN (pv 4) pe_non (nomark _)) (pw_or1 (pt_cmpR op_lt (pv 6) (pv 4) (nomark _)))))))) (pss_one (ps_ret (pe_tup (pa_cons (pv 3) (pa_cons (pe_op op_add (pe_prS (pv 2) T.cl hDay (hr.mono (by decide))) (pv 6)) pa_nil))))) pss_nil)))) (pss_one (ps_ret pe_non))), ?_⟩
  obtain ⟨dx, fc, Ta, bb, so, as, ps, hh, hfc, hTa, rows, _⟩ := id hs1.ex
  obtain ⟨dxf, t, d, g1, g2, g3⟩ := id hfc.ex
  have cr := hfc.crew
  have lr : rs.length = L.length := by rw [histR_len hist, parts_len]
  obtain ⟨al, ra⟩ := rows_ix rows
  have la : L.length = (as.map V.ref).length := by rw [List.length_map]; omega
  have lt : L.length = (refsOf L).length := by simp [refsOf]
  refine ⟨_, rfl, h, dx, _, rfl, hh, h, dx, _, _, rfl, hh, rfl, fc, dxf, _, rfl, g1, fc, dxf, _, _, rfl, g1, ffs_p _ _, _, rfl, h, dx, _, rfl, hh, h, dx, _, _, rfl, hh, rfl, t, Ta, _, _, rfl, .inr ⟨SqT.of g2, SqT.of hTa, ?_⟩⟩
  refine for_it (walk_zipP lt la) (fun i σ H3 => ∃ (o2 o3 o4 o5 o6 : Option V), σ = [some (.ref h), some (.int po), o2, o3, o4, o5, o6] ∧ (∀ j, j < i → ∀ n, ¬ PntAt (partsOf L) rs po j n) ∧ Same H H3)
    ⟨_, _, _, _, _, rfl, fun j hj => absurd hj (Nat.not_lt_zero j), Same.refl H⟩ (fun i σ H3 _ z => by obtain ⟨_, _, _, _, _, _, _, sm⟩ := z; exact ⟨SqT.of (sm _ _ g2), SqT.of (sm _ _ hTa)⟩) ?_ ?_
  · rintro i v σ H3 H4 hi ⟨o2, o3, o4, o5, o6, rfl, no, s3⟩ ⟨T0, y1, y2, rfl, hT, rfl, e1, e2⟩
    obtain ⟨x, hx, rfl⟩ := refs_at e1
    have hi : i < L.length := hi
    obtain ⟨r0, er⟩ : ∃ r, rs[i]? = some r := ⟨_, List.getElem?_eq_getElem (by omega)⟩
    obtain ⟨a, ea, vr, har, _⟩ := ra i _ er
    have e2 : (as.map V.ref)[i]? = some y2 := e2
    rw [List.getElem?_map, ea] at e2
    obtain rfl := Option.some.inj e2
    have sT := same_new hT (.tup [V.ref x.a, V.ref a])
    have s4 := s3.trans sT
    obtain ⟨⟨dxx, ex⟩, pk⟩ := (cr.at_ x (List.mem_of_getElem? hx)).same s4
    refine ⟨T0, _, rfl, SqT.of upd_same, rfl, _, _, rfl, _, _, rfl, a, _, rfl, SqT.of (s4 _ _ har), rfl, _, _, rfl, _, _, rfl, _, _, rfl, rfl, rfl, ?_⟩
    have b0 := pk.s0
    have b1 := pk.s1
    obtain ⟨qn, qd, qp, qst⟩ := q_at (parts_at hx)
    have ec : cntR rs i = r0.cnt := by unfold cntR; rw [er]
    have en : r0.nm = nQ (partsOf L) i := by
      have e := congrArg (fun z => z[i]?) (histR_nm hist)
      simp only [List.getElem?_map] at e
      rw [er, hx] at e
      exact (Option.some.inj e).trans qn.symm
    refine ⟨_, rfl, x.a, dxx, _, rfl, ex, rfl, _, rfl, x.a, x.nm, x.d, x.p, x.s, po, rfl, ⟨dxx, ex⟩, pk.sn, by omega, q0, q1, fun r H5 st s5 => ?_⟩
    have er2 : r = stpF (pQ (partsOf L) i) (sQ (partsOf L) i) po := by rw [qp, qst]; exact stpF_is pk.sn st
    have s45 := s4.trans s5
    have skip : (∀ n, ¬ PntAt (partsOf L) rs po i n) → ∀ j, j < i + 1 → ∀ n, ¬ PntAt (partsOf L) rs po j n := fun z j hj n => by
      by_cases c : j = i
      · rw [c]
        exact z n
      · exact no j (by omega) n
    refine ⟨_, rfl, rfl, _, rfl, ?_⟩
    cases r with
    | none =>
      refine iteNS rfl (iteF ?_)
      exact ⟨_, _, _, _, _, rfl, skip fun n z => (by have := z.2.1; rw [← er2] at this; cases this), s45⟩
    | some n =>
      refine iteNN (fun z => by cases z) ?_
      have got : (∀ c, r0.cnt = some c → n < c) → PntAt (partsOf L) rs po i n := fun z => ⟨by rw [parts_len]; exact hi, er2.symm, fun c e => z c (by rw [← ec]; exact e)⟩
      have ex5 := s5 _ _ ex
      have fin : PntAt (partsOf L) rs po i n → ∀ u, H5 u = none → Q (.ref u) (upd H5 u (.tup [.str r0.nm, .int (x.d + n)])) := fun z u nu => ks i n u _ z no (by rw [upd_same, en, qd]) (s45.trans (same_new nu _))
      refine ⟨_, rfl, rfl, _, rfl, ?_⟩
      cases c0 : r0.cnt with
      | none =>
        refine iteDT rfl (iteT ?_)
        exact ⟨_, rfl, _, rfl, x.a, dxx, _, rfl, ex5, x.a, dxx, _, _, rfl, ex5, pfs_day _ _ _ _, _, rfl, _, _, rfl, rfl, by show 2 ≤ sizeLine; decide, fun u nu => fin (got fun c e => by rw [c0] at e; cases e) u nu⟩
      | some k =>
        refine iteDF (fun z => by cases z) ⟨_, rfl, _, rfl, _, _, rfl, rfl, _, rfl, ?_⟩
        by_cases c1 : n < k
        · refine iteDT c1 ?_
          exact ⟨_, rfl, _, rfl, x.a, dxx, _, rfl, ex5, x.a, dxx, _, _, rfl, ex5, pfs_day _ _ _ _, _, rfl, _, _, rfl, rfl, by show 2 ≤ sizeLine; decide, fun u nu => fin (got fun c e => by rw [c0] at e; cases e; exact c1) u nu⟩
        · refine iteDF c1 ?_
          exact ⟨_, _, _, _, _, rfl, skip fun m z => (by
            have h1 := z.2.1
            rw [← er2] at h1
            obtain rfl := Option.some.inj h1
            exact c1 (z.2.2 k (by rw [ec]; exact c0))), s45⟩
  · rintro σ H3 ⟨o2, o3, o4, o5, o6, rfl, no, s3⟩
    have no' : ∀ j n, ¬ PntAt (partsOf L) rs po j n := fun j n z => no j (by have := z.1; rw [parts_len] at this; exact this) n z
    exact kn _ no' s3
end
end Ur
/-! PC: the painters of a fence with the numbers of their posts (painted_counts). -/
namespace Ur
open PySem PySem.Spec PyProof.Rows L2
/-- the painters of a fence with the numbers of their posts -/
abbrev PcAt (H : Hp) (bs : List Addr) (es : List (Addr × Option Int)) : Prop := Paired (fun b e => H b = some (.tup [.ref e.1, optV e.2])) bs es
def pcs (L : List Pt) (rs : List Rw) (n : Nat) : List (Addr × Option Int) := (List.range n).filterMap fun i => match L[i]? with | some x => some (x.a, cntR rs i) | none => none
theorem pcs_succ {L : List Pt} {rs : List Rw} {n : Nat} {x : Pt} (h : L[n]? = some x) : pcs L rs (n + 1) = pcs L rs n ++ [(x.a, cntR rs n)] := by
  unfold pcs
  rw [List.range_succ, List.filterMap_append, List.filterMap_cons, h]
  rfl
theorem pcs_get {L : List Pt} {rs : List Rw} : ∀ {n i : Nat}, n ≤ L.length → i < n → ∃ x, L[i]? = some x ∧ (pcs L rs n)[i]? = some (x.a, cntR rs i) ∧ (pcs L rs n).length = n
  | 0, i, _, h => absurd h (Nat.not_lt_zero i)
  | n + 1, i, hn, h => by
    obtain ⟨z, hz⟩ : ∃ z, L[n]? = some z := ⟨_, List.getElem?_eq_getElem (by omega)⟩
    have len : (pcs L rs n).length = n := by
      cases n with
      | zero => rfl
      | succ m => exact (pcs_get (i := 0) (by omega) (by omega)).choose_spec.2.2
    rw [pcs_succ hz]
    by_cases c : i = n
    · subst c
      exact ⟨z, hz, by rw [List.getElem?_append_right (by omega), len, Nat.sub_self]; rfl, by rw [List.length_append, len]; rfl⟩
    · obtain ⟨x, hx, e, _⟩ := pcs_get (L := L) (rs := rs) (n := n) (i := i) (by omega) (by omega)
      exact ⟨x, hx, by rw [List.getElem?_append_left (by omega)]; exact e, by rw [List.length_append, len]; rfl⟩
abbrev s_painted_counts : Stmt := (topS 42)
abbrev N_sc_painted_counts : List Str := ["fence", "rows", "painter", "row"]
abbrev P_painted_counts : List Str := ["fence"]
theorem sc_painted_counts : FnScope N_sc_painted_counts P_painted_counts (defScope s_painted_counts) := ⟨rfl, rfl, rfl, by decide +kernel, rfl, by decide +kernel, by decide +kernel⟩
def spPc (T : List (Addr × Str)) (C CF : Addr) : Sp := fun vs H Q _ => ∃ (f : Addr) (L : List Pt), vs = [.ref f] ∧ FcAt C CF H f L ∧ LamX.Tabs T H ∧
  ∀ (rs : List Rw) (D : Addr) (bs : List Addr) (H' : Hp), HistR (partsOf L) (fSP (partsOf L)) rs → H' D = some (.lst (bs.map V.ref)) → PcAt H' bs (pcs L rs L.length) → (∀ o, H D = some o → ∃ ps, o = .tbl ps) → LamX.ExtN H H' → LamX.Tabs T H' → Q (.ref D) H'
section
variable {P : Program} {w : World} {K : PySem.W.Frag} {mg : Str → Option Value} {base : Heap} {C CF CH : Addr}
theorem ok_pc {Tt : List (Addr × Str)} (D : Dfn K mg "painted_counts" s_painted_counts P_painted_counts) (hZip : mg "zip" = none) (U : FTxt K mg CF) (UH : HTxt K mg CH) (hMkH : MkH P w K mg base Tt C CF CH) (hRows : PropS P w K mg base CH "rows" 1 (getSp CH "_rows")) (hPs : PropS P w K mg base CF "painters" 1 (getSp CF "_painters")) : Cal P w K mg base 16 "painted_counts" P_painted_counts (spPc Tt C CF) := by
  refine D.cal sc_painted_counts (fun vs H Q E h => ?_) fun f cdv A outer s H vs Q E hr h => ?_
  · obtain ⟨f, L, rfl, _⟩ := h
    rfl
  obtain ⟨f, L, rfl, hf, tb, q⟩ := h
  refine ⟨_, (pss_cons (ps_set (i := 1) sc_painted_counts.nd rfl (Or.inl rfl) (pe_prS (pe_mkH hMkH UH (hr.mono (by decide)) (pa_cons (pv 0) pa_nil)) UH.cl hRows (hr.mono (by decide)))) (pss_one (ps_ret (pe_lc (own := [("painter", 2), ("row", 3)]) (g := gTup K 2 (gCons (gName 2) (gCons (gName 3) gNil))) (tt := tYes) rfl sc_painted_counts.nd (RZ.pi_zipA rfl hZip (pa_cons (pe_prS (pv 0) U.cl hPs (hr.mono (by decide))) (pa_cons (pv 1) pa_nil))) (blkOk_by (N := N_sc_painted_counts) (sc := defScope s_painted_counts) (by decide +kernel)) (fun _ _ _ _ _ => pg_tup rfl (pgs_cons (pg_name (i := 2) sc_painted_counts.nd rfl (Or.inl rfl)) (pgs_cons (pg_name (i := 3) sc_painted_counts.nd rfl (Or.inl rfl)) pgs_nil))) (fun _ _ _ _ _ => pts_nil) (fun _ _ _ _ _ => (pe_tup (pa_cons (pv 2) (pa_cons (pe_ix (show IxR _ (rIxT K) from ix_tup) (pv 3) pe_int (fun _ _ => rfl)) pa_nil)))))))), ?_⟩
  refine ⟨_, rfl, fun y dy ny ndy ney => ask_hist ny ndy ney hf tb fun H1 rs hs1 hist eN tb1 => ⟨rfl, ?_⟩⟩
  obtain ⟨dxh, fc, Ta, bb, so, as, ps, hh, hfc, hTa, rows, _⟩ := id hs1.ex
  refine ⟨y, dxh, _, rfl, hh, y, dxh, _, _, rfl, hh, rfl, ?_⟩
  have hf1 := hf.extN eN
  obtain ⟨dxf, t, d, g1, g2, g3⟩ := id hf1.ex
  have few := hf.crew.few
  have lr : rs.length = L.length := by rw [histR_len hist, parts_len]
  obtain ⟨al, ra⟩ := rows_ix rows
  have la : L.length = (as.map V.ref).length := by rw [List.length_map]; omega
  have lt : L.length = (refsOf L).length := by simp [refsOf]
  refine ⟨_, rfl, f, dxf, _, rfl, g1, f, dxf, _, _, rfl, g1, ffs_p _ _, _, rfl, t, Ta, _, _, rfl, .inr ⟨SqT.of g2, SqT.of hTa, fun M nM => ?_⟩⟩
  refine gen_it (walk_zipP lt la) (fun i H' => ∃ bs : List Addr, H' M = some (.lst (bs.map V.ref)) ∧ bs.length = i ∧ PcAt H' bs (pcs L rs i) ∧ Same H1 H') ⟨[], upd_same, rfl, .nil, same_new nM _⟩ (fun i H' _ z => by obtain ⟨_, _, _, _, sm⟩ := z; exact ⟨SqT.of (sm _ _ g2), SqT.of (sm _ _ hTa)⟩) ?_ ?_
  · rintro i v H3 H4 hi ⟨bs, hM, bl, pb, s3⟩ ⟨T0, y1, y2, rfl, hT, rfl, e1, e2⟩
    obtain ⟨x, hx, rfl⟩ := refs_at e1
    have hi : i < L.length := hi
    obtain ⟨r0, er⟩ : ∃ r, rs[i]? = some r := ⟨_, List.getElem?_eq_getElem (by omega)⟩
    obtain ⟨a, ea, vr, har, _⟩ := ra i _ er
    have e2 : (as.map V.ref)[i]? = some y2 := e2
    rw [List.getElem?_map, ea] at e2
    obtain rfl := Option.some.inj e2
    have sT := same_new hT (.tup [V.ref x.a, V.ref a])
    have s4 := s3.trans sT
    have hM4 := sT _ _ hM
    have ec : cntR rs i = r0.cnt := by unfold cntR; rw [er]
    refine ⟨T0, _, rfl, SqT.of upd_same, rfl, _, _, rfl, _, _, rfl, rfl, rfl, _, rfl, _, rfl, a, _, _, optV r0.cnt, rfl, rfl, SqT.of (s4 _ _ har), atI_nat (j := 1) rfl, by show 2 ≤ sizeLine; decide, fun u nu => ?_⟩
    have su := same_new nu (.tup [.ref x.a, optV r0.cnt])
    have hM5 := su _ _ hM4
    refine ⟨_, hM5, by rw [List.length_map, bl]; exact Nat.lt_of_le_of_lt (show i ≤ 40 by omega) (by decide), bs ++ [u], by rw [upd_same, List.map_append]; rfl, by rw [List.length_append, bl]; rfl, ?_, sameAt (s4.trans su) nM⟩
    have kp : ∀ (z : Addr) xs, upd (upd H3 T0 (.tup [V.ref x.a, V.ref a])) u (.tup [.ref x.a, optV r0.cnt]) z = some (.tup xs) → upd (upd (upd H3 T0 (.tup [V.ref x.a, V.ref a])) u (.tup [.ref x.a, optV r0.cnt])) M (.lst (bs.map V.ref ++ [.ref u])) z = some (.tup xs) := fun z xs e => by rw [upd_ne (ne_of e hM5 (by intro z; cases z))]; exact e
    rw [pcs_succ hx, ec]
    exact paired_snoc (Paired.mapP pb fun _ _ z => kp _ _ (su _ _ (sT _ _ z))) (kp _ _ upd_same)
  · rintro H3 ⟨bs, hM, bl, pb, s3⟩
    exact q rs M bs H3 hist hM pb (fun o e => Classical.byContradiction fun z => by have := eN M o e (fun ps hp => z ⟨ps, hp⟩); rw [nM] at this; cases this) (eN.trans (LamX.ExtN.of s3)) (tabs_same s3 tb1)
end
end Ur
/-! HS: what stays of a fence while the pen moves; lists of names as data. -/
namespace Ur
open PySem PySem.Spec PyProof.Rows L2
theorem penK_ne {l : Addr} {b r : Int} {L : List Pt} (h : kvOf L = penK l b r) : False := by
  have e : (penK l b r)[1]? = some ((Sum.inr "begun" : Key), V.int b) := rfl
  rw [← h] at e
  unfold kvOf at e
  rw [List.getElem?_map] at e
  cases z : L[1]? with
  | none => rw [z] at e; cases e
  | some x =>
    rw [z] at e
    have e2 := congrArg (fun o : Option (Key × V) => o.map Prod.snd) e
    have e3 : some (V.ref x.a) = some (V.int b) := e2
    cases Option.some.inj e3
theorem FcAt.keep {C CF p l : Addr} {H H' : Hp} {f : Addr} {L : List Pt} {n : Nat} (h : FcAt C CF H f L) (k : Keep p H H') (P : Pen H p l n) : FcAt C CF H' f L := by
  obtain ⟨dx, t, d, h1, h2, h3⟩ := h.ex
  obtain ⟨cs, b, r, hp, _⟩ := P.ex
  have nd : d ≠ p := by
    rintro rfl
    rw [h3] at hp
    exact penK_ne (HO.dK.inj (Option.some.inj hp))
  exact ⟨⟨dx, t, d, k _ _ h1 (ne_of h1 hp (by intro z; cases z)), k _ _ h2 (ne_of h2 hp (by intro z; cases z)), k _ _ h3 nd⟩, ⟨fun x hx => (let ⟨⟨dx, e⟩, z⟩ := h.crew.at_ x hx; ⟨⟨dx, k _ _ e (ne_of e hp (by intro z; cases z))⟩, z⟩), h.crew.nd, h.crew.few⟩⟩
theorem dp_strs {K : PySem.W.Frag} {H : Hp} : ∀ ss : List Str, DpAll K H (ss.map V.str) (ss.map PyData.str)
  | [] => .nil
  | _ :: ss => .cons (.str _) (dp_strs ss)
theorem names_fit {ss : List Str} (ok : ∀ z ∈ ss, NameOk z) (few : ss.length ≤ 40) : Fit (.list (ss.map PyData.str)) := by
  refine (ShBAll.all (n := 8) (k := 0) fun d hd => ?_).lst.fit ?_ (by decide)
  · obtain ⟨z, hz, rfl⟩ := List.mem_map.mp hd
    exact (ShB.str (name_shortR (ok z hz))).mono (ok z hz).2.1 (Nat.le_refl 0)
  · rw [List.length_map]
    omega
end Ur
/-! MB: a history asked for a post (History.__call__). -/
namespace Ur
open PySem PySem.Spec PyProof.Rows L2
abbrev s_check_day : Stmt := (topS 22)
abbrev N_sc_check_day : List Str := ["value"]
abbrev P_check_day : List Str := ["value"]
theorem sc_check_day : FnScope N_sc_check_day P_check_day (defScope s_check_day) := ⟨rfl, rfl, rfl, by decide +kernel, rfl, by decide +kernel, by decide +kernel⟩
def spCkDay : Sp := fun vs H Q _ => ∃ c : Int, vs = [.int c] ∧ 0 ≤ c ∧ c ≤ 10 ^ 80 ∧ Q .non H
section
variable {P : Program} {w : World} {K : PySem.W.Frag} {mg : Str → Option Value} {base : Heap} {C : Addr}
theorem ok_check_day (D : Dfn K mg "check_day" s_check_day P_check_day) {uM : Value} (hM : mg "MAX_ARGUMENT" = some uM) (rM : L2.RelV (.int (10 ^ 80)) uM) (CB : Cal P w K mg base 2 "is_between" P_is_between spBetween) : Cal P w K mg base 3 "check_day" P_check_day spCkDay := by
  refine D.cal sc_check_day (fun vs H Q E h => ?_) fun f cdv A outer s H vs Q E hr h => ?_
  · obtain ⟨c, rfl, _⟩ := h
    rfl
  obtain ⟨c, rfl, c0, c1, q⟩ := h
  refine ⟨_, (pss_one (ps_if (pt_not (pt_val (pe_cal CB (hr.mono (by decide)) (pa_cons (pv 0) (pa_cons pe_int (pa_cons (pe_glob (v := .int (10 ^ 80)) rfl hM rM) pa_nil)))))) (pss_one ps_never) pss_nil)), ?_⟩
  exact ⟨_, rfl, c, _, _, rfl, _, rfl, iteNS ⟨c0, c1⟩ q⟩
end
abbrev s_check_day_or_none : Stmt := (topS 23)
abbrev N_sc_check_day_or_none : List Str := ["value"]
abbrev P_check_day_or_none : List Str := ["value"]
theorem sc_check_day_or_none : FnScope N_sc_check_day_or_none P_check_day_or_none (defScope s_check_day_or_none) := ⟨rfl, rfl, rfl, by decide +kernel, rfl, by decide +kernel, by decide +kernel⟩
def spCkDayN : Sp := fun vs H Q _ => ∃ c : Option Int, vs = [optV c] ∧ (∀ d, c = some d → 0 ≤ d ∧ d ≤ 10 ^ 80) ∧ Q .non H
section
variable {P : Program} {w : World} {K : PySem.W.Frag} {mg : Str → Option Value} {base : Heap} {C : Addr}
theorem ok_check_dayN (D : Dfn K mg "check_day_or_none" s_check_day_or_none P_check_day_or_none) (CKD : Cal P w K mg base 3 "check_day" P_check_day spCkDay) : Cal P w K mg base 4 "check_day_or_none" P_check_day_or_none spCkDayN := by
  refine D.cal sc_check_day_or_none (fun vs H Q E h => ?_) fun f cdv A outer s H vs Q E hr h => ?_
  · obtain ⟨c, rfl, _⟩ := h
    rfl
  obtain ⟨c, rfl, c0, q⟩ := h
  refine ⟨_, (pss_one (ps_if (pt_cmpR op_notN (pv 0) pe_non (nomark _)) (pss_one (ps_expr (pe_cal CKD (hr.mono (by decide)) (pa_cons (pv 0) pa_nil)))) pss_nil)), ?_⟩
  cases c with
  | none => exact ⟨_, rfl, rfl, _, rfl, iteNS rfl q⟩
  | some d =>
    obtain ⟨d0, d1⟩ := c0 d rfl
    exact ⟨_, rfl, rfl, _, rfl, iteNN (fun z => by cases z) ⟨_, rfl, d, rfl, d0, d1, q⟩⟩
end
/-- the day comes before -/
def lateF : Option Int → Int → Bool
  | none, _ => false
  | some d, x => decide (d < x)
abbrev s_History_call : Stmt := (inClass (topS 37) 9)
abbrev N_sc_History_call : List Str := ["self", "post", "day", "found"]
abbrev P_History_call : List Str := ["self", "post", "day"]
theorem sc_History_call : FnScope N_sc_History_call P_History_call (defScope s_History_call) := ⟨rfl, rfl, rfl, by decide +kernel, rfl, by decide +kernel, by decide +kernel⟩
def spHCall (C CF CH : Addr) : Sp := fun vs H Q _ => ∃ (h : Addr) (L : List Pt) (rs : List Rw) (q : Int) (dy : Option Int), vs = [.ref h, .int q, optV dy] ∧ HsAt C CF CH H h L rs ∧ HistR (partsOf L) (fSP (partsOf L)) rs ∧ -(10 ^ 80) ≤ q ∧ q ≤ 10 ^ 80 ∧ (∀ d, dy = some d → 0 ≤ d ∧ d ≤ 10 ^ 80) ∧
  (∀ H', (∀ j n, ¬ PntAt (partsOf L) rs q j n) → Same H H' → Q .non H') ∧ ∀ j n H', PntAt (partsOf L) rs q j n → (∀ i, i < j → ∀ m, ¬ PntAt (partsOf L) rs q i m) → Same H H' → Q (if lateF dy (dQ (partsOf L) j + n) = true then .non else .str (nQ (partsOf L) j)) H'
def HCallK (K : PySem.W.Frag) (f : Addr) (fd : FuncData) : Prop := FunD K "__call__" "History.__call__" (defArgs s_History_call) (defBody s_History_call) (defScope s_History_call) [.non] [] f fd
section
variable {P : Program} {w : World} {K : PySem.W.Frag} {mg : Str → Option Value} {base : Heap} {C CF CH : Addr} {f : Addr} {fd : FuncData}
theorem ok_hcall (F : HCallK K f fd) (CKP : Cal P w K mg base 3 "check_post" P_check_post spCkPost) (CKN : Cal P w K mg base 4 "check_day_or_none" P_check_day_or_none spCkDayN) (CPt : Cal P w K mg base 5 "painting" P_painting (spPntg C CF CH)) : FnOk P w K mg base CX0 6 f fd P_History_call (spHCall C CF CH) := by
  refine FunD.ok F sc_History_call (fun vs H Q E h => ?_) (fun cdv A outer s H vs Q E hr h => ?_)
  · obtain ⟨h, L, rs, q, dy, rfl, _⟩ := h
    rfl
  obtain ⟨h, L, rs, po, dy, rfl, hs, hist, q0, q1, dd, kn, ks⟩ := h
  refine ⟨_, (pss_cons (ps_expr (pe_cal CKP (hr.mono (by decide)) (pa_cons (pv 1) pa_nil))) (pss_cons (ps_expr (pe_cal CKN (hr.mono (by decide)) (pa_cons (pv 2) pa_nil))) (pss_cons (ps_set (i := 3) sc_History_call.nd rfl (Or.inl rfl) (pe_cal CPt (hr.mono (by decide)) (pa_cons (pv 0) (pa_cons (pv 1) pa_nil)))) (pss_cons (ps_if (PW.pt (pw_or (pt_cmpR op_isN (pv 3) pe_non (nomark _)) (pw_or1 (PW.pt (pw_and (pt_cmpR op_notN (pv 2) pe_non (nomark _)) (pw_and1 (pt_cmpR op_gt (pe_ix (show IxR _ (rIxT K) from ix_tup) (pv 3) pe_int (fun _ _ => rfl)) (pv 2) (nomark _)))))))) (pss_one (ps_ret pe_non)) pss_nil) (pss_one (ps_ret (pe_ix (show IxR _ (rIxT K) from ix_tup) (pv 3) pe_int (fun _ _ => rfl)))))))), ?_⟩
  refine ⟨_, rfl, po, rfl, q0, q1, _, rfl, dy, rfl, dd, ?_⟩
  refine ⟨_, rfl, _, rfl, h, L, rs, po, rfl, hs, hist, q0, q1, fun H2 no s2 => ?_, fun j n u H2 pa fi hu s2 => ?_⟩
  · exact ⟨_, rfl, rfl, _, rfl, iteDT rfl (iteT (kn H2 no s2))⟩
  · have k := ks j n H2 pa fi s2
    refine ⟨_, rfl, rfl, _, rfl, iteDF (fun z => by cases z) ?_⟩
    cases dy with
    | none =>
      rw [if_neg (by intro z; cases z)] at k
      exact ⟨_, rfl, rfl, _, rfl, iteNS rfl (iteF ⟨_, rfl, u, _, _, _, rfl, rfl, SqT.of hu, atI_nat (j := 0) rfl, k⟩)⟩
    | some d =>
      refine ⟨_, rfl, rfl, _, rfl, iteNN (fun z => by cases z) ⟨_, rfl, u, _, _, _, rfl, rfl, SqT.of hu, atI_nat (j := 1) rfl, _, rfl, _, _, rfl, rfl, _, rfl, ?_⟩⟩
      by_cases c : d < dQ (partsOf L) j + n
      · rw [if_pos (show lateF (some d) (dQ (partsOf L) j + n) = true from decide_eq_true c)] at k
        exact iteDT c k
      · rw [if_neg (by rw [show lateF (some d) (dQ (partsOf L) j + n) = false from decide_eq_false c]; intro z; cases z)] at k
        exact iteDF c ⟨_, rfl, u, _, _, _, rfl, rfl, SqT.of hu, atI_nat (j := 0) rfl, k⟩
theorem hcall_binds (F : HCallK K f fd) : Binds K fd P_History_call [] ∧ ∃ ds, Vals [.non] ds ∧ Binds K fd P_History_call ds := by
  refine ⟨?_, ?_⟩
  · obtain ⟨ds, h1, h2⟩ := FunD.binds1 F (ps := P_History_call) 3 1 (by simp) rfl fun T kV doc pm an cdv ct us its h1 h2 => match us, its, h1, h2 with | [_, _, _], [_], _, _ => ⟨_, rfl, rfl⟩
    cases h1
    exact h2
  · exact FunD.binds1 F (ps := P_History_call) 2 0 (by simp) rfl fun T kV doc pm an cdv ct us its h1 h2 => match us, its, h1, h2 with | [_, _], [_], _, _ => ⟨_, rfl, rfl⟩
end
end Ur
/-! MC: painter_of. -/
namespace Ur
open PySem PySem.Spec PyProof.Rows L2
/-- a history may be called, with a day and without -/
def HCall (P : Program) (w : World) (K : PySem.W.Frag) (mg : Str → Option Value) (base : Heap) (C CF CH : Addr) : Prop := ∃ g : Addr, StX.CallO K CH g ∧ FnR P w K mg base CX0 6 g (spHCall C CF CH) ∧ FnR P w K mg base CX0 6 g (fun vs H Q E => spHCall C CF CH (vs ++ [.non]) H Q E)
theorem HCall.of {P : Program} {w : World} {K : PySem.W.Frag} {mg : Str → Option Value} {base : Heap} {C CF CH g : Addr} {fd : FuncData} (F : HCallK K g fd) (c : StX.CallO K CH g) (h : FnOk P w K mg base CX0 6 g fd P_History_call (spHCall C CF CH)) : HCall P w K mg base C CF CH := by
  obtain ⟨b1, ds, hd, b2⟩ := hcall_binds F
  exact ⟨g, c, (h.raw b1 .nil).imp fun vs H Q E z => (by rw [List.append_nil]; exact z), h.raw b2 hd⟩
end Ur
/-! NA: painters moved along, turned and widened: their history. -/
namespace Ur
open PySem PySem.Spec PyProof.Rows L2
def mvQ (f p w : Int) (x : Quad) : Quad := (x.1, x.2.1 + w, f * x.2.2.1 + p, f * x.2.2.2)
theorem mvQ_at {qs : List Quad} {f p w : Int} {i : Nat} (hi : i < qs.length) : nQ (qs.map (mvQ f p w)) i = nQ qs i ∧ dQ (qs.map (mvQ f p w)) i = dQ qs i + w ∧ pQ (qs.map (mvQ f p w)) i = f * pQ qs i + p ∧ sQ (qs.map (mvQ f p w)) i = f * sQ qs i := by
  have e : qs[i]? = some qs[i] := List.getElem?_eq_getElem hi
  have e' : (qs.map (mvQ f p w))[i]? = some (mvQ f p w qs[i]) := by rw [List.getElem?_map, e]; rfl
  obtain ⟨a1, a2, a3, a4⟩ := q_at e
  obtain ⟨b1, b2, b3, b4⟩ := q_at e'
  rw [a1, a2, a3, a4, b1, b2, b3, b4]
  exact ⟨rfl, rfl, rfl, rfl⟩
theorem lin_mv {f b p s q t n m : Int} (hf : f ≠ 0) : f * p + b + n * (f * s) = f * q + b + m * (f * t) ↔ p + n * s = q + m * t := by
  have e1 : f * p + b + n * (f * s) = f * (p + n * s) + b := by rw [Int.mul_add, Int.mul_left_comm n f s]; omega
  have e2 : f * q + b + m * (f * t) = f * (q + m * t) + b := by rw [Int.mul_add, Int.mul_left_comm m f t]; omega
  rw [e1, e2]
  constructor
  · intro h
    exact Int.eq_of_mul_eq_mul_left hf (by omega)
  · intro h
    rw [h]
section
variable {qs : List Quad} {f p w : Int}
theorem fSP_mv (hf : f ≠ 0) {i j : Nat} (hi : i < qs.length) (hj : j < qs.length) {n m : Int} : fSP (qs.map (mvQ f p w)) i n j m ↔ fSP qs i n j m := by
  unfold fSP
  obtain ⟨_, _, a3, a4⟩ := mvQ_at (f := f) (p := p) (w := w) hi
  obtain ⟨_, _, b3, b4⟩ := mvQ_at (f := f) (p := p) (w := w) hj
  rw [a3, a4, b3, b4]
  exact lin_mv hf
theorem histC_mv (hf : f ≠ 0) {Cn : Nat → Option Int} {Bn : Nat → Nat} (h : HistC qs.length (dQ qs) (fSP qs) Cn Bn) : HistC qs.length (dQ (qs.map (mvQ f p w))) (fSP (qs.map (mvQ f p w))) Cn Bn := by
  have dd : ∀ {i : Nat}, i < qs.length → dQ (qs.map (mvQ f p w)) i = dQ qs i + w := fun hi => (mvQ_at hi).2.1
  refine ⟨fun i hi => Least.congr (fun n n0 => ?_) (h.is i hi), fun i c hi e => ?_, h.bd⟩
  · constructor
    · rintro ⟨j, hj, m, m0, sp, lt, o⟩
      exact ⟨j, hj, m, m0, (fSP_mv hf hi hj).mpr sp, lt, by rw [dd hi, dd hj]; omega⟩
    · rintro ⟨j, hj, m, m0, sp, lt, o⟩
      exact ⟨j, hj, m, m0, (fSP_mv hf hi hj).mp sp, lt, by rw [dd hi, dd hj] at o; omega⟩
  · obtain ⟨b0, m, m0, sp, pj⟩ := h.bl i c hi e
    exact ⟨b0, m, m0, (fSP_mv hf hi b0).mpr sp, pj⟩
def sentR (f p w : Int) (r : Rw) : Rw := ⟨r.nm, r.cnt, match r.stop with | none => none | some (d, q, b) => some (d + w, f * q + p, b)⟩
theorem histR_mv (hf : f ≠ 0) {rs : List Rw} (h : HistR qs (fSP qs) rs) : HistR (qs.map (mvQ f p w)) (fSP (qs.map (mvQ f p w))) (rs.map (sentR f p w)) := by
  obtain ⟨Cn, Bn, hc, rfl⟩ := h
  refine ⟨Cn, Bn, by rw [List.length_map]; exact histC_mv hf hc, ?_⟩
  rw [List.length_map, List.map_map]
  refine List.map_congr_left fun i hi => ?_
  have hi := List.mem_range.mp hi
  obtain ⟨a1, a2, a3, a4⟩ := mvQ_at (f := f) (p := p) (w := w) hi
  show sentR f p w (rowQ qs Cn Bn i) = rowQ (qs.map (mvQ f p w)) Cn Bn i
  unfold rowQ sentR
  rw [a1, a2, a3, a4]
  cases e : Cn i with
  | none => rfl
  | some c =>
    obtain ⟨b1, _, _, _⟩ := mvQ_at (f := f) (p := p) (w := w) (hc.bl i c hi e).1
    show (⟨nQ qs i, some c, some (dQ qs i + c + w, f * (pQ qs i + c * sQ qs i) + p, nQ qs (Bn i))⟩ : Rw) = ⟨nQ qs i, some c, some (dQ qs i + w + c, f * pQ qs i + p + c * (f * sQ qs i), nQ (qs.map (mvQ f p w)) (Bn i))⟩
    rw [b1, Int.mul_add, Int.mul_left_comm f c (sQ qs i), show dQ qs i + c + w = dQ qs i + w + c by omega, show f * pQ qs i + c * (f * sQ qs i) + p = f * pQ qs i + p + c * (f * sQ qs i) by omega]
theorem stpF_mv (hf : f ≠ 0) {a s q : Int} (hs : s ≠ 0) : stpF (f * a + p) (f * s) (f * q + p) = stpF a s q := by
  refine (stpF_is (Int.mul_ne_zero hf hs) fun j => ?_).symm
  refine (show stpF a s q = some j ↔ _ from steps_to_spec hs j).trans (and_congr_right fun _ => ?_)
  have e := lin_mv (b := p) (p := q) (s := 0) (q := a) (t := s) (n := 0) (m := j) hf
  rw [Int.zero_mul, Int.zero_mul, Int.add_zero, Int.add_zero] at e
  exact e.symm
theorem cntR_mv {rs : List Rw} {i : Nat} : cntR (rs.map (sentR f p w)) i = cntR rs i := by
  unfold cntR
  rw [List.getElem?_map]
  cases rs[i]? with
  | none => rfl
  | some r => rfl
theorem pnt_mv (hf : f ≠ 0) (ok : ∀ q ∈ qs, QuadOk q) {rs : List Rw} {q : Int} {j : Nat} {n : Int} : PntAt (qs.map (mvQ f p w)) (rs.map (sentR f p w)) (f * q + p) j n ↔ PntAt qs rs q j n := by
  unfold PntAt
  rw [List.length_map, cntR_mv]
  refine and_congr_right fun hj => ?_
  obtain ⟨_, _, a3, a4⟩ := mvQ_at (f := f) (p := p) (w := w) hj
  have e : qs[j]? = some qs[j] := List.getElem?_eq_getElem hj
  rw [a3, a4, stpF_mv hf (by rw [(q_at e).2.2.2]; exact (ok _ (List.getElem_mem hj)).sn)]
theorem mv_mv {f1 p1 w1 f2 p2 w2 : Int} : ((qs.map (mvQ f1 p1 w1)).map (mvQ f2 p2 w2)) = qs.map (mvQ (f2 * f1) (f2 * p1 + p2) (w1 + w2)) := by
  rw [List.map_map]
  refine List.map_congr_left fun x _ => ?_
  show ((x.1, x.2.1 + w1 + w2, f2 * (f1 * x.2.2.1 + p1) + p2, f2 * (f1 * x.2.2.2)) : Quad) = (x.1, x.2.1 + (w1 + w2), f2 * f1 * x.2.2.1 + (f2 * p1 + p2), f2 * f1 * x.2.2.2)
  rw [Int.mul_add, Int.mul_assoc, Int.mul_assoc, show x.2.1 + w1 + w2 = x.2.1 + (w1 + w2) by omega, show f2 * (f1 * x.2.2.1) + f2 * p1 + p2 = f2 * (f1 * x.2.2.1) + (f2 * p1 + p2) by omega]
end
end Ur
/-! SE: the share of the painted posts far away (share). -/
namespace Ur
open PySem PySem.Spec PyProof.Rows L2
def sgL (left : Bool) (x : Int) : Int := if left then -x else x
/-- the share as a fraction that is not in lowest terms -/
def frQ (qs : List Quad) (C : Nat → Option Int) (left : Bool) : Nat → Nat × Nat
  | 0 => (0, 1)
  | i + 1 => if C i = none ∧ 0 < sgL left (sQ qs i) then ((frQ qs C left i).1 * (sgL left (sQ qs i)).toNat + (frQ qs C left i).2, (frQ qs C left i).2 * (sgL left (sQ qs i)).toNat) else frQ qs C left i
theorem frQ_pos {qs : List Quad} {C : Nat → Option Int} {left : Bool} : ∀ n, 0 < (frQ qs C left n).2
  | 0 => Nat.one_pos
  | n + 1 => by
    have ih := frQ_pos (qs := qs) (C := C) (left := left) n
    unfold frQ
    split
    · rename_i h
      exact Nat.mul_pos ih (by have := h.2; omega)
    · exact ih
theorem frQ_congr {qs qs' : List Quad} {C C' : Nat → Option Int} {left left' : Bool} : ∀ n, (∀ i, i < n → (C i = none ↔ C' i = none)) → (∀ i, i < n → sgL left (sQ qs i) = sgL left' (sQ qs' i)) → frQ qs C left n = frQ qs' C' left' n
  | 0, _, _ => rfl
  | n + 1, h, g => by
    have ih := frQ_congr n (fun i hi => h i (by omega)) (fun i hi => g i (by omega))
    have a := h n (Nat.lt_succ_self n)
    have b := g n (Nat.lt_succ_self n)
    unfold frQ
    rw [ih, b]
    by_cases c : C n = none ∧ 0 < sgL left' (sQ qs' n)
    · rw [if_pos c, if_pos ⟨a.mp c.1, c.2⟩]
    · rw [if_neg c, if_neg fun z => c ⟨a.mpr z.1, z.2⟩]
theorem frQ_bd {qs : List Quad} {C : Nat → Option Int} {left : Bool} (ok : ∀ q ∈ qs, QuadOk q) : ∀ n, n ≤ qs.length → (frQ qs C left n).1 ≤ n * 2 ^ (60 * n) ∧ (frQ qs C left n).2 ≤ 2 ^ (60 * n)
  | 0, _ => ⟨Nat.le_refl 0, Nat.le_refl 1⟩
  | n + 1, h => by
    have hn : n < qs.length := h
    obtain ⟨i1, i2⟩ := frQ_bd (C := C) (left := left) ok n (by omega)
    obtain ⟨_, _, _, a4⟩ := q_at (List.getElem?_eq_getElem hn)
    have k := ok _ (List.getElem_mem hn)
    have k1 := k.s0
    have k2 := k.s1
    have sb : (sgL left (sQ qs n)).toNat ≤ 2 ^ 60 := by
      rw [a4]
      unfold sgL
      split <;> omega
    have e : 2 ^ (60 * (n + 1)) = 2 ^ (60 * n) * 2 ^ 60 := by rw [Nat.mul_add, Nat.mul_one, Nat.pow_add]
    have p1 : 1 ≤ 2 ^ (60 * n) := Nat.one_le_two_pow
    have step1 : 2 ^ (60 * n) ≤ 2 ^ (60 * n) * 2 ^ 60 := Nat.le_mul_of_pos_right _ (by decide)
    unfold frQ
    rw [e]
    split
    · refine ⟨?_, Nat.mul_le_mul i2 sb⟩
      have a := Nat.mul_le_mul i1 sb
      have b : (n + 1) * (2 ^ (60 * n) * 2 ^ 60) = n * 2 ^ (60 * n) * 2 ^ 60 + 2 ^ (60 * n) * 2 ^ 60 := by rw [Nat.add_mul, Nat.one_mul, Nat.mul_assoc]
      rw [b]
      exact Nat.add_le_add a (Nat.le_trans i2 step1)
    · refine ⟨Nat.le_trans i1 ?_, Nat.le_trans i2 step1⟩
      exact Nat.mul_le_mul (by omega) step1
theorem frQ_log {qs : List Quad} {C : Nat → Option Int} {left : Bool} (ok : ∀ q ∈ qs, QuadOk q) (few : qs.length ≤ 40) {n : Nat} (hn : n ≤ qs.length) : (frQ qs C left n).1 < 2 ^ 2500 ∧ (frQ qs C left n).2 < 2 ^ 2500 := by
  obtain ⟨a, b⟩ := frQ_bd (C := C) (left := left) ok n hn
  have p : 2 ^ (60 * n) ≤ 2 ^ 2400 := Nat.pow_le_pow_right (by decide) (by omega)
  have q : n * 2 ^ (60 * n) ≤ 40 * 2 ^ 2400 := Nat.mul_le_mul (by omega) p
  have r : 40 * 2 ^ 2400 < 2 ^ 2500 := by decide +kernel
  have r2 : 2 ^ 2400 < 2 ^ 2500 := by decide +kernel
  exact ⟨Nat.lt_of_le_of_lt (Nat.le_trans a q) r, Nat.lt_of_le_of_lt (Nat.le_trans b p) r2⟩
/-- a fraction in lowest terms of another one -/
structure Red (o u N D : Nat) : Prop where
  up : 0 < u
  cp : Nat.Coprime o u
  eq : o * D = N * u
theorem red_uniq {o u N D : Nat} (h : Red o u N D) (hD : 0 < D) : o = N / Nat.gcd N D ∧ u = D / Nat.gcd N D := by
  have d1 : u ∣ o * D := ⟨N, by rw [h.eq, Nat.mul_comm]⟩
  obtain ⟨k, rfl⟩ := h.cp.symm.dvd_of_dvd_mul_left d1
  have e : N = o * k := by
    have e := h.eq
    rw [← Nat.mul_assoc, Nat.mul_comm o u, Nat.mul_assoc, Nat.mul_comm N u] at e
    exact (Nat.eq_of_mul_eq_mul_left h.up e).symm
  subst e
  have kp : 0 < k := by
    rcases Nat.eq_zero_or_pos k with z | z
    · rw [z, Nat.mul_zero] at hD
      omega
    · exact z
  have g : Nat.gcd (o * k) (u * k) = k := by
    rw [Nat.gcd_mul_right]
    have : Nat.gcd o u = 1 := h.cp
    rw [this, Nat.one_mul]
  rw [g, Nat.mul_div_cancel _ kp, Nat.mul_div_cancel _ kp]
  exact ⟨rfl, rfl⟩
theorem red_le {o u N D : Nat} (h : Red o u N D) (hD : 0 < D) : o ≤ N ∧ u ≤ D := by
  obtain ⟨e1, e2⟩ := red_uniq h hD
  rw [e1, e2]
  exact ⟨Nat.div_le_self _ _, Nat.div_le_self _ _⟩
theorem red_step {o u N D s : Nat} (h : Red o u N D) (hs : 0 < s) : Red ((o * s + u) / Nat.gcd (o * s + u) (u * s)) (u * s / Nat.gcd (o * s + u) (u * s)) (N * s + D) (D * s) := by
  have up : 0 < u * s := Nat.mul_pos h.up hs
  have g0 : 0 < Nat.gcd (o * s + u) (u * s) := Nat.gcd_pos_of_pos_right _ up
  have e1 := Nat.div_mul_cancel (Nat.gcd_dvd_left (o * s + u) (u * s))
  have e2 := Nat.div_mul_cancel (Nat.gcd_dvd_right (o * s + u) (u * s))
  refine ⟨Nat.div_pos (Nat.le_of_dvd up (Nat.gcd_dvd_right _ _)) g0, Nat.coprime_div_gcd_div_gcd g0, ?_⟩
  have big : (o * s + u) * (D * s) = (N * s + D) * (u * s) := by
    have e := h.eq
    have l1 : (o * s + u) * (D * s) = s * s * (o * D) + u * D * s := by
      rw [Nat.add_mul]
      congr 1
      · ac_rfl
      · ac_rfl
    have l2 : (N * s + D) * (u * s) = s * s * (N * u) + u * D * s := by
      rw [Nat.add_mul]
      congr 1
      · ac_rfl
      · ac_rfl
    rw [l1, l2, e]
  generalize Nat.gcd (o * s + u) (u * s) = g at *
  generalize (o * s + u) / g = a at *
  generalize u * s / g = b at *
  rw [← e1, ← e2] at big
  refine Nat.eq_of_mul_eq_mul_left g0 ?_
  have l3 : g * (a * (D * s)) = a * g * (D * s) := by ac_rfl
  have l4 : g * ((N * s + D) * b) = (N * s + D) * (b * g) := by ac_rfl
  rw [l3, l4, big]
abbrev s_share : Stmt := (topS 44)
abbrev N_sc_share : List Str := ["fence", "left", "side", "over", "under", "painter", "count", "step", "divisor"]
abbrev P_share : List Str := ["fence", "left"]
theorem sc_share : FnScope N_sc_share P_share (defScope s_share) := ⟨rfl, rfl, rfl, by decide +kernel, rfl, by decide +kernel, by decide +kernel⟩
def spShare (T : List (Addr × Str)) (C CF : Addr) : Sp := fun vs H Q _ => ∃ (g : Addr) (L : List Pt) (left : Bool), vs = [.ref g, .bl left] ∧ FcAt C CF H g L ∧ LamX.Tabs T H ∧
  ∀ rs (o u : Nat) z H', HistR (partsOf L) (fSP (partsOf L)) rs → Red o u (frQ (partsOf L) (cntR rs) left L.length).1 (frQ (partsOf L) (cntR rs) left L.length).2 → H' z = some (.tup [.int (o : Int), .int (u : Int)]) → LamX.ExtN H H' → LamX.Tabs T H' → Q (.ref z) H'
def ShaK (K : PySem.W.Frag) (f : Addr) (fd : FuncData) : Prop := FunD K "share" "share" (defArgs s_share) (defBody s_share) (defScope s_share) [] [("left", .bl false)] f fd
section
variable {P : Program} {w : World} {K : PySem.W.Frag} {mg : Str → Option Value} {base : Heap} {C CF CH : Addr}
set_option maxHeartbeats 16000000 in
theorem ok_share {Tt : List (Addr × Str)} {f : Addr} {fd : FuncData} (F : ShaK K f fd) (hGcd : mg "gcd" = some (.builtin "math.gcd")) (T : PTxt K mg C) (hStride : PropS P w K mg base C "stride" 1 (getSp C "_stride")) (CPc : Cal P w K mg base 16 "painted_counts" P_painted_counts (spPc Tt C CF)) : FnOk P w K mg base CX0 17 f fd P_share (spShare Tt C CF) := by
  refine FunD.ok F sc_share (fun vs H Q E h => ?_) (fun cdv A outer s H vs Q E hr h => ?_)
  · obtain ⟨g, L, left, rfl, _⟩ := h
    rfl
  obtain ⟨g, L, left, rfl, hf, tb, q⟩ := h
  refine ⟨_, PSs.nox (C8.pss_cut (ps_set (i := 2) sc_share.nd rfl (Or.inl rfl) (pe_ifExp (pt_val (pv 1)) (pe_un un_neg pe_int) pe_int)) (pss_cons (ps_asg (pe_tup (pa_cons pe_int (pa_cons pe_int pa_nil))) (pg_tup rfl (pgs_cons (pg_name (i := 3) sc_share.nd rfl (Or.inl rfl)) (pgs_cons (pg_name (i := 4) sc_share.nd rfl (Or.inl rfl)) pgs_nil)))) (pss_cons (ps_for PassesOwn.never rfl (pi_list (pe_cal CPc (hr.mono (by decide)) (pa_cons (pv 0) pa_nil))) (pg_tup rfl (pgs_cons (pg_name (i := 5) sc_share.nd rfl (Or.inl rfl)) (pgs_cons (pg_name (i := 6) sc_share.nd rfl (Or.inl rfl)) pgs_nil))) (C8.pss_cut (ps_set (i := 7) sc_share.nd rfl (Or.inl rfl) (pe_op op_mulW (pe_prS (pv 5) T.cl hStride (hr.mono (by decide))) (pv 2))) (pss_one (ps_if (PW.pt (pw_and (pt_cmpR op_isN (pv 6) pe_non (nomark _)) (pw_and1 (pt_cmpR op_gt (pv 7) pe_int (nomark _))))) (C8.pss_cut (ps_par (i := 3) (j := 4) rfl sc_share.nd rfl rfl (by decide) rfl rfl (pa_cons (pe_op op_add (pe_op op_mulW (pv 3) (pv 7)) (pv 4)) (pa_cons (pe_op op_mulW (pv 4) (pv 7)) pa_nil)) (by rfl)) (pss_cons (ps_set (i := 8) sc_share.nd rfl (Or.inl rfl) (pe_callBfun cr_gcd rfl hGcd (pa_cons (pv 3) (pa_cons (pv 4) pa_nil)))) (pss_one (ps_par (i := 3) (j := 4) rfl sc_share.nd rfl rfl (by decide) rfl rfl (pa_cons (pe_op op_fdivW (pv 3) (pv 8)) (pa_cons (pe_op op_fdivW (pv 4) (pv 8)) pa_nil)) (by rfl))))) pss_nil)))) (pss_one (ps_ret (pe_tup (pa_cons (pv 3) (pa_cons (pv 4) pa_nil)))))))), ?_⟩
  refine ⟨fun σ' H' => σ' = [some (.ref g), some (.bl left), some (.int (if left then -1 else 1)), none, none, none, none, none, none] ∧ H' = H, ?_, ?_⟩
  · cases left with
    | true => exact ⟨_, rfl, true, rfl, iteT ⟨_, rfl, rfl, rfl⟩⟩
    | false => exact ⟨_, rfl, false, rfl, iteF ⟨rfl, rfl⟩⟩
  rintro σ' H' ⟨rfl, rfl⟩
  have few := hf.crew.few
  have okq : ∀ q ∈ partsOf L, QuadOk q := fun q hq => by
    obtain ⟨x, hx, rfl⟩ := List.mem_map.mp hq
    exact (hf.crew.at_ x hx).2
  have pl : (partsOf L).length = L.length := parts_len _
  refine ⟨by show 2 ≤ sizeLine; decide, fun t0 n0 => ⟨t0, _, rfl, SqT.of upd_same, rfl, _, _, rfl, _, _, rfl, rfl, ?_⟩⟩
  have s0 := same_new n0 (.tup [.int 0, .int 1])
  have e0 := LamX.ExtN.of s0
  refine ⟨_, rfl, g, L, rfl, hf.extN e0, tabs_same s0 tb, fun rs D bs H1 hist hD pb dn e1 tb1 => ⟨D, rfl, ⟨_, SqL.of hD⟩, ?_⟩⟩
  have crew1 := (hf.extN (e0.trans e1)).crew
  refine for_list (K := K) (a := D) (xs := bs.map V.ref) (fun i σ H3 => ∃ (o u : Nat) (o5 o6 o7 o8 : Option V), σ = [some (.ref g), some (.bl left), some (.int (if left then -1 else 1)), some (.int (o : Int)), some (.int (u : Int)), o5, o6, o7, o8] ∧ Red o u (frQ (partsOf L) (cntR rs) left i).1 (frQ (partsOf L) (cntR rs) left i).2 ∧ i ≤ L.length ∧ Same H1 H3)
    ⟨0, 1, none, none, none, none, rfl, ⟨Nat.one_pos, Nat.coprime_one_right 0, rfl⟩, Nat.zero_le _, Same.refl _⟩ (fun i σ H3 _ h => by obtain ⟨_, _, _, _, _, _, _, _, _, h⟩ := h; exact SqL.of (h _ _ hD)) ?_ ?_
  · rintro i v σ H3 ev ⟨o, u, o5, o6, o7, o8, rfl, red, il, s3⟩
    rw [List.getElem?_map] at ev
    cases eb : bs[i]? with
    | none => rw [eb] at ev; cases ev
    | some b =>
      rw [eb] at ev
      obtain rfl := Option.some.inj ev
      have lpc : bs.length = (pcs L rs L.length).length := pb.length
      have hi : i < L.length := by
        have h1 := (List.getElem?_eq_some_iff.mp eb).1
        rcases Nat.lt_or_ge i L.length with g | g
        · exact g
        · exfalso
          have h2 := List.length_filterMap_le (fun i => match L[i]? with | some x => some (x.a, cntR rs i) | none => none) (List.range L.length)
          rw [List.length_range] at h2
          have h3 : (pcs L rs L.length).length ≤ L.length := h2
          omega
      obtain ⟨x, hx, hp, _⟩ := pcs_get (rs := rs) (Nat.le_refl _) hi
      have hb := paired_at (F := fun (b : Addr) (e : Addr × Option Int) => H1 b = some (.tup [.ref e.1, optV e.2])) pb eb hp
      obtain ⟨⟨dxx, ex⟩, pk⟩ := (crew1.at_ x (List.mem_of_getElem? hx)).same s3
      obtain ⟨_, _, _, a4⟩ := q_at (parts_at hx)
      have dpos := frQ_pos (qs := partsOf L) (C := cntR rs) (left := left) i
      have lg := frQ_log (C := cntR rs) (left := left) okq (by omega) (n := i) (by omega)
      have rl := red_le red dpos
      have k1 := pk.s0
      have k2 := pk.s1
      have side : x.s * (if left then -1 else 1) = sgL left x.s := by
        cases left with
        | true => show x.s * -1 = -x.s; omega
        | false => show x.s * 1 = x.s; omega
      refine ⟨b, _, rfl, SqT.of (s3 _ _ hb), rfl, _, _, rfl, _, _, rfl, rfl, ?_⟩
      refine ⟨fun σ' H' => σ' = [some (.ref g), some (.bl left), some (.int (if left then -1 else 1)), some (.int (o : Int)), some (.int (u : Int)), some (.ref x.a), some (optV (cntR rs i)), some (.int (sgL left x.s)), o8] ∧ H' = H3, ?_, ?_⟩
      · refine ⟨_, rfl, x.a, dxx, _, rfl, ex, x.a, dxx, _, _, rfl, ex, pfs_stride _ _ _ _, _, rfl, _, _, rfl, rfl, wide_mul (a := 64) (b := 8) (by omega) (by cases left <;> decide) (by decide) (by decide) (by decide), ?_⟩
        refine ⟨?_, rfl⟩
        rw [← side]
        rfl
      rintro σ' H4 ⟨rfl, rfl⟩
      have no : ¬ (cntR rs i = none ∧ 0 < sgL left x.s) → frQ (partsOf L) (cntR rs) left (i + 1) = frQ (partsOf L) (cntR rs) left i := fun z => by
        show (if _ then _ else _) = _
        rw [a4, if_neg z]
      refine ⟨_, rfl, rfl, _, rfl, ?_⟩
      cases ec : cntR rs i with
      | some k =>
        refine iteDF (fun z => by cases z) (iteF ?_)
        exact ⟨o, u, _, _, _, o8, rfl, by rw [no fun z => by rw [ec] at z; cases z.1]; exact red, hi, s3⟩
      | none =>
        refine iteDT rfl ⟨_, rfl, _, _, rfl, rfl, _, rfl, ?_⟩
        refine ite2 (fun c => ?_) (fun c => ?_)
        · have c : 0 < sgL left x.s := of_decide_eq_true c
          obtain ⟨sn, esn⟩ : ∃ sn : Nat, sgL left x.s = (sn : Int) := ⟨(sgL left x.s).toNat, by omega⟩
          have sb : sn < 2 ^ 64 := by
            have : (sgL left x.s).natAbs ≤ 10 ^ 18 := by
              unfold sgL
              split <;> omega
            omega
          have s0' : 0 < sn := by omega
          have yes : frQ (partsOf L) (cntR rs) left (i + 1) = ((frQ (partsOf L) (cntR rs) left i).1 * sn + (frQ (partsOf L) (cntR rs) left i).2, (frQ (partsOf L) (cntR rs) left i).2 * sn) := by
            show (if _ then _ else _) = _
            rw [a4, if_pos ⟨ec, c⟩, esn]
            rfl
          rw [esn]
          have ob : (o : Int).natAbs < 2 ^ 2501 := by rw [Int.natAbs_natCast]; exact Nat.lt_of_le_of_lt rl.1 (Nat.lt_of_lt_of_le lg.1 (Nat.pow_le_pow_right (by decide) (by decide)))
          have ub : (u : Int).natAbs < 2 ^ 2501 := by rw [Int.natAbs_natCast]; exact Nat.lt_of_le_of_lt rl.2 (Nat.lt_of_lt_of_le lg.2 (Nat.pow_le_pow_right (by decide) (by decide)))
          have snb : (sn : Int).natAbs < 2 ^ 64 := by rw [Int.natAbs_natCast]; exact sb
          refine ⟨fun σ' H' => σ' = [some (.ref g), some (.bl left), some (.int (if left then -1 else 1)), some (.int ((o * sn + u : Nat) : Int)), some (.int ((u * sn : Nat) : Int)), some (.ref x.a), some (optV none), some (.int (sn : Int)), o8] ∧ H' = H4, ?_, ?_⟩
          · refine ⟨_, rfl, _, rfl, _, _, rfl, rfl, wide_mul ob snb (by decide) (by decide) (by decide), _, rfl, _, _, rfl, rfl, _, rfl, _, rfl, _, _, rfl, rfl, wide_mul ub snb (by decide) (by decide) (by decide), _, _, rfl, ?_⟩
            refine ⟨?_, rfl⟩
            rw [Int.natCast_add, Int.natCast_mul, Int.natCast_mul]
            rfl
          rintro σ' H5 ⟨rfl, rfl⟩
          have up' : 0 < u * sn := Nat.mul_pos red.up s0'
          have g0 : 0 < Nat.gcd (o * sn + u) (u * sn) := Nat.gcd_pos_of_pos_right _ up'
          have gl : Nat.gcd (o * sn + u) (u * sn) ≤ u * sn := Nat.gcd_le_right _ up'
          have usb : u * sn < 2 ^ 2600 := by
            have a1 : u ≤ 2 ^ 2501 := by omega
            have a2 : u * sn ≤ 2 ^ 2501 * 2 ^ 64 := Nat.mul_le_mul a1 (Nat.le_of_lt sb)
            have a3 : 2 ^ 2501 * 2 ^ 64 < 2 ^ 2600 := by decide +kernel
            exact Nat.lt_of_le_of_lt a2 a3
          have wd : ∀ y : Int, CDivW y ((Nat.gcd (o * sn + u) (u * sn) : Nat) : Int) := fun y => wide_div (b := 2600) (by omega) (by rw [Int.natAbs_natCast]; exact Nat.lt_of_le_of_lt gl usb) (by decide) (by decide)
          refine ⟨_, rfl, _, rfl, _, _, rfl, ?_⟩
          refine ⟨_, rfl, _, rfl, _, _, rfl, rfl, wd _, _, rfl, _, rfl, _, _, rfl, rfl, wd _, _, _, rfl, ?_⟩
          exact ⟨(o * sn + u) / Nat.gcd (o * sn + u) (u * sn), u * sn / Nat.gcd (o * sn + u) (u * sn), _, _, _, _, rfl, by rw [yes]; exact red_step red s0', hi, s3⟩
        · have c : ¬ 0 < sgL left x.s := fun z => c (decide_eq_true z)
          exact ⟨o, u, _, _, _, o8, rfl, by rw [no fun z => c z.2]; exact red, hi, s3⟩
  · rintro σ H3 ⟨o, u, o5, o6, o7, o8, rfl, red, il, s3⟩
    have bl : bs.length = L.length := by
      have lpc : bs.length = (pcs L rs L.length).length := pb.length
      by_cases c : L.length = 0
      · rw [lpc, c]
        rfl
      · rw [lpc]
        exact (pcs_get (rs := rs) (i := 0) (Nat.le_refl _) (by omega)).choose_spec.2.2
    rw [List.length_map, bl] at red
    refine ⟨_, rfl, _, rfl, by show 2 ≤ sizeLine; decide, fun z nz => ?_⟩
    exact q rs o u z _ hist red upd_same (((e0.trans e1).trans (LamX.ExtN.of s3)).trans (LamX.ExtN.of (same_new nz _))) (tabs_same (same_new nz _) (tabs_same s3 tb1))
end
end Ur
/-! SFr: the laws' own shares (_law_shares, _law_due) and mirrored painters (_law_opposite). -/
namespace Ur
open PySem PySem.Spec PyProof.Rows L2
abbrev s__law_shares : Stmt := (topS 69)
abbrev N_sc__law_shares : List Str := ["_law_painters", "_law_counts", "_law_n", "_law_d", "_law_place", "_law_name", "_law_start", "_law_begin", "_law_stride", "_law_part"]
abbrev P__law_shares : List Str := ["_law_painters", "_law_counts"]
theorem sc__law_shares : FnScope N_sc__law_shares P__law_shares (defScope s__law_shares) := ⟨rfl, rfl, rfl, by decide +kernel, rfl, by decide +kernel, by decide +kernel⟩
def spShr (K : PySem.W.Frag) : Sp := fun vs H Q _ => ∃ (F Ca : Addr) (ts : List Addr) (qs : List Quad) (cs : List (Option Int)), vs = [.ref F, .ref Ca] ∧ SqL K H F (ts.map V.ref) ∧ Team H ts qs ∧ H Ca = some (.lst (cs.map optV)) ∧ cs.length = qs.length ∧
  ∀ z H', H' z = some (.tup [.int (((frQ qs (cnL cs) false qs.length).1 / Nat.gcd (frQ qs (cnL cs) false qs.length).1 (frQ qs (cnL cs) false qs.length).2 : Nat) : Int), .int (((frQ qs (cnL cs) false qs.length).2 / Nat.gcd (frQ qs (cnL cs) false qs.length).1 (frQ qs (cnL cs) false qs.length).2 : Nat) : Int)]) → Same H H' → Q (.ref z) H'
section
variable {P : Program} {w : World} {K : PySem.W.Frag} {mg : Str → Option Value} {base : Heap}
set_option maxHeartbeats 16000000 in
theorem ok_shr (D : Dfn K mg "_law_shares" s__law_shares P__law_shares) (hEn : mg "enumerate" = none) (CGd : Cal P w K mg base 1 "_law_gcd" P__law_gcd spGcd) : Cal P w K mg base 2 "_law_shares" P__law_shares (spShr K) := by
  refine D.cal sc__law_shares (fun vs H Q E h => ?_) fun fn cdv A outer s H vs Q E hr h => ?_
  · obtain ⟨F, Ca, _, _, _, rfl, _⟩ := h
    rfl
  obtain ⟨F, Ca, ts, qs, cs, rfl, hF, tm, hC, cl, q⟩ := h
  refine ⟨_, (pss_cons (ps_asg (pe_tup (pa_cons pe_int (pa_cons pe_int pa_nil))) (pg_tup rfl (pgs_cons (pg_name (i := 2) sc__law_shares.nd rfl (Or.inl rfl)) (pgs_cons (pg_name (i := 3) sc__law_shares.nd rfl (Or.inl rfl)) pgs_nil)))) (pss_cons (ps_for PassesOwn.never rfl (pi_enum rfl hEn (pa_cons (pv 0) pa_nil)) (pg_tup rfl (pgs_cons (pg_name (i := 4) sc__law_shares.nd rfl (Or.inl rfl)) (pgs_cons (pg_tup rfl (pgs_cons (pg_name (i := 5) sc__law_shares.nd rfl (Or.inl rfl)) (pgs_cons (pg_name (i := 6) sc__law_shares.nd rfl (Or.inl rfl)) (pgs_cons (pg_name (i := 7) sc__law_shares.nd rfl (Or.inl rfl)) (pgs_cons (pg_name (i := 8) sc__law_shares.nd rfl (Or.inl rfl)) pgs_nil))))) pgs_nil))) (pss_one (ps_if (PW.pt (pw_and (pt_cmpR op_isN (pe_ix ix_list (pv 1) (pv 4) (fun _ _ => rfl)) pe_non (nomark _)) (pw_and1 (pt_cmpR op_gt (pv 8) pe_int (nomark _))))) (pss_one (ps_par (i := 2) (j := 3) rfl sc__law_shares.nd rfl rfl (by decide) rfl rfl (pa_cons (pe_op op_add (pe_op op_mulW (pv 2) (pv 8)) (pv 3)) (pa_cons (pe_op op_mulW (pv 3) (pv 8)) pa_nil)) (by rfl))) pss_nil))) (pss_cons (ps_set (i := 9) sc__law_shares.nd rfl (Or.inl rfl) (pe_cal CGd (hr.mono (by decide)) (pa_cons (pv 2) (pa_cons (pv 3) pa_nil)))) (pss_one (ps_ret (pe_tup (pa_cons (pe_op op_fdivW (pv 2) (pv 9)) (pa_cons (pe_op op_fdivW (pv 3) (pv 9)) pa_nil)))))))), ?_⟩
  have tl := tm.len
  have okq := tm.ok
  have few := tm.few
  refine ⟨by show 2 ≤ sizeLine; decide, fun t0 n0 => ⟨t0, _, rfl, SqT.of upd_same, rfl, _, _, rfl, _, _, rfl, rfl, ?_⟩⟩
  have s0 := same_new n0 (.tup [.int 0, .int 1])
  refine ⟨_, rfl, F, ts.map V.ref, rfl, same_sql s0 hF, ?_⟩
  refine for_it walk_enum (fun i σ H3 => ∃ (o4 o5 o6 o7 o8 o9 : Option V), σ = [some (.ref F), some (.ref Ca), some (.int ((frQ qs (cnL cs) false i).1 : Int)), some (.int ((frQ qs (cnL cs) false i).2 : Int)), o4, o5, o6, o7, o8, o9] ∧ Same H H3)
    ⟨_, _, _, _, _, _, rfl, s0⟩ (fun i σ H3 _ h => by obtain ⟨_, _, _, _, _, _, _, h⟩ := h; exact same_sql h hF) ?_ ?_
  · rintro i v σ H3 H4 hi ⟨o4, o5, o6, o7, o8, o9, rfl, s3⟩ ⟨T0, y1, y2, rfl, hT, rfl, e1, e2⟩
    obtain rfl := Option.some.inj e1
    obtain ⟨t, qd, rfl, et, eq, ht, ok⟩ := tm.get e2
    have sT := same_new hT (.tup [V.int (i : Int), V.ref t])
    have s4 := s3.trans sT
    have hiq : i < qs.length := (List.getElem?_eq_some_iff.mp eq).1
    obtain ⟨nm, d, p, st⟩ := qd
    obtain ⟨qn, qdy, qp, qst⟩ := q_at eq
    have okd : PartOk nm d p st := ok
    have b0 := okd.s0
    have b1 := okd.s1
    obtain ⟨c, hc⟩ : ∃ c, cs[i]? = some c := ⟨_, List.getElem?_eq_getElem (by omega)⟩
    have ec := cnL_at hc
    have ecv : (cs.map optV)[i]? = some (optV c) := by rw [List.getElem?_map, hc]; rfl
    have lg := frQ_log (C := cnL cs) (left := false) okq few (n := i) (by omega)
    have hCs := s4 _ _ hC
    refine ⟨T0, _, rfl, SqT.of upd_same, rfl, _, _, rfl, _, _, rfl, t, _, rfl, SqT.of (s4 _ _ ht), rfl, _, _, rfl, _, _, rfl, _, _, rfl, _, _, rfl, rfl, rfl, ?_⟩
    refine ⟨_, rfl, _, rfl, Ca, _, _, _, rfl, rfl, SqL.of hCs, atI_nat ecv, rfl, _, rfl, ?_⟩
    have no : ¬ (cnL cs i = none ∧ 0 < sgL false (sQ qs i)) → frQ qs (cnL cs) false (i + 1) = frQ qs (cnL cs) false i := fun z => by
      show (if _ then _ else _) = _
      rw [if_neg z]
    cases c with
    | some k =>
      refine iteDF (fun z => by cases z) (iteF ?_)
      refine ⟨some (.int (i : Int)), some (.str nm), some (.int d), some (.int p), some (.int st), o9, ?_, s4⟩
      rw [no fun z => by rw [ec] at z; cases z.1]
      rfl
    | none =>
      refine iteDT rfl ⟨_, rfl, _, _, rfl, rfl, _, rfl, ?_⟩
      refine ite2 (fun c => ?_) (fun c => ?_)
      · have c : 0 < st := of_decide_eq_true c
        have yes : frQ qs (cnL cs) false (i + 1) = ((frQ qs (cnL cs) false i).1 * st.toNat + (frQ qs (cnL cs) false i).2, (frQ qs (cnL cs) false i).2 * st.toNat) := by
          show (if _ then _ else _) = _
          rw [if_pos ⟨ec, by rw [qst]; exact c⟩, qst]
          rfl
        refine ⟨_, rfl, _, rfl, _, _, rfl, rfl, wide_mul (a := 2501) (b := 64) (by show ((frQ qs (cnL cs) false i).1 : Int).natAbs < _; rw [Int.natAbs_natCast]; exact Nat.lt_of_lt_of_le lg.1 (Nat.pow_le_pow_right (by decide) (by decide))) (by show st.natAbs < _; omega) (by decide) (by decide) (by decide), _, rfl, _, _, rfl, rfl, _, rfl, _, rfl, _, _, rfl, rfl, wide_mul (a := 2501) (b := 64) (by show ((frQ qs (cnL cs) false i).2 : Int).natAbs < _; rw [Int.natAbs_natCast]; exact Nat.lt_of_lt_of_le lg.2 (Nat.pow_le_pow_right (by decide) (by decide))) (by show st.natAbs < _; omega) (by decide) (by decide) (by decide), _, _, rfl, ?_⟩
        refine ⟨some (.int (i : Int)), some (.str nm), some (.int d), some (.int p), some (.int st), o9, ?_, s4⟩
        rw [yes]
        have es : st = (st.toNat : Int) := by omega
        have f1 : (((frQ qs (cnL cs) false i).1 * st.toNat + (frQ qs (cnL cs) false i).2 : Nat) : Int) = ((frQ qs (cnL cs) false i).1 : Int) * st + ((frQ qs (cnL cs) false i).2 : Int) := by
          rw [Int.natCast_add, Int.natCast_mul, ← es]
        have f2 : (((frQ qs (cnL cs) false i).2 * st.toNat : Nat) : Int) = ((frQ qs (cnL cs) false i).2 : Int) * st := by
          rw [Int.natCast_mul, ← es]
        show _ = [some (V.ref F), some (.ref Ca), some (.int (((frQ qs (cnL cs) false i).1 * st.toNat + (frQ qs (cnL cs) false i).2 : Nat) : Int)), some (.int (((frQ qs (cnL cs) false i).2 * st.toNat : Nat) : Int)), some (.int (i : Int)), some (.str nm), some (.int d), some (.int p), some (.int st), o9]
        rw [f1, f2]
        rfl
      · have c : ¬ 0 < st := fun z => c (decide_eq_true z)
        refine ⟨some (.int (i : Int)), some (.str nm), some (.int d), some (.int p), some (.int st), o9, ?_, s4⟩
        rw [no fun z => c (by have := z.2; rw [qst] at this; exact this)]
        rfl
  · rintro σ H3 ⟨o4, o5, o6, o7, o8, o9, rfl, s3⟩
    rw [List.length_map, tl]
    have lg := frQ_log (C := cnL cs) (left := false) okq few (n := qs.length) (Nat.le_refl _)
    have dp := frQ_pos (qs := qs) (C := cnL cs) (left := false) qs.length
    obtain ⟨N, eN⟩ : ∃ N, (frQ qs (cnL cs) false qs.length).1 = N := ⟨_, rfl⟩
    obtain ⟨D', eD⟩ : ∃ D', (frQ qs (cnL cs) false qs.length).2 = D' := ⟨_, rfl⟩
    rw [eN, eD] at q
    rw [eN, eD] at lg ⊢
    rw [eD] at dp
    have g0 : 0 < Nat.gcd N D' := Nat.gcd_pos_of_pos_right _ dp
    have gl : Nat.gcd N D' ≤ D' := Nat.gcd_le_right _ dp
    have eg : (Int.gcd (N : Int) (D' : Int) : Int) = ((Nat.gcd N D' : Nat) : Int) := rfl
    have wd : ∀ x : Int, CDivW x ((Nat.gcd N D' : Nat) : Int) := fun x => wide_div (b := 2500) (by omega) (by rw [Int.natAbs_natCast]; exact Nat.lt_of_le_of_lt gl lg.2) (by decide) (by decide)
    refine ⟨_, rfl, _, rfl, _, _, rfl, ?_⟩
    refine ⟨_, rfl, _, rfl, _, _, rfl, rfl, wd _, _, rfl, _, rfl, _, _, rfl, rfl, wd _, by show 2 ≤ sizeLine; decide, fun z nz => ?_⟩
    refine q z _ ?_ (s3.trans (same_new nz _))
    rw [upd_same]
    rfl
end
abbrev s__law_due : Stmt := (topS 73)
abbrev N_sc__law_due : List Str := ["_law_painters", "_law_ends"]
abbrev P__law_due : List Str := ["_law_painters", "_law_ends"]
theorem sc__law_due : FnScope N_sc__law_due P__law_due (defScope s__law_due) := ⟨rfl, rfl, rfl, by decide +kernel, rfl, by decide +kernel, by decide +kernel⟩
section
variable {P : Program} {w : World} {K : PySem.W.Frag} {mg : Str → Option Value} {base : Heap}
theorem ok_due (D : Dfn K mg "_law_due" s__law_due P__law_due) (CSh : Cal P w K mg base 2 "_law_shares" P__law_shares (spShr K)) : Cal P w K mg base 3 "_law_due" P__law_due (spShr K) := by
  refine D.cal sc__law_due (fun vs H Q E h => ?_) fun fn cdv A outer s H vs Q E hr h => ?_
  · obtain ⟨F, Ca, _, _, _, rfl, _⟩ := h
    rfl
  obtain ⟨F, Ca, ts, qs, cs, rfl, hF, tm, hC, cl, q⟩ := h
  refine ⟨_, (pss_one (ps_ret (pe_cal CSh (hr.mono (by decide)) (pa_cons (pv 0) (pa_cons (pv 1) pa_nil))))), ?_⟩
  exact ⟨_, rfl, _, rfl, F, Ca, ts, qs, cs, rfl, hF, tm, hC, cl, q⟩
end
abbrev s__law_opposite : Stmt := (topS 70)
abbrev N_sc__law_opposite : List Str := ["_law_painters", "_law_name", "_law_start", "_law_post", "_law_stride"]
abbrev P__law_opposite : List Str := ["_law_painters"]
theorem sc__law_opposite : FnScope N_sc__law_opposite P__law_opposite (defScope s__law_opposite) := ⟨rfl, rfl, rfl, by decide +kernel, rfl, by decide +kernel, by decide +kernel⟩
def spOpp (K : PySem.W.Frag) : Sp := fun vs H Q _ => ∃ (F : Addr) (ts : List Addr) (qs : List Quad), vs = [.ref F] ∧ SqL K H F (ts.map V.ref) ∧ Team H ts qs ∧
  ∀ F' ts' H', H' F' = some (.lst (ts'.map V.ref)) → Team H' ts' (qs.map (mvQ (-1) 0 0)) → Same H H' → Q (.ref F') H'
section
variable {P : Program} {w : World} {K : PySem.W.Frag} {mg : Str → Option Value} {base : Heap}
theorem ok_opp (D : Dfn K mg "_law_opposite" s__law_opposite P__law_opposite) : Cal P w K mg base 1 "_law_opposite" P__law_opposite (spOpp K) := by
  refine D.cal sc__law_opposite (fun vs H Q E h => ?_) fun fn cdv A outer s H vs Q E hr h => ?_
  · obtain ⟨F, _, _, rfl, _⟩ := h
    rfl
  obtain ⟨F, ts, qs, rfl, hF, tm, q⟩ := h
  refine ⟨_, (pss_one (ps_ret (pe_lc (own := [("_law_name", 1), ("_law_start", 2), ("_law_post", 3), ("_law_stride", 4)]) (g := gTup K 4 (gCons (gName 1) (gCons (gName 2) (gCons (gName 3) (gCons (gName 4) gNil))))) (tt := tYes) rfl sc__law_opposite.nd (pi_list (pv 0)) (blkOk_by (N := N_sc__law_opposite) (sc := defScope s__law_opposite) (by decide +kernel)) (fun _ _ _ _ _ => pg_tup rfl (pgs_cons (pg_name (i := 1) sc__law_opposite.nd rfl (Or.inl rfl)) (pgs_cons (pg_name (i := 2) sc__law_opposite.nd rfl (Or.inl rfl)) (pgs_cons (pg_name (i := 3) sc__law_opposite.nd rfl (Or.inl rfl)) (pgs_cons (pg_name (i := 4) sc__law_opposite.nd rfl (Or.inl rfl)) pgs_nil))))) (fun _ _ _ _ _ => pts_nil) (fun _ _ _ _ _ => (pe_tup (pa_cons (pv 1) (pa_cons (pv 2) (pa_cons (pe_op op_sub pe_int (pv 3)) (pa_cons (pe_op op_sub pe_int (pv 4)) pa_nil))))))))), ?_⟩
  have tl := tm.len
  have few := tm.few
  refine ⟨_, rfl, F, rfl, ⟨_, hF⟩, fun M nM => ?_⟩
  refine lc_list (K := K) (a := F) (xs := ts.map V.ref) (fun i H' => ∃ us : List Addr, H' M = some (.lst (us.map V.ref)) ∧ us.length = i ∧ (∀ (j : Nat) (u : Addr) (x : Quad), j < i → us[j]? = some u → qs[j]? = some x → H' u = some (.tup (quadV (mvQ (-1) 0 0 x)))) ∧ Same H H') ⟨[], upd_same, rfl, (fun j u x h => absurd h (Nat.not_lt_zero j)), same_new nM _⟩ (fun i H' _ h => by obtain ⟨_, _, _, _, h⟩ := h; exact same_sql h hF) ?_ ?_
  · rintro i v H' ev ⟨us, hM, ul, at1, s1⟩
    obtain ⟨t, qd, rfl, et, eq, ht, ok⟩ := tm.get ev
    obtain ⟨nm, d, p, st⟩ := qd
    have hi := (List.getElem?_eq_some_iff.mp eq).1
    refine ⟨t, _, rfl, SqT.of (s1 _ _ ht), rfl, _, _, rfl, _, _, rfl, _, _, rfl, _, _, rfl, rfl, ?_⟩
    refine ⟨rfl, _, rfl, _, rfl, _, rfl, _, _, rfl, rfl, _, rfl, _, _, rfl, rfl, by show 4 ≤ sizeLine; decide, fun u nu => ?_⟩
    have su := same_new nu (.tup [.str nm, .int d, .int (0 - p), .int (0 - st)])
    have hMu := su _ _ hM
    have kp : ∀ (b : Addr) xs, upd H' u (.tup [.str nm, .int d, .int (0 - p), .int (0 - st)]) b = some (.tup xs) → upd (upd H' u (.tup [.str nm, .int d, .int (0 - p), .int (0 - st)])) M (.lst (us.map V.ref ++ [.ref u])) b = some (.tup xs) := fun b xs e => by rw [upd_ne (ne_of e hMu (by intro z; cases z))]; exact e
    refine ⟨_, hMu, ?_, us ++ [u], by rw [upd_same, List.map_append]; rfl, by rw [List.length_append, ul]; rfl, fun j b x hj e1 e2 => ?_, sameAt (s1.trans su) nM⟩
    · rw [List.length_map, ul]
      exact Nat.lt_of_le_of_lt (show i ≤ 40 by omega) (by decide)
    · by_cases c : j < i
      · rw [List.getElem?_append_left (by omega)] at e1
        exact kp _ _ (su _ _ (at1 j b x c e1 e2))
      · obtain rfl : j = i := by omega
        rw [List.getElem?_append_right (by omega), ul, Nat.sub_self] at e1
        obtain rfl := Option.some.inj e1
        rw [eq] at e2
        obtain rfl := Option.some.inj e2
        refine kp _ _ ?_
        rw [upd_same]
        show some (HO.tup [V.str nm, .int d, .int (0 - p), .int (0 - st)]) = some (HO.tup [V.str nm, .int (d + 0), .int (-1 * p + 0), .int (-1 * st)])
        rw [show d + 0 = d by omega, show -1 * p + 0 = 0 - p by omega, show -1 * st = 0 - st by omega]
  · rintro H' ⟨us, hM, ul, at1, s1⟩
    rw [List.length_map, tl] at ul
    refine q M us H' hM ⟨by rw [List.length_map]; exact ul, fun j u x e1 e2 => ?_, fun y hy => ?_, ?_, by rw [List.length_map]; exact few⟩ s1
    · rw [List.getElem?_map] at e2
      cases e3 : qs[j]? with
      | none => rw [e3] at e2; cases e2
      | some y =>
        rw [e3] at e2
        obtain rfl := Option.some.inj e2
        exact at1 j u y (by have := (List.getElem?_eq_some_iff.mp e3).1; rw [List.length_map, tl]; exact this) e1 e3
    · obtain ⟨x, hx, rfl⟩ := List.mem_map.mp hy
      have k := tm.ok x hx
      have k1 := k.d0
      have k2 := k.d1
      have k3 := k.p0
      have k4 := k.p1
      have k5 := k.s0
      have k6 := k.s1
      have k7 := k.sn
      exact ⟨k.nm, by show 0 ≤ x.2.1 + 0; omega, by show x.2.1 + 0 ≤ _; omega, by show _ ≤ -1 * x.2.2.1 + 0; omega, by show -1 * x.2.2.1 + 0 ≤ _; omega, by show _ ≤ -1 * x.2.2.2; omega, by show -1 * x.2.2.2 ≤ _; omega, by show -1 * x.2.2.2 ≠ 0; omega⟩
    · rw [List.map_map]
      exact tm.nd
end
end Ur
/-! HR: how far away a stop can be. -/
namespace Ur
open PySem PySem.Spec PyProof.Rows L2
theorem meet_same {a b n m g D : Int} (a0 : 0 < a) (a1 : a ≤ 10 ^ 18) (b0 : 0 < b) (b1 : b ≤ 10 ^ 18) (g0 : -(2 * 10 ^ 30) ≤ g) (g1 : g ≤ 2 * 10 ^ 30) (D0 : -(10 ^ 30) ≤ D) (D1 : D ≤ 10 ^ 30 + 1) (m0 : 0 ≤ m) (e : n * a - m * b = g) (late : D ≤ n - m)
    (least : ∀ n' m', 0 ≤ n' → n' < n → 0 ≤ m' → m' ≤ m → n' * a - m' * b = g → ¬ D ≤ n' - m') : n ≤ 10 ^ 50 := by
  rcases Int.lt_or_le (10 ^ 50) n with big | ok
  · exfalso
    have na : n ≤ n * a := by
      have := Int.mul_le_mul_of_nonneg_left (show (1 : Int) ≤ a by omega) (show 0 ≤ n by omega)
      omega
    rcases Int.lt_or_le m a with c | c
    · have mb := mul_bd (a := m) (b := b) (A := 10 ^ 18) (B := 10 ^ 18) m0 (by omega) (by omega) b1 (by decide)
      omega
    · have e2 : (n - b) * a - (m - a) * b = g := by
        rw [Int.sub_mul, Int.sub_mul, Int.mul_comm a b]
        omega
      have nl := least (n - b) (m - a) (by omega) (by omega) (by omega) (by omega) e2
      have ab : a < b := by omega
      have wb := mul_bd (a := b) (b := n - m) (A := 10 ^ 18) (B := 10 ^ 31) (by omega) b1 (by omega) (by omega) (by decide)
      have e3 : n * (b - a) = b * (n - m) - g := by
        rw [Int.mul_sub, Int.mul_sub, Int.mul_comm b n, Int.mul_comm b m]
        omega
      have nb : n ≤ n * (b - a) := by
        have := Int.mul_le_mul_of_nonneg_left (show (1 : Int) ≤ b - a by omega) (show 0 ≤ n by omega)
        omega
      omega
  · exact ok
theorem meet_bd {p s q t n m D : Int} (p0 : -(10 ^ 30) ≤ p) (p1 : p ≤ 10 ^ 30) (q0 : -(10 ^ 30) ≤ q) (q1 : q ≤ 10 ^ 30) (s0 : -(10 ^ 18) ≤ s) (s1 : s ≤ 10 ^ 18) (sz : s ≠ 0) (t0 : -(10 ^ 18) ≤ t) (t1 : t ≤ 10 ^ 18) (tz : t ≠ 0) (D0 : -(10 ^ 30) ≤ D) (D1 : D ≤ 10 ^ 30 + 1)
    (n0 : 0 ≤ n) (m0 : 0 ≤ m) (e : p + n * s = q + m * t) (late : D ≤ n - m) (least : ∀ n' m', 0 ≤ n' → n' < n → 0 ≤ m' → m' ≤ m → p + n' * s = q + m' * t → ¬ D ≤ n' - m') : n ≤ 10 ^ 50 := by
  have mono : ∀ {u v : Int}, 0 ≤ u → 0 < v → u ≤ u * v := fun {u v} h0 h1 => by
    have := Int.mul_le_mul_of_nonneg_left (show (1 : Int) ≤ v by omega) h0
    omega
  have nn : ∀ u v : Int, u * (0 - v) = 0 - u * v := fun u v => by rw [Int.mul_sub, Int.mul_zero]
  rcases Int.lt_or_le 0 s with hs | hs
  · rcases Int.lt_or_le 0 t with ht | ht
    · exact meet_same (a := s) (b := t) (g := q - p) hs s1 ht t1 (by omega) (by omega) D0 D1 m0 (by omega) late fun n' m' a1 a2 a3 a4 a5 => least n' m' a1 a2 a3 a4 (by omega)
    · have e2 := nn m t
      have h1 := mono n0 hs
      have h2 := Int.mul_nonneg m0 (show 0 ≤ 0 - t by omega)
      omega
  · rcases Int.lt_or_le 0 t with ht | ht
    · have e2 := nn n s
      have h1 := mono n0 (show 0 < 0 - s by omega)
      have h2 := Int.mul_nonneg m0 (show 0 ≤ t by omega)
      omega
    · exact meet_same (a := 0 - s) (b := 0 - t) (g := p - q) (by omega) (by omega) (by omega) (by omega) (by omega) (by omega) D0 D1 m0 (by rw [nn, nn]; omega) late fun n' m' a1 a2 a3 a4 a5 => least n' m' a1 a2 a3 a4 (by rw [nn, nn] at a5; omega)
/-- the number of posts that a painter paints, if it stops -/
theorem hist_cnt {qs : List Quad} {Cn : Nat → Option Int} {Bn : Nat → Nat} (ok : ∀ q ∈ qs, QuadOk q) (h : HistC qs.length (dQ qs) (fSP qs) Cn Bn) {i : Nat} {c : Int} (hi : i < qs.length) (e : Cn i = some c) : 0 ≤ c ∧ c ≤ 10 ^ 50 := by
  have l := h.is i hi
  rw [e] at l
  obtain ⟨c0, ⟨j, hj, m, m0, sp, lt, o⟩, least⟩ := l
  have gi : qs[i]? = some qs[i] := List.getElem?_eq_getElem hi
  have gj : qs[j]? = some qs[j] := List.getElem?_eq_getElem hj
  have ki : QuadOk qs[i] := ok _ (List.getElem_mem hi)
  have kj : QuadOk qs[j] := ok _ (List.getElem_mem hj)
  obtain ⟨_, d1, d2, d3⟩ := q_at gi
  obtain ⟨_, d4, d5, d6⟩ := q_at gj
  have i1 := ki.d0; have i2 := ki.d1; have i3 := ki.p0; have i4 := ki.p1; have i5 := ki.s0; have i6 := ki.s1; have i7 := ki.sn
  have j1 := kj.d0; have j2 := kj.d1; have j3 := kj.p0; have j4 := kj.p1; have j5 := kj.s0; have j6 := kj.s1; have j7 := kj.sn
  refine ⟨c0, ?_⟩
  obtain ⟨D, hD⟩ : ∃ D : Int, D = dQ qs j - dQ qs i + (if j < i then 0 else 1) := ⟨_, rfl⟩
  have lat : ∀ n k : Int, (dQ qs j + k < dQ qs i + n ∨ dQ qs j + k = dQ qs i + n ∧ j < i) ↔ D ≤ n - k := fun n k => by
    rw [hD]
    split
    · constructor
      · intro z; omega
      · intro z; omega
    · constructor
      · intro z; omega
      · intro z; omega
  have Db : -(10 ^ 30) ≤ D ∧ D ≤ 10 ^ 30 + 1 := by
    rw [hD, d1, d4]
    split <;> omega
  refine meet_bd (p := pQ qs i) (s := sQ qs i) (q := pQ qs j) (t := sQ qs j) (D := D) (by omega) (by omega) (by omega) (by omega) (by omega) (by omega) (by rw [d3]; exact i7) (by omega) (by omega) (by rw [d6]; exact j7) Db.1 Db.2 c0 m0 sp ((lat _ _).mp o) fun n' m' a1 a2 a3 a4 a5 a6 => ?_
  exact least n' a1 a2 ⟨j, hj, m', a3, a5, fun x ex => by have := lt x ex; omega, (lat _ _).mpr a6⟩
/-- the post of a stop is no far one -/
theorem stop_near {qs : List Quad} {rs : List Rw} (ok : ∀ q ∈ qs, QuadOk q) (h : HistR qs (fSP qs) rs) {r : Rw} (hr : r ∈ rs) {d p : Int} {b : Str} (e : r.stop = some (d, p, b)) : -(10 ^ 70) ≤ p ∧ p ≤ 10 ^ 70 ∧ 0 ≤ d ∧ d ≤ 10 ^ 52 := by
  obtain ⟨Cn, Bn, hc, rfl⟩ := h
  obtain ⟨i, hi, rfl⟩ := List.mem_map.mp hr
  have hi := List.mem_range.mp hi
  have e1 : qs[i]? = some qs[i] := List.getElem?_eq_getElem hi
  have k : QuadOk qs[i] := ok _ (List.getElem_mem hi)
  obtain ⟨_, qd, qp, qst⟩ := q_at e1
  have k1 := k.d0; have k2 := k.d1; have k3 := k.p0; have k4 := k.p1; have k5 := k.s0; have k6 := k.s1
  have e : (match Cn i with | none => none | some c => some (dQ qs i + c, pQ qs i + c * sQ qs i, nQ qs (Bn i))) = some (d, p, b) := e
  cases ec : Cn i with
  | none => rw [ec] at e; cases e
  | some c =>
    rw [ec] at e
    have e := Option.some.inj e
    have cb := hist_cnt ok hc hi ec
    have mb := mul_bd (a := c) (b := sQ qs i) (A := 10 ^ 50) (B := 10 ^ 18) cb.1 cb.2 (by rw [qst]; exact k5) (by rw [qst]; exact k6) (by decide)
    injection e with e3 e4
    injection e4 with e4 e5
    rw [← e3, ← e4, qd, qp]
    omega
end Ur
/-! JF: nobody stops behind the far day. -/
namespace Ur
open PySem PySem.Spec PyProof.Rows L2
theorem meet_sm {a b n m g D R S B : Int} (a0 : 0 < a) (a1 : a ≤ S) (b0 : 0 < b) (b1 : b ≤ S) (g0 : -R ≤ g) (g1 : g ≤ R) (D0 : -B ≤ D) (D1 : D ≤ B + 1) (B0 : 0 ≤ B) (n0 : 0 ≤ n) (m0 : 0 ≤ m) (e : n * a - m * b = g) (late : D ≤ n - m)
    (least : ∀ n' m', 0 ≤ n' → n' < n → 0 ≤ m' → m' ≤ m → n' * a - m' * b = g → ¬ D ≤ n' - m') : n ≤ R + B * S + S := by
  rcases Int.lt_or_le (R + B * S + S) n with big | ok
  · exfalso
    have BS : B * b ≤ B * S := Int.mul_le_mul_of_nonneg_left b1 B0
    have Bb : 0 ≤ B * b := Int.mul_nonneg B0 (by omega)
    rcases Int.lt_or_le b a with c | c
    · have h1 : n * (b + 1) ≤ n * a := Int.mul_le_mul_of_nonneg_left (by omega) n0
      have h2 : m * b ≤ (n - D) * b := Int.mul_le_mul_of_nonneg_right (by omega) (by omega)
      have h3 : -B * b ≤ D * b := Int.mul_le_mul_of_nonneg_right D0 (by omega)
      rw [Int.mul_add, Int.mul_one] at h1
      rw [Int.sub_mul] at h2
      rw [Int.neg_mul] at h3
      omega
    · rcases Int.lt_or_le m a with d | d
      · have h1 : m * b ≤ a * b := Int.mul_le_mul_of_nonneg_right (by omega) (by omega)
        have h2 : (n - b) * 1 ≤ (n - b) * a := Int.mul_le_mul_of_nonneg_left (by omega) (by omega)
        rw [Int.mul_one, Int.sub_mul, Int.mul_comm b a] at h2
        omega
      · have e2 : (n - b) * a - (m - a) * b = g := by
          rw [Int.sub_mul, Int.sub_mul, Int.mul_comm b a]
          omega
        have nl := least (n - b) (m - a) (by omega) (by omega) (by omega) (by omega) e2
        have ab : 1 ≤ b - a := by omega
        have e3 : n * (b - a) = (n - m) * b - g := by
          rw [Int.mul_sub, Int.sub_mul]
          omega
        have h1 : (n - m) * b ≤ (B + (b - a)) * b := Int.mul_le_mul_of_nonneg_right (by omega) (by omega)
        rw [Int.add_mul] at h1
        have h2 : (R + B * b + b + 1) * (b - a) ≤ n * (b - a) := Int.mul_le_mul_of_nonneg_right (by omega) (by omega)
        have h3 : (R + B * b) * 1 ≤ (R + B * b) * (b - a) := Int.mul_le_mul_of_nonneg_left ab (by omega)
        rw [Int.add_mul, Int.add_mul] at h2
        rw [Int.mul_one] at h3
        have h4 : b * (b - a) = (b - a) * b := Int.mul_comm _ _
        omega
  · exact ok
theorem meet_far {p s q t n m D R S B : Int} (p0 : -R ≤ p) (p1 : p ≤ R) (q0 : -R ≤ q) (q1 : q ≤ R) (s0 : -S ≤ s) (s1 : s ≤ S) (sz : s ≠ 0) (t0 : -S ≤ t) (t1 : t ≤ S) (tz : t ≠ 0) (D0 : -B ≤ D) (D1 : D ≤ B + 1) (B0 : 0 ≤ B)
    (n0 : 0 ≤ n) (m0 : 0 ≤ m) (e : p + n * s = q + m * t) (late : D ≤ n - m) (least : ∀ n' m', 0 ≤ n' → n' < n → 0 ≤ m' → m' ≤ m → p + n' * s = q + m' * t → ¬ D ≤ n' - m') : n ≤ 2 * R + B * S + S := by
  have mono : ∀ {u v : Int}, 0 ≤ u → 0 < v → u ≤ u * v := fun {u v} h0 h1 => by
    have := Int.mul_le_mul_of_nonneg_left (show (1 : Int) ≤ v by omega) h0
    omega
  have nn : ∀ u v : Int, u * (0 - v) = 0 - u * v := fun u v => by rw [Int.mul_sub, Int.mul_zero]
  have BS : 0 ≤ B * S := Int.mul_nonneg B0 (by omega)
  rcases Int.lt_or_le 0 s with hs | hs
  · rcases Int.lt_or_le 0 t with ht | ht
    · exact meet_sm (a := s) (b := t) (g := q - p) hs s1 ht t1 (by omega) (by omega) D0 D1 B0 n0 m0 (by omega) late fun n' m' a1 a2 a3 a4 a5 => least n' m' a1 a2 a3 a4 (by omega)
    · have e2 := nn m t
      have h1 := mono n0 hs
      have h2 := Int.mul_nonneg m0 (show 0 ≤ 0 - t by omega)
      omega
  · rcases Int.lt_or_le 0 t with ht | ht
    · have e2 := nn n s
      have h1 := mono n0 (show 0 < 0 - s by omega)
      have h2 := Int.mul_nonneg m0 (show 0 ≤ t by omega)
      omega
    · exact meet_sm (a := 0 - s) (b := 0 - t) (g := p - q) (by omega) (by omega) (by omega) (by omega) (by omega) (by omega) D0 D1 B0 n0 m0 (by rw [nn, nn]; omega) late fun n' m' a1 a2 a3 a4 a5 => least n' m' a1 a2 a3 a4 (by rw [nn, nn] at a5; omega)
/-- the numbers of these painters are within R, S and B -/
structure Within (qs : List Quad) (R S B : Int) : Prop where
  p0 : ∀ q ∈ qs, -R ≤ q.2.2.1 ∧ q.2.2.1 ≤ R
  s0 : ∀ q ∈ qs, -S ≤ q.2.2.2 ∧ q.2.2.2 ≤ S
  sz : ∀ q ∈ qs, q.2.2.2 ≠ 0
  d0 : ∀ q ∈ qs, 0 ≤ q.2.1 ∧ q.2.1 ≤ B
theorem hist_far {qs : List Quad} {Cn : Nat → Option Int} {R S B : Int} (wi : Within qs R S B) (h : IsHist qs.length (dQ qs) (fSP qs) Cn) {i : Nat} {c : Int} (hi : i < qs.length) (e : Cn i = some c) : dQ qs i + c ≤ 2 * R + S * B + S + B := by
  have l := h i hi
  rw [e] at l
  obtain ⟨c0, ⟨j, hj, m, m0, sp, lt, o⟩, least⟩ := l
  have gi : qs[i]? = some qs[i] := List.getElem?_eq_getElem hi
  have gj : qs[j]? = some qs[j] := List.getElem?_eq_getElem hj
  have mi := List.getElem_mem hi
  have mj := List.getElem_mem hj
  obtain ⟨_, d1, d2, d3⟩ := q_at gi
  obtain ⟨_, d4, d5, d6⟩ := q_at gj
  have i1 := wi.d0 _ mi
  have i2 := wi.p0 _ mi
  have i3 := wi.s0 _ mi
  have j1 := wi.d0 _ mj
  have j2 := wi.p0 _ mj
  have j3 := wi.s0 _ mj
  obtain ⟨D, hD⟩ : ∃ D : Int, D = dQ qs j - dQ qs i + (if j < i then 0 else 1) := ⟨_, rfl⟩
  have lat : ∀ n k : Int, (dQ qs j + k < dQ qs i + n ∨ dQ qs j + k = dQ qs i + n ∧ j < i) ↔ D ≤ n - k := fun n k => by
    rw [hD]
    split
    · constructor
      · intro z; omega
      · intro z; omega
    · constructor
      · intro z; omega
      · intro z; omega
  have Db : -B ≤ D ∧ D ≤ B + 1 := by
    rw [hD, d1, d4]
    split <;> omega
  have key := meet_far (p := pQ qs i) (s := sQ qs i) (q := pQ qs j) (t := sQ qs j) (D := D) (R := R) (S := S) (B := B) (by omega) (by omega) (by omega) (by omega) (by omega) (by omega) (by rw [d3]; exact wi.sz _ mi) (by omega) (by omega) (by rw [d6]; exact wi.sz _ mj) Db.1 Db.2 (by omega) c0 m0 sp ((lat _ _).mp o) fun n' m' a1 a2 a3 a4 a5 a6 =>
    least n' a1 a2 ⟨j, hj, m', a3, a5, fun x ex => by have := lt x ex; omega, (lat _ _).mpr a6⟩
  rw [Int.mul_comm S B]
  omega
end Ur
/-! UrDu: d.update(e) of two dicts; max of a list of whole numbers. -/
namespace Ur
open PySem PySem.Spec PyProof.Rows L2
section
variable {X : Cx}
def rUpdD : V → List V → Hp → VK → Prop := fun x vs H Q => ∃ d o kvs more, x = .ref d ∧ vs = [.ref o] ∧ d ≠ o ∧ H d = some (.dK kvs) ∧ H o = some (.dK more) ∧ kvs.length + more.length ≤ sizeLine ∧ Q .non (upd H d (.dK (mergeK kvs more)))
theorem mt_updD : MtM X "dict.update" rUpdD := by
  intro pins s σ H x vs v us Q I rx rv h
  obtain ⟨d, o, kvs, more, rfl, rfl, hdo, hD, hO, hz, q⟩ := h
  cases rx
  obtain ⟨u, rfl, ru⟩ := rv.one
  cases ru
  obtain ⟨z1, n1, v1, r1, d1⟩ := dk_of I.hok hD
  obtain ⟨z2, n2, v2, r2, d2⟩ := dk_of I.hok hO
  refine call_meetsIn PySem.F.slot_dict_update d1.typeIs PySem.F.entry_dict_update (PySem.F.args_dict_update_1 _) (meets_dict_update (mixKind X.prog X.w) d o hdo n2) ⟨v1, v2, d1, d2, by rw [← r1.length, ← r2.length]; exact hz, fun h' g1 g2 sb => ?_⟩
  refine ⟨.non, _, d_write (t' := s.toks) I (by rw [hD]; exact True.intro) sb (let ⟨q, _, _, hq, _⟩ := g1; ⟨q, hq⟩) (dk_new ?_ n1 (KV.merge r2 r1) g1), rfl, q⟩
  · exact Nat.le_trans (length_mergeK more kvs) hz
def rMaxI (K : PySem.W.Frag) : List V → Hp → VK → Prop := fun vs H Q => ∃ (a : Addr) (ns : List Int), vs = [V.ref a] ∧ SqL K H a (ns.map V.int) ∧ ns ≠ [] ∧ ∀ m, m ∈ ns → (∀ z ∈ ns, z ≤ m) → Q (.int m) H
theorem max_first (y : Int) : ∀ ys : List Int, PySem.W.maxOf y ys ∈ y :: ys ∧ ∀ z ∈ y :: ys, z ≤ PySem.W.maxOf y ys := by
  intro ys
  induction ys generalizing y with
  | nil =>
    refine ⟨List.mem_cons_self, fun z hz => ?_⟩
    obtain rfl := List.mem_singleton.mp hz
    exact Int.le_refl _
  | cons z ys ih =>
    have step : PySem.W.maxOf y (z :: ys) = PySem.W.maxOf (if decide (y < z) = true then z else y) ys := rfl
    rw [step]
    by_cases c : y < z
    · rw [if_pos (decide_eq_true c)]
      obtain ⟨h1, h2⟩ := ih z
      refine ⟨List.mem_cons_of_mem _ h1, fun x hx => ?_⟩
      rcases List.mem_cons.mp hx with rfl | hx
      · have := h2 z List.mem_cons_self
        omega
      · exact h2 x hx
    · rw [if_neg (by simpa using c)]
      obtain ⟨h1, h2⟩ := ih y
      refine ⟨?_, fun x hx => ?_⟩
      · rcases List.mem_cons.mp h1 with e | h1
        · rw [e]
          exact List.mem_cons_self
        · exact List.mem_cons_of_mem _ (List.mem_cons_of_mem _ h1)
      · rcases List.mem_cons.mp hx with rfl | hx
        · exact h2 x List.mem_cons_self
        · rcases List.mem_cons.mp hx with rfl | hx
          · have := h2 y List.mem_cons_self
            omega
          · exact h2 x (List.mem_cons_of_mem _ hx)
theorem cr_maxI (hc : X.calm = true) (hu : X.A.units + 64 < cLine) : CallR X (.builtin "max") (rMaxI X.K) := by
  intro pins s σ H vs us Q I r h
  obtain ⟨a, ns, rfl, hs, ne, q⟩ := h
  obtain ⟨its, rv, hl, _⟩ := I.list hs
  obtain rfl := Vals.ref1 r
  have HA : PySem.W.HoldAll s.heap its ns := hold_ints rv
  cases ns with
  | nil => exact absurd rfl ne
  | cons k0 ks0 =>
    refine PySem.W.max_list_datum (x := k0) (xs := ks0) (I.ok.hd hc) hl.isList (by rw [List.toList_toArray]; exact HA) (by show X.A.units + 1 + 0 < cLine; omega) fun i v h' tk hi hy hk => ?_
    have hi' : its[i]? = some v := by simpa using hi
    obtain ⟨z, hz, hvz⟩ := HA.at hi'
    have em := holds_uniq (hvz.keeps hk) hy
    have hl : i < ((k0 :: ks0).map V.int).length := by rw [rv.length]; exact (List.getElem?_eq_some_iff.mp hi').1
    obtain ⟨u, hu1, hu2⟩ := rv.get (List.getElem?_eq_getElem hl)
    rw [hi'] at hu1
    cases hu1
    have e3 : ((k0 :: ks0).map V.int)[i]? = some (V.int z) := by rw [List.getElem?_map, hz]; rfl
    rw [List.getElem?_eq_getElem hl] at e3
    rw [Option.some.inj e3] at hu2
    have sp := max_first k0 ks0
    rw [← em] at sp
    exact ⟨.int z, H, I.kept hk, hu2, q z sp.1 sp.2⟩
end
end Ur
/-! JG: the far day (_law_far_day). -/
namespace Ur
open PySem PySem.Spec PyProof.Rows L2
end Ur
/-! WC: the far day of the laws of counts (_law_far_date). -/
namespace Ur
open PySem PySem.Spec PyProof.Rows L2
abbrev s__law_far_date : Stmt := (topS 66)
abbrev N_sc__law_far_date : List Str := ["_law_painters", "_law_reach", "_law_painter", "_law_speed", "_law_late"]
abbrev P__law_far_date : List Str := ["_law_painters"]
theorem sc__law_far_date : FnScope N_sc__law_far_date P__law_far_date (defScope s__law_far_date) := ⟨rfl, rfl, rfl, by decide +kernel, rfl, by decide +kernel, by decide +kernel⟩
def abI (x : Int) : Int := if x < 0 then -x else x
def spFarD (K : PySem.W.Frag) : Sp := fun vs H Q _ => ∃ (F : Addr) (ts : List Addr) (qs : List Quad), vs = [.ref F] ∧ SqL K H F (ts.map V.ref) ∧ Team H ts qs ∧ (∀ q ∈ qs, SmallR q.2.1 q.2.2.1 q.2.2.2) ∧ qs ≠ [] ∧
  ∀ R S B H', Within qs R S B → 0 ≤ R → R ≤ 8 → 0 ≤ S → S ≤ 6 → 0 ≤ B → B ≤ 6 → Same H H' → Q (.int (2 * R + S * B + 2 * S + B + 2)) H'
section
variable {P : Program} {w : World} {K : PySem.W.Frag} {mg : Str → Option Value} {base : Heap}
set_option maxHeartbeats 16000000 in
theorem ok_farD (D : Dfn K mg "_law_far_date" s__law_far_date P__law_far_date) (B : Blt mg) : Cal P w K mg base 1 "_law_far_date" P__law_far_date (spFarD K) := by
  refine D.cal sc__law_far_date (fun vs H Q E h => ?_) fun f cdv A outer s H vs Q E hr h => ?_
  · obtain ⟨F, ts, qs, rfl, _⟩ := h
    rfl
  obtain ⟨F, ts, qs, rfl, hF, tm, sm, ne, q⟩ := h
  have tl : ts.length = qs.length := tm.len
  have few := tm.few
  refine ⟨_, (pss_cons (ps_set (i := 1) sc__law_far_date.nd rfl (Or.inl rfl) (pe_callB (cr_maxI rfl hr.units) rfl B.max_ (by decide +kernel) (pa_cons (pe_lc (own := [("_law_painter", 2)]) (g := gName 2) (tt := tYes) rfl sc__law_far_date.nd (pi_list (pv 0)) (blkOk_by (N := N_sc__law_far_date) (sc := defScope s__law_far_date) (by decide +kernel)) (fun _ _ _ _ _ => pg_name (i := 2) sc__law_far_date.nd rfl (Or.inl rfl)) (fun _ _ _ _ _ => pts_nil) (fun _ _ _ _ _ => (pe_callB call_abs rfl B.abs_ (by decide +kernel) (pa_cons (pe_ix (show IxR _ (rIxT K) from ix_tup) (pv 2) pe_int (fun _ _ => rfl)) pa_nil)))) pa_nil))) (pss_cons (ps_set (i := 3) sc__law_far_date.nd rfl (Or.inl rfl) (pe_callB (cr_maxI rfl hr.units) rfl B.max_ (by decide +kernel) (pa_cons (pe_lc (own := [("_law_painter", 2)]) (g := gName 2) (tt := tYes) rfl sc__law_far_date.nd (pi_list (pv 0)) (blkOk_by (N := N_sc__law_far_date) (sc := defScope s__law_far_date) (by decide +kernel)) (fun _ _ _ _ _ => pg_name (i := 2) sc__law_far_date.nd rfl (Or.inl rfl)) (fun _ _ _ _ _ => pts_nil) (fun _ _ _ _ _ => (pe_callB call_abs rfl B.abs_ (by decide +kernel) (pa_cons (pe_ix (show IxR _ (rIxT K) from ix_tup) (pv 2) pe_int (fun _ _ => rfl)) pa_nil)))) pa_nil))) (pss_cons (ps_set (i := 4) sc__law_far_date.nd rfl (Or.inl rfl) (pe_callB (cr_maxI rfl hr.units) rfl B.max_ (by decide +kernel) (pa_cons (pe_lc (own := [("_law_painter", 2)]) (g := gName 2) (tt := tYes) rfl sc__law_far_date.nd (pi_list (pv 0)) (blkOk_by (N := N_sc__law_far_date) (sc := defScope s__law_far_date) (by decide +kernel)) (fun _ _ _ _ _ => pg_name (i := 2) sc__law_far_date.nd rfl (Or.inl rfl)) (fun _ _ _ _ _ => pts_nil) (fun _ _ _ _ _ => (pe_ix (show IxR _ (rIxT K) from ix_tup) (pv 2) pe_int (fun _ _ => rfl)))) pa_nil))) (pss_one (ps_ret (pe_op op_add (pe_op op_add (pe_op op_add (pe_op op_add (pe_op op_mul pe_int (pv 1)) (pe_op op_mul (pv 3) (pv 4))) (pe_op op_mul pe_int (pv 3))) (pv 4)) pe_int)))))), ?_⟩
  have s0 := Same.refl H
  refine ⟨_, rfl, F, rfl, ⟨_, same_sql s0 hF⟩, fun G1 nG1 => ?_⟩
  refine lc_list (K := K) (a := F) (xs := ts.map V.ref) (fun i H' => H' G1 = some (.lst (((qs.take i).map fun q => abI q.2.2.1).map V.int)) ∧ Same H H') ⟨upd_same, same_new nG1 _⟩ (fun i H' _ h => same_sql (s0.trans h.2) hF) ?_ ?_
  · rintro i v H' ev ⟨hG, s'⟩
    obtain ⟨t, qd, rfl, et, eq, ht, ok⟩ := tm.get ev
    refine ⟨rfl, _, rfl, t, _, _, _, rfl, rfl, SqT.of (s' _ _ (s0 _ _ ht)), atI_nat (j := 2) rfl, _, rfl, _, hG, ?_, ?_, sameAt s' nG1⟩
    · rw [List.length_map, List.length_map, List.length_take]
      exact Nat.lt_of_le_of_lt (Nat.le_trans (Nat.min_le_right _ _) few) (by decide)
    · rw [upd_same, take_snoc eq, List.map_append, List.map_append]
      rfl
  rintro H1 ⟨hG1, w1⟩
  rw [List.length_map, tl, List.take_length] at hG1
  have s1 := s0.trans w1
  refine ⟨G1, _, rfl, SqL.of hG1, (fun z => ne (List.map_eq_nil_iff.mp z)), fun m1 in1 le1 => ?_⟩
  refine ⟨_, rfl, F, rfl, ⟨_, same_sql s1 hF⟩, fun G2 nG2 => ?_⟩
  refine lc_list (K := K) (a := F) (xs := ts.map V.ref) (fun i H' => H' G2 = some (.lst (((qs.take i).map fun q => abI q.2.2.2).map V.int)) ∧ Same H1 H') ⟨upd_same, same_new nG2 _⟩ (fun i H' _ h => same_sql (s1.trans h.2) hF) ?_ ?_
  · rintro i v H' ev ⟨hG, s'⟩
    obtain ⟨t, qd, rfl, et, eq, ht, ok⟩ := tm.get ev
    refine ⟨rfl, _, rfl, t, _, _, _, rfl, rfl, SqT.of (s' _ _ (s1 _ _ ht)), atI_nat (j := 3) rfl, _, rfl, _, hG, ?_, ?_, sameAt s' nG2⟩
    · rw [List.length_map, List.length_map, List.length_take]
      exact Nat.lt_of_le_of_lt (Nat.le_trans (Nat.min_le_right _ _) few) (by decide)
    · rw [upd_same, take_snoc eq, List.map_append, List.map_append]
      rfl
  rintro H2 ⟨hG2, w2⟩
  rw [List.length_map, tl, List.take_length] at hG2
  have s2 := s1.trans w2
  refine ⟨G2, _, rfl, SqL.of hG2, (fun z => ne (List.map_eq_nil_iff.mp z)), fun m2 in2 le2 => ?_⟩
  refine ⟨_, rfl, F, rfl, ⟨_, same_sql s2 hF⟩, fun G3 nG3 => ?_⟩
  refine lc_list (K := K) (a := F) (xs := ts.map V.ref) (fun i H' => H' G3 = some (.lst (((qs.take i).map fun q => q.2.1).map V.int)) ∧ Same H2 H') ⟨upd_same, same_new nG3 _⟩ (fun i H' _ h => same_sql (s2.trans h.2) hF) ?_ ?_
  · rintro i v H' ev ⟨hG, s'⟩
    obtain ⟨t, qd, rfl, et, eq, ht, ok⟩ := tm.get ev
    refine ⟨rfl, _, rfl, t, _, _, _, rfl, rfl, SqT.of (s' _ _ (s2 _ _ ht)), atI_nat (j := 1) rfl, _, hG, ?_, ?_, sameAt s' nG3⟩
    · rw [List.length_map, List.length_map, List.length_take]
      exact Nat.lt_of_le_of_lt (Nat.le_trans (Nat.min_le_right _ _) few) (by decide)
    · rw [upd_same, take_snoc eq, List.map_append, List.map_append]
      rfl
  rintro H3 ⟨hG3, w3⟩
  rw [List.length_map, tl, List.take_length] at hG3
  have s3 := s2.trans w3
  refine ⟨G3, _, rfl, SqL.of hG3, (fun z => ne (List.map_eq_nil_iff.mp z)), fun m3 in3 le3 => ?_⟩
  have wi : Within qs m1 m2 m3 := by
    refine ⟨fun z hz => ?_, fun z hz => ?_, fun z hz => ?_, fun z hz => ?_⟩
    · have := le1 _ (List.mem_map_of_mem hz)
      unfold abI at this
      split at this <;> omega
    · have := le2 _ (List.mem_map_of_mem hz)
      unfold abI at this
      split at this <;> omega
    · have := sm z hz
      unfold SmallR at this
      omega
    · have := le3 _ (List.mem_map_of_mem hz)
      have h := sm z hz
      unfold SmallR at h
      omega
  have b1 : 0 ≤ m1 ∧ m1 ≤ 8 := by
    obtain ⟨z, hz, e⟩ := List.mem_map.mp in1
    have h := sm z hz
    unfold SmallR at h
    unfold abI at e
    split at e <;> omega
  have b2 : 0 ≤ m2 ∧ m2 ≤ 6 := by
    obtain ⟨z, hz, e⟩ := List.mem_map.mp in2
    have h := sm z hz
    unfold SmallR at h
    unfold abI at e
    split at e <;> omega
  have b3 : 0 ≤ m3 ∧ m3 ≤ 6 := by
    obtain ⟨z, hz, e⟩ := List.mem_map.mp in3
    have h := sm z hz
    unfold SmallR at h
    omega
  refine ⟨_, rfl, _, _, rfl, rfl, .inl (by omega), _, rfl, _, rfl, _, _, rfl, rfl, .inl (by omega), _, _, rfl, rfl, _, rfl, _, _, rfl, rfl, .inl (by omega), _, _, rfl, rfl, _, rfl, _, _, rfl, rfl, _, _, rfl, rfl, ?_⟩
  exact q m1 m2 m3 H3 wi b1.1 b1.2 b2.1 b2.2 b3.1 b3.2 s3
end
end Ur
/-! JH: there is a history. -/
namespace Ur
open PySem PySem.Spec PyProof.Rows L2
section
variable {N : Nat} {d : Nat → Int} {SP : SPt}
/-- the place of a coming in the order of days and of the list -/
def keyN (N : Nat) (d : Nat → Int) (i : Nat) (n : Int) : Nat := (d i + n).toNat * N + i
theorem exists_hist (N : Nat) (d : Nat → Int) (SP : SPt) (d0 : ∀ i, i < N → 0 ≤ d i) : ∃ Cn, IsHist N d SP Cn := by
  -- who paints, by the key
  have ex : ∃ Pt : Nat → Int → Prop, ∀ i n, i < N → 0 ≤ n → (Pt i n ↔ ∀ n', 0 ≤ n' → n' ≤ n → ¬ ∃ j m, j < N ∧ 0 ≤ m ∧ SP i n' j m ∧ Pt j m ∧ (d j + m < d i + n' ∨ d j + m = d i + n' ∧ j < i)) := by
    let F : (k : Nat) → ((k' : Nat) → k' < k → Nat → Int → Prop) → Nat → Int → Prop := fun k rec i n => ∀ n', 0 ≤ n' → n' ≤ n → ¬ ∃ j m, j < N ∧ 0 ≤ m ∧ SP i n' j m ∧ (∃ h : keyN N d j m < k, rec (keyN N d j m) h j m) ∧ (d j + m < d i + n' ∨ d j + m = d i + n' ∧ j < i)
    let G : Nat → Nat → Int → Prop := Nat.lt_wfRel.wf.fix F
    have eG : ∀ k, G k = F k fun k' _ => G k' := fun k => WellFounded.fix_eq _ F k
    refine ⟨fun i n => G (keyN N d i n) i n, fun i n hi n0 => ?_⟩
    have di := d0 i hi
    show G (keyN N d i n) i n ↔ _
    rw [eG]
    show (∀ n', 0 ≤ n' → n' ≤ n → ¬ ∃ j m, j < N ∧ 0 ≤ m ∧ SP i n' j m ∧ (∃ h : keyN N d j m < keyN N d i n, G (keyN N d j m) j m) ∧ (d j + m < d i + n' ∨ d j + m = d i + n' ∧ j < i)) ↔ _
    refine forall_congr' fun n' => forall_congr' fun n0' => forall_congr' fun nn => not_congr (exists_congr fun j => exists_congr fun m => ?_)
    constructor
    · rintro ⟨hj, m0, sp, ⟨_, g⟩, o⟩
      exact ⟨hj, m0, sp, g, o⟩
    · rintro ⟨hj, m0, sp, g, o⟩
      refine ⟨hj, m0, sp, ⟨?_, g⟩, o⟩
      have dj := d0 j hj
      have h1 : (d j + m).toNat * N + j < (d i + n').toNat * N + i := key_lt hi hj (by
        rcases o with o | ⟨o, p⟩
        · exact .inl (by omega)
        · exact .inr ⟨by omega, p⟩)
      have h2 := Nat.mul_le_mul_right N (show (d i + n').toNat ≤ (d i + n).toNat by omega)
      show (d j + m).toNat * N + j < (d i + n).toNat * N + i
      omega
  obtain ⟨Pt, hP⟩ := ex
  have cn : ∀ i, ∃ r, Least (fun n => ∃ j m, j < N ∧ 0 ≤ m ∧ SP i n j m ∧ Pt j m ∧ (d j + m < d i + n ∨ d j + m = d i + n ∧ j < i)) r := fun i => by
    by_cases c : ∃ n : Nat, ∃ j m, j < N ∧ 0 ≤ m ∧ SP i n j m ∧ Pt j m ∧ (d j + m < d i + n ∨ d j + m = d i + n ∧ j < i)
    · obtain ⟨n, hn⟩ := c
      induction n using Nat.strongRecOn with
      | _ n ih =>
        by_cases e : ∃ m : Nat, m < n ∧ ∃ j m', j < N ∧ 0 ≤ m' ∧ SP i m j m' ∧ Pt j m' ∧ (d j + m' < d i + m ∨ d j + m' = d i + m ∧ j < i)
        · obtain ⟨m, lt, hm⟩ := e
          exact ih m lt hm
        · refine ⟨some n, by omega, hn, fun m m0 ml pm => e ⟨m.toNat, by omega, by rw [Int.toNat_of_nonneg m0]; exact pm⟩⟩
    · exact ⟨none, fun n n0 pn => c ⟨n.toNat, by rw [Int.toNat_of_nonneg n0]; exact pn⟩⟩
  refine ⟨fun i => (cn i).choose, fun i hi => ?_⟩
  have sp : ∀ j m, j < N → 0 ≤ m → (Pt j m ↔ ∀ c, (cn j).choose = some c → m < c) := fun j m hj m0 => by
    rw [hP j m hj m0]
    have l := (cn j).choose_spec
    constructor
    · intro h c ec
      rw [ec] at l
      by_cases z : m < c
      · exact z
      · exact absurd l.2.1 (h c l.1 (by omega))
    · intro h n' n0 nn b
      cases ec : (cn j).choose with
      | none =>
        rw [ec] at l
        exact l n' n0 b
      | some c =>
        rw [ec] at l
        exact l.2.2 n' n0 (by have := h c ec; omega) b
  have l := (cn i).choose_spec
  refine Least.congr (fun n n0 => ?_) l
  constructor
  · rintro ⟨j, m, hj, m0, s, p, o⟩
    exact ⟨j, hj, m, m0, s, (sp j m hj m0).mp p, o⟩
  · rintro ⟨j, hj, m, m0, s, p, o⟩
    exact ⟨j, m, hj, m0, s, (sp j m hj m0).mpr p, o⟩
/-- and everybody who stops has a blocker -/
theorem exists_blkr {Cn : Nat → Option Int} (h : IsHist N d SP Cn) : ∃ Bn, Blkr N SP Cn Bn := by
  have ex : ∀ i, ∃ j, ∀ c, i < N → Cn i = some c → j < N ∧ ∃ m, 0 ≤ m ∧ SP i c j m ∧ Paints Cn j m := fun i => by
    by_cases hi : i < N
    · have l := h i hi
      cases e : Cn i with
      | none => exact ⟨0, fun c _ z => by cases z⟩
      | some c =>
        rw [e] at l
        obtain ⟨_, ⟨j, hj, m, m0, sp, pj, _⟩, _⟩ := l
        exact ⟨j, fun c' _ z => by
          obtain rfl := Option.some.inj z
          exact ⟨hj, m, m0, sp, pj⟩⟩
    · exact ⟨0, fun c z _ => absurd z hi⟩
  exact ⟨fun i => (ex i).choose, fun i c hi e => (ex i).choose_spec c hi e⟩
end
/-- the history of some painters -/
theorem hist_ex {qs : List Quad} {R S B : Int} (wi : Within qs R S B) (bd : 2 * R + S * B + S + B ≤ 10 ^ 70) : ∃ Cn Bn, HistC qs.length (dQ qs) (fSP qs) Cn Bn := by
  have d0 : ∀ i, i < qs.length → 0 ≤ dQ qs i := fun i hi => by
    have e1 : qs[i]? = some qs[i] := List.getElem?_eq_getElem hi
    rw [(q_at e1).2.1]
    exact (wi.d0 _ (List.getElem_mem hi)).1
  obtain ⟨Cn, hi⟩ := exists_hist qs.length (dQ qs) (fSP qs) d0
  obtain ⟨Bn, hb⟩ := exists_blkr hi
  refine ⟨Cn, Bn, hi, hb, fun i c h e => ?_⟩
  have l := hi i h
  rw [e] at l
  have f := hist_far wi hi h e
  have := d0 i h
  exact ⟨l.1, by omega⟩
end Ur
/-! JI: what a walk day by day knows. -/
namespace Ur
open PySem PySem.Spec PyProof.Rows L2
/-! ### dicts -/
theorem putK_new {kvs : List (Key × V)} {k : Key} {v : V} (h : valV kvs k = none) : putK kvs k v = kvs ++ [(k, v)] := by
  unfold putK
  rw [if_neg]
  rw [valV_any, h]
  decide
theorem valV_key {kvs : List (Key × V)} {k : Key} : valV kvs k = none ↔ k ∉ kvs.map (·.1) := by
  induction kvs with
  | nil => simp [valV_nil]
  | cons p r ih =>
    by_cases e : p.1 = k
    · rw [valV_pos e]
      simp [e]
    · rw [valV_neg e, ih, List.map_cons, List.mem_cons]
      exact ⟨fun h z => z.elim (fun z => e z.symm) h, fun h z => h (.inr z)⟩
theorem valV_merge : ∀ (more kvs : List (Key × V)) (k : Key), (more.map (·.1)).Nodup → valV (mergeK kvs more) k = match valV more k with | some v => some v | none => valV kvs k
  | [], kvs, k, _ => by rw [valV_nil]; rfl
  | p :: r, kvs, k, nd => by
    rw [List.map_cons] at nd
    obtain ⟨n1, n2⟩ := List.nodup_cons.mp nd
    show valV (mergeK (putK kvs p.1 p.2) r) k = _
    rw [valV_merge r _ k n2, valV_put]
    by_cases e : p.1 = k
    · subst e
      rw [valV_key.mpr n1, valV_pos rfl, if_pos rfl]
    · rw [valV_neg e, if_neg fun z => e z.symm]
/-- a dict of posts: who painted which, and when -/
structure Dic (H : Hp) (kvs : List (Key × V)) (qs : List Quad) (W : Nat → Int → Prop) : Prop where
  at_ : ∀ k n, W k n → ∃ u, valV kvs (Sum.inl (pQ qs k + n * sQ qs k)) = some (V.ref u) ∧ H u = some (.tup [.int (k : Int), .int (dQ qs k + n)])
  of_ : ∀ z v, valV kvs (Sum.inl z) = some v → ∃ k n, W k n ∧ pQ qs k + n * sQ qs k = z
section
variable {H H' : Hp} {kvs more : List (Key × V)} {qs : List Quad} {W W' W2 : Nat → Int → Prop}
theorem Dic.keep (h : Dic H kvs qs W) (k : ∀ b xs, H b = some (.tup xs) → H' b = some (.tup xs)) : Dic H' kvs qs W := ⟨fun i n w => let ⟨u, a, b⟩ := h.at_ i n w; ⟨u, a, k _ _ b⟩, h.of_⟩
theorem Dic.imp (h : Dic H kvs qs W) (e : ∀ k n, W k n ↔ W' k n) : Dic H kvs qs W' := ⟨fun k n w => h.at_ k n ((e k n).mpr w), fun z v q => let ⟨k, n, w, p⟩ := h.of_ z v q; ⟨k, n, (e k n).mp w, p⟩⟩
theorem Dic.none (e : ∀ k n, ¬ W k n) : Dic H [] qs W := ⟨fun k n w => absurd w (e k n), fun z v q => by cases q⟩
theorem Dic.put (h : Dic H kvs qs W) {k : Nat} {n : Int} {u : Addr} (no : valV kvs (Sum.inl (pQ qs k + n * sQ qs k)) = .none) (hu : H u = some (.tup [.int (k : Int), .int (dQ qs k + n)])) (e : ∀ i m, W' i m ↔ W i m ∨ i = k ∧ m = n) : Dic H (putK kvs (Sum.inl (pQ qs k + n * sQ qs k)) (V.ref u)) qs W' := by
  refine ⟨fun i m w => ?_, fun z v q => ?_⟩
  · rw [valV_put]
    rcases (e i m).mp w with w | ⟨rfl, rfl⟩
    · obtain ⟨u', a, b⟩ := h.at_ i m w
      rw [if_neg (fun z => by rw [z, no] at a; cases a)]
      exact ⟨u', a, b⟩
    · rw [if_pos rfl]
      exact ⟨u, rfl, hu⟩
  · rw [valV_put] at q
    by_cases c : (Sum.inl z : Key) = Sum.inl (pQ qs k + n * sQ qs k)
    · exact ⟨k, n, (e k n).mpr (.inr ⟨rfl, rfl⟩), (Sum.inl.inj c).symm⟩
    · rw [if_neg c] at q
      obtain ⟨i, m, w, p⟩ := h.of_ z v q
      exact ⟨i, m, (e i m).mpr (.inl w), p⟩
theorem Dic.merge (h : Dic H kvs qs W) (g : Dic H more qs W') (nd : (more.map (·.1)).Nodup) (ap : ∀ k n i m, W k n → W' i m → pQ qs k + n * sQ qs k ≠ pQ qs i + m * sQ qs i) (e : ∀ i m, W2 i m ↔ W i m ∨ W' i m) : Dic H (mergeK kvs more) qs W2 := by
  refine ⟨fun i m w => ?_, fun z v q => ?_⟩
  · rw [valV_merge _ _ _ nd]
    rcases (e i m).mp w with w | w
    · cases c : valV more (Sum.inl (pQ qs i + m * sQ qs i)) with
      | none => exact h.at_ i m w
      | some v =>
        obtain ⟨i', m', w', p⟩ := g.of_ _ _ c
        exact absurd p.symm (ap i m i' m' w w')
    · obtain ⟨u, a, b⟩ := g.at_ i m w
      rw [a]
      exact ⟨u, rfl, b⟩
  · rw [valV_merge _ _ _ nd] at q
    cases c : valV more (Sum.inl z) with
    | none =>
      rw [c] at q
      obtain ⟨i, m, w, p⟩ := h.of_ z v q
      exact ⟨i, m, (e i m).mpr (.inl w), p⟩
    | some v' =>
      obtain ⟨i, m, w, p⟩ := g.of_ z v' c
      exact ⟨i, m, (e i m).mpr (.inr w), p⟩
end
/-! ### what is known before a day -/
def pcT (qs : List Quad) (Cn : Nat → Option Int) (t : Int) (k : Nat) : Int := if t ≤ dQ qs k then 0 else match Cn k with | none => t - dQ qs k | some c => if t - dQ qs k < c then t - dQ qs k else c
def stT (qs : List Quad) (Cn : Nat → Option Int) (Bn : Nat → Nat) (t : Int) (k : Nat) : Option (Int × Int × Str) := match Cn k with | none => none | some c => if dQ qs k + c < t then some (dQ qs k + c, pQ qs k + c * sQ qs k, nQ qs (Bn k)) else none
def WpT (qs : List Quad) (Cn : Nat → Option Int) (t : Int) (k : Nat) (n : Int) : Prop := k < qs.length ∧ 0 ≤ n ∧ Paints Cn k n ∧ dQ qs k + n < t
def WfT (qs : List Quad) (Cn : Nat → Option Int) (t : Int) (j : Nat) (k : Nat) (n : Int) : Prop := k < j ∧ 0 ≤ n ∧ Paints Cn k n ∧ dQ qs k + n = t
section
variable {qs : List Quad} {Cn : Nat → Option Int} {Bn : Nat → Nat} {t : Int} {k : Nat}
theorem day_skipA (h : t < dQ qs k) (c0 : ∀ c, Cn k = some c → 0 ≤ c) : pcT qs Cn (t + 1) k = pcT qs Cn t k ∧ stT qs Cn Bn (t + 1) k = stT qs Cn Bn t k ∧ ∀ n, 0 ≤ n → dQ qs k + n ≠ t := by
  refine ⟨?_, ?_, fun n n0 z => by omega⟩
  · unfold pcT
    rw [if_pos (by omega), if_pos (by omega)]
  · unfold stT
    cases e : Cn k with
    | none => rfl
    | some c =>
      have := c0 c e
      show (if dQ qs k + c < t + 1 then _ else _) = if dQ qs k + c < t then _ else _
      rw [if_neg (by omega), if_neg (by omega)]
theorem day_skipB {c : Int} (e : Cn k = some c) (c0 : 0 ≤ c) (h : dQ qs k + c < t) : pcT qs Cn (t + 1) k = pcT qs Cn t k ∧ stT qs Cn Bn (t + 1) k = stT qs Cn Bn t k ∧ ∀ n, 0 ≤ n → Paints Cn k n → dQ qs k + n ≠ t := by
  refine ⟨?_, ?_, fun n n0 p z => by have := p c e; omega⟩
  · unfold pcT
    rw [if_neg (by omega), if_neg (by omega), e]
    show (if t + 1 - dQ qs k < c then _ else _) = if t - dQ qs k < c then _ else _
    rw [if_neg (by omega), if_neg (by omega)]
  · unfold stT
    rw [e]
    show (if dQ qs k + c < t + 1 then _ else _) = if dQ qs k + c < t then _ else _
    rw [if_pos (by omega), if_pos (by omega)]
theorem day_stop {c : Int} (e : Cn k = some c) (c0 : 0 ≤ c) (h : dQ qs k + c = t) : pcT qs Cn (t + 1) k = pcT qs Cn t k ∧ stT qs Cn Bn (t + 1) k = some (dQ qs k + c, pQ qs k + c * sQ qs k, nQ qs (Bn k)) ∧ ∀ n, 0 ≤ n → Paints Cn k n → dQ qs k + n ≠ t := by
  refine ⟨?_, ?_, fun n n0 p z => by have := p c e; omega⟩
  · unfold pcT
    rw [if_neg (by omega), e]
    show (if t + 1 - dQ qs k < c then t + 1 - dQ qs k else c) = if t ≤ dQ qs k then 0 else if t - dQ qs k < c then t - dQ qs k else c
    rw [if_neg (by omega)]
    split
    · omega
    · rw [if_neg (by omega)]
  · unfold stT
    rw [e]
    show (if dQ qs k + c < t + 1 then _ else _) = _
    rw [if_pos (by omega)]
theorem day_paint (h : dQ qs k ≤ t) (p : ∀ c, Cn k = some c → t - dQ qs k < c) : pcT qs Cn (t + 1) k = pcT qs Cn t k + 1 ∧ stT qs Cn Bn (t + 1) k = stT qs Cn Bn t k := by
  refine ⟨?_, ?_⟩
  · unfold pcT
    rw [if_neg (by omega)]
    cases e : Cn k with
    | none =>
      show t + 1 - dQ qs k = (if t ≤ dQ qs k then 0 else t - dQ qs k) + 1
      split <;> omega
    | some c =>
      have := p c e
      show (if t + 1 - dQ qs k < c then t + 1 - dQ qs k else c) = (if t ≤ dQ qs k then 0 else if t - dQ qs k < c then t - dQ qs k else c) + 1
      split <;> split <;> (try split) <;> omega
  · unfold stT
    cases e : Cn k with
    | none => rfl
    | some c =>
      have := p c e
      show (if dQ qs k + c < t + 1 then _ else _) = if dQ qs k + c < t then _ else _
      rw [if_neg (by omega), if_neg (by omega)]
/-- what stands at the post of the day is what blocks -/
theorem day_blocked (h : IsHist qs.length (dQ qs) (fSP qs) Cn) (hk : k < qs.length) (d : dQ qs k ≤ t) (p : ∀ c, Cn k = some c → t ≤ dQ qs k + c) {i : Nat} {m : Int} (w : WpT qs Cn t i m ∨ WfT qs Cn t k i m) (e : pQ qs i + m * sQ qs i = pQ qs k + (t - dQ qs k) * sQ qs k) : Cn k = some (t - dQ qs k) := by
  have b : HBlk qs.length (dQ qs) (fSP qs) Cn k (t - dQ qs k) := by
    rcases w with ⟨hi, m0, pm, lt⟩ | ⟨hi, m0, pm, eq⟩
    · exact ⟨i, hi, m, m0, e.symm, pm, .inl (by omega)⟩
    · exact ⟨i, by omega, m, m0, e.symm, pm, .inr ⟨by omega, hi⟩⟩
  have l := h k hk
  cases ec : Cn k with
  | none =>
    rw [ec] at l
    exact absurd b (l _ (by omega))
  | some c =>
    rw [ec] at l
    have h1 := p c ec
    rcases Int.lt_or_le (t - dQ qs k) c with z | z
    · exact absurd b (l.2.2 _ (by omega) z)
    · have : c = t - dQ qs k := by omega
      rw [this]
theorem day_free (h : IsHist qs.length (dQ qs) (fSP qs) Cn) (hk : k < qs.length) (d : dQ qs k ≤ t) (no : ∀ i m, WpT qs Cn t i m ∨ WfT qs Cn t k i m → pQ qs i + m * sQ qs i ≠ pQ qs k + (t - dQ qs k) * sQ qs k) : Cn k ≠ some (t - dQ qs k) := fun ec => by
  have l := h k hk
  rw [ec] at l
  obtain ⟨_, ⟨j, hj, m, m0, sp, pj, o⟩, _⟩ := l
  rcases o with o | ⟨o, jk⟩
  · exact no j m (.inl ⟨hj, m0, pj, by omega⟩) sp.symm
  · exact no j m (.inr ⟨jk, m0, pj, by omega⟩) sp.symm
end
/-! ### the heap of the walk -/
def tmT (t : Int) (j k : Nat) : Int := if k < j then t + 1 else t
structure WSt (qs : List Quad) (Cn : Nat → Option Int) (Bn : Nat → Nat) (H0 H : Hp) (Pd Cl Sl : Addr) (t : Int) (j L : Nat) : Prop where
  cl : ∃ cv : List V, H Cl = some (.lst cv) ∧ cv.length = qs.length ∧ ∀ k, k < qs.length → cv[k]? = some (.int (pcT qs Cn (tmT t j k) k))
  sl : ∃ sv : List V, H Sl = some (.lst sv) ∧ sv.length = qs.length ∧ ∀ k, k < qs.length → ∃ v, sv[k]? = some v ∧ StopAt H v (stT qs Cn Bn (tmT t j k) k)
  pd : ∃ kvs, H Pd = some (.dK kvs) ∧ Dic H kvs qs (WpT qs Cn t) ∧ kvs.length ≤ L
  ne : Cl ≠ Sl
  same : Same H0 H
def FrT (qs : List Quad) (Cn : Nat → Option Int) (H : Hp) (Fr : Addr) (t : Int) (j : Nat) : Prop := ∃ kvs, H Fr = some (.dK kvs) ∧ Dic H kvs qs (WfT qs Cn t j) ∧ (kvs.map (·.1)).Nodup ∧ kvs.length ≤ j
section
variable {qs : List Quad} {Cn : Nat → Option Int} {Bn : Nat → Nat} {H0 H H' : Hp} {Pd Cl Sl Fr : Addr} {t : Int} {j L : Nat}
theorem tm_self : tmT t j j = t := if_neg (by omega)
theorem tm_next (k : Nat) (h : k ≠ j) : tmT t (j + 1) k = tmT t j k := by
  unfold tmT
  by_cases c : k < j
  · rw [if_pos c, if_pos (by omega)]
  · rw [if_neg c, if_neg (by omega)]
theorem tm_new : tmT t (j + 1) j = t + 1 := if_pos (by omega)
theorem WSt.same_ (h : WSt qs Cn Bn H0 H Pd Cl Sl t j L) (s : Same H H') : WSt qs Cn Bn H0 H' Pd Cl Sl t j L := by
  obtain ⟨⟨cv, a1, a2, a3⟩, ⟨sv, b1, b2, b3⟩, ⟨kvs, c1, c2, c3⟩, ne, sm⟩ := h
  exact ⟨⟨cv, s _ _ a1, a2, a3⟩, ⟨sv, s _ _ b1, b2, fun k hk => let ⟨v, e, st⟩ := b3 k hk; ⟨v, e, st.keep fun b xs e => s _ _ e⟩⟩, ⟨kvs, s _ _ c1, c2.keep fun b xs e => s _ _ e, c3⟩, ne, sm.trans s⟩
theorem FrT.same_ (h : FrT qs Cn H Fr t j) (s : Same H H') : FrT qs Cn H' Fr t j := by
  obtain ⟨kvs, c1, c2, c3, c4⟩ := h
  exact ⟨kvs, s _ _ c1, c2.keep fun b xs e => s _ _ e, c3, c4⟩
/-- nothing new at this place -/
theorem WSt.skip (h : WSt qs Cn Bn H0 H Pd Cl Sl t j L) (e1 : pcT qs Cn (t + 1) j = pcT qs Cn t j) (e2 : stT qs Cn Bn (t + 1) j = stT qs Cn Bn t j) : WSt qs Cn Bn H0 H Pd Cl Sl t (j + 1) L := by
  obtain ⟨⟨cv, a1, a2, a3⟩, ⟨sv, b1, b2, b3⟩, pd, ne, sm⟩ := h
  refine ⟨⟨cv, a1, a2, fun k hk => ?_⟩, ⟨sv, b1, b2, fun k hk => ?_⟩, pd, ne, sm⟩
  · by_cases c : k = j
    · subst c
      rw [a3 k hk, tm_new, tm_self, e1]
    · rw [a3 k hk, tm_next k c]
  · by_cases c : k = j
    · subst c
      obtain ⟨v, e, st⟩ := b3 k hk
      rw [tm_self] at st
      exact ⟨v, e, by rw [tm_new, e2]; exact st⟩
    · rw [tm_next k c]
      exact b3 k hk
theorem wf_next (no : ∀ n, 0 ≤ n → Paints Cn j n → dQ qs j + n ≠ t) (k : Nat) (n : Int) : WfT qs Cn t j k n ↔ WfT qs Cn t (j + 1) k n := by
  constructor
  · rintro ⟨a, b⟩
    exact ⟨by omega, b⟩
  · rintro ⟨a, b, c, d⟩
    refine ⟨?_, b, c, d⟩
    by_cases e : k = j
    · subst e
      exact absurd d (no n b c)
    · omega
theorem FrT.skip (h : FrT qs Cn H Fr t j) (no : ∀ n, 0 ≤ n → Paints Cn j n → dQ qs j + n ≠ t) : FrT qs Cn H Fr t (j + 1) := by
  obtain ⟨kvs, c1, c2, c3, c4⟩ := h
  exact ⟨kvs, c1, c2.imp (wf_next no), c3, by omega⟩
/-- a stop is written -/
theorem WSt.stop (h : WSt qs Cn Bn H0 H Pd Cl Sl t j L) (nS : H0 Sl = none) {sv : List V} (hS : H Sl = some (.lst sv)) {u : Addr} {st : Int × Int × Str} (hu : H u = some (.tup [.int st.1, .int st.2.1, .str st.2.2])) (e1 : pcT qs Cn (t + 1) j = pcT qs Cn t j) (e2 : stT qs Cn Bn (t + 1) j = some st) : WSt qs Cn Bn H0 (upd H Sl (.lst (sv.set j (.ref u)))) Pd Cl Sl t (j + 1) L := by
  obtain ⟨⟨cv, a1, a2, a3⟩, ⟨sv', b1, b2, b3⟩, ⟨kvs, c1, c2, c3⟩, ne, sm⟩ := h
  rw [hS] at b1
  obtain rfl : sv = sv' := HO.lst.inj (Option.some.inj b1)
  have kt : ∀ b xs, H b = some (.tup xs) → upd H Sl (.lst (sv.set j (.ref u))) b = some (.tup xs) := fun b xs e => by
    rw [upd_ne (ne_of e hS (by intro z; cases z))]
    exact e
  refine ⟨⟨cv, by rw [upd_ne ne]; exact a1, a2, fun k hk => ?_⟩, ⟨_, upd_same, by rw [List.length_set]; exact b2, fun k hk => ?_⟩, ⟨kvs, by rw [upd_ne (ne_of c1 hS (by intro z; cases z))]; exact c1, c2.keep kt, c3⟩, ne, sameAt sm nS⟩
  · by_cases c : k = j
    · subst c
      rw [a3 k hk, tm_new, tm_self, e1]
    · rw [a3 k hk, tm_next k c]
  · by_cases c : k = j
    · subst c
      refine ⟨.ref u, List.getElem?_set_self (by omega), ?_⟩
      rw [tm_new, e2]
      obtain ⟨d, p, b⟩ := st
      exact ⟨u, rfl, kt _ _ hu⟩
    · obtain ⟨v, e, s⟩ := b3 k hk
      exact ⟨v, by rw [List.getElem?_set_ne (fun z => c z.symm)]; exact e, by rw [tm_next k c]; exact s.keep kt⟩
theorem FrT.updL (h : FrT qs Cn H Fr t j) {l : Addr} {xs : List V} {o : HO} (hl : H l = some (.lst xs)) : FrT qs Cn (upd H l o) Fr t j := by
  obtain ⟨kvs, c1, c2, c3, c4⟩ := h
  exact ⟨kvs, by rw [upd_ne (ne_of c1 hl (by intro z; cases z))]; exact c1, c2.keep fun b xs e => by rw [upd_ne (ne_of e hl (by intro z; cases z))]; exact e, c3, c4⟩
/-- a count is written -/
theorem WSt.count (h : WSt qs Cn Bn H0 H Pd Cl Sl t j L) (nC : H0 Cl = none) {cv : List V} (hC : H Cl = some (.lst cv)) (e1 : pcT qs Cn (t + 1) j = pcT qs Cn t j + 1) (e2 : stT qs Cn Bn (t + 1) j = stT qs Cn Bn t j) : WSt qs Cn Bn H0 (upd H Cl (.lst (cv.set j (.int (pcT qs Cn t j + 1))))) Pd Cl Sl t (j + 1) L := by
  obtain ⟨⟨cv', a1, a2, a3⟩, ⟨sv, b1, b2, b3⟩, ⟨kvs, c1, c2, c3⟩, ne, sm⟩ := h
  rw [hC] at a1
  obtain rfl : cv = cv' := HO.lst.inj (Option.some.inj a1)
  have kt : ∀ b xs, H b = some (.tup xs) → upd H Cl (.lst (cv.set j (.int (pcT qs Cn t j + 1)))) b = some (.tup xs) := fun b xs e => by
    rw [upd_ne (ne_of e hC (by intro z; cases z))]
    exact e
  refine ⟨⟨_, upd_same, by rw [List.length_set]; exact a2, fun k hk => ?_⟩, ⟨sv, by rw [upd_ne (Ne.symm ne)]; exact b1, b2, fun k hk => ?_⟩, ⟨kvs, by rw [upd_ne (ne_of c1 hC (by intro z; cases z))]; exact c1, c2.keep kt, c3⟩, ne, sameAt sm nC⟩
  · by_cases c : k = j
    · subst c
      rw [List.getElem?_set_self (by omega), tm_new, e1]
    · rw [List.getElem?_set_ne (fun z => c z.symm), a3 k hk, tm_next k c]
  · obtain ⟨v, e, s⟩ := b3 k hk
    refine ⟨v, e, ?_⟩
    by_cases c : k = j
    · subst c
      rw [tm_self] at s
      rw [tm_new, e2]
      exact s.keep kt
    · rw [tm_next k c]
      exact s.keep kt
/-- a dict of its own changes -/
theorem WSt.updF (h : WSt qs Cn Bn H0 H Pd Cl Sl t j L) (nF : H0 Fr = none) (pf : Pd ≠ Fr) {kv kv' : List (Key × V)} (hF : H Fr = some (.dK kv)) : WSt qs Cn Bn H0 (upd H Fr (.dK kv')) Pd Cl Sl t j L := by
  obtain ⟨⟨cv, a1, a2, a3⟩, ⟨sv, b1, b2, b3⟩, ⟨kvs, c1, c2, c3⟩, ne, sm⟩ := h
  have kt : ∀ b xs, H b = some (.tup xs) → upd H Fr (.dK kv') b = some (.tup xs) := fun b xs e => by
    rw [upd_ne (ne_of e hF (by intro z; cases z))]
    exact e
  exact ⟨⟨cv, by rw [upd_ne (ne_of a1 hF (by intro z; cases z))]; exact a1, a2, a3⟩, ⟨sv, by rw [upd_ne (ne_of b1 hF (by intro z; cases z))]; exact b1, b2, fun k hk => let ⟨v, e, s⟩ := b3 k hk; ⟨v, e, s.keep kt⟩⟩, ⟨kvs, by rw [upd_ne pf]; exact c1, c2.keep kt, c3⟩, ne, sameAt sm nF⟩
end
end Ur
/-! WB: the walk day by day that keeps posts and days (_law_walked of the laws of counts). -/
namespace Ur
open PySem PySem.Spec PyProof.Rows L2
theorem inV_ints (z : Int) : ∀ ns : List Int, inV (.int z) (ns.map V.int) = decide (z ∈ ns)
  | [] => by simp [inV]
  | s :: ns => by
    have ih := inV_ints z ns
    unfold inV at ih ⊢
    rw [List.map_cons, List.any_cons, ih]
    by_cases e : s = z
    · subst e
      simp [eqV]
    · have e2 : ¬ z = s := fun q => e q.symm
      simp [eqV, e, e2]
def entI (e : Int × Int) : Key × V := (Sum.inl e.1, .int e.2)
theorem ent_keys (zs : List (Int × Int)) : (zs.map entI).map (·.1) = zs.map fun e => (Sum.inl e.1 : Key) := by
  rw [List.map_map]
  rfl
theorem ent_none {zs : List (Int × Int)} {z : Int} (h : z ∉ zs.map (·.1)) : valV (zs.map entI) (Sum.inl z) = none := by
  refine valV_key.mpr fun m => ?_
  rw [ent_keys] at m
  obtain ⟨e, he, q⟩ := List.mem_map.mp m
  exact h (List.mem_map.mpr ⟨e, he, Sum.inl.inj q⟩)
theorem ent_some : ∀ {zs : List (Int × Int)} {z d : Int}, (zs.map (·.1)).Nodup → (z, d) ∈ zs → valV (zs.map entI) (Sum.inl z) = some (.int d)
  | [], _, _, _, h => by cases h
  | (y, e) :: zs, z, d, nd, h => by
    rw [List.map_cons] at nd
    obtain ⟨n1, n2⟩ := List.nodup_cons.mp nd
    rw [List.map_cons]
    rcases List.mem_cons.mp h with q | q
    · obtain ⟨rfl, rfl⟩ := Prod.mk.inj q
      exact valV_pos rfl
    · rw [valV_neg (show ¬ (entI (y, e)).1 = Sum.inl z from fun w => n1 (by rw [Sum.inl.inj w]; exact List.mem_map.mpr ⟨(z, d), q, rfl⟩))]
      exact ent_some n2 q
theorem ent_isSome {zs : List (Int × Int)} {z : Int} (nd : (zs.map (·.1)).Nodup) : (valV (zs.map entI) (Sum.inl z)).isSome = decide (z ∈ zs.map (·.1)) := by
  by_cases c : z ∈ zs.map (·.1)
  · obtain ⟨⟨y, d⟩, he, rfl⟩ := List.mem_map.mp c
    rw [ent_some nd he, decide_eq_true c]
    rfl
  · rw [ent_none c, decide_eq_false c]
    rfl
theorem ent_merge : ∀ {ys zs : List (Int × Int)}, (ys.map (·.1)).Nodup → (∀ z ∈ ys.map (·.1), z ∉ zs.map (·.1)) → mergeK (zs.map entI) (ys.map entI) = (zs ++ ys).map entI
  | [], zs, _, _ => by
    rw [List.append_nil]
    rfl
  | (y, e) :: ys, zs, nd, ap => by
    rw [List.map_cons] at nd
    obtain ⟨n1, n2⟩ := List.nodup_cons.mp nd
    show mergeK (putK (zs.map entI) (Sum.inl y) (.int e)) (ys.map entI) = _
    rw [putK_new (ent_none (ap y List.mem_cons_self)), show zs.map entI ++ [((Sum.inl y : Key), V.int e)] = (zs ++ [(y, e)]).map entI by rw [List.map_append]; rfl]
    rw [ent_merge (zs := zs ++ [(y, e)]) n2 fun z hz => ?_, List.append_assoc]
    · rfl
    · rw [List.map_append]
      intro m
      rcases List.mem_append.mp m with m | m
      · exact ap z (List.mem_cons_of_mem _ hz) m
      · obtain rfl := List.mem_singleton.mp m
        exact n1 hz
/-- the posts and days of a dict -/
structure DZ (zs : List (Int × Int)) (qs : List Quad) (W : Nat → Int → Prop) : Prop where
  nd : (zs.map (·.1)).Nodup
  iff_ : ∀ z d, (z, d) ∈ zs ↔ ∃ k n, W k n ∧ pQ qs k + n * sQ qs k = z ∧ dQ qs k + n = d
/-- the posts of a day -/
structure FZ (fs : List Int) (qs : List Quad) (W : Nat → Int → Prop) : Prop where
  nd : fs.Nodup
  iff_ : ∀ z, z ∈ fs ↔ ∃ k n, W k n ∧ pQ qs k + n * sQ qs k = z
theorem iteBF2 {b : Bool} {A B : Prop} (hb : b = true) (h : B) : if (!b) = true then A else B := by
  rw [hb]
  exact iteF h
theorem iteBT2 {b : Bool} {A B : Prop} (hb : b = false) (h : A) : if (!b) = true then A else B := by
  rw [hb]
  exact iteT h
theorem iteK {b : Bool} {A B : Prop} (hb : b = true) (h : A) : if b = true then A else B := by
  rw [hb]
  exact iteT h
theorem iteKF {b : Bool} {A B : Prop} (hb : b = false) (h : B) : if b = true then A else B := by
  rw [hb]
  exact iteF h
theorem ints_flat (fs : List Int) : (fs.map V.int).all flatV = true := by
  induction fs with
  | nil => rfl
  | cons x r ih => rw [List.map_cons, List.all_cons, ih]; rfl
def haltB (qs : List Quad) (Cn : Nat → Option Int) (t : Int) (k : Nat) : Bool := match Cn k with
  | none => false
  | some c => decide (dQ qs k + c < t)
section
variable {qs : List Quad} {Cn : Nat → Option Int} {t : Int} {k : Nat}
theorem set_range {α : Type} {N j : Nat} {g g' : Nat → α} {v : α} (h : ∀ k, k ≠ j → g' k = g k) (e : g' j = v) : ((List.range N).map g).set j v = (List.range N).map g' := by
  refine List.ext_getElem? fun k => ?_
  by_cases hk : k < N
  · by_cases c : j = k
    · subst c
      rw [List.getElem?_set_self (by rw [List.length_map, List.length_range]; exact hk), List.getElem?_map, List.getElem?_range hk]
      show some v = some (g' j)
      rw [e]
    · rw [List.getElem?_set_ne c, List.getElem?_map, List.getElem?_map, List.getElem?_range hk]
      show some (g k) = some (g' k)
      rw [h k fun z => c z.symm]
  · rw [List.getElem?_eq_none (by rw [List.length_set, List.length_map, List.length_range]; omega), List.getElem?_eq_none (by rw [List.length_map, List.length_range]; omega)]
theorem DZ.nil_ {qs : List Quad} {W : Nat → Int → Prop} (h : ∀ k n, ¬ W k n) : DZ [] qs W := by
  refine ⟨List.nodup_nil, fun z d => ⟨fun m => (by cases m), ?_⟩⟩
  rintro ⟨k, n, w, _⟩
  exact absurd w (h k n)
theorem FZ.nil_ {qs : List Quad} {W : Nat → Int → Prop} (h : ∀ k n, ¬ W k n) : FZ [] qs W := by
  refine ⟨List.nodup_nil, fun z => ⟨fun m => (by cases m), ?_⟩⟩
  rintro ⟨k, n, w, _⟩
  exact absurd w (h k n)
theorem halt_iff : haltB qs Cn t k = true ↔ ∃ c, Cn k = some c ∧ dQ qs k + c < t := by
  unfold haltB
  cases e : Cn k with
  | none => simp
  | some c => simp
theorem DZ.key {zs : List (Int × Int)} {W : Nat → Int → Prop} (h : DZ zs qs W) (z : Int) : z ∈ zs.map (·.1) ↔ ∃ k n, W k n ∧ pQ qs k + n * sQ qs k = z := by
  constructor
  · intro m
    obtain ⟨⟨y, d⟩, he, rfl⟩ := List.mem_map.mp m
    obtain ⟨k, n, w, e, _⟩ := (h.iff_ y d).mp he
    exact ⟨k, n, w, e⟩
  · rintro ⟨k, n, w, rfl⟩
    exact List.mem_map.mpr ⟨(_, dQ qs k + n), (h.iff_ _ _).mpr ⟨k, n, w, rfl, rfl⟩, rfl⟩
/-- a day is over -/
theorem DZ.day {zs : List (Int × Int)} {fs : List Int} (is : IsHist qs.length (dQ qs) (fSP qs) Cn) (nz : ∀ k, k < qs.length → sQ qs k ≠ 0) (h : DZ zs qs (WpT qs Cn t)) (g : FZ fs qs (WfT qs Cn t qs.length)) :
    (∀ z ∈ (fs.map fun z => (z, t)).map (·.1), z ∉ zs.map (·.1)) ∧ ((fs.map fun z => (z, t)).map (·.1)).Nodup ∧ DZ (zs ++ fs.map fun z => (z, t)) qs (WpT qs Cn (t + 1)) := by
  have ek : (fs.map fun z => (z, t)).map (·.1) = fs := by
    rw [List.map_map]
    exact (List.map_congr_left fun x _ => rfl).trans (List.map_id fs)
  have ap : ∀ z ∈ fs, z ∉ zs.map (·.1) := fun z hz m => by
    obtain ⟨k, n, w, e⟩ := (h.key z).mp m
    obtain ⟨k', n', w', e'⟩ := (g.iff_ z).mp hz
    have e2 := paint_once is w.1 w'.1 w.2.1 w'.2.1 w.2.2.1 w'.2.2.1 (e.trans e'.symm) (e'.trans e.symm)
    subst e2
    have h1 := w.2.2.2
    have h2 := w'.2.2.2
    have e3 : n * sQ qs k = n' * sQ qs k := by omega
    have e4 := Int.eq_of_mul_eq_mul_right (nz k w.1) e3
    omega
  rw [ek]
  refine ⟨ap, g.nd, ?_, fun z d => ?_⟩
  · rw [List.map_append, ek]
    exact List.nodup_append.mpr ⟨h.nd, g.nd, fun a ha b hb e => ap b hb (e ▸ ha)⟩
  · rw [List.mem_append, h.iff_]
    constructor
    · rintro (⟨k, n, ⟨a, b, c, d'⟩, e1, e2⟩ | m)
      · exact ⟨k, n, ⟨a, b, c, by omega⟩, e1, e2⟩
      · obtain ⟨y, hy, q⟩ := List.mem_map.mp m
        obtain ⟨rfl, rfl⟩ := Prod.mk.inj q
        obtain ⟨k, n, ⟨a, b, c, d'⟩, e⟩ := (g.iff_ y).mp hy
        exact ⟨k, n, ⟨a, b, c, by omega⟩, e, d'⟩
    · rintro ⟨k, n, ⟨a, b, c, d'⟩, e1, e2⟩
      by_cases z' : dQ qs k + n = t
      · exact .inr (List.mem_map.mpr ⟨z, (g.iff_ z).mpr ⟨k, n, ⟨a, b, c, z'⟩, e1⟩, by rw [← e2, z']⟩)
      · exact .inl ⟨k, n, ⟨a, b, c, by omega⟩, e1, e2⟩
end
abbrev s__law_walked : Stmt := (topS 67)
abbrev N_sc__law_walked : List Str := ["_law_painters", "_law_until", "_law_painted", "_law_halted", "_law_date", "_law_fresh", "_law_k", "_law_post"]
abbrev P__law_walked : List Str := ["_law_painters", "_law_until"]
theorem sc__law_walked : FnScope N_sc__law_walked P__law_walked (defScope s__law_walked) := ⟨rfl, rfl, rfl, by decide +kernel, rfl, by decide +kernel, by decide +kernel⟩
def spWalkP (K : PySem.W.Frag) : Sp := fun vs H Q _ => ∃ (F : Addr) (ts : List Addr) (qs : List Quad) (R S B : Int) (far : Nat), vs = [.ref F, .int (far : Int)] ∧ SqL K H F (ts.map V.ref) ∧ Team H ts qs ∧ qs.length ≤ 6 ∧ far ≤ 300 ∧ Within qs R S B ∧ 2 * R + S * B + S + B ≤ far ∧ R ≤ 8 ∧ S ≤ 6 ∧ 0 ≤ B ∧
  ∀ (u Hl Pd : Addr) (Cn : Nat → Option Int) (Bn : Nat → Nat) (zs : List (Int × Int)) (H' : Hp), HistC qs.length (dQ qs) (fSP qs) Cn Bn → H' u = some (.tup [.ref Hl, .ref Pd]) → H' Hl = some (.lst ((List.range qs.length).map fun k => V.bl (haltB qs Cn ((far : Int) + 1) k))) → H' Pd = some (.dK (zs.map entI)) → DZ zs qs (WpT qs Cn ((far : Int) + 1)) → zs.length ≤ 6 * (far + 1) → Same H H' → Q (.ref u) H'
section
variable {P : Program} {w : World} {K : PySem.W.Frag} {mg : Str → Option Value} {base : Heap}
set_option maxHeartbeats 16000000 in
theorem ok_walkP (D : Dfn K mg "_law_walked" s__law_walked P__law_walked) (B : Blt mg) (nb_dict : mg "dict" = none) : Cal P w K mg base 1 "_law_walked" P__law_walked (spWalkP K) := by
  refine D.cal sc__law_walked (fun vs H Q E h => ?_) fun f cdv A outer s H vs Q E hr h => ?_
  · obtain ⟨F, ts, qs, R, S, Bm, far, rfl, _⟩ := h
    rfl
  obtain ⟨F, ts, qs, R, S, Bm, far, rfl, hF, tm, few, ff, wi, fb, _, _, _, q⟩ := h
  have hu := hu_of hr
  refine ⟨_, (pss_cons (ps_par (i := 2) (j := 3) rfl sc__law_walked.nd rfl rfl (by decide) rfl rfl (pa_cons pe_dnewK (pa_cons (pe_op op_rep (pe_lst (pa_cons pe_bl pa_nil)) (pe_callB call_len_seq rfl B.len_ PySem.boot_len (pa_cons (pv 0) pa_nil))) pa_nil)) (by rfl)) (pss_cons (ps_for PassesOwn.never rfl (pi_range1 rfl B.range_ (pa_cons (pe_op op_add (pv 1) pe_int) pa_nil)) (pg_name (i := 4) sc__law_walked.nd rfl (Or.inr rfl)) (pss_cons (ps_set (i := 5) sc__law_walked.nd rfl (Or.inl rfl) (pe_lst pa_nil)) (pss_cons (ps_for PassesOwn.never rfl (pi_range1 rfl B.range_ (pa_cons (pe_callB call_len_seq rfl B.len_ PySem.boot_len (pa_cons (pv 0) pa_nil)) pa_nil)) (pg_name (i := 6) sc__law_walked.nd rfl (Or.inl rfl)) (C8.pss_cut (ps_set (i := 7) sc__law_walked.nd rfl (Or.inl rfl) (pe_op op_add (pe_ix ix_tup (pe_ix ix_list (pv 0) (pv 6) (fun _ _ => rfl)) pe_int (fun _ _ => rfl)) (pe_op op_mulW (pe_op op_sub (pv 4) (pe_ix ix_tup (pe_ix ix_list (pv 0) (pv 6) (fun _ _ => rfl)) pe_int (fun _ _ => rfl))) (pe_ix ix_tup (pe_ix ix_list (pv 0) (pv 6) (fun _ _ => rfl)) pe_int (fun _ _ => rfl))))) (pss_one (ps_if (PW.pt (pw_and (pt_cmpR op_ge (pv 4) (pe_ix ix_tup (pe_ix ix_list (pv 0) (pv 6) (fun _ _ => rfl)) pe_int (fun _ _ => rfl)) (nomark _)) (pw_and1 (pt_not (pt_val (pe_ix ix_list (pv 3) (pv 6) (fun _ _ => rfl))))))) (pss_one (ps_if (PW.pt (pw_or (pt_cmp (pc_din hu (pv 7) (pv 2))) (pw_or1 (pt_cmpR op_in_seq (pv 7) (pv 5) (by rfl))))) (pss_one (ps_asg pe_bl (pg_sub (pv 3) (pv 6) set_list))) (pss_one (ps_expr (pe_bm PySem.F.plainAttrs_list PySem.F.slot_list_append PySem.F.type_list_append mt_append (pv 5) (pa_cons (pv 7) pa_nil)))))) pss_nil)))) (pss_one (ps_expr (pe_bm PySem.F.plainAttrs_dict PySem.F.slot_dict_update PySem.F.type_dict_update mt_updD (pv 2) (pa_cons (pe_callTy (call_dictP rfl) rfl nb_dict (by decide +kernel) (pa_cons (pe_lc (own := [("_law_post", 7)]) (g := gName 7) (tt := tYes) rfl sc__law_walked.nd (pi_list (pv 5)) (blkOk_by (N := N_sc__law_walked) (sc := defScope s__law_walked) (by decide +kernel)) (fun _ _ _ _ _ => pg_name (i := 7) sc__law_walked.nd rfl (Or.inl rfl)) (fun _ _ _ _ _ => pts_nil) (fun _ _ _ _ _ => (pe_tup (pa_cons (pv 7) (pa_cons (pv 4) pa_nil))))) pa_nil)) pa_nil))))))) (pss_one (ps_ret (pe_tup (pa_cons (pv 3) (pa_cons (pv 2) pa_nil))))))), ?_⟩
  have tl : (ts.map V.ref).length = qs.length := by rw [List.length_map, tm.len]
  have d0 : ∀ i, i < qs.length → 0 ≤ dQ qs i := fun i hi => by
    have e1 : qs[i]? = some qs[i] := List.getElem?_eq_getElem hi
    rw [(q_at e1).2.1]
    exact (wi.d0 _ (List.getElem_mem hi)).1
  have sz0 : ∀ i, i < qs.length → sQ qs i ≠ 0 := fun i hi => by
    have e1 : qs[i]? = some qs[i] := List.getElem?_eq_getElem hi
    rw [(q_at e1).2.2.2]
    exact wi.sz _ (List.getElem_mem hi)
  obtain ⟨Cn, Bn, hc⟩ := hist_ex wi (by have : (300 : Int) ≤ 10 ^ 70 := by decide
                                        omega)
  have c0 : ∀ i c, i < qs.length → Cn i = some c → 0 ≤ c := fun i c hi e => (hc.bd i c hi e).1
  have sz : (10000 : Nat) < sizeLine := by decide
  have rep : ∀ (n : Nat) (v : V), (List.replicate n [v]).flatten = List.replicate n v := fun n v => List.flatten_replicate_singleton
  refine fun Pd nPd => ?_
  have s1 := same_new nPd (.dK [])
  refine ⟨by show 1 ≤ sizeLine; decide, fun D1 nD1 => ⟨_, rfl, F, _, rfl, .inl (same_sql (s1.trans (same_new nD1 _)) hF), D1, _, [.bl false], rfl, rfl, upd_same, by omega, by omega, by rw [tl, Int.toNat_natCast]; show 1 * _ ≤ _; omega, fun Hl nHl => ⟨_, _, rfl, ?_⟩⟩⟩
  rw [tl, Int.toNat_natCast, rep] at *
  have w1 := (s1.trans (same_new nD1 (.lst [V.bl false])))
  have nHl0 : H Hl = none := by
    cases e : H Hl with
    | none => rfl
    | some o => rw [w1 _ _ e] at nHl; cases nHl
  have w2 := w1.trans (same_new nHl (.lst (List.replicate qs.length (V.bl false))))
  have hPd1 := same_new nHl (.lst (List.replicate qs.length (V.bl false))) _ _ (same_new nD1 (.lst [V.bl false]) _ _ (upd_same (H := H) (a := Pd) (o := .dK [])))
  have hHl1 : upd (upd (upd H Pd (.dK [])) D1 (.lst [V.bl false])) Hl (.lst (List.replicate qs.length (V.bl false))) Hl = some (.lst ((List.range qs.length).map fun k => V.bl (haltB qs Cn 0 k))) := by
    rw [upd_same]
    refine congrArg (fun z => some (HO.lst z)) (List.ext_getElem? fun k => ?_)
    by_cases hk : k < qs.length
    · rw [List.getElem?_replicate, if_pos hk, List.getElem?_map, List.getElem?_range hk]
      have e : haltB qs Cn 0 k = false := by
        have a := d0 k hk
        unfold haltB
        cases e : Cn k with
        | none => rfl
        | some c =>
          have b := c0 k c hk e
          exact decide_eq_false (by omega)
      show some (V.bl false) = some (V.bl (haltB qs Cn 0 k))
      rw [e]
    · rw [List.getElem?_eq_none (by rw [List.length_replicate]; omega), List.getElem?_eq_none (by rw [List.length_map, List.length_range]; omega)]
  generalize upd (upd (upd H Pd (.dK [])) D1 (.lst [V.bl false])) Hl (.lst (List.replicate qs.length (V.bl false))) = H1 at hPd1 hHl1 w2 ⊢
  refine ⟨_, rfl, _, _, rfl, rfl, _, rfl, by omega, by omega, ?_⟩
  rw [show ((far : Int) + 1).toNat = far + 1 by omega]
  refine for_range (lo := 0) (n := far + 1) (fun i σ H2 => ∃ (o4 o5 o6 o7 : Option V) (zs : List (Int × Int)), σ = [some (.ref F), some (.int (far : Int)), some (.ref Pd), some (.ref Hl), o4, o5, o6, o7] ∧ H2 Pd = some (.dK (zs.map entI)) ∧ DZ zs qs (WpT qs Cn (i : Int)) ∧ zs.length ≤ 6 * i ∧ H2 Hl = some (.lst ((List.range qs.length).map fun k => V.bl (haltB qs Cn (i : Int) k))) ∧ Same H H2)
    ⟨_, _, _, _, [], rfl, hPd1, DZ.nil_ (fun k n ⟨a, b, c, e⟩ => by have := d0 k a; omega), Nat.le_refl _, hHl1, w2⟩ ?_ ?_
  · rintro i σ H2 hi ⟨o4, o5, o6, o7, zs, rfl, hP, dz, zl, hH, s2⟩
    have zi : (0 : Int) + (i : Int) = i := by omega
    refine ⟨by show 0 ≤ sizeLine; decide, fun Fr nFr => ?_⟩
    have nFr0 : H Fr = none := by
      cases e : H Fr with
      | none => rfl
      | some o => rw [s2 _ _ e] at nFr; cases nFr
    have wF := same_new nFr (.lst [])
    have nHF : Hl ≠ Fr := ne_of_none hH nFr
    have tl2 : (ts.map V.ref).length = qs.length := by rw [List.length_map, tm.len]
    refine ⟨_, rfl, F, _, rfl, .inl (same_sql (s2.trans wF) hF), _, rfl, by omega, by omega, ?_⟩
    rw [tl2]
    refine for_range (lo := 0) (n := qs.length) (fun j σ H3 => ∃ (o6 o7 : Option V) (fs : List Int), σ = [some (.ref F), some (.int (far : Int)), some (.ref Pd), some (.ref Hl), some (.int (0 + (i : Int))), some (.ref Fr), o6, o7] ∧ H3 Pd = some (.dK (zs.map entI)) ∧ H3 Hl = some (.lst ((List.range qs.length).map fun k => V.bl (haltB qs Cn (tmT (i : Int) j k) k))) ∧ H3 Fr = some (.lst (fs.map V.int)) ∧ FZ fs qs (WfT qs Cn (i : Int) j) ∧ fs.length ≤ j ∧ Same H H3)
      ⟨_, _, [], rfl, wF _ _ hP, ?_, upd_same, FZ.nil_ (fun k n w => absurd w.1 (Nat.not_lt_zero k)), Nat.le_refl _, s2.trans wF⟩ ?_ ?_
    · rw [wF _ _ hH]
      refine congrArg (fun z => some (HO.lst z)) (List.map_congr_left fun k _ => ?_)
      show V.bl (haltB qs Cn (i : Int) k) = V.bl (haltB qs Cn (tmT (i : Int) 0 k) k)
      rw [show tmT (i : Int) 0 k = (i : Int) from if_neg (by omega)]
    · rintro j σ H3 hj ⟨o6, o7, fs, rfl, hP3, hH3, hF3, fz, fl, s3⟩
      have zj : (0 : Int) + (j : Int) = j := by omega
      obtain ⟨t1, q1, f1, f2, f3, f4, f5⟩ := tm.ix hj
      obtain ⟨nm1, d1, p1, g1⟩ := q1
      obtain ⟨e0, e1, e2, e3⟩ := q_at f2
      have k1 : PartOk nm1 d1 p1 g1 := f4
      have kd0 := k1.d0
      have kd1 := k1.d1
      have ks0 := k1.s0
      have ks1 := k1.s1
      refine ⟨fun σ' H' => ∃ z, z = p1 + ((i : Int) - d1) * g1 ∧ σ' = [some (.ref F), some (.int (far : Int)), some (.ref Pd), some (.ref Hl), some (.int (i : Int)), some (.ref Fr), some (.int (j : Int)), some (.int z)] ∧ H' = H3, ?_, ?_⟩
      · rw [zi, zj]
        refine ⟨_, rfl, _, rfl, F, _, _, _, rfl, rfl, same_sql s3 hF, atI_nat f5, t1, _, _, _, rfl, rfl, SqT.of (s3 _ _ f3), atI_nat (j := 2) rfl, _, rfl, _, rfl, _, rfl, F, _, _, _, rfl, rfl, same_sql s3 hF, atI_nat f5, t1, _, _, _, rfl, rfl, SqT.of (s3 _ _ f3), atI_nat (j := 1) rfl, _, _, rfl, rfl, _, rfl, _, rfl, F, _, _, _, rfl, rfl, same_sql s3 hF, atI_nat f5, t1, _, _, _, rfl, rfl, SqT.of (s3 _ _ f3), atI_nat (j := 3) rfl, _, _, rfl, rfl, wide_mul (a := 104) (b := 64) (by show ((i : Int) - d1).natAbs < 2 ^ 104; omega) (by show g1.natAbs < 2 ^ 64; omega) (by decide) (by decide) (by decide), _, _, rfl, rfl, ?_⟩
        exact ⟨_, rfl, rfl, rfl⟩
      rintro σ' H3' ⟨z, hz, rfl, e3'⟩
      rw [e3']
      refine ⟨_, rfl, _, rfl, _, rfl, F, _, _, _, rfl, rfl, same_sql s3 hF, atI_nat f5, t1, _, _, _, rfl, rfl, SqT.of (s3 _ _ f3), atI_nat (j := 1) rfl, _, _, rfl, rfl, _, rfl, ?_⟩
      have dj : dQ qs j = d1 := e1
      have hz2 : pQ qs j + ((i : Int) - dQ qs j) * sQ qs j = z := by rw [e1, e2, e3, hz]
      have hlen : ((List.range qs.length).map fun k => V.bl (haltB qs Cn (tmT (i : Int) j k) k)).length = qs.length := by rw [List.length_map, List.length_range]
      have same_h : haltB qs Cn ((i : Int) + 1) j = haltB qs Cn (i : Int) j → ((List.range qs.length).map fun k => V.bl (haltB qs Cn (tmT (i : Int) j k) k)) = (List.range qs.length).map fun k => V.bl (haltB qs Cn (tmT (i : Int) (j + 1) k) k) := fun e => by
        refine List.map_congr_left fun k _ => ?_
        by_cases c : k = j
        · subst c
          show V.bl (haltB qs Cn (tmT (i : Int) k k) k) = V.bl (haltB qs Cn (tmT (i : Int) (k + 1) k) k)
          rw [tm_self, tm_new, e]
        · show V.bl (haltB qs Cn (tmT (i : Int) j k) k) = V.bl (haltB qs Cn (tmT (i : Int) (j + 1) k) k)
          rw [tm_next k c]
      have skip : haltB qs Cn ((i : Int) + 1) j = haltB qs Cn (i : Int) j → (∀ n, 0 ≤ n → Paints Cn j n → dQ qs j + n ≠ (i : Int)) → H3 Hl = some (.lst ((List.range qs.length).map fun k => V.bl (haltB qs Cn (tmT (i : Int) (j + 1) k) k))) ∧ FZ fs qs (WfT qs Cn (i : Int) (j + 1)) := fun e no => ⟨by rw [← same_h e]; exact hH3, fz.nd, fun z => (fz.iff_ z).trans ⟨fun ⟨k, n, w, e⟩ => ⟨k, n, (wf_next no k n).mp w, e⟩, fun ⟨k, n, w, e⟩ => ⟨k, n, (wf_next no k n).mpr w, e⟩⟩⟩
      by_cases c1 : d1 ≤ (i : Int)
      · refine iteDT c1 ?_
        have ej : ((List.range qs.length).map fun k => V.bl (haltB qs Cn (tmT (i : Int) j k) k))[j]? = some (V.bl (haltB qs Cn (i : Int) j)) := by
          rw [List.getElem?_map, List.getElem?_range hj]
          show some (V.bl (haltB qs Cn (tmT (i : Int) j j) j)) = _
          rw [tm_self]
        refine ⟨_, rfl, _, rfl, Hl, _, _, _, rfl, rfl, SqL.of hH3, atI_nat ej, _, rfl, ?_⟩
        by_cases hb : haltB qs Cn (i : Int) j = true
        · refine iteBF2 hb ?_
          obtain ⟨c, ec, hc2⟩ := halt_iff.mp hb
          obtain ⟨w1', w2'⟩ := skip (by rw [hb]; exact halt_iff.mpr ⟨c, ec, by omega⟩) (fun n n0 pn z => by have := pn c ec; omega)
          exact ⟨_, _, fs, by rw [zi], hP3, w1', hF3, w2', by omega, s3⟩
        · have hb' : haltB qs Cn (i : Int) j = false := by simpa using hb
          refine iteBT2 hb' ?_
          have late : ∀ c, Cn j = some c → (i : Int) ≤ dQ qs j + c := fun c ec => by
            rcases Int.lt_or_le (dQ qs j + c) (i : Int) with g | g
            · exact absurd (halt_iff.mpr ⟨c, ec, g⟩) hb
            · exact g
          have here : ∀ {m n}, (WpT qs Cn (i : Int) m n ∨ WfT qs Cn (i : Int) j m n) → pQ qs m + n * sQ qs m = z → Cn j = some ((i : Int) - dQ qs j) := fun {m n} w e => day_blocked hc.is hj (by omega) late w (e.trans hz2.symm)
          have stop : Cn j = some ((i : Int) - dQ qs j) → ∃ (o6 o7 : Option V) (fs' : List Int), [some (.ref F), some (.int (far : Int)), some (.ref Pd), some (.ref Hl), some (.int (i : Int)), some (.ref Fr), some (.int (j : Int)), some (.int z)] = [some (V.ref F), some (.int (far : Int)), some (.ref Pd), some (.ref Hl), some (.int (0 + (i : Int))), some (.ref Fr), o6, o7] ∧ upd H3 Hl (.lst (((List.range qs.length).map fun k => V.bl (haltB qs Cn (tmT (i : Int) j k) k)).set j (.bl true))) Pd = some (.dK (zs.map entI)) ∧ upd H3 Hl (.lst (((List.range qs.length).map fun k => V.bl (haltB qs Cn (tmT (i : Int) j k) k)).set j (.bl true))) Hl = some (.lst ((List.range qs.length).map fun k => V.bl (haltB qs Cn (tmT (i : Int) (j + 1) k) k))) ∧ upd H3 Hl (.lst (((List.range qs.length).map fun k => V.bl (haltB qs Cn (tmT (i : Int) j k) k)).set j (.bl true))) Fr = some (.lst (fs'.map V.int)) ∧ FZ fs' qs (WfT qs Cn (i : Int) (j + 1)) ∧ fs'.length ≤ j + 1 ∧ Same H (upd H3 Hl (.lst (((List.range qs.length).map fun k => V.bl (haltB qs Cn (tmT (i : Int) j k) k)).set j (.bl true)))) := fun ec => by
            refine ⟨_, _, fs, by rw [zi], by rw [upd_ne (ne_of hP3 hH3 (by intro z; cases z))]; exact hP3, ?_, by rw [upd_ne nHF.symm]; exact hF3, ⟨fz.nd, fun z => (fz.iff_ z).trans ⟨fun ⟨k, n, w, e⟩ => ⟨k, n, (wf_next (fun n n0 pn z => by have := pn _ ec; omega) k n).mp w, e⟩, fun ⟨k, n, w, e⟩ => ⟨k, n, (wf_next (fun n n0 pn z => by have := pn _ ec; omega) k n).mpr w, e⟩⟩⟩, by omega, sameAt s3 nHl0⟩
            rw [upd_same]
            refine congrArg (fun z => some (HO.lst z)) (set_range (fun k hk => ?_) ?_)
            · show V.bl (haltB qs Cn (tmT (i : Int) (j + 1) k) k) = V.bl (haltB qs Cn (tmT (i : Int) j k) k)
              rw [tm_next k hk]
            · show V.bl (haltB qs Cn (tmT (i : Int) (j + 1) j) j) = V.bl true
              rw [tm_new, halt_iff.mpr ⟨_, ec, by omega⟩]
          refine ⟨_, rfl, _, rfl, Pd, _, rfl, DGet.k (k := Sum.inl z) hP3, _, rfl, ?_⟩
          rw [ent_isSome dz.nd]
          by_cases m1 : z ∈ zs.map (·.1)
          · obtain ⟨k, n, w, e⟩ := (dz.key z).mp m1
            refine iteDT m1 (iteT ?_)
            exact ⟨_, rfl, _, rfl, Hl, _, _, j, rfl, rfl, hH3, ixN_at (by rw [hlen]; omega), stop (here (.inl w) e)⟩
          · refine iteDF m1 ⟨_, rfl, _, rfl, Fr, _, rfl, .inl (SqL.of hF3), rfl, ints_flat fs, _, rfl, ?_⟩
            by_cases m2 : z ∈ fs
            · obtain ⟨k, n, w, e⟩ := (fz.iff_ z).mp m2
              refine iteK ((inV_ints z fs).trans (decide_eq_true m2)) ?_
              exact ⟨_, rfl, _, rfl, Hl, _, _, j, rfl, rfl, hH3, ixN_at (by rw [hlen]; omega), stop (here (.inr w) e)⟩
            · refine iteKF ((inV_ints z fs).trans (decide_eq_false m2)) ?_
              have free := day_free hc.is hj (show dQ qs j ≤ (i : Int) by omega) fun m n w e => by
                rcases w with w | w
                · exact m1 ((dz.key z).mpr ⟨m, n, w, e.trans hz2⟩)
                · exact m2 ((fz.iff_ z).mpr ⟨m, n, w, e.trans hz2⟩)
              have paints : Paints Cn j ((i : Int) - dQ qs j) := fun c ec => by
                have := late c ec
                by_cases e : (i : Int) - dQ qs j = c
                · exact absurd (by rw [e]; exact ec) free
                · omega
              have szF : (fs.map V.int).length < sizeLine := by rw [List.length_map]; exact Nat.lt_of_le_of_lt (show fs.length ≤ 6 by omega) (Nat.lt_of_le_of_lt (by decide) sz)
              refine ⟨_, rfl, .inl ⟨rfl, _, SqL.of hF3⟩, _, rfl, Fr, _, _, rfl, rfl, hF3, szF, ?_⟩
              have eH : haltB qs Cn ((i : Int) + 1) j = haltB qs Cn (i : Int) j := by
                rw [hb']
                cases e : haltB qs Cn ((i : Int) + 1) j with
                | false => rfl
                | true =>
                  obtain ⟨c, ec, lt⟩ := halt_iff.mp e
                  have := paints c ec
                  omega
              refine ⟨_, _, fs ++ [z], by rw [zi], by rw [upd_ne (ne_of hP3 hF3 (by intro z; cases z))]; exact hP3, by rw [upd_ne nHF, ← same_h eH]; exact hH3, by rw [upd_same, List.map_append]; rfl, ⟨?_, fun y => ?_⟩, by rw [List.length_append]; exact Nat.succ_le_succ fl, sameAt s3 nFr0⟩
              · refine List.nodup_append.mpr ⟨fz.nd, by simp, fun a ha b hb e => ?_⟩
                obtain rfl := List.mem_singleton.mp hb
                exact m2 (e ▸ ha)
              · rw [List.mem_append, fz.iff_, List.mem_singleton]
                constructor
                · rintro (⟨k, n, ⟨a, b, c, d⟩, e⟩ | rfl)
                  · exact ⟨k, n, ⟨by omega, b, c, d⟩, e⟩
                  · exact ⟨j, (i : Int) - dQ qs j, ⟨by omega, by omega, paints, by omega⟩, hz2⟩
                · rintro ⟨k, n, ⟨a, b, c, d⟩, e⟩
                  by_cases kj : k = j
                  · subst kj
                    refine .inr ?_
                    rw [← e, ← hz2, show n = (i : Int) - dQ qs k by omega]
                  · exact .inl ⟨k, n, ⟨by omega, b, c, d⟩, e⟩
      · refine iteDF c1 ?_
        obtain ⟨w1', w2'⟩ := skip (by
          cases e : Cn j with
          | none => unfold haltB; rw [e]
          | some c =>
            have := c0 j c hj e
            unfold haltB
            rw [e]
            show decide (dQ qs j + c < (i : Int) + 1) = decide (dQ qs j + c < (i : Int))
            rw [decide_eq_false (by omega), decide_eq_false (by omega)]) (fun n n0 pn z => by omega)
        refine iteF ?_
        exact ⟨_, _, fs, by rw [zi], hP3, w1', hF3, w2', by omega, s3⟩
    · rintro σ H3 ⟨o6, o7, fs, rfl, hP3, hH3, hF3, fz, fl, s3⟩
      obtain ⟨ap, ndf, dz2⟩ := dz.day hc.is sz0 fz
      have fl6 : fs.length ≤ 6 := by omega
      refine ⟨_, rfl, .inr (.inr (.inl ⟨rfl, .inl ⟨_, hP3⟩⟩)), ?_⟩
      refine ⟨_, rfl, Fr, rfl, ⟨_, SqL.of hF3⟩, fun M nM => ?_⟩
      refine lc_list (K := K) (a := Fr) (xs := fs.map V.int) (fun m H' => ∃ ps : List Addr, H' M = some (.lst (ps.map V.ref)) ∧ Paired (fun (p : Addr) (kv : Key × V) => H' p = some (.tup [kV kv.1, kv.2])) ps (((fs.take m).map fun z => (z, (i : Int))).map entI) ∧ Same H3 H') ⟨[], upd_same, .nil, same_new nM _⟩ (fun m H' _ h => by obtain ⟨_, _, _, h⟩ := h; exact SqL.of (h _ _ hF3)) ?_ ?_
      · rintro m v H' ev ⟨ps, hM, pr, s4⟩
        rw [List.getElem?_map] at ev
        cases ez : fs[m]? with
        | none => rw [ez] at ev; cases ev
        | some z =>
          rw [ez] at ev
          obtain rfl := Option.some.inj ev
          have hm := (List.getElem?_eq_some_iff.mp ez).1
          have pl : ps.length ≤ 6 := by
            have e : ps.length = _ := pr.length
            rw [List.length_map, List.length_map, List.length_take] at e
            omega
          have szM : (ps.map V.ref).length < sizeLine := by rw [List.length_map]; exact Nat.lt_of_le_of_lt pl (Nat.lt_of_le_of_lt (by decide) sz)
          refine ⟨rfl, _, rfl, _, rfl, by show 2 ≤ sizeLine; decide, fun u nu => ?_⟩
          have su := same_new nu (.tup [.int z, .int (0 + (i : Int))])
          have hMu := su _ _ hM
          have kp : ∀ (b : Addr) xs, upd H' u (.tup [.int z, .int (0 + (i : Int))]) b = some (.tup xs) → upd (upd H' u (.tup [.int z, .int (0 + (i : Int))])) M (.lst (ps.map V.ref ++ [.ref u])) b = some (.tup xs) := fun b xs e => by rw [upd_ne (ne_of e hMu (by intro z; cases z))]; exact e
          refine ⟨_, hMu, szM, ps ++ [u], by rw [upd_same, List.map_append]; rfl, ?_, sameAt (s4.trans su) nM⟩
          rw [take_snoc ez, List.map_append, List.map_append]
          refine paired_snoc (Paired.mapP pr fun _ _ h => kp _ _ (su _ _ h)) (kp _ _ ?_)
          rw [upd_same, zi]
          rfl
      rintro H4 ⟨ps, hM, pr, s4⟩
      rw [List.length_map, List.take_length] at pr
      refine ⟨M, ps, _, rfl, SqL.of hM, Paired.mapP pr (fun _ _ h => SqT.of h), fun Dn nDn => ?_⟩
      have sD := same_new nDn (.dK (mergeK [] ((fs.map fun z => (z, (i : Int))).map entI)))
      have hP5 := sD _ _ (s4 _ _ hP3)
      have nPD : Pd ≠ Dn := ne_of_none (s4 _ _ hP3) nDn
      have eM : mergeK [] ((fs.map fun z => (z, (i : Int))).map entI) = (fs.map fun z => (z, (i : Int))).map entI := ent_merge (zs := []) ndf (fun z _ m => by cases m)
      have eM2 : mergeK (zs.map entI) (mergeK [] ((fs.map fun z => (z, (i : Int))).map entI)) = (zs ++ fs.map fun z => (z, (i : Int))).map entI := by
        rw [eM]
        exact ent_merge ndf ap
      have nP0 : H Pd = none := nPd
      refine ⟨Pd, Dn, _, _, rfl, rfl, nPD, hP5, upd_same, ?_, ?_⟩
      · rw [eM, List.length_map, List.length_map, List.length_map]
        exact Nat.le_of_lt (Nat.lt_of_le_of_lt (show zs.length + fs.length ≤ 10000 by omega) sz)
      rw [eM2]
      have hH5 := sD _ _ (s4 _ _ hH3)
      refine ⟨_, _, _, _, zs ++ fs.map fun z => (z, (i : Int)), rfl, upd_same, by rw [show ((i + 1 : Nat) : Int) = (i : Int) + 1 by omega]; exact dz2, by rw [List.length_append, List.length_map]; omega, ?_, sameAt ((s3.trans s4).trans sD) nP0⟩
      rw [upd_ne (ne_of hH5 hP5 (by intro z; cases z)), hH5]
      refine congrArg (fun z => some (HO.lst z)) (List.map_congr_left fun k hk => ?_)
      have hk := List.mem_range.mp hk
      show V.bl (haltB qs Cn (tmT (i : Int) qs.length k) k) = V.bl (haltB qs Cn (((i + 1 : Nat)) : Int) k)
      rw [show tmT (i : Int) qs.length k = (i : Int) + 1 from if_pos hk, show ((i + 1 : Nat) : Int) = (i : Int) + 1 by omega]
  · rintro σ H2 ⟨o4, o5, o6, o7, zs, rfl, hP, dz, zl, hH, s2⟩
    refine ⟨_, rfl, _, rfl, by show 2 ≤ sizeLine; decide, fun u nu => ?_⟩
    have su := same_new nu (.tup [.ref Hl, .ref Pd])
    have ef : ((far + 1 : Nat) : Int) = (far : Int) + 1 := by omega
    rw [ef] at dz hH
    exact q u Hl Pd Cn Bn zs _ hc upd_same (su _ _ hH) (su _ _ hP) dz zl (s2.trans su)
end
end Ur
/-! QA: painters of two kinds (_law_crowd), a post and a day near them (_law_mark, _law_moment), the bound (_law_end). -/
namespace Ur
open PySem PySem.Spec PyProof.Rows L2
/-- rows of the kinds -/
def BaseR (d p s : Int) : Prop := 0 ≤ d ∧ d ≤ 2 * 10 ^ 29 ∧ -(2 * 10 ^ 29) ≤ p ∧ p ≤ 2 * 10 ^ 29 ∧ -(2 * 10 ^ 17) ≤ s ∧ s ≤ 2 * 10 ^ 17 ∧ s ≠ 0
theorem base_any {d p s : Int} (h : BaseR d p s) : AnyR d p s := by unfold BaseR at h; unfold AnyR; omega
theorem aim_base {d p s : Int} (h : AimR d p s) : BaseR d p s := by unfold AimR at h; unfold BaseR; omega
theorem line_base {d p s : Int} (h : LineR d p s) : BaseR d p s := by unfold LineR at h; unfold BaseR; omega
abbrev s__law_crowd : Stmt := (topS 65)
abbrev N_sc__law_crowd : List Str := ["_law_pen_here", "_law_most", "_law_road"]
abbrev P__law_crowd : List Str := ["_law_pen_here", "_law_most"]
theorem sc__law_crowd : FnScope N_sc__law_crowd P__law_crowd (defScope s__law_crowd) := ⟨rfl, rfl, rfl, by decide +kernel, rfl, by decide +kernel, by decide +kernel⟩
def spCrowd (R : Int → Int → Int → Prop) : Sp := fun vs H Q _ => ∃ (p l : Addr) (most n : Nat), vs = [.ref p, .int (most : Int)] ∧ Pen H p l n ∧ n + 100100 ≤ 2 ^ 39 ∧ 1 ≤ most ∧ most ≤ 40 ∧
  ∀ (F : Addr) (ts : List Addr) (ss : List Str) (H' : Hp), H' F = some (.lst (ts.map V.ref)) → ts.length = ss.length → 1 ≤ ts.length → ts.length ≤ most → RowsN H' ts ss R → (∀ z ∈ ss, NameOk z) → ss.Nodup → H F = none → Pen H' p l (n + 100100) → Keep p H H' → Q (.ref F) H'
section
variable {P : Program} {w : World} {K : PySem.W.Frag} {mg : Str → Option Value} {base : Heap}
theorem ok_crowd (D : Dfn K mg "_law_crowd" s__law_crowd P__law_crowd) (CD : Cal P w K mg base 12 "_law_draw" P__law_draw spDr) (CM : Cal P w K mg base 15 "_law_aimed" P__law_aimed (spRowsN AimR)) (CL : Cal P w K mg base 15 "_law_lined" P__law_lined (spRowsN LineR)) :
    Cal P w K mg base 16 "_law_crowd" P__law_crowd (spCrowd BaseR) := by
  refine D.cal sc__law_crowd (fun vs H Q E h => ?_) fun f cdv A outer s H vs Q E hr h => ?_
  · obtain ⟨p, l, most, n, rfl, _⟩ := h
    rfl
  obtain ⟨p, l, most, n, rfl, Pn, hn, m1, m2, q⟩ := h
  refine ⟨_, (pss_cons (ps_set (i := 2) sc__law_crowd.nd rfl (Or.inl rfl) (pe_cal CD (hr.mono (by decide)) (pa_cons (pv 0) (pa_cons pe_int pa_nil)))) (pss_cons (ps_if (pt_cmpR op_eq (pv 2) pe_int (nomark _)) (pss_one (ps_ret (pe_cal CM (hr.mono (by decide)) (pa_cons (pv 0) (pa_cons (pv 1) pa_nil))))) pss_nil) (pss_one (ps_ret (pe_cal CL (hr.mono (by decide)) (pa_cons (pv 0) (pa_cons (pv 1) pa_nil))))))), ?_⟩
  refine ⟨_, rfl, p, l, 3, _, rfl, Pn, by omega, by omega, by omega, fun v H1 v0 v1 P1 k1 => ?_⟩
  refine ⟨_, rfl, rfl, _, rfl, ?_⟩
  refine ite2 (fun _ => ?_) (fun _ => ?_)
  · refine ⟨_, rfl, _, rfl, p, l, most, _, rfl, P1, by omega, m1, m2, fun F ts ss H2 hF hl l1 l2 rows ok nd hF0 P2 k2 => ?_⟩
    exact q F ts ss H2 hF hl l1 l2 (rows.imp fun d p s => aim_base) ok nd (k1.none_of hF0 (P1.ne hF0)) (P2.le (by omega)) (k1.trans k2)
  · refine ⟨_, rfl, _, rfl, p, l, most, _, rfl, P1, by omega, m1, m2, fun F ts ss H2 hF hl l1 l2 rows ok nd hF0 P2 k2 => ?_⟩
    exact q F ts ss H2 hF hl l1 l2 (rows.imp fun d p s => line_base) ok nd (k1.none_of hF0 (P1.ne hF0)) (P2.le (by omega)) (k1.trans k2)
end
end Ur
/-! L48: the law: the share of those who never stop. -/
namespace Ur
open PySem PySem.Spec PyProof.Rows L2
/-- share, with the two ways its arguments are bound -/
def ShaC (P : Program) (w : World) (K : PySem.W.Frag) (mg : Str → Option Value) (base : Heap) (T : List (Addr × Str)) (C CF : Addr) : Prop := ∃ (f : Addr) (fd : FuncData), FnOk P w K mg base CX0 17 f fd P_share (spShare T C CF) ∧ PySem.W.keepIn K (.ref f) = true ∧ mg "share" = some (.ref f) ∧
  (∃ ds, Vals [.bl false] ds ∧ Binds K fd P_share ds) ∧ ∃ g, KBn K fd P_share 1 ["left"] g (fun vs zs => vs ++ ([] ++ zs))
theorem ShaC.of {P : Program} {w : World} {K : PySem.W.Frag} {mg : Str → Option Value} {base : Heap} {T : List (Addr × Str)} {C CF : Addr} {f : Addr} {fd : FuncData} (F : ShaK K f fd) (h : FnOk P w K mg base CX0 17 f fd P_share (spShare T C CF)) (m : mg "share" = some (.ref f)) : ShaC P w K mg base T C CF := by
  refine ⟨f, fd, h, F.kp, m, ?_, ?_⟩
  · exact FunD.binds0 F 1 (by simp) rfl fun D doc pm an cdv ct us ks h1 h2 => match us, ks, h1, h2 with | [_], [_], _, _ => ⟨_, _, _, _, _, _, rfl, rfl, rfl⟩
  · obtain ⟨mv, h⟩ := FunD.kbinds0 F (ps := P_share) 1 ["left"] [] (fun us mv ws => us ++ (mv ++ ws)) (by simp) (fun q hq => by cases hq) (fun r1 r2 r3 => r1.append (r2.append r3)) fun D doc pm an cdv ct us mv ws h1 h2 h3 => match us, mv, ws, h1, h2, h3 with | [_], [], [_], _, _, _ => rfl
    exact ⟨_, h⟩
section
variable {X : Cx} {T : List (Addr × Str)} {C CF : Addr} {e : Expr} {es : List Expr} {kws : List Keyword} {t tk : TA} {p pos : Pos}
theorem pe_sha0 (c : ShaC X.prog X.w X.K X.mg X.base T C CF) (hr : Room 17 X.A) (ha : PA X (e :: es) t) (hg : Gl X "share" := by rfl)
    (he : starEach (e :: es) X.env = (false, eval e X.env) :: starEach es X.env := by rfl) (hpl : (backTo pos (starEach es X.env)).any (·.1) = false := by rfl) :
    PE X (.Call (.Name "share" p) (e :: es) [] pos) (tCall (spShare T C CF) [.bl false] E0 t) := by
  obtain ⟨f, fd, F, kp, m, ⟨ds, hd, b⟩, _⟩ := c
  exact pe_call F hr hg m kp b hd pass0 ha (he := he) (hpl := hpl)
theorem pe_shaL (c : ShaC X.prog X.w X.K X.mg X.base T C CF) (hr : Room 17 X.A) (ha : PA X (e :: es) t) (hkw : PK X kws tk) (hg : Gl X "share" := by rfl)
    (hall : (backToKw pos (keywordEach kws X.env)).all (·.1.isSome) = true := by rfl) (hks : (backToKw pos (keywordEach kws X.env)).filterMap (·.1) = (["left"] : List Str) := by rfl)
    (he : starEach (e :: es) X.env = (false, eval e X.env) :: starEach es X.env := by rfl)
    (hpl : ((backTo pos (starEach (e :: es) X.env)).any (·.1) || (backToKw pos (keywordEach kws X.env)).any (·.1.isNone)) = false := by rfl) :
    PE X (.Call (.Name "share" p) (e :: es) kws pos) (tCallN 1 1 (spShare T C CF) (fun vs zs => vs ++ ([] ++ zs)) E0 t tk) := by
  obtain ⟨f, fd, F, kp, m, _, ⟨g, b⟩⟩ := c
  exact pe_callN F hr hg m kp b pass0 ha hkw hall hks (he := he) (hpl := hpl)
end
/-- a row of two numbers -/
def nnD (a b : Nat) : PyData := .tuple [.int (a : Int), .int (b : Int)]
theorem nn_dp {K : PySem.W.Frag} {H : Hp} {u : Addr} {a b : Nat} (h : H u = some (.tup [.int (a : Int), .int (b : Int)])) : Dp K H (.ref u) (nnD a b) := Dp.tup (SqT.of h) (.cons (.int _) (.cons (.int _) .nil))
theorem nn_eq {a b : Nat} : PyData.eqv (nnD a b) (nnD a b) = true := by simp [nnD, PyData.eqv, PyData.eqvAll]
theorem nn_sh {a b : Nat} : SeqAt.shaped (nnD a b) = true := rfl
theorem nn_fit {a b : Nat} (ha : a < 2 ^ 600) (hb : b < 2 ^ 600) : Fit (nnD a b) := by
  have one : ∀ n : Nat, n < 2 ^ 600 → (PyData.int (n : Int)).showable = true ∧ (PyData.int (n : Int)).leavesShort 700 = true ∧ (PyData.int (n : Int)).weight ≤ 600 := fun n hn => by
    have hn' : (n : Int).natAbs < 2 ^ 600 := by rw [Int.natAbs_natCast]; exact hn
    have z := PySem.Flt.log2_lt_of (show 0 < 600 by decide) hn'
    refine ⟨decide_eq_true (by omega), decide_eq_true ?_, ?_⟩
    · have e : PyData.shown (.int (n : Int)) = Str.ofString (toString (n : Int)) := by simp only [PyData.shown]
      rw [e, PySem.ofString_length]
      exact Nat.le_trans (PySem.int_text_length_le (k := 600) (by decide) z) (by omega)
    · show (if (n : Int) == 0 then 0 else (n : Int).natAbs.log2 + 1) ≤ 600
      split <;> omega
  obtain ⟨a1, a2, a3⟩ := one a ha
  obtain ⟨b1, b2, b3⟩ := one b hb
  refine ⟨?_, rfl, by simp [nnD, PyData.depth, PyData.depthAll], ?_⟩
  · show ((PyData.int (a : Int)).showable && ((PyData.int (b : Int)).showable && true)) = true
    rw [a1, b1]
    rfl
  · have lv : (nnD a b).leavesShort 700 = true := by
      show ((PyData.int (a : Int)).leavesShort 700 && ((PyData.int (b : Int)).leavesShort 700 && true)) = true
      rw [a2, b2]
      rfl
    have z := PyData.shown_le 700 (by decide) (nnD a b) lv
    have w : (nnD a b).weight ≤ 5010 := by
      show (PyData.int (a : Int)).weight + 1 + ((PyData.int (b : Int)).weight + 1 + 0) ≤ _
      omega
    have w2 : (700 + 2) * (nnD a b).weight ≤ 702 * 5010 := Nat.mul_le_mul_left _ w
    have e : sizeLine = 16777216 := by decide
    omega
/-- painters and the numbers of their posts -/
structure Entr (H : Hp) (t : Addr) : Prop where
  ex : ∃ (F Ca : Addr) (ts : List Addr) (qs : List Quad) (cs : List (Option Int)) (Cn : Nat → Option Int) (Bn : Nat → Nat), H t = some (.tup [.ref F, .ref Ca]) ∧ H F = some (.lst (ts.map V.ref)) ∧ Team H ts qs ∧ H Ca = some (.lst (cs.map optV)) ∧ cs.length = qs.length ∧ qs.length ≤ 8 ∧ HistC qs.length (dQ qs) (fSP qs) Cn Bn ∧ ∀ i, i < qs.length → (cnL cs i = none ↔ Cn i = none)
theorem Entr.ext {H H' : Hp} {t : Addr} (h : Entr H t) (e : LamX.ExtN H H')   : Entr H' t := by
  obtain ⟨F, Ca, ts, qs, cs, Cn, Bn, h1, h2, h3, h4, h5⟩ := h.ex
  exact ⟨F, Ca, ts, qs, cs, Cn, Bn, e _ _ h1 nt_tup, e _ _ h2 nt_lst, h3.extN e, e _ _ h4 nt_lst, h5⟩
theorem frQ_small {qs : List Quad} {C : Nat → Option Int} {left : Bool} (ok : ∀ q ∈ qs, QuadOk q) (few : qs.length ≤ 8) : (frQ qs C left qs.length).1 < 2 ^ 600 ∧ (frQ qs C left qs.length).2 < 2 ^ 600 := by
  obtain ⟨a, b⟩ := frQ_bd (C := C) (left := left) ok qs.length (Nat.le_refl _)
  have p : 2 ^ (60 * qs.length) ≤ 2 ^ 480 := Nat.pow_le_pow_right (by decide) (by omega)
  have r : qs.length * 2 ^ (60 * qs.length) ≤ 8 * 2 ^ 480 := Nat.mul_le_mul few p
  have r1 : 8 * 2 ^ 480 < 2 ^ 600 := by decide +kernel
  have r2 : 2 ^ 480 < 2 ^ 600 := by decide +kernel
  exact ⟨Nat.lt_of_le_of_lt (Nat.le_trans a r) r1, Nat.lt_of_le_of_lt (Nat.le_trans b p) r2⟩
theorem fr_mirr {qs : List Quad} {C : Nat → Option Int} : frQ (qs.map (mvQ (-1) 0 0)) C false (qs.map (mvQ (-1) 0 0)).length = frQ qs C true qs.length := by
  rw [List.length_map]
  refine frQ_congr _ (fun i _ => Iff.rfl) fun i hi => ?_
  obtain ⟨_, _, _, m4⟩ := mvQ_at (qs := qs) (f := -1) (p := 0) (w := 0) hi
  rw [m4]
  show -1 * sQ qs i = -sQ qs i
  omega
theorem cnt_cn {qs : List Quad} {rs : List Rw} {Cn : Nat → Option Int} {Bn : Nat → Nat} (d0 : ∀ i, i < qs.length → 0 ≤ dQ qs i) (h : HistR qs (fSP qs) rs) (hc : HistC qs.length (dQ qs) (fSP qs) Cn Bn) {j : Nat} (hj : j < qs.length) : cntR rs j = Cn j := by
  obtain ⟨Cn', Bn', hc', rfl⟩ := h
  rw [← hist_uniq d0 hc'.is hc.is hj]
  unfold cntR
  rw [List.getElem?_map, List.getElem?_range hj]
  rfl
abbrev s_law : Stmt := (topS 74)
abbrev N_sc_law : List Str := ["_law_script", "_law_pen_here", "_law_turn", "_law_small_here", "_law_halted", "_law_great_here", "_law_painters", "_law_ends", "_law_one", "_law_fence_here"]
abbrev P_law : List Str := ["_law_script"]
theorem sc_law : FnScope N_sc_law P_law (defScope s_law) := ⟨rfl, rfl, rfl, by decide +kernel, rfl, by decide +kernel, by decide +kernel⟩
theorem len_turns3a {n : Nat} : 0 ≤ 2 + (if (n : Int) < 3 then (n : Int) else 3) ∧ 2 + (if (n : Int) < 3 then (n : Int) else 3) ≤ 5 := by split <;> omega
section
variable {P : Program} {w : World} {K : PySem.W.Frag} {mg : Str → Option Value} {base : Heap} {C CF CH : Addr}
set_option maxHeartbeats 16000000 in
theorem ok_law {T : List (Addr × Str)} {f : Addr} {fd : FuncData} (F : Fun K "law" "law" s_law f fd) (B : Blt mg) (U : FTxt K mg CF) (hMkF : MkF P w K mg base C CF) (CPen : Cal P w K mg base 1 "_law_pen" P__law_pen (spPen K))
    (CSm : Cal P w K mg base 15 "_law_small" P__law_small (spRowsN SmallR)) (CCr : Cal P w K mg base 16 "_law_crowd" P__law_crowd (spCrowd BaseR)) (CFar : Cal P w K mg base 1 "_law_far_date" P__law_far_date (spFarD K)) (CWk : Cal P w K mg base 1 "_law_walked" P__law_walked (spWalkP K)) (CFe : Cal P w K mg base 6 "_law_fence" P__law_fence (spFence K C CF))
    (CLh : Cal P w K mg base 4 "_law_history" P__law_history (spLCnt K)) (CDu : Cal P w K mg base 3 "_law_due" P__law_due (spShr K)) (COp : Cal P w K mg base 1 "_law_opposite" P__law_opposite (spOpp K)) (CSa : ShaC P w K mg base T C CF) : FnG P w K mg base 40 f fd P_law (spLaw K T) := by
  obtain ⟨fI, MF, FI⟩ := hMkF
  refine runG F sc_law (fun vs H Q E h => ?_) (fun cdv A outer s H vs Q E hs hr h => ?_)
  · obtain ⟨a, ns, rfl, _⟩ := h
    rfl
  obtain ⟨a, ns, rfl, hS, hlen, tb, q⟩ := h
  have hs : Still (A.deeper (envOfC "law" (defScope s_law) s.heap.objs.size f cdv)) := hs
  have hu6 : (A.deeper (envOfC "law" (defScope s_law) s.heap.objs.size f cdv)).units + 66 < cLine := by have := hr.un; omega
  have hu := hu_of hr
  refine ⟨_, (pss_cons (ps_set (i := 1) sc_law.nd rfl (Or.inl rfl) (pe_cal CPen (hr.mono (by decide)) (pa_cons (pv 0) pa_nil))) (pss_cons (ps_for PassesOwn.never rfl (pi_range1 rfl B.range_ (pa_cons (pe_op op_add pe_int (pe_callB (call_min2 rfl) rfl B.min_ (by decide +kernel) (pa_cons pe_int (pa_cons (pe_callB call_len_seq rfl B.len_ PySem.boot_len (pa_cons (pv 0) pa_nil)) pa_nil)))) pa_nil)) (pg_name (i := 2) sc_law.nd rfl (Or.inl rfl)) (pss_cons (ps_set (i := 3) sc_law.nd rfl (Or.inl rfl) (pe_cal CSm (hr.mono (by decide)) (pa_cons (pv 1) (pa_cons pe_int pa_nil)))) (pss_cons (ps_set (i := 4) sc_law.nd rfl (Or.inl rfl) (pe_ix ix_tup (pe_cal CWk (hr.mono (by decide)) (pa_cons (pv 3) (pa_cons (pe_cal CFar (hr.mono (by decide)) (pa_cons (pv 3) pa_nil)) pa_nil))) pe_int (fun _ _ => rfl))) (pss_cons (ps_set (i := 5) sc_law.nd rfl (Or.inl rfl) (pe_cal CCr (hr.mono (by decide)) (pa_cons (pv 1) (pa_cons pe_int pa_nil)))) (pss_one (ps_for PassesOwn.never rfl (pi_list (pe_lst (pa_cons (pe_tup (pa_cons (pv 3) (pa_cons (pe_lc (own := [("_law_one", 8)]) (g := gName 8) (tt := tYes) rfl sc_law.nd (pi_list (pv 4)) (blkOk_by (N := N_sc_law) (sc := defScope s_law) (by decide +kernel)) (fun _ _ _ _ _ => pg_name (i := 8) sc_law.nd rfl (Or.inl rfl)) (fun _ _ _ _ _ => pts_nil) (fun _ _ _ _ _ => (pe_ix (show IxR _ (rIxL K) from ix_list) (pe_lst (pa_cons pe_non (pa_cons pe_int pa_nil))) (pe_callTy call_int1 rfl B.int_ (by decide +kernel) (pa_cons (pv 8) pa_nil)) (fun _ _ => rfl)))) pa_nil))) (pa_cons (pe_tup (pa_cons (pv 5) (pa_cons (pe_cal CLh (hr.mono (by decide)) (pa_cons (pv 5) pa_nil)) pa_nil))) pa_nil)))) (pg_tup rfl (pgs_cons (pg_name (i := 6) sc_law.nd rfl (Or.inl rfl)) (pgs_cons (pg_name (i := 7) sc_law.nd rfl (Or.inl rfl)) pgs_nil))) (pss_cons (ps_set (i := 9) sc_law.nd rfl (Or.inl rfl) (pe_cal CFe (hr.mono (by decide)) (pa_cons (pv 6) pa_nil))) (pss_cons (ps_if (pt_cmpR op_ne (pe_callB (call_reprT hs hu6) rfl B.repr_ (by decide +kernel) (pa_cons (pe_sha0 CSa (hr.mono (by decide)) (pa_cons (pv 9) pa_nil)) pa_nil)) (pe_callB (call_reprT hs hu6) rfl B.repr_ (by decide +kernel) (pa_cons (pe_cal CDu (hr.mono (by decide)) (pa_cons (pv 6) (pa_cons (pv 7) pa_nil))) pa_nil)) (nomark _)) (pss_one (ps_ret pe_bl)) pss_nil) (pss_cons (ps_if (pt_cmpR op_ne (pe_callB (call_reprT hs hu6) rfl B.repr_ (by decide +kernel) (pa_cons (pe_shaL CSa (hr.mono (by decide)) (pa_cons (pv 9) pa_nil) (pk_cons pe_bl pk_nil)) pa_nil)) (pe_callB (call_reprT hs hu6) rfl B.repr_ (by decide +kernel) (pa_cons (pe_cal CDu (hr.mono (by decide)) (pa_cons (pe_cal COp (hr.mono (by decide)) (pa_cons (pv 6) pa_nil)) (pa_cons (pv 7) pa_nil))) pa_nil)) (nomark _)) (pss_one (ps_ret pe_bl)) pss_nil) (pss_one (ps_if (pt_cmpR (op_neD hr.units) (pe_shaL CSa (hr.mono (by decide)) (pa_cons (pv 9) pa_nil) (pk_cons pe_bl pk_nil)) (pe_sha0 CSa (hr.mono (by decide)) (pa_cons (pv 9) pa_nil)) (nomark _)) (pss_one (ps_ret pe_bl)) pss_nil))))))))))) (pss_one (ps_ret (pe_cmpR op_eq (pe_callB (call_reprT hs hu6) rfl B.repr_ (by decide +kernel) (pa_cons (pe_lst (pa_cons (pe_sha0 CSa (hr.mono (by decide)) (pa_cons (pe_makeR0 MF FI (hr.mono (by decide)) rfl U.mgF pass0) pa_nil)) (pa_cons (pe_shaL CSa (hr.mono (by decide)) (pa_cons (pe_makeR0 MF FI (hr.mono (by decide)) rfl U.mgF pass0) pa_nil) (pk_cons pe_bl pk_nil)) pa_nil))) pa_nil)) pe_str (nomark _)))))), ?_⟩
  refine ⟨_, rfl, a, ns, rfl, hS, hlen, fun p l H1 P1 hp0 hl0 s1 => ?_⟩
  have hk := @len_turns3a (ns.map V.int).length
  refine ⟨_, rfl, a, _, rfl, .inl (same_sql s1 hS), _, _, rfl, _, _, rfl, rfl, _, rfl, by omega, by omega, ?_⟩
  refine for_range (lo := 0) (fun i σ' H' => ∃ (o2 o3 o4 o5 o6 o7 o8 o9 : Option V), σ' = [some (.ref a), some (.ref p), o2, o3, o4, o5, o6, o7, o8, o9] ∧ Pen H' p l (220000 * i) ∧ LamX.Tabs T H') ⟨none, none, none, none, none, none, none, none, rfl, P1, tabs_same s1 tb⟩ ?_ ?_
  · rintro i σ' H2 hi ⟨o2, o3, o4, o5, o6, o7, o8, o9, rfl, P2, tb2⟩
    have hi6 : i < 5 := by omega
    obtain ⟨kv2, hp2⟩ := P2.dk
    refine ⟨_, rfl, p, l, 6, _, rfl, P2, by omega, by decide, by decide, fun Fa ts ss H3 hF hl l1 l2 rows ok nd hF0 P3 k3 => ?_⟩
    obtain ⟨qs, tm, hqs⟩ := team_mk (fun d p s h => small_any h) hl rows ok nd (by omega)
    have tb3 := tabs_keep k3 hp2 tb2
    have hq1 : qs ≠ [] := fun z => by
      have := tm.len
      rw [z] at this
      have e : ([] : List Quad).length = 0 := rfl
      omega
    refine ⟨_, rfl, _, rfl, Fa, ts, qs, rfl, SqL.of hF, tm, hqs, hq1, fun R S Bm H5 wi r0 r1 x0 x1 b0 b1 s5 => ?_⟩
    have sb0 := Int.mul_nonneg x0 b0
    have sb1 : S * Bm ≤ 6 * 6 := Int.mul_le_mul x1 b1 b0 (by decide)
    obtain ⟨far, ef⟩ : ∃ far : Nat, 2 * R + S * Bm + 2 * S + Bm + 2 = (far : Int) := ⟨(2 * R + S * Bm + 2 * S + Bm + 2).toNat, by omega⟩
    have hqe : qs.length ≤ 6 := by have := tm.len; omega
    refine ⟨Fa, ts, qs, R, S, Bm, far, by rw [ef]; rfl, SqL.of (s5 _ _ hF), tm.same s5, hqe, by omega, wi, by omega, r1, x1, b0, fun u Hl Pd Cn Bn zs H6 hc hu6' hHl hPd dz zl s6 => ?_⟩
    refine ⟨u, _, _, _, rfl, rfl, SqT.of hu6', atI_nat (j := 0) rfl, ?_⟩
    have s56 := s5.trans s6
    have P6 := P3.same s56
    have tb6 := tabs_same s56 tb3
    have hF6 := s56 _ _ hF
    have tm6 := tm.same s56
    obtain ⟨kv6, hp6⟩ := P6.dk
    refine ⟨_, rfl, p, l, 8, _, rfl, P6, by omega, by decide, by decide, fun Ga us ss2 H7 hG hl2 l12 l22 rows2 ok2 nd2 hG0 P7 k7 => ?_⟩
    obtain ⟨ps, tmG, _⟩ := team_mk (fun d p s h => base_any h) hl2 rows2 ok2 nd2 (by omega)
    have tb7 := tabs_keep k7 hp6 tb6
    have hF7 := k7 _ _ hF6 (ne_of hF6 hp6 (by intro z; cases z))
    have tm7 := tm6.keep k7 hp6
    have hHl7 := k7 _ _ hHl (ne_of hHl hp6 (by intro z; cases z))
    obtain ⟨cs1, ecs⟩ : ∃ cs1, ((List.range qs.length).map fun k => if haltB qs Cn ((far : Int) + 1) k = true then some (0 : Int) else none) = cs1 := ⟨_, rfl⟩
    have cl1 : cs1.length = qs.length := by rw [← ecs, List.length_map, List.length_range]
    refine ⟨_, rfl, _, rfl, Hl, rfl, ⟨_, SqL.of hHl7⟩, fun M nM => ?_⟩
    refine lc_list (K := K) (a := Hl) (xs := (List.range qs.length).map fun k => V.bl (haltB qs Cn ((far : Int) + 1) k)) (fun m H' => H' M = some (.lst ((cs1.take m).map optV)) ∧ Same H7 H') ⟨upd_same, same_new nM _⟩ (fun m H' _ h => SqL.of (h.2 _ _ hHl7)) ?_ ?_
    · rintro m v H' ev ⟨hM, sM⟩
      have hm : m < qs.length := by
        have := (List.getElem?_eq_some_iff.mp ev).1
        rw [List.length_map, List.length_range] at this
        exact this
      obtain ⟨b, eb⟩ : ∃ b, haltB qs Cn ((far : Int) + 1) m = b := ⟨_, rfl⟩
      rw [List.getElem?_map, List.getElem?_range hm] at ev
      have ev : some (V.bl (haltB qs Cn ((far : Int) + 1) m)) = some v := ev
      rw [eb] at ev
      obtain rfl := Option.some.inj ev
      have ecm : cs1[m]? = some (if b = true then some (0 : Int) else none) := by
        rw [← ecs, List.getElem?_map, List.getElem?_range hm]
        show some (if haltB qs Cn ((far : Int) + 1) m = true then some (0 : Int) else none) = _
        rw [eb]
      have szM : ((cs1.take m).map optV).length < sizeLine := by
        rw [List.length_map, List.length_take]
        exact Nat.lt_of_le_of_lt (show min m cs1.length ≤ 6 by omega) (by decide)
      refine ⟨rfl, by show 2 ≤ sizeLine; decide, fun w nw => ⟨_, rfl, .inr ⟨b, rfl, ?_⟩⟩⟩
      have su := same_new nw (.lst [V.non, V.int 0])
      cases b with
      | true =>
        refine ⟨w, _, _, _, rfl, rfl, SqL.of upd_same, atI_nat (j := 1) rfl, _, su _ _ hM, szM, ?_, sameAt (sM.trans su) nM⟩
        rw [upd_same, take_snoc ecm, List.map_append]
        rfl
      | false =>
        refine ⟨w, _, _, _, rfl, rfl, SqL.of upd_same, atI_nat (j := 0) rfl, _, su _ _ hM, szM, ?_, sameAt (sM.trans su) nM⟩
        rw [upd_same, take_snoc ecm, List.map_append]
        rfl
    rintro H8 ⟨hM, s8⟩
    rw [List.length_map, List.length_range, ← cl1, List.take_length] at hM
    refine ⟨by show 2 ≤ sizeLine; decide, fun t1 n1 => ?_⟩
    have w1 := same_new n1 (.tup [.ref Fa, .ref M])
    have s81 := s8.trans w1
    refine ⟨_, rfl, _, rfl, Ga, us, ps, rfl, SqL.of (s81 _ _ hG), tmG.same s81, fun Ca cs2 Bn2 H9 hC2 cl2 hcG nC s9 => ?_⟩
    refine ⟨by show 2 ≤ sizeLine; decide, fun t2 n2 => ?_⟩
    have w2 := same_new n2 (.tup [.ref Ga, .ref Ca])
    refine ⟨by show 2 ≤ sizeLine; decide, fun D nD => ?_⟩
    have wD := same_new nD (.lst [V.ref t1, V.ref t2])
    have s9D := (s9.trans w2).trans wD
    have s7D := s81.trans s9D
    have ent1 : Entr (upd (upd H9 t2 (.tup [.ref Ga, .ref Ca])) D (.lst [V.ref t1, V.ref t2])) t1 := ⟨Fa, M, ts, qs, cs1, Cn, Bn, s9D _ _ upd_same, s7D _ _ hF7, tm7.same s7D, (w1.trans s9D) _ _ hM, cl1, by omega, hc, fun k hk => by
      have e : cnL cs1 k = if haltB qs Cn ((far : Int) + 1) k = true then some (0 : Int) else none := by
        refine cnL_at ?_
        rw [← ecs, List.getElem?_map, List.getElem?_range hk]
        rfl
      rw [e]
      constructor
      · intro z
        cases ec : Cn k with
        | none => rfl
        | some c =>
          have hf := hist_far wi hc.is hk ec
          rw [if_pos (halt_iff.mpr ⟨c, ec, by omega⟩)] at z
          cases z
      · intro z
        rw [if_neg]
        intro h
        obtain ⟨c, ec, _⟩ := halt_iff.mp h
        rw [z] at ec
        cases ec⟩
    have ent2 : Entr (upd (upd H9 t2 (.tup [.ref Ga, .ref Ca])) D (.lst [V.ref t1, V.ref t2])) t2 := ⟨Ga, Ca, us, ps, cs2, cnL cs2, Bn2, wD _ _ upd_same, s7D _ _ hG, tmG.same s7D, (w2.trans wD) _ _ hC2, cl2, by have := tmG.len; omega, hcG, fun k hk => Iff.rfl⟩
    have hDl : upd (upd H9 t2 (.tup [.ref Ga, .ref Ca])) D (.lst [V.ref t1, V.ref t2]) D = some (.lst [V.ref t1, V.ref t2]) := upd_same
    have P9 := P7.same s7D
    have tb9 := tabs_same s7D tb7
    generalize upd (upd H9 t2 (.tup [.ref Ga, .ref Ca])) D (.lst [V.ref t1, V.ref t2]) = H10 at ent1 ent2 hDl P9 tb9 ⊢
    refine ⟨D, rfl, ⟨_, SqL.of hDl⟩, for_list (K := K) (a := D) (xs := [V.ref t1, V.ref t2]) (fun j σ H' => ∃ (o6 o7 o8 o9 : Option V), σ = [some (.ref a), some (.ref p), some (.int (0 + (i : Int))), some (.ref Fa), some (.ref Hl), some (.ref Ga), o6, o7, o8, o9] ∧ Pen H' p l (220000 * i + 210000) ∧ LamX.Tabs T H' ∧ H' D = some (.lst [V.ref t1, V.ref t2]) ∧ Entr H' t1 ∧ Entr H' t2) ⟨_, _, _, _, rfl, P9.le (by omega), tb9, hDl, ent1, ent2⟩ (fun j σ H' _ h => by obtain ⟨_, _, _, _, _, _, _, h, _⟩ := h; exact SqL.of h) ?_ ?_⟩
    · rintro j v σ H11 ev ⟨o6, o7, o8, o9, rfl, P11, tb11, hD11, en1, en2⟩
      obtain ⟨t, rfl, en⟩ : ∃ t, v = .ref t ∧ Entr H11 t := by
        have hv := List.mem_of_getElem? ev
        simp only [List.mem_cons, List.not_mem_nil, or_false] at hv
        rcases hv with rfl | rfl
        · exact ⟨t1, rfl, en1⟩
        · exact ⟨t2, rfl, en2⟩
      obtain ⟨X, Ya, tx, qx, cx, Cx_, Bx, h1, h2, h3, h4, h5, h6, h7, h8⟩ := en.ex
      refine ⟨t, _, rfl, SqT.of h1, rfl, _, _, rfl, _, _, rfl, rfl, ?_⟩
      refine ⟨_, rfl, X, tx, qx, rfl, SqL.of h2, h3, fun g L H12 hg eL s12 => ?_⟩
      have okx := h3.ok
      have d0 := team_d0 h3
      have lL : L.length = qx.length := by rw [← eL, parts_len]
      have dpos := fun left => frQ_pos (qs := qx) (C := cnL cx) (left := left) qx.length
      have small := fun left => frQ_small (C := cnL cx) (left := left) okx h6
      have key : ∀ {left : Bool} {rs : List Rw} {o u : Nat}, HistR (partsOf L) (fSP (partsOf L)) rs → Red o u (frQ (partsOf L) (cntR rs) left L.length).1 (frQ (partsOf L) (cntR rs) left L.length).2 → o = (frQ qx (cnL cx) left qx.length).1 / Nat.gcd (frQ qx (cnL cx) left qx.length).1 (frQ qx (cnL cx) left qx.length).2 ∧ u = (frQ qx (cnL cx) left qx.length).2 / Nat.gcd (frQ qx (cnL cx) left qx.length).1 (frQ qx (cnL cx) left qx.length).2 := fun {left rs o u} hist red => by
        rw [eL] at hist
        have e : frQ (partsOf L) (cntR rs) left L.length = frQ qx (cnL cx) left qx.length := by
          rw [eL, lL]
          exact frQ_congr _ (fun k hk => by rw [cnt_cn d0 hist h7 hk]; exact (h8 k hk).symm) fun k hk => rfl
        rw [e] at red
        exact red_uniq red (dpos left)
      have fitx : ∀ left, Fit (nnD ((frQ qx (cnL cx) left qx.length).1 / Nat.gcd (frQ qx (cnL cx) left qx.length).1 (frQ qx (cnL cx) left qx.length).2) ((frQ qx (cnL cx) left qx.length).2 / Nat.gcd (frQ qx (cnL cx) left qx.length).1 (frQ qx (cnL cx) left qx.length).2)) := fun left => nn_fit (Nat.lt_of_le_of_lt (Nat.div_le_self _ _) (small left).1) (Nat.lt_of_le_of_lt (Nat.div_le_self _ _) (small left).2)
      have tb12 := tabs_same s12 tb11
      -- to the right
      refine ⟨_, rfl, g, L, false, rfl, hg, tb12, fun rs o u z H13 hist red hz e13 tb13 => ?_⟩
      obtain ⟨rfl, rfl⟩ := key hist red
      refine ⟨.ref z, _, rfl, nn_dp hz, fitx false, fun y1 ey1 => ?_⟩
      have e3 := (LamX.ExtN.of s12).trans e13
      refine ⟨_, rfl, _, rfl, X, Ya, tx, qx, cx, rfl, SqL.of (e3 _ _ h2 nt_lst), h3.extN e3, e3 _ _ h4 nt_lst, h5, fun z2 H14 hz2 s14 => ?_⟩
      refine ⟨.ref z2, _, rfl, nn_dp hz2, fitx false, fun y2 ey2 => ⟨rfl, _, rfl, iteNS (by rw [ey1, ey2]) ?_⟩⟩
      have e4 := e3.trans (LamX.ExtN.of s14)
      have tb14 := tabs_same s14 tb13
      have hg14 := (hg.extN e13).same s14
      -- to the left
      refine ⟨_, rfl, rfl, rfl, g, L, true, rfl, hg14, tb14, fun rs2 o2 u2 z3 H15 hist2 red2 hz3 e15 tb15 => ?_⟩
      obtain ⟨rfl, rfl⟩ := key hist2 red2
      refine ⟨.ref z3, _, rfl, nn_dp hz3, fitx true, fun y3 ey3 => ?_⟩
      have e5 := e4.trans e15
      refine ⟨_, rfl, X, tx, qx, rfl, SqL.of (e5 _ _ h2 nt_lst), h3.extN e5, fun X2 tx2 H16 hX2 tmX s16 => ?_⟩
      have e6 := e5.trans (LamX.ExtN.of s16)
      refine ⟨_, rfl, X2, Ya, tx2, _, cx, rfl, SqL.of hX2, tmX, e6 _ _ h4 nt_lst, by rw [List.length_map]; exact h5, fun z4 H17 hz4 s17 => ?_⟩
      rw [fr_mirr] at hz4
      refine ⟨.ref z4, _, rfl, nn_dp hz4, fitx true, fun y4 ey4 => ⟨rfl, _, rfl, iteNS (by rw [ey3, ey4]) ?_⟩⟩
      have e7 := e6.trans (LamX.ExtN.of s17)
      have tb17 := tabs_same s17 (tabs_same s16 tb15)
      have hg17 := ((hg14.extN e15).same s16).same s17
      -- said twice
      refine ⟨_, rfl, rfl, rfl, g, L, false, rfl, hg17, tb17, fun rs3 o3 u3 z5 H18 hist3 red3 hz5 e18 tb18 => ?_⟩
      obtain ⟨rfl, rfl⟩ := key hist3 red3
      refine ⟨_, rfl, g, L, false, rfl, hg17.extN e18, tb18, fun rs4 o4 u4 z6 H19 hist4 red4 hz6 e19 tb19 => ?_⟩
      obtain ⟨rfl, rfl⟩ := key hist4 red4
      refine ⟨_, _, nn_dp (e19 _ _ hz5 nt_tup), nn_dp hz6, nn_sh, nn_sh, _, rfl, iteBF2 nn_eq ?_⟩
      have e9 := (e7.trans e18).trans e19
      exact ⟨_, _, _, _, rfl, P11.extN e9, tb19, e9 _ _ hD11 nt_lst, en1.ext e9, en2.ext e9⟩
    · rintro σ H11 ⟨o6, o7, o8, o9, rfl, P11, tb11, _, _, _⟩
      exact ⟨_, _, _, _, _, _, _, _, rfl, P11.le (by omega), tb11⟩
  · rintro σ' H2 ⟨o2, o3, o4, o5, o6, o7, o8, o9, rfl, P2, tb2⟩
    refine fun x dx nx ndx nex => ask_fence (L := []) nx ndx ⟨(fun x h => nomatch h), List.nodup_nil, Nat.zero_le _⟩ fun H3 f3 s3 => ⟨rfl, ?_⟩
    have f01 : ∀ (rs : List Rw) (left : Bool), frQ (partsOf []) (cntR rs) left ([] : List Pt).length = (0, 1) := fun rs left => rfl
    refine ⟨x, [], false, rfl, f3, tabs_same s3 tb2, fun rs o u z H4 hist red hz e4 tb4 => ?_⟩
    rw [f01] at red
    obtain ⟨q1, q2⟩ := red_uniq (show Red o u 0 1 from red) (by decide)
    have q1 : o = 0 := q1.trans (by decide)
    have q2 : u = 1 := q2.trans (by decide)
    subst q1 q2
    refine fun x2 dx2 nx2 ndx2 nex2 => ask_fence (L := []) nx2 ndx2 ⟨(fun x h => nomatch h), List.nodup_nil, Nat.zero_le _⟩ fun H5 f5 s5 => ⟨rfl, ?_⟩
    refine ⟨rfl, rfl, x2, [], true, rfl, f5, tabs_same s5 tb4, fun rs2 o2 u2 z2 H6 hist2 red2 hz2 e6 tb6 => ?_⟩
    rw [f01] at red2
    obtain ⟨q3, q4⟩ := red_uniq (show Red o2 u2 0 1 from red2) (by decide)
    have q3 : o2 = 0 := q3.trans (by decide)
    have q4 : u2 = 1 := q4.trans (by decide)
    subst q3 q4
    refine ⟨by show 2 ≤ sizeLine; decide, fun D nD => ?_⟩
    have wD := same_new nD (.lst [V.ref z, V.ref z2])
    have hz6 := wD _ _ (e6 _ _ (s5 _ _ hz) nt_tup)
    refine ⟨.ref D, .list [nnD 0 1, nnD 0 1], rfl, .lst (SqL.of upd_same) (.cons (nn_dp (a := 0) (b := 1) hz6) (.cons (nn_dp (a := 0) (b := 1) (wD _ _ hz2)) .nil)), ⟨by decide +kernel, rfl, by decide +kernel, by decide +kernel⟩, fun y ey => ⟨rfl, ?_⟩⟩
    have e : y = "[(0, 1), (0, 1)]" := ey.trans (by decide +kernel)
    subst e
    have z := q (upd H6 D (.lst [V.ref z, V.ref z2]))
    rw [← decide_eq_true (rfl : V.str "[(0, 1), (0, 1)]" = V.str "[(0, 1), (0, 1)]")] at z
    exact z
end
end Ur
/-! UrTb: facts for the ends: kits of errors, tables. -/
namespace Ur
open PySem PySem.Spec PyProof.Rows L2
theorem kit_typ {K : PySem.W.Frag} {C : Addr} {T : String} {b : Bool} (m : PySem.W.kitMeta T = true) (h : PySem.W.subIn K (.ref C) (.type T) = some b) : PySem.W.kitOne K (.ref C) (.type T) = some b := by
  show (if (Value.ref C == Value.type T) = true then some true else if PySem.W.kitMeta T = true then PySem.W.subIn K (.ref C) (.type T) else none) = some b
  rw [if_neg (show ¬ ((Value.ref C == Value.type T) = true) from fun z => by have := beq_iff_eq.mp z; cases this), if_pos m]
  exact h
theorem kit_not {K : PySem.W.Frag} {C E : Addr} (i : PySem.W.isClsIn K E = true) (t : PySem.W.typeIn K (.ref E) = some (.type "type")) (h : PySem.W.subIn K (.ref C) (.ref E) = some false) (self : PySem.W.subIn K (.ref C) (.ref C) = some true) : PySem.W.kitOne K (.ref C) (.ref E) = some false := by
  have ne : C ≠ E := by
    rintro rfl
    rw [self] at h
    cases h
  have e2 : ((PySem.W.clsIn K E).isSome && PySem.W.typeIn K (.ref E) == some (.type "type")) = true := by
    have i2 : (PySem.W.clsIn K E).isSome = true := i
    rw [i2, t] <;> rfl
  show (if (Value.ref C == Value.ref E) = true then some true else if ((PySem.W.clsIn K E).isSome && PySem.W.typeIn K (.ref E) == some (.type "type")) = true then PySem.W.subIn K (.ref C) (.ref E) else none) = some false
  rw [if_neg (fun z => ne (Value.ref.inj (beq_iff_eq.mp z))), if_pos e2]
  exact h
theorem tab_mk {K : PySem.W.Frag} {x : Str} {f c Pt : Addr} {oc e : Value} {od dd : Option Addr} {fd : FuncData} {sl s2 : Array (Option Value)} {vs : Array Value} (a : PySem.W.nsIn K mainGlobals x = some (some (.ref f))) (l : K.lookup f = some ⟨oc, od, .func fd, sl⟩) (r : fd.code = .ref c)
    (v : K.lookup c = some ⟨e, dd, .fields vs, s2⟩) (w : (vs[11]? : Option Value) = some (.ref Pt)) : PySem.W.tabIn K x = some (c, Pt) := by
  unfold PySem.W.tabIn
  rw [a]
  simp only [l, r, v, w]
end Ur
/-! E48: the end. -/
namespace Ur
open PySem PySem.Spec PyProof.Rows L2
theorem all_mk {l : PySem.W.OpenLaw} {w : World} {K : PySem.W.Frag} {h : Heap} {mg : Str → Option Value} {fa : Addr} (X : K.In h) (G : h.Ns mainGlobals mg) (hfa : mg "law" = some (.ref fa))
    {f1 f2 f3 f4 f5 f6 f7 f8 f9 f10 f11 f12 f13 f14 f15 f16 f17 f18 f19 f20 f21 f22 f23 f24 f25 f26 f27 f28 f29 f30 f31 dk31 f32 dk32 f33 f34 f35 f36 f37 f38 f39 dk39 fL CPainter f40 p41 f41 p42 f42 p43 f43 p44 f44 p45 f45 CFence f46 p47 f47 f48 CHistory f49 p50 f50 fx5 cq__rows_of Pq__rows_of : Addr}
    {od1 an1 od2 an2 od3 an3 od4 an4 od5 an5 od6 an6 od7 an7 od8 an8 od9 an9 od10 an10 od11 an11 od12 an12 od13 an13 od14 an14 od15 an15 od16 an16 od17 an17 od18 an18 od19 an19 od20 an20 od21 an21 od22 an22 od23 an23 od24 an24 od25 an25 od26 an26 od27 an27 od28 an28 od29 an29 od30 an30 od31 an31 od32 an32 od33 an33 od34 an34 od35 an35 od36 an36 od37 an37 od38 an38 od39 an39 odL anL od40 an40 od41 an41 od42 an42 od43 an43 od44 an44 od45 an45 od46 an46 od47 an47 od48 an48 od49 an49 od50 an50 d36q : Option Addr}
    {sl1 sl2 sl3 sl4 sl5 sl6 sl7 sl8 sl9 sl10 sl11 sl12 sl13 sl14 sl15 sl16 sl17 sl18 sl19 sl20 sl21 sl22 sl23 sl24 sl25 sl26 sl27 sl28 sl29 sl30 sl31 sl32 sl33 sl34 sl35 sl36 sl37 sl38 sl39 slL sl40 sl41 sl42 sl43 sl44 sl45 sl46 sl47 sl48 sl49 sl50 s36q : Array (Option Value)}
    {oc1 kV1 dc1 pm1 cd1 ct1 oc2 kV2 dc2 pm2 cd2 ct2 oc3 kV3 dc3 pm3 cd3 ct3 oc4 kV4 dc4 pm4 cd4 ct4 oc5 kV5 dc5 pm5 cd5 ct5 oc6 kV6 dc6 pm6 cd6 ct6 oc7 kV7 dc7 pm7 cd7 ct7 oc8 kV8 dc8 pm8 cd8 ct8 oc9 kV9 dc9 pm9 cd9 ct9 oc10 kV10 dc10 pm10 cd10 ct10 oc11 kV11 dc11 pm11 cd11 ct11 oc12 kV12 dc12 pm12 cd12 ct12 oc13 kV13 dc13 pm13 cd13 ct13 oc14 kV14 dc14 pm14 cd14 ct14 oc15 kV15 dc15 pm15 cd15 ct15 oc16 kV16 dc16 pm16 cd16 ct16 oc17 kV17 dc17 pm17 cd17 ct17 oc18 kV18 dc18 pm18 cd18 ct18 oc19 kV19 dc19 pm19 cd19 ct19 oc20 kV20 dc20 pm20 cd20 ct20 oc21 kV21 dc21 pm21 cd21 ct21 oc22 kV22 dc22 pm22 cd22 ct22 oc23 kV23 dc23 pm23 cd23 ct23 oc24 kV24 dc24 pm24 cd24 ct24 oc25 kV25 dc25 pm25 cd25 ct25 oc26 kV26 dc26 pm26 cd26 ct26 oc27 kV27 dc27 pm27 cd27 ct27 oc28 kV28 dc28 pm28 cd28 ct28 oc29 kV29 dc29 pm29 cd29 ct29 oc30 kV30 dc30 pm30 cd30 ct30 oc31 dc31 pm31 cd31 ct31 uk31_0 uk31_1 uk31_2 oc32 dc32 pm32 cd32 ct32 uk32_0 uk32_1 oc33 kV33 dc33 pm33 cd33 ct33 oc34 kV34 dc34 pm34 cd34 ct34 oc35 kV35 dc35 pm35 cd35 ct35 oc36 kV36 dc36 pm36 cd36 ct36 oc37 kV37 dc37 pm37 cd37 ct37 oc38 kV38 dc38 pm38 cd38 ct38 oc39 dc39 pm39 cd39 ct39 uk39_0 ocL kVL dcL pmL cdL ctL uPainterMAX_DAY uPainterMAX_POST uPainterMAX_STRIDE oc40 kV40 dc40 pm40 cd40 ct40 oc41 kV41 dc41 pm41 cd41 ct41 oc42 kV42 dc42 pm42 cd42 ct42 oc43 kV43 dc43 pm43 cd43 ct43 oc44 kV44 dc44 pm44 cd44 ct44 oc45 kV45 dc45 pm45 cd45 ct45 oc46 kV46 dc46 pm46 cd46 ct46 oc47 kV47 dc47 pm47 cd47 ct47 oc48 kV48 dc48 pm48 cd48 ct48 oc49 kV49 dc49 pm49 cd49 ct49 oc50 kV50 dc50 pm50 cd50 ct50 e36q vgMAX_ARGUMENT vgMAX_PAINTERS : Value}
    {r41 r42 r43 r44 r45 r47 r50 : List Value}
    {v36q : Array Value}
    (a1 : PySem.W.nsIn K mainGlobals "_law_pen" = some (some (.ref f1)))
    (l1 : K.lookup f1 = some ⟨oc1, od1, .func (PySem.W.fnOf "_law_pen" "_law_pen" (defArgs s__law_pen) (defBody s__law_pen) (defScope s__law_pen) .none kV1 dc1 pm1 an1 cd1 ct1), sl1⟩)
    (c1 : PySem.W.codeIn K cd1 "_law_pen" = true)
    (k1 : PySem.W.keepIn K (.ref f1) = true)
    (a2 : PySem.W.nsIn K mainGlobals "_law_draw" = some (some (.ref f2)))
    (l2 : K.lookup f2 = some ⟨oc2, od2, .func (PySem.W.fnOf "_law_draw" "_law_draw" (defArgs s__law_draw) (defBody s__law_draw) (defScope s__law_draw) .none kV2 dc2 pm2 an2 cd2 ct2), sl2⟩)
    (c2 : PySem.W.codeIn K cd2 "_law_draw" = true)
    (k2 : PySem.W.keepIn K (.ref f2) = true)
    (a3 : PySem.W.nsIn K mainGlobals "_law_pick" = some (some (.ref f3)))
    (l3 : K.lookup f3 = some ⟨oc3, od3, .func (PySem.W.fnOf "_law_pick" "_law_pick" (defArgs s__law_pick) (defBody s__law_pick) (defScope s__law_pick) .none kV3 dc3 pm3 an3 cd3 ct3), sl3⟩)
    (c3 : PySem.W.codeIn K cd3 "_law_pick" = true)
    (k3 : PySem.W.keepIn K (.ref f3) = true)
    (a4 : PySem.W.nsIn K mainGlobals "_law_around" = some (some (.ref f4)))
    (l4 : K.lookup f4 = some ⟨oc4, od4, .func (PySem.W.fnOf "_law_around" "_law_around" (defArgs s__law_around) (defBody s__law_around) (defScope s__law_around) .none kV4 dc4 pm4 an4 cd4 ct4), sl4⟩)
    (c4 : PySem.W.codeIn K cd4 "_law_around" = true)
    (k4 : PySem.W.keepIn K (.ref f4) = true)
    (a5 : PySem.W.nsIn K mainGlobals "_law_power" = some (some (.ref f5)))
    (l5 : K.lookup f5 = some ⟨oc5, od5, .func (PySem.W.fnOf "_law_power" "_law_power" (defArgs s__law_power) (defBody s__law_power) (defScope s__law_power) .none kV5 dc5 pm5 an5 cd5 ct5), sl5⟩)
    (c5 : PySem.W.codeIn K cd5 "_law_power" = true)
    (k5 : PySem.W.keepIn K (.ref f5) = true)
    (a6 : PySem.W.nsIn K mainGlobals "_law_great" = some (some (.ref f6)))
    (l6 : K.lookup f6 = some ⟨oc6, od6, .func (PySem.W.fnOf "_law_great" "_law_great" (defArgs s__law_great) (defBody s__law_great) (defScope s__law_great) .none kV6 dc6 pm6 an6 cd6 ct6), sl6⟩)
    (c6 : PySem.W.codeIn K cd6 "_law_great" = true)
    (k6 : PySem.W.keepIn K (.ref f6) = true)
    (a7 : PySem.W.nsIn K mainGlobals "_law_names" = some (some (.ref f7)))
    (l7 : K.lookup f7 = some ⟨oc7, od7, .func (PySem.W.fnOf "_law_names" "_law_names" (defArgs s__law_names) (defBody s__law_names) (defScope s__law_names) .none kV7 dc7 pm7 an7 cd7 ct7), sl7⟩)
    (c7 : PySem.W.codeIn K cd7 "_law_names" = true)
    (k7 : PySem.W.keepIn K (.ref f7) = true)
    (a8 : PySem.W.nsIn K mainGlobals "_law_small" = some (some (.ref f8)))
    (l8 : K.lookup f8 = some ⟨oc8, od8, .func (PySem.W.fnOf "_law_small" "_law_small" (defArgs s__law_small) (defBody s__law_small) (defScope s__law_small) .none kV8 dc8 pm8 an8 cd8 ct8), sl8⟩)
    (c8 : PySem.W.codeIn K cd8 "_law_small" = true)
    (k8 : PySem.W.keepIn K (.ref f8) = true)
    (a9 : PySem.W.nsIn K mainGlobals "_law_aimed" = some (some (.ref f9)))
    (l9 : K.lookup f9 = some ⟨oc9, od9, .func (PySem.W.fnOf "_law_aimed" "_law_aimed" (defArgs s__law_aimed) (defBody s__law_aimed) (defScope s__law_aimed) .none kV9 dc9 pm9 an9 cd9 ct9), sl9⟩)
    (c9 : PySem.W.codeIn K cd9 "_law_aimed" = true)
    (k9 : PySem.W.keepIn K (.ref f9) = true)
    (a10 : PySem.W.nsIn K mainGlobals "_law_lined" = some (some (.ref f10)))
    (l10 : K.lookup f10 = some ⟨oc10, od10, .func (PySem.W.fnOf "_law_lined" "_law_lined" (defArgs s__law_lined) (defBody s__law_lined) (defScope s__law_lined) .none kV10 dc10 pm10 an10 cd10 ct10), sl10⟩)
    (c10 : PySem.W.codeIn K cd10 "_law_lined" = true)
    (k10 : PySem.W.keepIn K (.ref f10) = true)
    (a11 : PySem.W.nsIn K mainGlobals "_law_crowd" = some (some (.ref f11)))
    (l11 : K.lookup f11 = some ⟨oc11, od11, .func (PySem.W.fnOf "_law_crowd" "_law_crowd" (defArgs s__law_crowd) (defBody s__law_crowd) (defScope s__law_crowd) .none kV11 dc11 pm11 an11 cd11 ct11), sl11⟩)
    (c11 : PySem.W.codeIn K cd11 "_law_crowd" = true)
    (k11 : PySem.W.keepIn K (.ref f11) = true)
    (a12 : PySem.W.nsIn K mainGlobals "_law_far_date" = some (some (.ref f12)))
    (l12 : K.lookup f12 = some ⟨oc12, od12, .func (PySem.W.fnOf "_law_far_date" "_law_far_date" (defArgs s__law_far_date) (defBody s__law_far_date) (defScope s__law_far_date) .none kV12 dc12 pm12 an12 cd12 ct12), sl12⟩)
    (c12 : PySem.W.codeIn K cd12 "_law_far_date" = true)
    (k12 : PySem.W.keepIn K (.ref f12) = true)
    (a13 : PySem.W.nsIn K mainGlobals "_law_walked" = some (some (.ref f13)))
    (l13 : K.lookup f13 = some ⟨oc13, od13, .func (PySem.W.fnOf "_law_walked" "_law_walked" (defArgs s__law_walked) (defBody s__law_walked) (defScope s__law_walked) .none kV13 dc13 pm13 an13 cd13 ct13), sl13⟩)
    (c13 : PySem.W.codeIn K cd13 "_law_walked" = true)
    (k13 : PySem.W.keepIn K (.ref f13) = true)
    (a14 : PySem.W.nsIn K mainGlobals "_law_shares" = some (some (.ref f14)))
    (l14 : K.lookup f14 = some ⟨oc14, od14, .func (PySem.W.fnOf "_law_shares" "_law_shares" (defArgs s__law_shares) (defBody s__law_shares) (defScope s__law_shares) .none kV14 dc14 pm14 an14 cd14 ct14), sl14⟩)
    (c14 : PySem.W.codeIn K cd14 "_law_shares" = true)
    (k14 : PySem.W.keepIn K (.ref f14) = true)
    (a15 : PySem.W.nsIn K mainGlobals "_law_due" = some (some (.ref f15)))
    (l15 : K.lookup f15 = some ⟨oc15, od15, .func (PySem.W.fnOf "_law_due" "_law_due" (defArgs s__law_due) (defBody s__law_due) (defScope s__law_due) .none kV15 dc15 pm15 an15 cd15 ct15), sl15⟩)
    (c15 : PySem.W.codeIn K cd15 "_law_due" = true)
    (k15 : PySem.W.keepIn K (.ref f15) = true)
    (a16 : PySem.W.nsIn K mainGlobals "_law_opposite" = some (some (.ref f16)))
    (l16 : K.lookup f16 = some ⟨oc16, od16, .func (PySem.W.fnOf "_law_opposite" "_law_opposite" (defArgs s__law_opposite) (defBody s__law_opposite) (defScope s__law_opposite) .none kV16 dc16 pm16 an16 cd16 ct16), sl16⟩)
    (c16 : PySem.W.codeIn K cd16 "_law_opposite" = true)
    (k16 : PySem.W.keepIn K (.ref f16) = true)
    (a17 : PySem.W.nsIn K mainGlobals "_law_inverse" = some (some (.ref f17)))
    (l17 : K.lookup f17 = some ⟨oc17, od17, .func (PySem.W.fnOf "_law_inverse" "_law_inverse" (defArgs s__law_inverse) (defBody s__law_inverse) (defScope s__law_inverse) .none kV17 dc17 pm17 an17 cd17 ct17), sl17⟩)
    (c17 : PySem.W.codeIn K cd17 "_law_inverse" = true)
    (k17 : PySem.W.keepIn K (.ref f17) = true)
    (a18 : PySem.W.nsIn K mainGlobals "_law_gcd" = some (some (.ref f18)))
    (l18 : K.lookup f18 = some ⟨oc18, od18, .func (PySem.W.fnOf "_law_gcd" "_law_gcd" (defArgs s__law_gcd) (defBody s__law_gcd) (defScope s__law_gcd) .none kV18 dc18 pm18 an18 cd18 ct18), sl18⟩)
    (c18 : PySem.W.codeIn K cd18 "_law_gcd" = true)
    (k18 : PySem.W.keepIn K (.ref f18) = true)
    (a19 : PySem.W.nsIn K mainGlobals "_law_common" = some (some (.ref f19)))
    (l19 : K.lookup f19 = some ⟨oc19, od19, .func (PySem.W.fnOf "_law_common" "_law_common" (defArgs s__law_common) (defBody s__law_common) (defScope s__law_common) .none kV19 dc19 pm19 an19 cd19 ct19), sl19⟩)
    (c19 : PySem.W.codeIn K cd19 "_law_common" = true)
    (k19 : PySem.W.keepIn K (.ref f19) = true)
    (a20 : PySem.W.nsIn K mainGlobals "_law_first" = some (some (.ref f20)))
    (l20 : K.lookup f20 = some ⟨oc20, od20, .func (PySem.W.fnOf "_law_first" "_law_first" (defArgs s__law_first) (defBody s__law_first) (defScope s__law_first) .none kV20 dc20 pm20 an20 cd20 ct20), sl20⟩)
    (c20 : PySem.W.codeIn K cd20 "_law_first" = true)
    (k20 : PySem.W.keepIn K (.ref f20) = true)
    (a21 : PySem.W.nsIn K mainGlobals "_law_pairs" = some (some (.ref f21)))
    (l21 : K.lookup f21 = some ⟨oc21, od21, .func (PySem.W.fnOf "_law_pairs" "_law_pairs" (defArgs s__law_pairs) (defBody s__law_pairs) (defScope s__law_pairs) .none kV21 dc21 pm21 an21 cd21 ct21), sl21⟩)
    (c21 : PySem.W.codeIn K cd21 "_law_pairs" = true)
    (k21 : PySem.W.keepIn K (.ref f21) = true)
    (a22 : PySem.W.nsIn K mainGlobals "_law_next" = some (some (.ref f22)))
    (l22 : K.lookup f22 = some ⟨oc22, od22, .func (PySem.W.fnOf "_law_next" "_law_next" (defArgs s__law_next) (defBody s__law_next) (defScope s__law_next) .none kV22 dc22 pm22 an22 cd22 ct22), sl22⟩)
    (c22 : PySem.W.codeIn K cd22 "_law_next" = true)
    (k22 : PySem.W.keepIn K (.ref f22) = true)
    (a23 : PySem.W.nsIn K mainGlobals "_law_history" = some (some (.ref f23)))
    (l23 : K.lookup f23 = some ⟨oc23, od23, .func (PySem.W.fnOf "_law_history" "_law_history" (defArgs s__law_history) (defBody s__law_history) (defScope s__law_history) .none kV23 dc23 pm23 an23 cd23 ct23), sl23⟩)
    (c23 : PySem.W.codeIn K cd23 "_law_history" = true)
    (k23 : PySem.W.keepIn K (.ref f23) = true)
    (a24 : PySem.W.nsIn K mainGlobals "_law_fence" = some (some (.ref f24)))
    (l24 : K.lookup f24 = some ⟨oc24, od24, .func (PySem.W.fnOf "_law_fence" "_law_fence" (defArgs s__law_fence) (defBody s__law_fence) (defScope s__law_fence) .none kV24 dc24 pm24 an24 cd24 ct24), sl24⟩)
    (c24 : PySem.W.codeIn K cd24 "_law_fence" = true)
    (k24 : PySem.W.keepIn K (.ref f24) = true)
    (a25 : PySem.W.nsIn K mainGlobals "is_integer" = some (some (.ref f25)))
    (l25 : K.lookup f25 = some ⟨oc25, od25, .func (PySem.W.fnOf "is_integer" "is_integer" (defArgs s_is_integer) (defBody s_is_integer) (defScope s_is_integer) .none kV25 dc25 pm25 an25 cd25 ct25), sl25⟩)
    (c25 : PySem.W.codeIn K cd25 "is_integer" = true)
    (k25 : PySem.W.keepIn K (.ref f25) = true)
    (a26 : PySem.W.nsIn K mainGlobals "is_between" = some (some (.ref f26)))
    (l26 : K.lookup f26 = some ⟨oc26, od26, .func (PySem.W.fnOf "is_between" "is_between" (defArgs s_is_between) (defBody s_is_between) (defScope s_is_between) .none kV26 dc26 pm26 an26 cd26 ct26), sl26⟩)
    (c26 : PySem.W.codeIn K cd26 "is_between" = true)
    (k26 : PySem.W.keepIn K (.ref f26) = true)
    (a27 : PySem.W.nsIn K mainGlobals "check_count" = some (some (.ref f27)))
    (l27 : K.lookup f27 = some ⟨oc27, od27, .func (PySem.W.fnOf "check_count" "check_count" (defArgs s_check_count) (defBody s_check_count) (defScope s_check_count) .none kV27 dc27 pm27 an27 cd27 ct27), sl27⟩)
    (c27 : PySem.W.codeIn K cd27 "check_count" = true)
    (k27 : PySem.W.keepIn K (.ref f27) = true)
    (a28 : PySem.W.nsIn K mainGlobals "divisor_and_factor" = some (some (.ref f28)))
    (l28 : K.lookup f28 = some ⟨oc28, od28, .func (PySem.W.fnOf "divisor_and_factor" "divisor_and_factor" (defArgs s_divisor_and_factor) (defBody s_divisor_and_factor) (defScope s_divisor_and_factor) .none kV28 dc28 pm28 an28 cd28 ct28), sl28⟩)
    (c28 : PySem.W.codeIn K cd28 "divisor_and_factor" = true)
    (k28 : PySem.W.keepIn K (.ref f28) = true)
    (a29 : PySem.W.nsIn K mainGlobals "common_numbers" = some (some (.ref f29)))
    (l29 : K.lookup f29 = some ⟨oc29, od29, .func (PySem.W.fnOf "common_numbers" "common_numbers" (defArgs s_common_numbers) (defBody s_common_numbers) (defScope s_common_numbers) .none kV29 dc29 pm29 an29 cd29 ct29), sl29⟩)
    (c29 : PySem.W.codeIn K cd29 "common_numbers" = true)
    (k29 : PySem.W.keepIn K (.ref f29) = true)
    (a30 : PySem.W.nsIn K mainGlobals "_span_of" = some (some (.ref f30)))
    (l30 : K.lookup f30 = some ⟨oc30, od30, .func (PySem.W.fnOf "_span_of" "_span_of" (defArgs s__span_of) (defBody s__span_of) (defScope s__span_of) .none kV30 dc30 pm30 an30 cd30 ct30), sl30⟩)
    (c30 : PySem.W.codeIn K cd30 "_span_of" = true)
    (k30 : PySem.W.keepIn K (.ref f30) = true)
    (a31 : PySem.W.nsIn K mainGlobals "crossing" = some (some (.ref f31)))
    (l31 : K.lookup f31 = some ⟨oc31, od31, .func (PySem.W.fnOf "crossing" "crossing" (defArgs s_crossing) (defBody s_crossing) (defScope s_crossing) .none (.ref dk31) dc31 pm31 an31 cd31 ct31), sl31⟩)
    (c31 : PySem.W.codeIn K cd31 "crossing" = true)
    (k31 : PySem.W.keepIn K (.ref f31) = true)
    (q31_0 : PySem.W.nsIn K dk31 "count" = some (some uk31_0))
    (s31_0 : L2.RelV (.non) uk31_0)
    (q31_1 : PySem.W.nsIn K dk31 "other_count" = some (some uk31_1))
    (s31_1 : L2.RelV (.non) uk31_1)
    (q31_2 : PySem.W.nsIn K dk31 "lead" = some (some uk31_2))
    (s31_2 : L2.RelV (.non) uk31_2)
    (a32 : PySem.W.nsIn K mainGlobals "first_block" = some (some (.ref f32)))
    (l32 : K.lookup f32 = some ⟨oc32, od32, .func (PySem.W.fnOf "first_block" "first_block" (defArgs s_first_block) (defBody s_first_block) (defScope s_first_block) .none (.ref dk32) dc32 pm32 an32 cd32 ct32), sl32⟩)
    (c32 : PySem.W.codeIn K cd32 "first_block" = true)
    (k32 : PySem.W.keepIn K (.ref f32) = true)
    (q32_0 : PySem.W.nsIn K dk32 "count" = some (some uk32_0))
    (s32_0 : L2.RelV (.non) uk32_0)
    (q32_1 : PySem.W.nsIn K dk32 "is_earlier" = some (some uk32_1))
    (s32_1 : L2.RelV (.bl false) uk32_1)
    (a33 : PySem.W.nsIn K mainGlobals "rows_by" = some (some (.ref f33)))
    (l33 : K.lookup f33 = some ⟨oc33, od33, .func (PySem.W.fnOf "rows_by" "rows_by" (defArgs s_rows_by) (defBody s_rows_by) (defScope s_rows_by) .none kV33 dc33 pm33 an33 cd33 ct33), sl33⟩)
    (c33 : PySem.W.codeIn K cd33 "rows_by" = true)
    (k33 : PySem.W.keepIn K (.ref f33) = true)
    (a34 : PySem.W.nsIn K mainGlobals "_find_stopped" = some (some (.ref f34)))
    (l34 : K.lookup f34 = some ⟨oc34, od34, .func (PySem.W.fnOf "_find_stopped" "_find_stopped" (defArgs s__find_stopped) (defBody s__find_stopped) (defScope s__find_stopped) .none kV34 dc34 pm34 an34 cd34 ct34), sl34⟩)
    (c34 : PySem.W.codeIn K cd34 "_find_stopped" = true)
    (k34 : PySem.W.keepIn K (.ref f34) = true)
    (a35 : PySem.W.nsIn K mainGlobals "_earliest_block" = some (some (.ref f35)))
    (l35 : K.lookup f35 = some ⟨oc35, od35, .func (PySem.W.fnOf "_earliest_block" "_earliest_block" (defArgs s__earliest_block) (defBody s__earliest_block) (defScope s__earliest_block) .none kV35 dc35 pm35 an35 cd35 ct35), sl35⟩)
    (c35 : PySem.W.codeIn K cd35 "_earliest_block" = true)
    (k35 : PySem.W.keepIn K (.ref f35) = true)
    (a36 : PySem.W.nsIn K mainGlobals "_rows_of" = some (some (.ref f36)))
    (l36 : K.lookup f36 = some ⟨oc36, od36, .func (PySem.W.fnOf "_rows_of" "_rows_of" (defArgs s__rows_of) (defBody s__rows_of) (defScope s__rows_of) .none kV36 dc36 pm36 an36 cd36 ct36), sl36⟩)
    (c36 : PySem.W.codeIn K cd36 "_rows_of" = true)
    (k36 : PySem.W.keepIn K (.ref f36) = true)
    (a37 : PySem.W.nsIn K mainGlobals "_block" = some (some (.ref f37)))
    (l37 : K.lookup f37 = some ⟨oc37, od37, .func (PySem.W.fnOf "_block" "_block" (defArgs s__block) (defBody s__block) (defScope s__block) .none kV37 dc37 pm37 an37 cd37 ct37), sl37⟩)
    (c37 : PySem.W.codeIn K cd37 "_block" = true)
    (k37 : PySem.W.keepIn K (.ref f37) = true)
    (a38 : PySem.W.nsIn K mainGlobals "painted_counts" = some (some (.ref f38)))
    (l38 : K.lookup f38 = some ⟨oc38, od38, .func (PySem.W.fnOf "painted_counts" "painted_counts" (defArgs s_painted_counts) (defBody s_painted_counts) (defScope s_painted_counts) .none kV38 dc38 pm38 an38 cd38 ct38), sl38⟩)
    (c38 : PySem.W.codeIn K cd38 "painted_counts" = true)
    (k38 : PySem.W.keepIn K (.ref f38) = true)
    (a39 : PySem.W.nsIn K mainGlobals "share" = some (some (.ref f39)))
    (l39 : K.lookup f39 = some ⟨oc39, od39, .func (PySem.W.fnOf "share" "share" (defArgs s_share) (defBody s_share) (defScope s_share) .none (.ref dk39) dc39 pm39 an39 cd39 ct39), sl39⟩)
    (c39 : PySem.W.codeIn K cd39 "share" = true)
    (k39 : PySem.W.keepIn K (.ref f39) = true)
    (q39_0 : PySem.W.nsIn K dk39 "left" = some (some uk39_0))
    (s39_0 : L2.RelV (.bl false) uk39_0)
    (aL : PySem.W.nsIn K mainGlobals "law" = some (some (.ref fL)))
    (lL : K.lookup fL = some ⟨ocL, odL, .func (PySem.W.fnOf "law" "law" (defArgs s_law) (defBody s_law) (defScope s_law) .none kVL dcL pmL anL cdL ctL), slL⟩)
    (cL : PySem.W.codeIn K cdL "law" = true)
    (kL : PySem.W.keepIn K (.ref fL) = true)
    (gPainter : PySem.W.nsIn K mainGlobals "Painter" = some (some (.ref CPainter)))
    (pgPainter : PySem.W.plainGet K CPainter Str.empty = true)
    (hdPainter : PySem.W.hasDictIn K CPainter = true)
    (poPainter : PySem.W.plainOver K CPainter = true)
    (saPainter : PySem.W.findIn K (.ref CPainter) "__setattr__" = some (some (.builtin "object.__setattr__")))
    (rdPainter : PySem.W.readsIn K CPainter (.type "type") = true)
    (gaPainter : PySem.W.specialIn K (.ref CPainter) "__getattribute__" = some (some (.builtin "type.__getattribute__")))
    (nPainter_name : PySem.W.findIn K (.ref CPainter) "_name" = some none)
    (nPainter_day : PySem.W.findIn K (.ref CPainter) "_day" = some none)
    (nPainter_post : PySem.W.findIn K (.ref CPainter) "_post" = some none)
    (nPainter_stride : PySem.W.findIn K (.ref CPainter) "_stride" = some none)
    (vPainterMAX_DAY : PySem.W.findCls K (.ref CPainter) (.type "type") "MAX_DAY" = some (.val uPainterMAX_DAY))
    (wPainterMAX_DAY : L2.RelV (.int (10 ^ 30)) uPainterMAX_DAY)
    (vPainterMAX_POST : PySem.W.findCls K (.ref CPainter) (.type "type") "MAX_POST" = some (.val uPainterMAX_POST))
    (wPainterMAX_POST : L2.RelV (.int (10 ^ 30)) uPainterMAX_POST)
    (vPainterMAX_STRIDE : PySem.W.findCls K (.ref CPainter) (.type "type") "MAX_STRIDE" = some (.val uPainterMAX_STRIDE))
    (wPainterMAX_STRIDE : L2.RelV (.int (10 ^ 18)) uPainterMAX_STRIDE)
    (a40 : PySem.W.findIn K (.ref CPainter) "__init__" = some (some (.ref f40)))
    (i40 : PySem.W.isFn K (.ref f40) = true)
    (l40 : K.lookup f40 = some ⟨oc40, od40, .func (PySem.W.fnOf "__init__" "Painter.__init__" (defArgs s_Painter_init) (defBody s_Painter_init) (defScope s_Painter_init) .none kV40 dc40 pm40 an40 cd40 ct40), sl40⟩)
    (c40 : PySem.W.codeIn K cd40 "Painter.__init__" = true)
    (k40 : PySem.W.keepIn K (.ref f40) = true)
    (mkPainter : PySem.W.makesIn K CPainter = true)
    (kcPainter : PySem.W.keepIn K (.ref CPainter) = true)
    (a41 : PySem.W.findCls K (.ref CPainter) (.type "type") "is_name" = some (.get (.builtin "staticmethod.__get__") (.ref p41) .none (.ref CPainter)))
    (e41 : PySem.W.recIn K p41 "staticmethod" = some (.ref f41 :: r41))
    (l41 : K.lookup f41 = some ⟨oc41, od41, .func (PySem.W.fnOf "is_name" "Painter.is_name" (defArgs s_Painter_is_name) (defBody s_Painter_is_name) (defScope s_Painter_is_name) .none kV41 dc41 pm41 an41 cd41 ct41), sl41⟩)
    (c41 : PySem.W.codeIn K cd41 "Painter.is_name" = true)
    (k41 : PySem.W.keepIn K (.ref f41) = true)
    (a42 : PySem.W.findIn K (.ref CPainter) "name" = some (some (.ref p42)))
    (s42 : PySem.W.specialIn K (.ref p42) "__get__" = some (some (.builtin "property.__get__")))
    (t42 : PySem.W.takesIn K (.ref p42) = some true)
    (e42 : PySem.W.recIn K p42 "property" = some (.ref f42 :: r42))
    (l42 : K.lookup f42 = some ⟨oc42, od42, .func (PySem.W.fnOf "name" "Painter.name" (defArgs s_Painter_name) (defBody s_Painter_name) (defScope s_Painter_name) .none kV42 dc42 pm42 an42 cd42 ct42), sl42⟩)
    (c42 : PySem.W.codeIn K cd42 "Painter.name" = true)
    (k42 : PySem.W.keepIn K (.ref f42) = true)
    (a43 : PySem.W.findIn K (.ref CPainter) "day" = some (some (.ref p43)))
    (s43 : PySem.W.specialIn K (.ref p43) "__get__" = some (some (.builtin "property.__get__")))
    (t43 : PySem.W.takesIn K (.ref p43) = some true)
    (e43 : PySem.W.recIn K p43 "property" = some (.ref f43 :: r43))
    (l43 : K.lookup f43 = some ⟨oc43, od43, .func (PySem.W.fnOf "day" "Painter.day" (defArgs s_Painter_day) (defBody s_Painter_day) (defScope s_Painter_day) .none kV43 dc43 pm43 an43 cd43 ct43), sl43⟩)
    (c43 : PySem.W.codeIn K cd43 "Painter.day" = true)
    (k43 : PySem.W.keepIn K (.ref f43) = true)
    (a44 : PySem.W.findIn K (.ref CPainter) "post" = some (some (.ref p44)))
    (s44 : PySem.W.specialIn K (.ref p44) "__get__" = some (some (.builtin "property.__get__")))
    (t44 : PySem.W.takesIn K (.ref p44) = some true)
    (e44 : PySem.W.recIn K p44 "property" = some (.ref f44 :: r44))
    (l44 : K.lookup f44 = some ⟨oc44, od44, .func (PySem.W.fnOf "post" "Painter.post" (defArgs s_Painter_post) (defBody s_Painter_post) (defScope s_Painter_post) .none kV44 dc44 pm44 an44 cd44 ct44), sl44⟩)
    (c44 : PySem.W.codeIn K cd44 "Painter.post" = true)
    (k44 : PySem.W.keepIn K (.ref f44) = true)
    (a45 : PySem.W.findIn K (.ref CPainter) "stride" = some (some (.ref p45)))
    (s45 : PySem.W.specialIn K (.ref p45) "__get__" = some (some (.builtin "property.__get__")))
    (t45 : PySem.W.takesIn K (.ref p45) = some true)
    (e45 : PySem.W.recIn K p45 "property" = some (.ref f45 :: r45))
    (l45 : K.lookup f45 = some ⟨oc45, od45, .func (PySem.W.fnOf "stride" "Painter.stride" (defArgs s_Painter_stride) (defBody s_Painter_stride) (defScope s_Painter_stride) .none kV45 dc45 pm45 an45 cd45 ct45), sl45⟩)
    (c45 : PySem.W.codeIn K cd45 "Painter.stride" = true)
    (k45 : PySem.W.keepIn K (.ref f45) = true)
    (gFence : PySem.W.nsIn K mainGlobals "Fence" = some (some (.ref CFence)))
    (pgFence : PySem.W.plainGet K CFence Str.empty = true)
    (hdFence : PySem.W.hasDictIn K CFence = true)
    (poFence : PySem.W.plainOver K CFence = true)
    (saFence : PySem.W.findIn K (.ref CFence) "__setattr__" = some (some (.builtin "object.__setattr__")))
    (rdFence : PySem.W.readsIn K CFence (.type "type") = true)
    (gaFence : PySem.W.specialIn K (.ref CFence) "__getattribute__" = some (some (.builtin "type.__getattribute__")))
    (nFence_painters : PySem.W.findIn K (.ref CFence) "_painters" = some none)
    (nFence_by_name : PySem.W.findIn K (.ref CFence) "_by_name" = some none)
    (a46 : PySem.W.findIn K (.ref CFence) "__init__" = some (some (.ref f46)))
    (i46 : PySem.W.isFn K (.ref f46) = true)
    (l46 : K.lookup f46 = some ⟨oc46, od46, .func (PySem.W.fnOf "__init__" "Fence.__init__" (defArgs s_Fence_init) (defBody s_Fence_init) (defScope s_Fence_init) .none kV46 dc46 pm46 an46 cd46 ct46), sl46⟩)
    (c46 : PySem.W.codeIn K cd46 "Fence.__init__" = true)
    (k46 : PySem.W.keepIn K (.ref f46) = true)
    (mkFence : PySem.W.makesIn K CFence = true)
    (kcFence : PySem.W.keepIn K (.ref CFence) = true)
    (a47 : PySem.W.findIn K (.ref CFence) "painters" = some (some (.ref p47)))
    (s47 : PySem.W.specialIn K (.ref p47) "__get__" = some (some (.builtin "property.__get__")))
    (t47 : PySem.W.takesIn K (.ref p47) = some true)
    (e47 : PySem.W.recIn K p47 "property" = some (.ref f47 :: r47))
    (l47 : K.lookup f47 = some ⟨oc47, od47, .func (PySem.W.fnOf "painters" "Fence.painters" (defArgs s_Fence_painters) (defBody s_Fence_painters) (defScope s_Fence_painters) .none kV47 dc47 pm47 an47 cd47 ct47), sl47⟩)
    (c47 : PySem.W.codeIn K cd47 "Fence.painters" = true)
    (k47 : PySem.W.keepIn K (.ref f47) = true)
    (a48 : PySem.W.findIn K (.ref CFence) "__add__" = some (some (.ref f48)))
    (i48 : PySem.W.isFn K (.ref f48) = true)
    (l48 : K.lookup f48 = some ⟨oc48, od48, .func (PySem.W.fnOf "__add__" "Fence.__add__" (defArgs s_Fence_add) (defBody s_Fence_add) (defScope s_Fence_add) .none kV48 dc48 pm48 an48 cd48 ct48), sl48⟩)
    (c48 : PySem.W.codeIn K cd48 "Fence.__add__" = true)
    (k48 : PySem.W.keepIn K (.ref f48) = true)
    (gHistory : PySem.W.nsIn K mainGlobals "History" = some (some (.ref CHistory)))
    (pgHistory : PySem.W.plainGet K CHistory Str.empty = true)
    (hdHistory : PySem.W.hasDictIn K CHistory = true)
    (poHistory : PySem.W.plainOver K CHistory = true)
    (saHistory : PySem.W.findIn K (.ref CHistory) "__setattr__" = some (some (.builtin "object.__setattr__")))
    (rdHistory : PySem.W.readsIn K CHistory (.type "type") = true)
    (gaHistory : PySem.W.specialIn K (.ref CHistory) "__getattribute__" = some (some (.builtin "type.__getattribute__")))
    (nHistory_fence : PySem.W.findIn K (.ref CHistory) "_fence" = some none)
    (nHistory_rows : PySem.W.findIn K (.ref CHistory) "_rows" = some none)
    (nHistory_by_name : PySem.W.findIn K (.ref CHistory) "_by_name" = some none)
    (nHistory_stopped : PySem.W.findIn K (.ref CHistory) "_stopped" = some none)
    (a49 : PySem.W.findIn K (.ref CHistory) "__init__" = some (some (.ref f49)))
    (i49 : PySem.W.isFn K (.ref f49) = true)
    (l49 : K.lookup f49 = some ⟨oc49, od49, .func (PySem.W.fnOf "__init__" "History.__init__" (defArgs s_History_init) (defBody s_History_init) (defScope s_History_init) .none kV49 dc49 pm49 an49 cd49 ct49), sl49⟩)
    (c49 : PySem.W.codeIn K cd49 "History.__init__" = true)
    (k49 : PySem.W.keepIn K (.ref f49) = true)
    (mkHistory : PySem.W.makesIn K CHistory = true)
    (kcHistory : PySem.W.keepIn K (.ref CHistory) = true)
    (a50 : PySem.W.findIn K (.ref CHistory) "rows" = some (some (.ref p50)))
    (s50 : PySem.W.specialIn K (.ref p50) "__get__" = some (some (.builtin "property.__get__")))
    (t50 : PySem.W.takesIn K (.ref p50) = some true)
    (e50 : PySem.W.recIn K p50 "property" = some (.ref f50 :: r50))
    (l50 : K.lookup f50 = some ⟨oc50, od50, .func (PySem.W.fnOf "rows" "History.rows" (defArgs s_History_rows) (defBody s_History_rows) (defScope s_History_rows) .none kV50 dc50 pm50 an50 cd50 ct50), sl50⟩)
    (c50 : PySem.W.codeIn K cd50 "History.rows" = true)
    (k50 : PySem.W.keepIn K (.ref f50) = true)
    (ax1 : PySem.W.selfFirst K CFence = true)
    (ax2 : PySem.W.selfFirst K CPainter = true)
    (ax3 : PySem.W.findIn K (.ref CFence) "__radd__" = some none)
    (ax4 : PySem.W.findIn K (.ref CPainter) "__radd__" = some none)
    (ax5 : PySem.W.findIn K (.ref CPainter) "__add__" = some (some (.ref fx5)))
    (ax6 : PySem.W.subIn K (.ref CPainter) (.ref CFence) = some false)
    (ax7 : CFence ≠ CPainter)
    (y1Painter : PySem.W.findIn K (.ref CPainter) "__class__" = some (some (.builtin "object.__class__")))
    (y2Painter : PySem.W.specialIn K (.builtin "object.__class__") "__get__" = some (some (.builtin "getset_descriptor.__get__")))
    (y3Painter : PySem.W.takesIn K (.builtin "object.__class__") = some true)
    (y4Painter : PySem.W.mroIn K CPainter (.type "object") = some true)
    (y1Fence : PySem.W.findIn K (.ref CFence) "__class__" = some (some (.builtin "object.__class__")))
    (y2Fence : PySem.W.specialIn K (.builtin "object.__class__") "__get__" = some (some (.builtin "getset_descriptor.__get__")))
    (y3Fence : PySem.W.takesIn K (.builtin "object.__class__") = some true)
    (y4Fence : PySem.W.mroIn K CFence (.type "object") = some true)
    (r36q : cd36 = Value.ref cq__rows_of)
    (v36x : K.lookup cq__rows_of = some ⟨e36q, d36q, .fields v36q, s36q⟩)
    (w36x : (v36q[11]? : Option Value) = some (.ref Pq__rows_of))
    (n36q : K.lookup Pq__rows_of = none)
    (neq_CHistory_CPainter : CHistory ≠ CPainter)
    (neq_CHistory_CFence : CHistory ≠ CFence)
    (GMAX_ARGUMENT : PySem.W.nsIn K mainGlobals "MAX_ARGUMENT" = some (some vgMAX_ARGUMENT))
    (HMAX_ARGUMENT : L2.RelV (.int (10 ^ 80)) vgMAX_ARGUMENT)
    (GMAX_PAINTERS : PySem.W.nsIn K mainGlobals "MAX_PAINTERS" = some (some vgMAX_PAINTERS))
    (HMAX_PAINTERS : L2.RelV (.int (40)) vgMAX_PAINTERS)
    (bgcd : PySem.W.nsIn K mainGlobals "gcd" = some (some (.builtin "math.gcd")))
    (zlen : PySem.W.nsIn K mainGlobals "len" = some none)
    (zint : PySem.W.nsIn K mainGlobals "int" = some none)
    (zabs : PySem.W.nsIn K mainGlobals "abs" = some none)
    (zlist : PySem.W.nsIn K mainGlobals "list" = some none)
    (zrange : PySem.W.nsIn K mainGlobals "range" = some none)
    (zmin : PySem.W.nsIn K mainGlobals "min" = some none)
    (zmax : PySem.W.nsIn K mainGlobals "max" = some none)
    (zrepr : PySem.W.nsIn K mainGlobals "repr" = some none)
    (zstr : PySem.W.nsIn K mainGlobals "str" = some none)
    (zbool : PySem.W.nsIn K mainGlobals "bool" = some none)
    (zisinstance : PySem.W.nsIn K mainGlobals "isinstance" = some none)
    (zany : PySem.W.nsIn K mainGlobals "any" = some none)
    (zdivmod : PySem.W.nsIn K mainGlobals "divmod" = some none)
    (zenumerate : PySem.W.nsIn K mainGlobals "enumerate" = some none)
    (ztuple : PySem.W.nsIn K mainGlobals "tuple" = some none)
    (zsorted : PySem.W.nsIn K mainGlobals "sorted" = some none)
    (zzip : PySem.W.nsIn K mainGlobals "zip" = some none)
    (zdict : PySem.W.nsIn K mainGlobals "dict" = some none)
    : ∃ (fd : FuncData) (ct : List (Addr × Addr)) (sp : Sp), (∀ (s : Shared) (v : Value), BindsTo s fd ⟨[v], []⟩ [("_law_script", v)]) ∧ (∀ q ∈ ct, K.lookup q.2 = none ∧ ∃ y ∈ (["_rows_of"] : List Str), PySem.W.tabIn K y = some q) ∧
      (∀ (H : Hp) (a : Addr) (ns : List Int), ns.length ≤ 63 → (∀ q ∈ ct, H q.2 = some (.tbl #[])) → SqL K H a (ns.map V.int) → sp [.ref a] H (fun v _ => v = .bl true) fun _ _ _ => False) ∧ ∀ base : Heap, K.In base → base.Ns mainGlobals mg → (∀ q ∈ ct, LamX.TabB base mg q.1 q.2) → FnG l.prog w K mg base 40 fa fd ["_law_script"] sp := by
  have e := hfa.symm.trans (PySem.W.mg_of X G aL)
  cases e
  have F_law := fun_mk (st := s_law) lL cL kL
  have u36q := tab_mk a36 l36 (fd := PySem.W.fnOf "_rows_of" "_rows_of" (defArgs s__rows_of) (defBody s__rows_of) (defScope s__rows_of) .none kV36 dc36 pm36 an36 cd36 ct36) r36q v36x w36x
  have D__law_pen : Dfn K mg "_law_pen" s__law_pen P__law_pen := ⟨f1, _, fun_mk l1 c1 k1, (fun_mk l1 c1 k1).binds fun _ _ _ _ _ _ us hl => match us, hl with | [_], _ => rfl, PySem.W.mg_of X G a1⟩
  have D__law_draw : Dfn K mg "_law_draw" s__law_draw P__law_draw := ⟨f2, _, fun_mk l2 c2 k2, (fun_mk l2 c2 k2).binds fun _ _ _ _ _ _ us hl => match us, hl with | [_, _], _ => rfl, PySem.W.mg_of X G a2⟩
  have D__law_pick : Dfn K mg "_law_pick" s__law_pick P__law_pick := ⟨f3, _, fun_mk l3 c3 k3, (fun_mk l3 c3 k3).binds fun _ _ _ _ _ _ us hl => match us, hl with | [_, _], _ => rfl, PySem.W.mg_of X G a3⟩
  have D__law_around : Dfn K mg "_law_around" s__law_around P__law_around := ⟨f4, _, fun_mk l4 c4 k4, (fun_mk l4 c4 k4).binds fun _ _ _ _ _ _ us hl => match us, hl with | [_, _], _ => rfl, PySem.W.mg_of X G a4⟩
  have D__law_power : Dfn K mg "_law_power" s__law_power P__law_power := ⟨f5, _, fun_mk l5 c5 k5, (fun_mk l5 c5 k5).binds fun _ _ _ _ _ _ us hl => match us, hl with | [_], _ => rfl, PySem.W.mg_of X G a5⟩
  have D__law_great : Dfn K mg "_law_great" s__law_great P__law_great := ⟨f6, _, fun_mk l6 c6 k6, (fun_mk l6 c6 k6).binds fun _ _ _ _ _ _ us hl => match us, hl with | [_, _], _ => rfl, PySem.W.mg_of X G a6⟩
  have D__law_names : Dfn K mg "_law_names" s__law_names P__law_names := ⟨f7, _, fun_mk l7 c7 k7, (fun_mk l7 c7 k7).binds fun _ _ _ _ _ _ us hl => match us, hl with | [_, _], _ => rfl, PySem.W.mg_of X G a7⟩
  have D__law_small : Dfn K mg "_law_small" s__law_small P__law_small := ⟨f8, _, fun_mk l8 c8 k8, (fun_mk l8 c8 k8).binds fun _ _ _ _ _ _ us hl => match us, hl with | [_, _], _ => rfl, PySem.W.mg_of X G a8⟩
  have D__law_aimed : Dfn K mg "_law_aimed" s__law_aimed P__law_aimed := ⟨f9, _, fun_mk l9 c9 k9, (fun_mk l9 c9 k9).binds fun _ _ _ _ _ _ us hl => match us, hl with | [_, _], _ => rfl, PySem.W.mg_of X G a9⟩
  have D__law_lined : Dfn K mg "_law_lined" s__law_lined P__law_lined := ⟨f10, _, fun_mk l10 c10 k10, (fun_mk l10 c10 k10).binds fun _ _ _ _ _ _ us hl => match us, hl with | [_, _], _ => rfl, PySem.W.mg_of X G a10⟩
  have D__law_crowd : Dfn K mg "_law_crowd" s__law_crowd P__law_crowd := ⟨f11, _, fun_mk l11 c11 k11, (fun_mk l11 c11 k11).binds fun _ _ _ _ _ _ us hl => match us, hl with | [_, _], _ => rfl, PySem.W.mg_of X G a11⟩
  have D__law_far_date : Dfn K mg "_law_far_date" s__law_far_date P__law_far_date := ⟨f12, _, fun_mk l12 c12 k12, (fun_mk l12 c12 k12).binds fun _ _ _ _ _ _ us hl => match us, hl with | [_], _ => rfl, PySem.W.mg_of X G a12⟩
  have D__law_walked : Dfn K mg "_law_walked" s__law_walked P__law_walked := ⟨f13, _, fun_mk l13 c13 k13, (fun_mk l13 c13 k13).binds fun _ _ _ _ _ _ us hl => match us, hl with | [_, _], _ => rfl, PySem.W.mg_of X G a13⟩
  have D__law_shares : Dfn K mg "_law_shares" s__law_shares P__law_shares := ⟨f14, _, fun_mk l14 c14 k14, (fun_mk l14 c14 k14).binds fun _ _ _ _ _ _ us hl => match us, hl with | [_, _], _ => rfl, PySem.W.mg_of X G a14⟩
  have D__law_due : Dfn K mg "_law_due" s__law_due P__law_due := ⟨f15, _, fun_mk l15 c15 k15, (fun_mk l15 c15 k15).binds fun _ _ _ _ _ _ us hl => match us, hl with | [_, _], _ => rfl, PySem.W.mg_of X G a15⟩
  have D__law_opposite : Dfn K mg "_law_opposite" s__law_opposite P__law_opposite := ⟨f16, _, fun_mk l16 c16 k16, (fun_mk l16 c16 k16).binds fun _ _ _ _ _ _ us hl => match us, hl with | [_], _ => rfl, PySem.W.mg_of X G a16⟩
  have D__law_inverse : Dfn K mg "_law_inverse" s__law_inverse P__law_inverse := ⟨f17, _, fun_mk l17 c17 k17, (fun_mk l17 c17 k17).binds fun _ _ _ _ _ _ us hl => match us, hl with | [_, _], _ => rfl, PySem.W.mg_of X G a17⟩
  have D__law_gcd : Dfn K mg "_law_gcd" s__law_gcd P__law_gcd := ⟨f18, _, fun_mk l18 c18 k18, (fun_mk l18 c18 k18).binds fun _ _ _ _ _ _ us hl => match us, hl with | [_, _], _ => rfl, PySem.W.mg_of X G a18⟩
  have D__law_common : Dfn K mg "_law_common" s__law_common P__law_common := ⟨f19, _, fun_mk l19 c19 k19, (fun_mk l19 c19 k19).binds fun _ _ _ _ _ _ us hl => match us, hl with | [_, _], _ => rfl, PySem.W.mg_of X G a19⟩
  have D__law_first : Dfn K mg "_law_first" s__law_first P__law_first := ⟨f20, _, fun_mk l20 c20 k20, (fun_mk l20 c20 k20).binds fun _ _ _ _ _ _ us hl => match us, hl with | [_, _, _, _, _], _ => rfl, PySem.W.mg_of X G a20⟩
  have D__law_pairs : Dfn K mg "_law_pairs" s__law_pairs P__law_pairs := ⟨f21, _, fun_mk l21 c21 k21, (fun_mk l21 c21 k21).binds fun _ _ _ _ _ _ us hl => match us, hl with | [_], _ => rfl, PySem.W.mg_of X G a21⟩
  have D__law_next : Dfn K mg "_law_next" s__law_next P__law_next := ⟨f22, _, fun_mk l22 c22 k22, (fun_mk l22 c22 k22).binds fun _ _ _ _ _ _ us hl => match us, hl with | [_, _, _, _], _ => rfl, PySem.W.mg_of X G a22⟩
  have D__law_history : Dfn K mg "_law_history" s__law_history P__law_history := ⟨f23, _, fun_mk l23 c23 k23, (fun_mk l23 c23 k23).binds fun _ _ _ _ _ _ us hl => match us, hl with | [_], _ => rfl, PySem.W.mg_of X G a23⟩
  have D__law_fence : Dfn K mg "_law_fence" s__law_fence P__law_fence := ⟨f24, _, fun_mk l24 c24 k24, (fun_mk l24 c24 k24).binds fun _ _ _ _ _ _ us hl => match us, hl with | [_], _ => rfl, PySem.W.mg_of X G a24⟩
  have D_is_integer : Dfn K mg "is_integer" s_is_integer P_is_integer := ⟨f25, _, fun_mk l25 c25 k25, (fun_mk l25 c25 k25).binds fun _ _ _ _ _ _ us hl => match us, hl with | [_], _ => rfl, PySem.W.mg_of X G a25⟩
  have D_is_between : Dfn K mg "is_between" s_is_between P_is_between := ⟨f26, _, fun_mk l26 c26 k26, (fun_mk l26 c26 k26).binds fun _ _ _ _ _ _ us hl => match us, hl with | [_, _, _], _ => rfl, PySem.W.mg_of X G a26⟩
  have D_check_count : Dfn K mg "check_count" s_check_count P_check_count := ⟨f27, _, fun_mk l27 c27 k27, (fun_mk l27 c27 k27).binds fun _ _ _ _ _ _ us hl => match us, hl with | [_], _ => rfl, PySem.W.mg_of X G a27⟩
  have D_divisor_and_factor : Dfn K mg "divisor_and_factor" s_divisor_and_factor P_divisor_and_factor := ⟨f28, _, fun_mk l28 c28 k28, (fun_mk l28 c28 k28).binds fun _ _ _ _ _ _ us hl => match us, hl with | [_, _], _ => rfl, PySem.W.mg_of X G a28⟩
  have D_common_numbers : Dfn K mg "common_numbers" s_common_numbers P_common_numbers := ⟨f29, _, fun_mk l29 c29 k29, (fun_mk l29 c29 k29).binds fun _ _ _ _ _ _ us hl => match us, hl with | [_, _], _ => rfl, PySem.W.mg_of X G a29⟩
  have D__span_of : Dfn K mg "_span_of" s__span_of P__span_of := ⟨f30, _, fun_mk l30 c30 k30, (fun_mk l30 c30 k30).binds fun _ _ _ _ _ _ us hl => match us, hl with | [_], _ => rfl, PySem.W.mg_of X G a30⟩
  have FK_crossing : FunD K "crossing" "crossing" (defArgs s_crossing) (defBody s_crossing) (defScope s_crossing) [] [("count", .non), ("other_count", .non), ("lead", .non)] f31 _ := ⟨⟨_, _, .none, .ref dk31, _, _, _, _, _, _, rfl, l31, c31, Or.inl ⟨rfl, rfl⟩, Or.inr ⟨dk31, rfl, fun q hq => (by simp only [List.mem_cons, List.not_mem_nil, or_false] at hq; rcases hq with rfl | rfl | rfl <;> first | exact ⟨_, q31_0, s31_0⟩ | exact ⟨_, q31_1, s31_1⟩ | exact ⟨_, q31_2, s31_2⟩)⟩⟩, k31⟩
  have m_crossing : mg "crossing" = some (.ref f31) := PySem.W.mg_of X G a31
  have FK_first_block : FunD K "first_block" "first_block" (defArgs s_first_block) (defBody s_first_block) (defScope s_first_block) [] [("count", .non), ("is_earlier", .bl false)] f32 _ := ⟨⟨_, _, .none, .ref dk32, _, _, _, _, _, _, rfl, l32, c32, Or.inl ⟨rfl, rfl⟩, Or.inr ⟨dk32, rfl, fun q hq => (by simp only [List.mem_cons, List.not_mem_nil, or_false] at hq; rcases hq with rfl | rfl <;> first | exact ⟨_, q32_0, s32_0⟩ | exact ⟨_, q32_1, s32_1⟩)⟩⟩, k32⟩
  have m_first_block : mg "first_block" = some (.ref f32) := PySem.W.mg_of X G a32
  have D_rows_by : Dfn K mg "rows_by" s_rows_by P_rows_by := ⟨f33, _, fun_mk l33 c33 k33, (fun_mk l33 c33 k33).binds fun _ _ _ _ _ _ us hl => match us, hl with | [_, _], _ => rfl, PySem.W.mg_of X G a33⟩
  have D__find_stopped : Dfn K mg "_find_stopped" s__find_stopped P__find_stopped := ⟨f34, _, fun_mk l34 c34 k34, (fun_mk l34 c34 k34).binds fun _ _ _ _ _ _ us hl => match us, hl with | [_, _], _ => rfl, PySem.W.mg_of X G a34⟩
  have D__earliest_block : Dfn K mg "_earliest_block" s__earliest_block P__earliest_block := ⟨f35, _, fun_mk l35 c35 k35, (fun_mk l35 c35 k35).binds fun _ _ _ _ _ _ us hl => match us, hl with | [_, _, _], _ => rfl, PySem.W.mg_of X G a35⟩
  have D__rows_of : Dfn K mg "_rows_of" s__rows_of P__rows_of := ⟨f36, _, fun_mk l36 c36 k36, (fun_mk l36 c36 k36).binds fun _ _ _ _ _ _ us hl => match us, hl with | [_], _ => rfl, PySem.W.mg_of X G a36⟩
  have D__block : Dfn K mg "_block" s__block P__block := ⟨f37, _, fun_mk l37 c37 k37, (fun_mk l37 c37 k37).binds fun _ _ _ _ _ _ us hl => match us, hl with | [_, _, _, _], _ => rfl, PySem.W.mg_of X G a37⟩
  have D_painted_counts : Dfn K mg "painted_counts" s_painted_counts P_painted_counts := ⟨f38, _, fun_mk l38 c38 k38, (fun_mk l38 c38 k38).binds fun _ _ _ _ _ _ us hl => match us, hl with | [_], _ => rfl, PySem.W.mg_of X G a38⟩
  have FK_share : FunD K "share" "share" (defArgs s_share) (defBody s_share) (defScope s_share) [] [("left", .bl false)] f39 _ := ⟨⟨_, _, .none, .ref dk39, _, _, _, _, _, _, rfl, l39, c39, Or.inl ⟨rfl, rfl⟩, Or.inr ⟨dk39, rfl, fun q hq => (by simp only [List.mem_cons, List.not_mem_nil, or_false] at hq; rcases hq with rfl <;> first | exact ⟨_, q39_0, s39_0⟩)⟩⟩, k39⟩
  have m_share : mg "share" = some (.ref f39) := PySem.W.mg_of X G a39
  have cl_Painter : Cls K CPainter := ⟨pgPainter, hdPainter, poPainter, saPainter⟩
  have rd_Painter : ClX.CRead K CPainter (.type "type") := ⟨rdPainter, gaPainter⟩
  have mg_Painter : mg "Painter" = some (.ref CPainter) := PySem.W.mg_of X G gPainter
  have cv_Painter_MAX_DAY : ∃ u, ClX.CVal K CPainter (.type "type") "MAX_DAY" (.int (10 ^ 30)) u := ⟨_, vPainterMAX_DAY, wPainterMAX_DAY⟩
  have cv_Painter_MAX_POST : ∃ u, ClX.CVal K CPainter (.type "type") "MAX_POST" (.int (10 ^ 30)) u := ⟨_, vPainterMAX_POST, wPainterMAX_POST⟩
  have cv_Painter_MAX_STRIDE : ∃ u, ClX.CVal K CPainter (.type "type") "MAX_STRIDE" (.int (10 ^ 18)) u := ⟨_, vPainterMAX_STRIDE, wPainterMAX_STRIDE⟩
  have F_Painter_init := fun_mk (st := s_Painter_init) (x := "__init__") l40 c40 k40
  have b_Painter_init := F_Painter_init.binds (ps := P_Painter_init) fun _ _ _ _ _ _ us hl => match us, hl with | [_, _, _, _, _], _ => rfl
  have mk_Painter : Mk K CPainter f40 := ⟨mkPainter, a40, i40, kcPainter⟩
  have F_Painter_is_name := fun_mk (st := s_Painter_is_name) (x := "is_name") l41 c41 k41
  have b_Painter_is_name := F_Painter_is_name.binds (ps := P_Painter_is_name) fun _ _ _ _ _ _ us hl => match us, hl with | [_], _ => rfl
  have sm_Painter_is_name : SMet K CPainter (.type "type") "is_name" p41 f41 := ⟨a41, ⟨_, e41⟩, k41⟩
  have F_Painter_name := fun_mk (st := s_Painter_name) (x := "name") l42 c42 k42
  have b_Painter_name := F_Painter_name.binds (ps := P_Painter_name) fun _ _ _ _ _ _ us hl => match us, hl with | [_], _ => rfl
  have pr_Painter_name : PropOf K CPainter "name" p42 f42 := ⟨a42, s42, t42, ⟨_, e42⟩⟩
  have F_Painter_day := fun_mk (st := s_Painter_day) (x := "day") l43 c43 k43
  have b_Painter_day := F_Painter_day.binds (ps := P_Painter_day) fun _ _ _ _ _ _ us hl => match us, hl with | [_], _ => rfl
  have pr_Painter_day : PropOf K CPainter "day" p43 f43 := ⟨a43, s43, t43, ⟨_, e43⟩⟩
  have F_Painter_post := fun_mk (st := s_Painter_post) (x := "post") l44 c44 k44
  have b_Painter_post := F_Painter_post.binds (ps := P_Painter_post) fun _ _ _ _ _ _ us hl => match us, hl with | [_], _ => rfl
  have pr_Painter_post : PropOf K CPainter "post" p44 f44 := ⟨a44, s44, t44, ⟨_, e44⟩⟩
  have F_Painter_stride := fun_mk (st := s_Painter_stride) (x := "stride") l45 c45 k45
  have b_Painter_stride := F_Painter_stride.binds (ps := P_Painter_stride) fun _ _ _ _ _ _ us hl => match us, hl with | [_], _ => rfl
  have pr_Painter_stride : PropOf K CPainter "stride" p45 f45 := ⟨a45, s45, t45, ⟨_, e45⟩⟩
  have cl_Fence : Cls K CFence := ⟨pgFence, hdFence, poFence, saFence⟩
  have rd_Fence : ClX.CRead K CFence (.type "type") := ⟨rdFence, gaFence⟩
  have mg_Fence : mg "Fence" = some (.ref CFence) := PySem.W.mg_of X G gFence
  have F_Fence_init := fun_mk (st := s_Fence_init) (x := "__init__") l46 c46 k46
  have mk_Fence : Mk K CFence f46 := ⟨mkFence, a46, i46, kcFence⟩
  have F_Fence_painters := fun_mk (st := s_Fence_painters) (x := "painters") l47 c47 k47
  have b_Fence_painters := F_Fence_painters.binds (ps := P_Fence_painters) fun _ _ _ _ _ _ us hl => match us, hl with | [_], _ => rfl
  have pr_Fence_painters : PropOf K CFence "painters" p47 f47 := ⟨a47, s47, t47, ⟨_, e47⟩⟩
  have F_Fence_add := fun_mk (st := s_Fence_add) (x := "__add__") l48 c48 k48
  have b_Fence_add := F_Fence_add.binds (ps := P_Fence_add) fun _ _ _ _ _ _ us hl => match us, hl with | [_, _], _ => rfl
  have me_Fence___add__ : Meth K CFence "__add__" f48 := ⟨a48, i48, k48⟩
  have fi_Fence___add__ : PySem.W.fnIn K f48 = true := by unfold PySem.W.fnIn; rw [l48]
  have cl_History : Cls K CHistory := ⟨pgHistory, hdHistory, poHistory, saHistory⟩
  have rd_History : ClX.CRead K CHistory (.type "type") := ⟨rdHistory, gaHistory⟩
  have mg_History : mg "History" = some (.ref CHistory) := PySem.W.mg_of X G gHistory
  have F_History_init := fun_mk (st := s_History_init) (x := "__init__") l49 c49 k49
  have b_History_init := F_History_init.binds (ps := P_History_init) fun _ _ _ _ _ _ us hl => match us, hl with | [_, _], _ => rfl
  have mk_History : Mk K CHistory f49 := ⟨mkHistory, a49, i49, kcHistory⟩
  have F_History_rows := fun_mk (st := s_History_rows) (x := "rows") l50 c50 k50
  have b_History_rows := F_History_rows.binds (ps := P_History_rows) fun _ _ _ _ _ _ us hl => match us, hl with | [_], _ => rfl
  have pr_History_rows : PropOf K CHistory "rows" p50 f50 := ⟨a50, s50, t50, ⟨_, e50⟩⟩
  have at_Fence : AddTwo K CFence CPainter := ⟨ax1, ax2, ax3, ax4, ⟨_, ax5⟩, ax6, ax7⟩
  have ic_Painter : C8.InsC K CPainter := ⟨cl_Painter, y1Painter, y2Painter, y3Painter, y4Painter, if_pos (beq_self_eq_true _)⟩
  have ic_Fence : C8.InsC K CFence := ⟨cl_Fence, y1Fence, y2Fence, y3Fence, y4Fence, if_pos (beq_self_eq_true _)⟩
  have DT__rows_of : DfnT K mg "_rows_of" s__rows_of P__rows_of cq__rows_of := ⟨f36, _, fun_mk l36 c36 k36, (fun_mk l36 c36 k36).binds fun _ _ _ _ _ _ us hl => match us, hl with | [_], _ => rfl, PySem.W.mg_of X G a36, r36q⟩
  have gl_MAX_ARGUMENT : ∃ u, mg "MAX_ARGUMENT" = some u ∧ L2.RelV (.int (10 ^ 80)) u := ⟨_, PySem.W.mg_of X G GMAX_ARGUMENT, HMAX_ARGUMENT⟩
  have gl_MAX_PAINTERS : ∃ u, mg "MAX_PAINTERS" = some u ∧ L2.RelV (.int (40)) u := ⟨_, PySem.W.mg_of X G GMAX_PAINTERS, HMAX_PAINTERS⟩
  have gb_gcd : mg "gcd" = some (.builtin "math.gcd") := PySem.W.mg_of X G bgcd
  have B : Blt mg := ⟨PySem.W.mg_none_of X G zlen, PySem.W.mg_none_of X G zint, PySem.W.mg_none_of X G zabs, PySem.W.mg_none_of X G zlist, PySem.W.mg_none_of X G zrange, PySem.W.mg_none_of X G zmin, PySem.W.mg_none_of X G zmax, PySem.W.mg_none_of X G zrepr, PySem.W.mg_none_of X G zstr, PySem.W.mg_none_of X G zbool, PySem.W.mg_none_of X G zisinstance, PySem.W.mg_none_of X G zany, PySem.W.mg_none_of X G zdivmod⟩
  have nb_enumerate : mg "enumerate" = none := PySem.W.mg_none_of X G zenumerate
  have nb_tuple : mg "tuple" = none := PySem.W.mg_none_of X G ztuple
  have nb_sorted : mg "sorted" = none := PySem.W.mg_none_of X G zsorted
  have nb_zip : mg "zip" = none := PySem.W.mg_none_of X G zzip
  have nb_dict : mg "dict" = none := PySem.W.mg_none_of X G zdict
  refine ⟨PySem.W.fnOf "law" "law" (defArgs s_law) (defBody s_law) (defScope s_law) .none kVL dcL pmL anL cdL ctL, [(cq__rows_of, Pq__rows_of)], spLaw K ([(Pq__rows_of, qRw)]), fun s v => .of_eq rfl, ?_, ?_, fun base hKb _ hTB => ?_⟩
  · intro q hq
    rcases List.mem_cons.mp hq with rfl | hq
    · exact ⟨n36q, _, List.mem_cons_self, u36q⟩
    · cases hq
  · intro H a ns hl hT hS
    refine ⟨a, ns, rfl, hS, hl, fun p hp => ?_, fun _ => rfl⟩
    rcases List.mem_cons.mp hp with rfl | hp
    · exact LamX.TabS.nil (hT (cq__rows_of, Pq__rows_of) List.mem_cons_self)
    · cases hp
  have T : PTxt K mg CPainter := ⟨cl_Painter, nPainter_name, nPainter_day, nPainter_post, nPainter_stride, mg_Painter, rd_Painter, cv_Painter_MAX_DAY, cv_Painter_MAX_POST, cv_Painter_MAX_STRIDE⟩
  have U : FTxt K mg CFence := ⟨cl_Fence, nFence_painters, nFence_by_name, mg_Fence⟩
  have UH : HTxt K mg CHistory := ⟨cl_History, nHistory_fence, nHistory_rows, nHistory_by_name, nHistory_stopped, mg_History⟩
  have CD := ok_draw (P := l.prog) (w := w) (base := base) D__law_draw B
  have CP := ok_pickL (P := l.prog) (w := w) (base := base) D__law_pick B CD
  have CPS := ok_pickS (P := l.prog) (w := w) (base := base) D__law_pick B CD
  have CI := ok_pickI CP
  have CA := ok_around (P := l.prog) (w := w) (base := base) D__law_around CD
  have CW := ok_power (P := l.prog) (w := w) (base := base) D__law_power B
  have CG := ok_great (P := l.prog) (w := w) (base := base) D__law_great CW CD CP
  have CN := ok_namesN (P := l.prog) (w := w) (base := base) D__law_names B CD CP CPS
  have CPen := ok_pen (P := l.prog) (w := w) (base := base) D__law_pen B
  have CInt := ok_is_integer (P := l.prog) (w := w) (base := base) D_is_integer B
  have CB := ok_is_between (P := l.prog) (w := w) (base := base) D_is_between CInt
  have FN := ok_is_name (P := l.prog) (w := w) (base := base) F_Painter_is_name B
  have FI := ok_init (P := l.prog) (w := w) (base := base) F_Painter_init T sm_Painter_is_name FN b_Painter_is_name CB
  have hMk : MkP l.prog w K mg base CPainter := ⟨_, _, mk_Painter, FI, b_Painter_init⟩
  have hName : PropS l.prog w K mg base CPainter "name" 1 (getSp CPainter "_name") := ⟨_, _, _, pr_Painter_name, ok_get_name F_Painter_name T, b_Painter_name⟩
  have hDay : PropS l.prog w K mg base CPainter "day" 1 (getSp CPainter "_day") := ⟨_, _, _, pr_Painter_day, ok_get_day F_Painter_day T, b_Painter_day⟩
  have hPost : PropS l.prog w K mg base CPainter "post" 1 (getSp CPainter "_post") := ⟨_, _, _, pr_Painter_post, ok_get_post F_Painter_post T, b_Painter_post⟩
  have hStride : PropS l.prog w K mg base CPainter "stride" 1 (getSp CPainter "_stride") := ⟨_, _, _, pr_Painter_stride, ok_get_stride F_Painter_stride T, b_Painter_stride⟩
  obtain ⟨uMP, hMP, rMP⟩ := gl_MAX_PAINTERS
  have FF := ok_finit (P := l.prog) (w := w) (base := base) F_Fence_init B nb_enumerate T U ic_Painter hName hMP rMP
  have hMkF : MkF l.prog w K mg base CPainter CFence := ⟨_, mk_Fence, FF⟩
  have FAdd := ok_fadd (P := l.prog) (w := w) (base := base) F_Fence_add U hMkF
  have hFAdd : OwnR l.prog w K mg base CFence "__add__" 5 P_Fence_add (spFAdd CPainter CFence) := ⟨_, _, me_Fence___add__.at_, me_Fence___add__.fn, fi_Fence___add__, FAdd, b_Fence_add⟩
  have hPs : PropS l.prog w K mg base CFence "painters" 1 (getSp CFence "_painters") := ⟨_, _, _, pr_Fence_painters, ok_get_painters F_Fence_painters U, b_Fence_painters⟩
  have CM := ok_aimedN (P := l.prog) (w := w) (base := base) D__law_aimed B CD CI CP CG CN
  have CL := ok_linedN (P := l.prog) (w := w) (base := base) D__law_lined B CD CI CA CG CN
  have CFe := ok_fence (P := l.prog) (w := w) (base := base) D__law_fence T U hMk hMkF hFAdd at_Fence
  have CDF := ok_df (P := l.prog) (w := w) (base := base) D_divisor_and_factor
  have CCN := ok_cn (P := l.prog) (w := w) (base := base) D_common_numbers B T hPost hStride CDF
  obtain ⟨uM, hM, rM⟩ := gl_MAX_ARGUMENT
  have CC := ok_check_count (P := l.prog) (w := w) (base := base) D_check_count hM rM CB
  have CSp := ok_span (P := l.prog) (w := w) (base := base) D__span_of B
  have CCr := CrC.of FK_crossing (ok_cr (P := l.prog) (w := w) (base := base) FK_crossing B T hDay hPost hStride CCN CSp) m_crossing
  have FB := ok_fb (P := l.prog) (w := w) (base := base) FK_first_block B T CC CCr
  have CFB := FBC.of FK_first_block FB m_first_block
  have CBk := ok_block (P := l.prog) (w := w) (base := base) D__block B CFB
  have FRl := fun f => ok_rl (P := l.prog) (w := w) (base := base) CBk f
  have CEB := ok_eb (P := l.prog) (w := w) (base := base) D__earliest_block B nb_enumerate T hDay
  have CFS := ok_fs (P := l.prog) (w := w) (base := base) gpF (fun f => bk_of (FRl f)) D__find_stopped B CEB
  have CRB := ok_rb (P := l.prog) (w := w) (base := base) D_rows_by B nb_enumerate nb_tuple T hName hDay hPost hStride CFS
  have tb0 := hTB _ List.mem_cons_self
  have CRO := ok_ro (P := l.prog) (w := w) (base := base) FRl DT__rows_of tb0 List.mem_cons_self (fun p hp e => by rw [List.mem_singleton.mp hp]) U hPs CRB
  have FH := ok_hinit (P := l.prog) (w := w) (base := base) F_History_init nb_enumerate nb_sorted UH neq_CHistory_CPainter neq_CHistory_CFence CRO
  have hMkH : MkH l.prog w K mg base [(Pq__rows_of, qRw)] CPainter CFence CHistory := ⟨_, _, mk_History, FH, b_History_init⟩
  have hRows : PropS l.prog w K mg base CHistory "rows" 1 (getSp CHistory "_rows") := ⟨_, _, _, pr_History_rows, ok_get_rows F_History_rows UH, b_History_rows⟩
  have CPc := ok_pc (P := l.prog) (w := w) (base := base) D_painted_counts nb_zip U UH hMkH hRows hPs
  have CGd := ok_gcd (P := l.prog) (w := w) (base := base) D__law_gcd B
  have CIv := ok_inv (P := l.prog) (w := w) (base := base) D__law_inverse B
  have CCo := ok_com (P := l.prog) (w := w) (base := base) D__law_common B CGd CIv
  have CFi := ok_first (P := l.prog) (w := w) (base := base) D__law_first B
  have CPa := ok_pairs (P := l.prog) (w := w) (base := base) D__law_pairs B CCo
  have CNx := ok_next (P := l.prog) (w := w) (base := base) D__law_next B CFi
  have CLh := ok_lhist (P := l.prog) (w := w) (base := base) D__law_history B CPa CNx
  have CCw := ok_crowd (P := l.prog) (w := w) (base := base) D__law_crowd CD CM CL
  have CSm := ok_smallN (P := l.prog) (w := w) (base := base) D__law_small B CD CI CP CA CN
  have CFar := ok_farD (P := l.prog) (w := w) (base := base) D__law_far_date B
  have CWk := ok_walkP (P := l.prog) (w := w) (base := base) D__law_walked B nb_dict
  have CSh := ok_shr (P := l.prog) (w := w) (base := base) D__law_shares nb_enumerate CGd
  have CDu := ok_due (P := l.prog) (w := w) (base := base) D__law_due CSh
  have COp := ok_opp (P := l.prog) (w := w) (base := base) D__law_opposite
  have hGcd := gb_gcd
  have CSa := ShaC.of FK_share (ok_share (P := l.prog) (w := w) (base := base) FK_share hGcd T hStride CPc) m_share
  exact ok_law F_law B U hMkF CPen CSm CCw CFar CWk CFe CLh CDu COp CSa
end Ur
theorem PySem.W.Fast.tw651254154024538368 : True := True.intro
theorem PySem.W.Fast.tw6003481801901330880 : True := True.intro
theorem PySem.W.Fast.tw5262252978536852801 : True := True.intro
theorem PySem.W.Fast.tw2567588345140900609 : True := True.intro
theorem PySem.W.Fast.tw11629927462607782082 : True := True.intro
theorem PySem.W.Fast.tw4720882109471272546 : True := True.intro
theorem PySem.W.Fast.tw13042790197698784034 : True := True.intro
theorem PySem.W.Fast.tw14214434522145122659 : True := True.intro
theorem PySem.W.Fast.tw12895385769855026755 : True := True.intro
theorem PySem.W.Fast.tw17280684595138756227 : True := True.intro
theorem PySem.W.Fast.tw10993371090270248803 : True := True.intro
theorem PySem.W.Fast.tw3797814432823072643 : True := True.intro
theorem PySem.W.Fast.tw3962318242384949764 : True := True.intro
theorem PySem.W.Fast.tw12777421186333038084 : True := True.intro
theorem PySem.W.Fast.tw9103897273316639268 : True := True.intro
theorem PySem.W.Fast.tw8727341834987016772 : True := True.intro
theorem PySem.W.Fast.tw18127123021574163012 : True := True.intro
theorem PySem.W.Fast.tw15947059136366935333 : True := True.intro
theorem PySem.W.Fast.tw13394118801025928581 : True := True.intro
theorem PySem.W.Fast.tw16244305553222718758 : True := True.intro
theorem PySem.W.Fast.tw11669955004481001766 : True := True.intro
theorem PySem.W.Fast.tw6640238307440082438 : True := True.intro
theorem PySem.W.Fast.tw4997427586482445030 : True := True.intro
theorem PySem.W.Fast.tw8554937818007975686 : True := True.intro
theorem PySem.W.Fast.tw6702143741598585927 : True := True.intro
theorem PySem.W.Fast.tw17499198938016211719 : True := True.intro
theorem PySem.W.Fast.tw730815982587482760 : True := True.intro
theorem PySem.W.Fast.tw9728395896072795016 : True := True.intro
theorem PySem.W.Fast.tw1284809364781037480 : True := True.intro
theorem PySem.W.Fast.tw17686608017898958377 : True := True.intro
theorem PySem.W.Fast.tw3271439656281606729 : True := True.intro
theorem PySem.W.Fast.tw17621909704063565481 : True := True.intro
theorem PySem.W.Fast.tw12764339761995636393 : True := True.intro
theorem PySem.W.Fast.tw17449471105987174506 : True := True.intro
theorem PySem.W.Fast.tw17094286654720151370 : True := True.intro
theorem PySem.W.Fast.tw6100527246309998699 : True := True.intro
theorem PySem.W.Fast.tw13329557568270143179 : True := True.intro
theorem PySem.W.Fast.tw7636333497826067276 : True := True.intro
theorem PySem.W.Fast.tw16686647968290482028 : True := True.intro
theorem PySem.W.Fast.tw10623059926783921293 : True := True.intro
theorem PySem.W.Fast.tw2096293677402574637 : True := True.intro
theorem PySem.W.Fast.tw15997631168820180814 : True := True.intro
theorem PySem.W.Fast.tw9127483586713433839 : True := True.intro
theorem PySem.W.Fast.tw8447710540152467407 : True := True.intro
theorem PySem.W.Fast.tw18299365871786782000 : True := True.intro
theorem PySem.W.Fast.tw6065692020823369584 : True := True.intro
theorem PySem.W.Fast.tw6667229952736803025 : True := True.intro
theorem PySem.W.Fast.tw9588160985249766129 : True := True.intro
theorem PySem.W.Fast.tw4523351009456804018 : True := True.intro
theorem PySem.W.Fast.tw13830252056291505874 : True := True.intro
theorem PySem.W.Fast.tw13990287251638609810 : True := True.intro
theorem PySem.W.Fast.tw2203497795482270739 : True := True.intro
theorem PySem.W.Fast.tw17383855124624737523 : True := True.intro
theorem PySem.W.Fast.tw12891037250710202611 : True := True.intro
theorem PySem.W.Fast.tw12814507413661693140 : True := True.intro
theorem PySem.W.Fast.tw4755721484779956596 : True := True.intro
theorem PySem.W.Fast.tw8844771975762175221 : True := True.intro
theorem PySem.W.Fast.tw6273409686153902037 : True := True.intro
theorem PySem.W.Fast.tw11478432589182529782 : True := True.intro
theorem PySem.W.Fast.tw3393511693041187190 : True := True.intro
theorem PySem.W.Fast.tw604102755463164374 : True := True.intro
theorem PySem.W.Fast.tw16465094703624896438 : True := True.intro
theorem PySem.W.Fast.tw7169535126048880791 : True := True.intro
theorem PySem.W.Fast.tw15255243422364824759 : True := True.intro
theorem PySem.W.Fast.tw10111436189073954455 : True := True.intro
theorem PySem.W.Fast.tw14283418081516098584 : True := True.intro
theorem PySem.W.Fast.tw5916932275335842042 : True := True.intro
theorem PySem.W.Fast.tw3229976518460584250 : True := True.intro
theorem PySem.W.Fast.tw2049280173865357850 : True := True.intro
theorem PySem.W.Fast.tw5861560024479191515 : True := True.intro
theorem PySem.W.Fast.tw5787995098191370301 : True := True.intro
theorem PySem.W.Fast.tw249062994893534301 : True := True.intro
theorem PySem.W.Fast.tw12469217736323347711 : True := True.intro
theorem PySem.W.Fast.tw1556698072220529055 : True := True.intro
theorem PySem.W.Fast.tw529189870319543903 : True := True.intro
theorem PySem.W.Fast.tw5392798808219599679 : True := True.intro
open PySem PySem.W PyProof.Rows
set_option maxRecDepth 100000 in
set_option maxHeartbeats 0 in
theorem PySem.Challenge.cw_paintposts_k48_share_of_those_who_never_holds : PySem.Challenge.rw_paintposts_k48_share_of_those_who_never.Holds := by
  w_on; o_law; k_head; (case hw => w_witness2)
  k_fill
  refine Ur.walk_ofGT (l := PySem.Challenge.rw_paintposts_k48_share_of_those_who_never) (n := 63) (k := 40) (x := "_law_script") (xs := ["_rows_of"]) rfl (by decide) rfl ⟨rfl, by decide, by decide⟩ ?hrec (fun w h Y => PySem.W.km_in_of Y) ?F
  case hrec => decide +kernel
  case F =>
    intro w mg fa h KX G hmg
    refine' Ur.all_mk KX G hmg ?a1 ?l1 ?c1 ?k1 ?a2 ?l2 ?c2 ?k2 ?a3 ?l3 ?c3 ?k3 ?a4 ?l4 ?c4 ?k4 ?a5 ?l5 ?c5 ?k5 ?a6 ?l6 ?c6 ?k6 ?a7 ?l7 ?c7 ?k7 ?a8 ?l8 ?c8 ?k8 ?a9 ?l9 ?c9 ?k9 ?a10 ?l10 ?c10 ?k10 ?a11 ?l11 ?c11 ?k11 ?a12 ?l12 ?c12 ?k12 ?a13 ?l13 ?c13 ?k13 ?a14 ?l14 ?c14 ?k14 ?a15 ?l15 ?c15 ?k15 ?a16 ?l16 ?c16 ?k16 ?a17 ?l17 ?c17 ?k17 ?a18 ?l18 ?c18 ?k18 ?a19 ?l19 ?c19 ?k19 ?a20 ?l20 ?c20 ?k20 ?a21 ?l21 ?c21 ?k21 ?a22 ?l22 ?c22 ?k22 ?a23 ?l23 ?c23 ?k23 ?a24 ?l24 ?c24 ?k24 ?a25 ?l25 ?c25 ?k25 ?a26 ?l26 ?c26 ?k26 ?a27 ?l27 ?c27 ?k27 ?a28 ?l28 ?c28 ?k28 ?a29 ?l29 ?c29 ?k29 ?a30 ?l30 ?c30 ?k30 ?a31 ?l31 ?c31 ?k31 ?q31_0 ?s31_0 ?q31_1 ?s31_1 ?q31_2 ?s31_2 ?a32 ?l32 ?c32 ?k32 ?q32_0 ?s32_0 ?q32_1 ?s32_1 ?a33 ?l33 ?c33 ?k33 ?a34 ?l34 ?c34 ?k34 ?a35 ?l35 ?c35 ?k35 ?a36 ?l36 ?c36 ?k36 ?a37 ?l37 ?c37 ?k37 ?a38 ?l38 ?c38 ?k38 ?a39 ?l39 ?c39 ?k39 ?q39_0 ?s39_0 ?aL ?lL ?cL ?kL ?gPainter ?pgPainter ?hdPainter ?poPainter ?saPainter ?rdPainter ?gaPainter ?nPainter_name ?nPainter_day ?nPainter_post ?nPainter_stride ?vPainterMAX_DAY ?wPainterMAX_DAY ?vPainterMAX_POST ?wPainterMAX_POST ?vPainterMAX_STRIDE ?wPainterMAX_STRIDE ?a40 ?i40 ?l40 ?c40 ?k40 ?mkPainter ?kcPainter ?a41 ?e41 ?l41 ?c41 ?k41 ?a42 ?s42 ?t42 ?e42 ?l42 ?c42 ?k42 ?a43 ?s43 ?t43 ?e43 ?l43 ?c43 ?k43 ?a44 ?s44 ?t44 ?e44 ?l44 ?c44 ?k44 ?a45 ?s45 ?t45 ?e45 ?l45 ?c45 ?k45 ?gFence ?pgFence ?hdFence ?poFence ?saFence ?rdFence ?gaFence ?nFence_painters ?nFence_by_name ?a46 ?i46 ?l46 ?c46 ?k46 ?mkFence ?kcFence ?a47 ?s47 ?t47 ?e47 ?l47 ?c47 ?k47 ?a48 ?i48 ?l48 ?c48 ?k48 ?gHistory ?pgHistory ?hdHistory ?poHistory ?saHistory ?rdHistory ?gaHistory ?nHistory_fence ?nHistory_rows ?nHistory_by_name ?nHistory_stopped ?a49 ?i49 ?l49 ?c49 ?k49 ?mkHistory ?kcHistory ?a50 ?s50 ?t50 ?e50 ?l50 ?c50 ?k50 ?ax1 ?ax2 ?ax3 ?ax4 ?ax5 ?ax6 ?ax7 ?y1Painter ?y2Painter ?y3Painter ?y4Painter ?y1Fence ?y2Fence ?y3Fence ?y4Fence ?r36q ?v36x ?w36x ?n36q ?neq_CHistory_CPainter ?neq_CHistory_CFence ?GMAX_ARGUMENT ?HMAX_ARGUMENT ?GMAX_PAINTERS ?HMAX_PAINTERS ?bgcd ?zlen ?zint ?zabs ?zlist ?zrange ?zmin ?zmax ?zrepr ?zstr ?zbool ?zisinstance ?zany ?zdivmod ?zenumerate ?ztuple ?zsorted ?zzip ?zdict
    (case a1 => k_is)
    (case l1 => k_is)
    (case c1 => k_is)
    (case k1 => k_is)
    (case a2 => k_is)
    (case l2 => k_is)
    (case c2 => k_is)
    (case k2 => k_is)
    (case a3 => k_is)
    (case l3 => k_is)
    (case c3 => k_is)
    (case k3 => k_is)
    (case a4 => k_is)
    (case l4 => k_is)
    (case c4 => k_is)
    (case k4 => k_is)
    (case a5 => k_is)
    (case l5 => k_is)
    (case c5 => k_is)
    (case k5 => k_is)
    (case a6 => k_is)
    (case l6 => k_is)
    (case c6 => k_is)
    (case k6 => k_is)
    (case a7 => k_is)
    (case l7 => k_is)
    (case c7 => k_is)
    (case k7 => k_is)
    (case a8 => k_is)
    (case l8 => k_is)
    (case c8 => k_is)
    (case k8 => k_is)
    (case a9 => k_is)
    (case l9 => k_is)
    (case c9 => k_is)
    (case k9 => k_is)
    (case a10 => k_is)
    (case l10 => k_is)
    (case c10 => k_is)
    (case k10 => k_is)
    (case a11 => k_is)
    (case l11 => k_is)
    (case c11 => k_is)
    (case k11 => k_is)
    (case a12 => k_is)
    (case l12 => k_is)
    (case c12 => k_is)
    (case k12 => k_is)
    (case a13 => k_is)
    (case l13 => k_is)
    (case c13 => k_is)
    (case k13 => k_is)
    (case a14 => k_is)
    (case l14 => k_is)
    (case c14 => k_is)
    (case k14 => k_is)
    (case a15 => k_is)
    (case l15 => k_is)
    (case c15 => k_is)
    (case k15 => k_is)
    (case a16 => k_is)
    (case l16 => k_is)
    (case c16 => k_is)
    (case k16 => k_is)
    (case a17 => k_is)
    (case l17 => k_is)
    (case c17 => k_is)
    (case k17 => k_is)
    (case a18 => k_is)
    (case l18 => k_is)
    (case c18 => k_is)
    (case k18 => k_is)
    (case a19 => k_is)
    (case l19 => k_is)
    (case c19 => k_is)
    (case k19 => k_is)
    (case a20 => k_is)
    (case l20 => k_is)
    (case c20 => k_is)
    (case k20 => k_is)
    (case a21 => k_is)
    (case l21 => k_is)
    (case c21 => k_is)
    (case k21 => k_is)
    (case a22 => k_is)
    (case l22 => k_is)
    (case c22 => k_is)
    (case k22 => k_is)
    (case a23 => k_is)
    (case l23 => k_is)
    (case c23 => k_is)
    (case k23 => k_is)
    (case a24 => k_is)
    (case l24 => k_is)
    (case c24 => k_is)
    (case k24 => k_is)
    (case a25 => k_is)
    (case l25 => k_is)
    (case c25 => k_is)
    (case k25 => k_is)
    (case a26 => k_is)
    (case l26 => k_is)
    (case c26 => k_is)
    (case k26 => k_is)
    (case a27 => k_is)
    (case l27 => k_is)
    (case c27 => k_is)
    (case k27 => k_is)
    (case a28 => k_is)
    (case l28 => k_is)
    (case c28 => k_is)
    (case k28 => k_is)
    (case a29 => k_is)
    (case l29 => k_is)
    (case c29 => k_is)
    (case k29 => k_is)
    (case a30 => k_is)
    (case l30 => k_is)
    (case c30 => k_is)
    (case k30 => k_is)
    (case a31 => k_is)
    (case l31 => k_is)
    (case c31 => k_is)
    (case k31 => k_is)
    (case q31_0 => k_is)
    (case s31_0 => exact rfl)
    (case q31_1 => k_is)
    (case s31_1 => exact rfl)
    (case q31_2 => k_is)
    (case s31_2 => exact rfl)
    (case a32 => k_is)
    (case l32 => k_is)
    (case c32 => k_is)
    (case k32 => k_is)
    (case q32_0 => k_is)
    (case s32_0 => exact rfl)
    (case q32_1 => k_is)
    (case s32_1 => exact rfl)
    (case a33 => k_is)
    (case l33 => k_is)
    (case c33 => k_is)
    (case k33 => k_is)
    (case a34 => k_is)
    (case l34 => k_is)
    (case c34 => k_is)
    (case k34 => k_is)
    (case a35 => k_is)
    (case l35 => k_is)
    (case c35 => k_is)
    (case k35 => k_is)
    (case a36 => k_is)
    (case l36 => k_is)
    (case c36 => k_is)
    (case k36 => k_is)
    (case a37 => k_is)
    (case l37 => k_is)
    (case c37 => k_is)
    (case k37 => k_is)
    (case a38 => k_is)
    (case l38 => k_is)
    (case c38 => k_is)
    (case k38 => k_is)
    (case a39 => k_is)
    (case l39 => k_is)
    (case c39 => k_is)
    (case k39 => k_is)
    (case q39_0 => k_is)
    (case s39_0 => exact rfl)
    (case aL => k_is)
    (case lL => k_is)
    (case cL => k_is)
    (case kL => k_is)
    (case gPainter => k_is)
    (case pgPainter => k_is)
    (case hdPainter => k_is)
    (case poPainter => k_is)
    (case saPainter => k_is)
    (case rdPainter => k_is)
    (case gaPainter => k_is)
    (case nPainter_name => k_is)
    (case nPainter_day => k_is)
    (case nPainter_post => k_is)
    (case nPainter_stride => k_is)
    (case vPainterMAX_DAY => k_is)
    (case wPainterMAX_DAY => exact ⟨_, rfl⟩)
    (case vPainterMAX_POST => k_is)
    (case wPainterMAX_POST => exact ⟨_, rfl⟩)
    (case vPainterMAX_STRIDE => k_is)
    (case wPainterMAX_STRIDE => exact ⟨_, rfl⟩)
    (case a40 => k_is)
    (case i40 => k_is)
    (case l40 => k_is)
    (case c40 => k_is)
    (case k40 => k_is)
    (case mkPainter => k_is)
    (case kcPainter => k_is)
    (case a41 => k_is)
    (case e41 => k_is)
    (case l41 => k_is)
    (case c41 => k_is)
    (case k41 => k_is)
    (case a42 => k_is)
    (case s42 => k_is)
    (case t42 => k_is)
    (case e42 => k_is)
    (case l42 => k_is)
    (case c42 => k_is)
    (case k42 => k_is)
    (case a43 => k_is)
    (case s43 => k_is)
    (case t43 => k_is)
    (case e43 => k_is)
    (case l43 => k_is)
    (case c43 => k_is)
    (case k43 => k_is)
    (case a44 => k_is)
    (case s44 => k_is)
    (case t44 => k_is)
    (case e44 => k_is)
    (case l44 => k_is)
    (case c44 => k_is)
    (case k44 => k_is)
    (case a45 => k_is)
    (case s45 => k_is)
    (case t45 => k_is)
    (case e45 => k_is)
    (case l45 => k_is)
    (case c45 => k_is)
    (case k45 => k_is)
    (case gFence => k_is)
    (case pgFence => k_is)
    (case hdFence => k_is)
    (case poFence => k_is)
    (case saFence => k_is)
    (case rdFence => k_is)
    (case gaFence => k_is)
    (case nFence_painters => k_is)
    (case nFence_by_name => k_is)
    (case a46 => k_is)
    (case i46 => k_is)
    (case l46 => k_is)
    (case c46 => k_is)
    (case k46 => k_is)
    (case mkFence => k_is)
    (case kcFence => k_is)
    (case a47 => k_is)
    (case s47 => k_is)
    (case t47 => k_is)
    (case e47 => k_is)
    (case l47 => k_is)
    (case c47 => k_is)
    (case k47 => k_is)
    (case a48 => k_is)
    (case i48 => k_is)
    (case l48 => k_is)
    (case c48 => k_is)
    (case k48 => k_is)
    (case gHistory => k_is)
    (case pgHistory => k_is)
    (case hdHistory => k_is)
    (case poHistory => k_is)
    (case saHistory => k_is)
    (case rdHistory => k_is)
    (case gaHistory => k_is)
    (case nHistory_fence => k_is)
    (case nHistory_rows => k_is)
    (case nHistory_by_name => k_is)
    (case nHistory_stopped => k_is)
    (case a49 => k_is)
    (case i49 => k_is)
    (case l49 => k_is)
    (case c49 => k_is)
    (case k49 => k_is)
    (case mkHistory => k_is)
    (case kcHistory => k_is)
    (case a50 => k_is)
    (case s50 => k_is)
    (case t50 => k_is)
    (case e50 => k_is)
    (case l50 => k_is)
    (case c50 => k_is)
    (case k50 => k_is)
    (case ax1 => k_is)
    (case ax2 => k_is)
    (case ax3 => k_is)
    (case ax4 => k_is)
    (case ax5 => k_is)
    (case ax6 => k_is)
    (case ax7 => decide)
    (case y1Painter => k_is)
    (case y2Painter => k_is)
    (case y3Painter => k_is)
    (case y4Painter => k_is)
    (case y1Fence => k_is)
    (case y2Fence => k_is)
    (case y3Fence => k_is)
    (case y4Fence => k_is)
    (case r36q => exact rfl)
    (case v36x => k_is)
    (case w36x => exact rfl)
    (case n36q => first | exact rfl | kernel_rfl)
    (case neq_CHistory_CPainter => decide)
    (case neq_CHistory_CFence => decide)
    (case GMAX_ARGUMENT => k_is)
    (case HMAX_ARGUMENT => exact ⟨_, rfl⟩)
    (case GMAX_PAINTERS => k_is)
    (case HMAX_PAINTERS => exact ⟨_, rfl⟩)
    (case bgcd => k_is)
    (case zlen => k_is)
    (case zint => k_is)
    (case zabs => k_is)
    (case zlist => k_is)
    (case zrange => k_is)
    (case zmin => k_is)
    (case zmax => k_is)
    (case zrepr => k_is)
    (case zstr => k_is)
    (case zbool => k_is)
    (case zisinstance => k_is)
    (case zany => k_is)
    (case zdivmod => k_is)
    (case zenumerate => k_is)
    (case ztuple => k_is)
    (case zsorted => k_is)
    (case zzip => k_is)
    (case zdict => k_is)
