import PyProof.Rows.All
import Wide.All
import OpenK.AllK
import Wide.FinOn
import HandS.ForMost
import HandS.Property
import HandS.ClsMeth
import HandS.IsInst
import HandS.Wide
import HandS.StrMore
import HandS.FStr
import HandS.RaiseMore
import HandS.Codes
import HandS.Style
import HandS.Flow
import HandS.Defaults
import PyProof.ReprRoads
import PyProof.ReprLen
import PyProof.Rows.RegStrFacts
import HandS.MakeKwOnly
import KE.GoesEnum
import HandS.Star
import HandS.Walk
import HandS.OwnEq
import KE.KOpsOwn
import KE.KExcIs
import KE.KNest
import HandS.Exc
import HandS.ExcInit
import HandS.ExcField
import HandS.WordsExc
import HandS.ExcIs
import HandS.Dict
import HandS.Lambda
import HandS.Nested
import HandS.SortKw
import HandS.SortRule
import KE.DatumOrd
import HandS.Call
import HandS.DictComp
import PyProof.FitsInt
import HandS.EndTab
import KE.SortData
import PyProof.Rows.RuleDivmod
import HandS.Zip
import HandS.Gcd
import PyProof.DictUpdate
import PySem.Challenge.RW_paintposts_k49_full_from_a_planted_post
set_option Elab.async false
set_option linter.all false
set_option maxRecDepth 100000
set_option maxHeartbeats 4000000
/-! Ur0: what every law of this program starts with: short forms of calls, the pen, wide division, static methods. -/
namespace Ur
open PySem PySem.Spec PyProof.Rows L2

/-! ### calls in short -/
/-- a def of the text, where it stands -/
def Dfn (K : PySem.W.Frag) (mg : Str → Option Value) (x : Str) (st : Stmt) (ps : List Str) : Prop :=
  ∃ (f : Addr) (fd : FuncData), Fun K x x st f fd ∧ Binds K fd ps [] ∧ mg x = some (.ref f)
/-- a name of the module that can be called: it keeps the promise sp at level k -/
def Cal (P : Program) (w : World) (K : PySem.W.Frag) (mg : Str → Option Value) (base : Heap) (k : Nat) (x : Str) (ps : List Str) (sp : Sp) : Prop :=
  ∃ (f : Addr) (fd : FuncData), FnOk P w K mg base CX0 k f fd ps sp ∧ PySem.W.keepIn K (.ref f) = true ∧ Binds K fd ps [] ∧ mg x = some (.ref f)
section
variable {P : Program} {w : World} {K : PySem.W.Frag} {mg : Str → Option Value} {base : Heap} {k : Nat} {x : Str} {ps : List Str} {sp : Sp} {st : Stmt}
theorem Cal.mono {j : Nat} (c : Cal P w K mg base j x ps sp) (h : j ≤ k) : Cal P w K mg base k x ps sp :=
  let ⟨f, fd, F, r⟩ := c
  ⟨f, fd, F.mono h, r⟩
theorem Dfn.cal {N : List Str} (D : Dfn K mg x st ps) (S : FnScope N ps (defScope st)) (len : ∀ vs H Q E, sp vs H Q E → vs.length = ps.length)
    (hbody : ∀ (f : Addr) (cdv : Value) (A : Around) (outer : List Env) (s : Shared) (H : Hp) (vs : List V) (Q : VK) (E : XK), Room k (A.deeper (envOfC x (defScope st) s.heap.objs.size f cdv)) → sp vs H Q E →
      ∃ t, PSs (cxOf CX0 P w K mg base N x (defScope st) f cdv A outer s H E).nox (defBody st) t ∧ t { nx := fun _ H' => Q .non H', rt := Q } (start N vs) H) :
    Cal P w K mg base (k + 1) x ps sp := by
  obtain ⟨f, fd, F, b, m⟩ := D
  exact ⟨f, fd, F.ok S len fun cdv A outer s H vs Q E hr h => hbody f cdv A outer s H vs Q E hr h, F.kp, b, m⟩
end
section
variable {X : Cx} {k : Nat} {x : Str} {ps : List Str} {sp : Sp} {e : Expr} {es : List Expr} {t : TA} {p pos : Pos}
theorem pe_cal (c : Cal X.prog X.w X.K X.mg X.base k x ps sp) (hr : Room k X.A) (ha : PA X (e :: es) t) (hg : Gl X x := by rfl) (hdb : (x == ("__debug__" : Str)) = false := by decide)
    (he : starEach (e :: es) X.env = (false, eval e X.env) :: starEach es X.env := by rfl) (hpl : (backTo pos (starEach es X.env)).any (·.1) = false := by rfl) :
    PE X (.Call (.Name x p) (e :: es) [] pos) (tCall sp [] E0 t) := by
  obtain ⟨f, fd, F, kp, b, m⟩ := c
  exact pe_call F hr hg m kp b .nil pass0 ha (hdb := hdb) (he := he) (hpl := hpl)
end

/-! ### heaps: all stands as it stood, but what is at p -/
def Keep (p : Addr) (H H' : Hp) : Prop := ∀ b o, H b = some o → b ≠ p → H' b = some o
theorem Keep.refl {p : Addr} {H : Hp} : Keep p H H := fun _ _ h _ => h
theorem Keep.trans {p : Addr} {H H1 H2 : Hp} (a : Keep p H H1) (b : Keep p H1 H2) : Keep p H H2 := fun c o h n => b c o (a c o h n) n
theorem Keep.of {p : Addr} {H H' : Hp} (s : Same H H') : Keep p H H' := fun b o h _ => s b o h
theorem Keep.at_ {p : Addr} {H : Hp} {o : HO} : Keep p H (upd H p o) := fun b u h n => by rw [upd_ne n]; exact h
theorem same_new {H : Hp} {p : Addr} (h : H p = none) (o : HO) : Same H (upd H p o) := fun b u q => by rw [upd_ne (ne_of_none q h)]; exact q
theorem Keep.new {p q : Addr} {H H' : Hp} {o : HO} (a : Keep p H H') (h : H' q = none) : Keep p H (upd H' q o) := a.trans (Keep.of (same_new h o))
theorem Keep.at_new {p a : Addr} {H H' : Hp} {o : HO} (k : Keep p H H') (h : H a = none) : Keep p H (upd H' a o) := fun b u e n => by rw [upd_ne (ne_of_none e h)]; exact k b u e n
theorem Keep.lst {p a : Addr} {K : PySem.W.Frag} {H H' : Hp} {xs : List V} {kvs : List (Key × V)} (k : Keep p H H') (hp : H p = some (.dK kvs)) (h : SqL K H a xs) : SqL K H' a xs := by
  rcases h with (h | ⟨o, h⟩) | h
  · exact .inl (.inl (k _ _ h (ne_of h hp (by intro z; cases z))))
  · exact .inl (.inr ⟨o, k _ _ h (ne_of h hp (by intro z; cases z))⟩)
  · exact .inr h
theorem Keep.tup {p a : Addr} {K : PySem.W.Frag} {H H' : Hp} {xs : List V} {kvs : List (Key × V)} (k : Keep p H H') (hp : H p = some (.dK kvs)) (h : SqT K H a xs) : SqT K H' a xs := by
  rcases h with (h | ⟨o, h⟩) | h
  · exact .inl (.inl (k _ _ h (ne_of h hp (by intro z; cases z))))
  · exact .inl (.inr ⟨o, k _ _ h (ne_of h hp (by intro z; cases z))⟩)
  · exact .inr h
/-- a new address is none of the old ones, also where things were kept -/
theorem Keep.none_of {p a : Addr} {H H' : Hp} (k : Keep p H H') (h : H' a = none) (n : a ≠ p) : H a = none := by
  cases q : H a with
  | none => rfl
  | some o => rw [k a o q n] at h; cases h

/-! ### // by any divisor but 0, of up to 9000 bits -/
def CDivX (_ j : Int) : Prop := j ≠ 0 ∧ j.natAbs.log2 < 9000
theorem op_fdivX {X : Cx} : OpR X (binaryOp .FloorDiv) (rI CDivX fun i j => .int (i.fdiv j)) := opI fun i j _ _ _ _ _ hc q => PyProof.Rows.floordiv_int hc.1 q (.inl (PyProof.noPylong_of_log2 hc.2))
theorem log2_small {i : Int} {b : Nat} (h : i.natAbs < 2 ^ b) (hb : 0 < b) : i.natAbs.log2 < b := PySem.Flt.log2_lt_of hb h

/-! ### a static method, read off its class -/
structure SMet (K : PySem.W.Frag) (C : Addr) (mc : Value) (m : Str) (p g : Addr) : Prop where
  at_ : PySem.W.findCls K (.ref C) mc m = some (.get (.builtin "staticmethod.__get__") (.ref p) .none (.ref C))
  rc : ∃ rest, PySem.W.recIn K p "staticmethod" = some (.ref g :: rest)
  kp : PySem.W.keepIn K (.ref g) = true
def tSMeth (C : Addr) (sp : Sp) (E : XK) (ta : TE) (t : TA) : TE := fun σ H Q => ta σ H fun x H1 => x = .ref C ∧ t σ H1 fun vs H2 => sp vs H2 Q E
section
variable {X : Cx} {CX : CXT} {k : Nat} {C p g : Addr} {mc : Value} {sp : Sp} {E : XK} {o e : Expr} {es : List Expr} {m : Str} {pos apos : Pos} {ta : TE} {t : TA} {pl : Sem Bool} {fd : FuncData} {ps : List Str}
theorem pe_smeth (he : PE X o ta) (r : ClX.CRead X.K C mc) (c : SMet X.K C mc m p g) (F : FnOk X.prog X.w X.K X.mg X.base CX k g fd ps sp) (hb : Binds X.K fd ps []) (hr : Room k X.A) (hx : Passes CX X E) (ha : PA X (e :: es) t)
    (hst : starEach (e :: es) X.env = (false, eval e X.env) :: starEach es X.env := by rfl) (hpl : (backTo pos (starEach es X.env)).any (·.1) = false := by rfl)
    (ht : eval (.Call (.Attribute o m apos) (e :: es) [] pos) X.env = (do let ov ← eval o X.env; standAt apos.atName; let (f, first) ← holding [ov] (getMethod ov m pl); callWith pos f first (backTo pos (starEach (e :: es) X.env)) (backToKw pos (keywordEach [] X.env))) := by rfl) :
    PE X (.Call (.Attribute o m apos) (e :: es) [] pos) (tSMeth C sp E ta t) := by
  refine ⟨fun pins s σ H Q I h => ?_⟩
  refine PySem.W.methodCall_KW (pl := pl) (thn (he.run pins s σ H _ I h) fun u s1 ⟨x, H1, I1, rx, ex, q⟩ => ?_) ht
  subst ex
  obtain rfl : u = Value.ref C := rx
  obtain ⟨rest, hp⟩ := c.rc
  refine PySem.W.method_cls I1.kIn r.ga ?_
  refine PySem.W.cls_bind I1.kIn r.rd c.at_ (wpAny_call (PySem.W.sm_get (s := { s1 with toks := s1.toks + 1 }) I1.kIn hp (PySem.W.handed_on rfl ?_)))
  refine PySem.W.callWith_K (h₀ := X.base) I.ok.mod.kin c.kp (thn (ha.run pos pins _ σ H1 _ (I1.tok _) q) fun us s3 ⟨vs, H2, I3, rv, q2⟩ => ⟨I3.kIn, ?_⟩) hst hpl
  exact run_fn F hr hb .nil hx I3 rv (by rw [List.append_nil]; exact q2)
end
end Ur
/-! K1: the law's own draws: the pen, draw, pick, around. -/
namespace Ur
open PySem PySem.Spec PyProof.Rows L2
def topS (i : Nat) : Stmt := PySem.Challenge.pw_paintposts_k49_full_from_a_planted_post.main.body.getD i (.Pass ⟨0, 0, 0, 0⟩)

/-- the built-in names are not the module's -/
structure Blt (mg : Str → Option Value) : Prop where
  len_ : mg "len" = none
  int_ : mg "int" = none
  abs_ : mg "abs" = none
  list_ : mg "list" = none
  range_ : mg "range" = none
  min_ : mg "min" = none
  max_ : mg "max" = none
  repr_ : mg "repr" = none
  str_ : mg "str" = none
  bool_ : mg "bool" = none
  isinstance_ : mg "isinstance" = none
  any_ : mg "any" = none
  divmod_ : mg "divmod" = none

/-! ### the pen -/
def penK (l : Addr) (b r : Int) : List (Key × V) := [(Sum.inr "cells", .ref l), (Sum.inr "begun", .int b), (Sum.inr "rest", .int r)]
theorem pen_made (l : Addr) (b r : Int) : mergeK [] [(Sum.inr "cells", V.ref l), (Sum.inr "begun", V.int b), (Sum.inr "rest", V.int r)] = penK l b r := rfl
theorem pen_cells (l : Addr) (b r : Int) : valV (penK l b r) (Sum.inr "cells") = some (.ref l) := rfl
theorem pen_begun (l : Addr) (b r : Int) : valV (penK l b r) (Sum.inr "begun") = some (.int b) := rfl
theorem pen_rest (l : Addr) (b r : Int) : valV (penK l b r) (Sum.inr "rest") = some (.int r) := rfl
theorem pen_b (l : Addr) (b r c : Int) : putK (penK l b r) (Sum.inr "begun") (.int c) = penK l c r := rfl
theorem pen_r (l : Addr) (b r c : Int) : putK (penK l b r) (Sum.inr "rest") (.int c) = penK l b c := rfl
structure Pen (H : Hp) (p l : Addr) (n : Nat) : Prop where
  ex : ∃ (cs : List Int) (b r : Int), H p = some (.dK (penK l b r)) ∧ H l = some (.lst (cs.map V.int)) ∧ cs.length ≤ 63 ∧ 0 ≤ b ∧ b ≤ (n : Int) ∧ 0 ≤ r
section
variable {H H' : Hp} {p l q : Addr} {n m : Nat} {o : HO}
theorem Pen.dk (P : Pen H p l n) : ∃ kvs, H p = some (.dK kvs) := let ⟨cs, b, r, h, _⟩ := P.ex; ⟨_, h⟩
theorem Pen.same (P : Pen H p l n) (s : Same H H') : Pen H' p l n := let ⟨cs, b, r, h, h2, z⟩ := P.ex; ⟨cs, b, r, s _ _ h, s _ _ h2, z⟩
theorem Pen.new (P : Pen H p l n) (h : H q = none) : Pen (upd H q o) p l n := P.same (same_new h o)
theorem Pen.le (P : Pen H p l n) (h : n ≤ m) : Pen H p l m := let ⟨cs, b, r, h1, h2, h3, h4, h5, h6⟩ := P.ex; ⟨cs, b, r, h1, h2, h3, h4, by omega, h6⟩
/-- a place that was free is neither of the pen's two -/
theorem Pen.ne (P : Pen H p l n) (h : H q = none) : q ≠ p := let ⟨_, e⟩ := P.dk; (ne_of_none e h).symm
theorem Pen.nl (P : Pen H p l n) (h : H q = none) : q ≠ l := let ⟨_, _, _, _, e, _⟩ := P.ex; (ne_of_none e h).symm
theorem Pen.upd (P : Pen H p l n) (h1 : q ≠ p) (h2 : q ≠ l) : Pen (upd H q o) p l n := let ⟨cs, b, r, h, h3, z⟩ := P.ex; ⟨cs, b, r, by rw [upd_ne h1.symm]; exact h, by rw [upd_ne h2.symm]; exact h3, z⟩
end
theorem cut_all {xs : List V} {n : Nat} (h : xs.length ≤ n) : cutV xs none (some (n : Int)) = xs := by
  unfold cutV
  rw [HT.sIx_none, HT.sIx_nat, Nat.min_eq_right h, List.drop_zero, Nat.sub_zero, List.take_length]
abbrev s__law_pen : Stmt := (topS 64)
abbrev N_sc__law_pen : List Str := ["_law_script"]
abbrev P__law_pen : List Str := ["_law_script"]
theorem sc__law_pen : FnScope N_sc__law_pen P__law_pen (defScope s__law_pen) := ⟨rfl, rfl, rfl, by decide +kernel, rfl, by decide +kernel, by decide +kernel⟩
def spPen (K : PySem.W.Frag) : Sp := fun vs H Q _ => ∃ (a : Addr) (ns : List Int), vs = [.ref a] ∧ SqL K H a (ns.map V.int) ∧ ns.length ≤ 63 ∧ ∀ p l H', Pen H' p l 0 → H p = none → H l = none → Same H H' → Q (.ref p) H'
section
variable {P : Program} {w : World} {K : PySem.W.Frag} {mg : Str → Option Value} {base : Heap}
theorem ok_pen (D : Dfn K mg "_law_pen" s__law_pen P__law_pen) (B : Blt mg) : Cal P w K mg base 1 "_law_pen" P__law_pen (spPen K) := by
  refine D.cal sc__law_pen (fun vs H Q E h => ?_) fun f cdv A outer s H vs Q E hr h => ?_
  · obtain ⟨a, ns, rfl, _⟩ := h
    rfl
  obtain ⟨a, ns, rfl, hS, hlen, k⟩ := h
  have hu := hu_of hr
  refine ⟨_, (pss_one (ps_ret (pe_disp (pps_cons pe_str (pe_callTy call_list_of rfl B.list_ (by decide +kernel) (pa_cons (pe_slice sl_list (pv 0) po_none (po_some pe_int)) pa_nil)) (pps_cons pe_str pe_int (pps_cons pe_str pe_int pps_nil))) (by rfl) (by rfl) (fun z => by cases z) (by decide)))), ?_⟩
  intro p hp
  refine ⟨_, rfl, 63, rfl, a, _, rfl, (same_new hp _).seq hS, fun q hq => ?_⟩
  refine ⟨q, _, rfl, .inl (SqL.of upd_same), fun l hl => ?_⟩
  have npq : p ≠ q := ne_of_none upd_same hq
  have npl : p ≠ l := by
    intro e
    rw [← e, upd_ne npq, upd_same] at hl
    cases hl
  have nql : q ≠ l := ne_of_none upd_same hl
  refine ⟨by rw [upd_ne npl, upd_ne npq, upd_same], [(Sum.inr "cells", .ref l), (Sum.inr "begun", .int 0), (Sum.inr "rest", .int 0)], rfl, (by show 3 ≤ 15; decide), ?_⟩
  have hl0 : H l = none := by
    rw [upd_ne nql.symm, upd_ne npl.symm] at hl
    exact hl
  refine k p l _ ⟨ns, 0, 0, ?_, ?_, ?_, by decide, by decide, by decide⟩ hp hl0 ?_
  · rw [pen_made]; exact upd_same
  · rw [upd_ne npl.symm, upd_same]
    exact congrArg (fun z => some (HO.lst z)) (cut_all (n := 63) (by rw [List.length_map]; exact hlen))
  · exact hlen
  · intro b o e
    have n1 := ne_of_none e hp
    have e1 : (upd H p (.dK [])) b = some o := by rw [upd_ne n1]; exact e
    have n2 := ne_of_none e1 hq
    have e2 := (by rw [upd_ne n2]; exact e1 : (upd (upd H p (.dK [])) q (.lst (cutV (ns.map V.int) none (some 63)))) b = some o)
    rw [upd_ne n1, upd_ne (ne_of_none e2 hl)]
    exact e2
end

/-! ### draw -/
abbrev s__law_draw : Stmt := (topS 65)
abbrev N_sc__law_draw : List Str := ["_law_pen_here", "_law_many", "_law_digit", "_law_site", "_law_cell", "_law_mixed"]
abbrev P__law_draw : List Str := ["_law_pen_here", "_law_many"]
theorem sc__law_draw : FnScope N_sc__law_draw P__law_draw (defScope s__law_draw) := ⟨rfl, rfl, rfl, by decide +kernel, rfl, by decide +kernel, by decide +kernel⟩
/-- the greatest bound that k further calls can serve -/
def Bd : Nat → Int
  | 0 => 60000000
  | k + 1 => 60000000 * (Bd k - 1)
def spDraw (k : Nat) : Sp := fun vs H Q _ => ∃ (p l : Addr) (many : Int) (n : Nat), vs = [.ref p, .int many] ∧ Pen H p l n ∧ n + k ≤ 2 ^ 40 ∧ 1 ≤ many ∧ many ≤ Bd k ∧ k ≤ 16 ∧
  ∀ v H', 0 ≤ v → v < many → Pen H' p l (n + (k + 1)) → Keep p H H' → Q (.int v) H'
/-- what is promised with k calls left: nothing with none -/
def spD : Nat → Sp
  | 0 => fun _ _ _ _ => False
  | k + 1 => spDraw k
theorem Dfn.none_left {P : Program} {w : World} {K : PySem.W.Frag} {mg : Str → Option Value} {base : Heap} {x : Str} {st : Stmt} {ps : List Str} (D : Dfn K mg x st ps) : Cal P w K mg base 0 x ps (fun _ _ _ _ => False) := by
  obtain ⟨f, fd, F, b, m⟩ := D
  exact ⟨f, fd, ⟨fun _ _ _ _ h => h.elim, fun _ _ _ _ _ _ _ _ _ _ _ _ _ h => h.elim⟩, F.kp, b, m⟩
theorem dpI {K : PySem.W.Frag} {H : Hp} : ∀ cs : List Int, DpAll K H (cs.map V.int) (cs.map PyData.int)
  | [] => .nil
  | c :: cs => .cons (.int c) (dpI cs)
theorem shI0 : ∀ cs : List Int, PyData.canLayAll0 (cs.map PyData.int) = true
  | [] => rfl
  | c :: cs => by
    show (PyData.canLay0 (.int c) && PyData.canLayAll0 (cs.map PyData.int)) = true
    rw [shI0 cs]
    all_goals rfl
theorem shD0 : ∀ cs : List Int, PyData.depthAll (cs.map PyData.int) = 0
  | [] => rfl
  | c :: cs => by
    show max (PyData.depth (.int c)) (PyData.depthAll (cs.map PyData.int)) = 0
    rw [shD0 cs]
    all_goals rfl
theorem shI (cs : List Int) : SeqAt.shaped (.list (cs.map PyData.int)) = true := by
  show (PyData.canLayAll0 (cs.map PyData.int) && decide (PyData.depthAll (cs.map PyData.int) + 1 ≤ 64)) = true
  rw [shI0, shD0]
  all_goals rfl
theorem get_cells {H : Hp} {p l : Addr} {b r : Int} (h : H p = some (.dK (penK l b r))) : DGet H p (.str "cells") (some (.ref l)) := DGet.k (k := Sum.inr "cells") h
theorem get_begun {H : Hp} {p l : Addr} {b r : Int} (h : H p = some (.dK (penK l b r))) : DGet H p (.str "begun") (some (.int b)) := DGet.k (k := Sum.inr "begun") h
theorem get_rest {H : Hp} {p l : Addr} {b r : Int} (h : H p = some (.dK (penK l b r))) : DGet H p (.str "rest") (some (.int r)) := DGet.k (k := Sum.inr "rest") h
theorem put_begun {H : Hp} {p l : Addr} {b r c : Int} (h : H p = some (.dK (penK l b r))) : DPut H p (.str "begun") (.int c) (upd H p (.dK (penK l c r))) := DPut.k (k := Sum.inr "begun") h (by show 3 < sizeLine; decide)
theorem put_rest {H : Hp} {p l : Addr} {b r c : Int} (h : H p = some (.dK (penK l b r))) : DPut H p (.str "rest") (.int c) (upd H p (.dK (penK l b c))) := DPut.k (k := Sum.inr "rest") h (by show 3 < sizeLine; decide)
theorem Bd_le (k : Nat) (h : k ≤ 16) : Bd k < 2 ^ 480 := by
  have : k = 0 ∨ k = 1 ∨ k = 2 ∨ k = 3 ∨ k = 4 ∨ k = 5 ∨ k = 6 ∨ k = 7 ∨ k = 8 ∨ k = 9 ∨ k = 10 ∨ k = 11 ∨ k = 12 ∨ k = 13 ∨ k = 14 ∨ k = 15 ∨ k = 16 := by omega
  rcases this with rfl | rfl | rfl | rfl | rfl | rfl | rfl | rfl | rfl | rfl | rfl | rfl | rfl | rfl | rfl | rfl | rfl <;> decide +kernel
theorem em0 (a : Int) {m : Int} (h : 0 < m) : 0 ≤ a % m := Int.emod_nonneg a (by omega)
theorem em1 (a : Int) {m : Int} (h : 0 < m) : a % m < m := Int.emod_lt_of_pos a h
section
variable {P : Program} {w : World} {K : PySem.W.Frag} {mg : Str → Option Value} {base : Heap}
set_option maxHeartbeats 16000000 in
theorem draw_step {k : Nat} (D : Dfn K mg "_law_draw" s__law_draw P__law_draw) (B : Blt mg) (G : Cal P w K mg base k "_law_draw" P__law_draw (spD k)) : Cal P w K mg base (k + 1) "_law_draw" P__law_draw (spDraw k) := by
  refine D.cal sc__law_draw (fun vs H Q E h => ?_) fun f cdv A outer s H vs Q E hr h => ?_
  · obtain ⟨p, l, many, n, rfl, _⟩ := h
    rfl
  obtain ⟨p, l, many, n, rfl, Pn, hn, h1, hm, hk, q⟩ := h
  have hu := hu_of hr
  obtain ⟨cs, b, r, hp, hl, hcs, hb0, hbn, hr0⟩ := Pn.ex
  have hm2 : many.natAbs < 2 ^ 480 := by have := Bd_le k hk; omega
  have dv : ∀ r : Int, CDivW r many := fun r => wide_div (by omega) hm2 (by decide) (by decide)
  have nlp : l ≠ p := ne_of hl hp (by intro z; cases z)
  have pw : CPow 10 18 := ⟨by decide, by decide, by decide⟩
  refine ⟨_, (pss_cons (ps_if (pt_cmpR op_gt (pe_dget hu (pv 0) pe_str (fun _ _ => rfl)) pe_int (nomark _)) (pss_cons (ps_set (i := 2) sc__law_draw.nd rfl (Or.inl rfl) (pe_op op_mod (pe_callTy call_int1 rfl B.int_ (by decide +kernel) (pa_cons (pe_dget hu (pv 0) pe_str (fun _ _ => rfl)) pa_nil)) (pv 1))) (pss_cons (ps_dput hu (pv 0) pe_str (pe_op op_fdivW (pe_dget hu (pv 0) pe_str (fun _ _ => rfl)) (pv 1)) rfl) (pss_one (ps_ret (pv 2))))) pss_nil) (pss_cons (ps_set (i := 3) sc__law_draw.nd rfl (Or.inl rfl) (pe_dget hu (pv 0) pe_str (fun _ _ => rfl))) (pss_cons (ps_dput hu (pv 0) pe_str (pe_op op_add (pv 3) pe_int) rfl) (pss_cons (ps_set (i := 4) sc__law_draw.nd rfl (Or.inl rfl) (pe_op op_add (pe_op op_mul pe_int (pv 3)) pe_int)) (C8.pss_cut (ps_if (pt_cmpR (op_neD hr.units) (pe_dget hu (pv 0) pe_str (fun _ _ => rfl)) (pe_lst pa_nil) (nomark _)) (pss_one (ps_set (i := 4) sc__law_draw.nd rfl (Or.inl rfl) (pe_ix ix_list (pe_dget hu (pv 0) pe_str (fun _ _ => rfl)) (pe_op op_mod (pe_callTy call_int1 rfl B.int_ (by decide +kernel) (pa_cons (pv 3) pa_nil)) (pe_callB call_len_seq rfl B.len_ PySem.boot_len (pa_cons (pe_dget hu (pv 0) pe_str (fun _ _ => rfl)) pa_nil))) (fun _ _ => rfl)))) pss_nil) (C8.pss_cut (ps_if (PW.pt (pw_and (pt_cmpR op_lt (pv 3) (pe_callB call_len_seq rfl B.len_ PySem.boot_len (pa_cons (pe_dget hu (pv 0) pe_str (fun _ _ => rfl)) pa_nil)) (nomark _)) (pw_and1 (pt_cmpR op_ge (pe_callB call_abs rfl B.abs_ (by decide +kernel) (pa_cons (pv 4) pa_nil)) (pe_op op_pow pe_int pe_int) (nomark _))))) (pss_cons (ps_dput hu (pv 0) pe_str (pe_op op_fdivW (pe_op op_sub (pe_callB call_abs rfl B.abs_ (by decide +kernel) (pa_cons (pv 4) pa_nil)) (pe_op op_pow pe_int pe_int)) (pv 1)) rfl) (pss_one (ps_ret (pe_op op_mod (pe_op op_sub (pe_callB call_abs rfl B.abs_ (by decide +kernel) (pa_cons (pv 4) pa_nil)) (pe_op op_pow pe_int pe_int)) (pv 1))))) pss_nil) (C8.pss_cut (ps_set (i := 5) sc__law_draw.nd rfl (Or.inl rfl) (pe_op op_mod (pe_callTy call_int1 rfl B.int_ (by decide +kernel) (pa_cons (pe_op op_add (pe_op op_add (pe_op op_mul (pe_op op_mod (pe_callTy call_int1 rfl B.int_ (by decide +kernel) (pa_cons (pv 4) pa_nil)) pe_int) pe_int) (pe_op op_mul (pe_op op_mul pe_int (pv 3)) (pv 3))) pe_int) pa_nil)) pe_int)) (C8.pss_cut (ps_set (i := 5) sc__law_draw.nd rfl (Or.inl rfl) (pe_op op_mod (pe_callTy call_int1 rfl B.int_ (by decide +kernel) (pa_cons (pe_op op_add (pe_op op_add (pe_op op_add (pe_op op_mul (pv 5) (pv 5)) (pe_op op_mul pe_int (pv 5))) (pe_op op_mul pe_int (pv 3))) pe_int) pa_nil)) pe_int)) (C8.pss_cut (ps_set (i := 5) sc__law_draw.nd rfl (Or.inl rfl) (pe_op op_fdivW (pe_op op_mod (pe_callTy call_int1 rfl B.int_ (by decide +kernel) (pa_cons (pe_op op_mul (pv 5) (pe_op op_add (pv 5) pe_int)) pa_nil)) pe_int) pe_int)) (C8.pss_cut (ps_if (pt_cmpR op_gt (pv 1) pe_int (nomark _)) (pss_one (ps_set (i := 5) sc__law_draw.nd rfl (Or.inl rfl) (pe_op op_add (pe_op op_mod (pe_callTy call_int1 rfl B.int_ (by decide +kernel) (pa_cons (pv 5) pa_nil)) pe_int) (pe_op op_mul pe_int (pe_cal G hr (pa_cons (pv 0) (pa_cons (pe_op op_add (pe_op op_fdivW (pv 1) pe_int) pe_int) pa_nil))))))) pss_nil) (pss_one (ps_ret (pe_op op_mod (pe_callTy call_int1 rfl B.int_ (by decide +kernel) (pa_cons (pv 5) pa_nil)) (pv 1)))))))))))))), ?_⟩
  refine ⟨_, rfl, p, .int r, rfl, get_rest hp, _, _, rfl, rfl, _, rfl, ?_⟩
  refine ite2 (fun c => ?_) (fun c => ?_)
  · refine ⟨_, rfl, p, .int r, rfl, get_rest hp, .inl ⟨_, rfl, _, rfl, _, _, rfl, rfl, by omega, ?_⟩⟩
    refine ⟨_, rfl, p, .int r, rfl, get_rest hp, _, rfl, _, _, rfl, rfl, dv _, _, rfl, p, _, rfl, put_rest hp, ?_⟩
    refine ⟨_, rfl, ?_⟩
    exact q _ _ (em0 _ (by omega)) (em1 _ (by omega)) ⟨cs, b, r / many, upd_same, by rw [upd_ne nlp]; exact hl, hcs, hb0, by omega, Int.ediv_nonneg hr0 (by omega)⟩ Keep.at_
  refine ⟨_, rfl, p, .int b, rfl, get_begun hp, ?_⟩
  refine ⟨_, rfl, _, _, rfl, rfl, _, rfl, p, _, rfl, put_begun hp, ?_⟩
  refine ⟨_, rfl, _, _, rfl, rfl, .inl ⟨by decide, by decide⟩, _, _, rfl, rfl, ?_⟩
  have hp1 : (upd H p (.dK (penK l (b + 1) r))) p = some (.dK (penK l (b + 1) r)) := upd_same
  have hl1 : (upd H p (.dK (penK l (b + 1) r))) l = some (.lst (cs.map V.int)) := by rw [upd_ne nlp]; exact hl
  have kp1 : Keep p H (upd H p (.dK (penK l (b + 1) r))) := Keep.at_
  generalize upd H p (.dK (penK l (b + 1) r)) = H1 at hp1 hl1 kp1 ⊢
  refine ⟨fun σ' H' => ∃ c : Int, σ' = [some (.ref p), some (.int many), none, some (.int b), some (.int c), none] ∧ H' p = some (.dK (penK l (b + 1) r)) ∧ H' l = some (.lst (cs.map V.int)) ∧ Keep p H H', ?_, ?_⟩
  · refine ⟨_, rfl, p, .ref l, rfl, get_cells hp1, (by show 0 ≤ sizeLine; decide), fun e he => ?_⟩
    have hp2 := same_new he (.lst []) _ _ hp1
    have hl2 := same_new he (.lst []) _ _ hl1
    have kp2 := kp1.new (o := .lst []) he
    refine ⟨.list (cs.map PyData.int), .list [], .lst (SqL.of hl2) (dpI cs), .lst (SqL.of upd_same) .nil, shI cs, rfl, _, rfl, ?_⟩
    generalize upd H1 e (.lst []) = H2 at hp2 hl2 kp2 ⊢
    cases hcs0 : cs with
    | nil =>
      refine iteF ?_
      exact ⟨_, rfl, hp2, by rw [← hcs0]; exact hl2, kp2⟩
    | cons c0 cr =>
      refine iteT ?_
      have hlen : 0 < ((cs.map V.int).length : Int) := by rw [List.length_map, hcs0, List.length_cons]; omega
      obtain ⟨c, hc⟩ : ∃ c, atI (cs.map V.int) (b % ((cs.map V.int).length : Int)) = some (.int c) := by
        have h0 := em0 b hlen
        have h1 := em1 b hlen
        generalize b % ((cs.map V.int).length : Int) = i at h0 h1
        obtain ⟨j, rfl⟩ : ∃ j : Nat, i = (j : Int) := ⟨i.toNat, by omega⟩
        rw [List.length_map] at h1
        have hj : j < cs.length := by omega
        exact ⟨cs[j], atI_nat (by rw [List.getElem?_map, List.getElem?_eq_getElem hj]; all_goals rfl)⟩
      refine ⟨_, rfl, p, .ref l, rfl, get_cells hp2, _, rfl, .inl ⟨_, rfl, _, rfl, p, .ref l, rfl, get_cells hp2, l, _, rfl, .inl (SqL.of hl2), _, _, rfl, rfl, hlen, l, _, _, _, rfl, rfl, SqL.of hl2, hc, ?_⟩⟩
      exact ⟨c, rfl, hp2, by rw [← hcs0]; exact hl2, kp2⟩
  rintro σ' H3 ⟨c, rfl, hp3, hl3, kp3⟩
  refine ⟨fun σ' H' => σ' = [some (.ref p), some (.int many), none, some (.int b), some (.int c), none] ∧ H' = H3, ?_, ?_⟩
  · refine ⟨_, rfl, _, rfl, p, .ref l, rfl, get_cells hp3, l, _, rfl, .inl (SqL.of hl3), _, _, rfl, rfl, _, rfl, ?_⟩
    refine ite2 (fun _ => ?_) (fun _ => ?_)
    · refine ⟨_, rfl, _, rfl, _, _, rfl, rfl, pw, _, _, rfl, rfl, _, rfl, ?_⟩
      refine ite2 (fun c2 => ?_) (fun _ => ?_)
      · refine ⟨_, rfl, _, rfl, _, _, rfl, rfl, pw, _, _, rfl, rfl, _, rfl, _, _, rfl, rfl, dv _, _, rfl, p, _, rfl, put_rest hp3, ?_⟩
        refine ⟨_, rfl, _, rfl, _, _, rfl, rfl, pw, _, _, rfl, rfl, _, rfl, _, _, rfl, rfl, by omega, ?_⟩
        have c3 := of_decide_eq_true c2
        exact q _ _ (em0 _ (by omega)) (em1 _ (by omega)) ⟨cs, b + 1, _, upd_same, by rw [upd_ne nlp]; exact hl3, hcs, by omega, by omega, Int.ediv_nonneg (by omega) (by omega)⟩ (kp3.trans Keep.at_)
      · exact ⟨rfl, rfl⟩
    · exact iteF ⟨rfl, rfl⟩
  rintro σ' H' ⟨rfl, rfl⟩
  have c1 : -(2 ^ 64) < c % 4294967279 ∧ c % 4294967279 < 2 ^ 64 := by
    have := em0 c (m := 4294967279) (by decide)
    have := em1 c (m := 4294967279) (by decide)
    omega
  have c2 : -(2 ^ 64) < 40503 * b ∧ 40503 * b < 2 ^ 64 := by omega
  refine ⟨fun σ' H'' => ∃ m : Int, σ' = [some (.ref p), some (.int many), none, some (.int b), some (.int c), some (.int m)] ∧ 0 ≤ m ∧ m < 4294967291 ∧ H'' = H', ?_, ?_⟩
  · refine ⟨_, rfl, .inl ⟨_, rfl, _, _, rfl, rfl, by omega, _, _, rfl, rfl, .inl c1, _, rfl, _, _, rfl, rfl, .inl ⟨by decide, by decide⟩, _, rfl, _, _, rfl, rfl, .inl c2, _, _, rfl, rfl, _, _, rfl, rfl, .inl ⟨_, rfl, _, _, rfl, rfl, by omega, ?_⟩⟩⟩
    exact ⟨_, rfl, em0 _ (by decide), em1 _ (by decide), rfl⟩
  rintro σ' H' ⟨m1, rfl, d0, d1, rfl⟩
  have m1b : -(2 ^ 64) < m1 ∧ m1 < 2 ^ 64 := by omega
  refine ⟨fun σ' H'' => ∃ m : Int, σ' = [some (.ref p), some (.int many), none, some (.int b), some (.int c), some (.int m)] ∧ 0 ≤ m ∧ m < 4294967291 ∧ H'' = H', ?_, ?_⟩
  · refine ⟨_, rfl, _, rfl, _, _, rfl, rfl, .inl m1b, _, rfl, _, _, rfl, rfl, .inl ⟨by decide, by decide⟩, _, _, rfl, rfl, _, rfl, _, _, rfl, rfl, .inl ⟨by decide, by decide⟩, _, _, rfl, rfl, _, _, rfl, rfl, .inl ⟨_, rfl, _, _, rfl, rfl, by omega, ?_⟩⟩
    exact ⟨_, rfl, em0 _ (by decide), Int.lt_trans (em1 _ (by decide)) (by decide), rfl⟩
  rintro σ' H' ⟨m2, rfl, e0, e1, rfl⟩
  have m2b : -(2 ^ 64) < m2 ∧ m2 < 2 ^ 64 := by omega
  refine ⟨fun σ' H'' => ∃ m : Int, σ' = [some (.ref p), some (.int many), none, some (.int b), some (.int c), some (.int m)] ∧ H'' = H', ?_, ?_⟩
  · refine ⟨_, rfl, _, rfl, _, _, rfl, rfl, _, _, rfl, rfl, .inl m2b, .inl ⟨_, rfl, _, _, rfl, rfl, by omega, _, _, rfl, rfl, wide_div (b := 7) (by decide) (by decide) (by decide) (by decide), ?_⟩⟩
    exact ⟨_, rfl, rfl⟩
  rintro σ' H' ⟨m3, rfl, rfl⟩
  refine ⟨fun σ' H' => ∃ m : Int, σ' = [some (.ref p), some (.int many), none, some (.int b), some (.int c), some (.int m)] ∧ Pen H' p l (n + (k + 1)) ∧ Keep p H H', ?_, ?_⟩
  · have P3 : Pen H' p l (n + 1) := ⟨cs, b + 1, r, hp3, hl3, hcs, by omega, by omega, hr0⟩
    refine ⟨_, rfl, _, _, rfl, rfl, _, rfl, ?_⟩
    refine ite2 (fun c4 => ?_) (fun c4 => ?_)
    · have c5 := of_decide_eq_true c4
      have dk : ∃ j, k = j + 1 := by
        cases k with
        | zero => exact absurd hm (by show ¬ many ≤ 60000000; omega)
        | succ j => exact ⟨j, rfl⟩
      obtain ⟨j, rfl⟩ := dk
      have hB : many ≤ 60000000 * (Bd j - 1) := hm
      refine ⟨_, rfl, .inl ⟨_, rfl, _, _, rfl, rfl, by omega, _, rfl, _, rfl, _, _, rfl, rfl, wide_div (b := 26) (by decide) (by decide) (by decide) (by decide), _, _, rfl, rfl, p, l, _, n + 1, rfl, P3, by omega, by omega, by omega, by omega, fun v H4 v0 v1 P4 k4 => ?_⟩⟩
      refine ⟨_, _, rfl, rfl, .inl ⟨by decide, by decide⟩, _, _, rfl, rfl, ?_⟩
      exact ⟨_, rfl, P4.le (by omega), kp3.trans k4⟩
    · exact ⟨_, rfl, P3.le (by omega), kp3⟩
  rintro σ' H5 ⟨m, rfl, P5, k5⟩
  refine ⟨_, rfl, .inl ⟨_, rfl, _, rfl, _, _, rfl, rfl, by omega, ?_⟩⟩
  exact q _ _ (em0 _ (by omega)) (em1 _ (by omega)) P5 k5
theorem ok_drawN (D : Dfn K mg "_law_draw" s__law_draw P__law_draw) (B : Blt mg) : ∀ k : Nat, Cal P w K mg base k "_law_draw" P__law_draw (spD k)
  | 0 => D.none_left
  | k + 1 => draw_step D B (ok_drawN D B k)
/-- what callers use: bounds up to 10 ^ 81 -/
def spDr : Sp := fun vs H Q _ => ∃ (p l : Addr) (many : Int) (n : Nat), vs = [.ref p, .int many] ∧ Pen H p l n ∧ n ≤ 2 ^ 39 ∧ 1 ≤ many ∧ many ≤ 10 ^ 81 ∧
  ∀ v H', 0 ≤ v → v < many → Pen H' p l (n + 12) → Keep p H H' → Q (.int v) H'
theorem ok_draw (D : Dfn K mg "_law_draw" s__law_draw P__law_draw) (B : Blt mg) : Cal P w K mg base 12 "_law_draw" P__law_draw spDr := by
  obtain ⟨f, fd, F, r⟩ := ok_drawN (P := P) (w := w) (base := base) D B 12
  refine ⟨f, fd, F.imp fun vs H Q E h => ?_, r⟩
  obtain ⟨p, l, many, n, rfl, a, b, c, d, e⟩ := h
  exact ⟨p, l, many, n, rfl, a, (by show n + 11 ≤ 2 ^ 40; omega), c, Int.le_trans d (by decide +kernel), by decide, e⟩
end
end Ur
/-! K2: pick, around, power, great, names. -/
namespace Ur
open PySem PySem.Spec PyProof.Rows L2
/-! ### pick -/
abbrev s__law_pick : Stmt := (topS 66)
abbrev N_sc__law_pick : List Str := ["_law_pen_here", "_law_options"]
abbrev P__law_pick : List Str := ["_law_pen_here", "_law_options"]
theorem sc__law_pick : FnScope N_sc__law_pick P__law_pick (defScope s__law_pick) := ⟨rfl, rfl, rfl, by decide +kernel, rfl, by decide +kernel, by decide +kernel⟩
def spPickL (K : PySem.W.Frag) : Sp := fun vs H Q _ => ∃ (p l a : Addr) (xs : List V) (n : Nat), vs = [.ref p, .ref a] ∧ Pen H p l n ∧ n ≤ 2 ^ 39 ∧ SqL K H a xs ∧ 1 ≤ xs.length ∧ xs.length ≤ 1000000 ∧
  ∀ v H', v ∈ xs → Pen H' p l (n + 12) → Keep p H H' → Q v H'
def spPickS : Sp := fun vs H Q _ => ∃ (p l : Addr) (z : Str) (n : Nat), vs = [.ref p, .str z] ∧ Pen H p l n ∧ n ≤ 2 ^ 39 ∧ 1 ≤ z.length ∧ z.length ≤ 1000000 ∧
  ∀ c H', c ∈ z.cps.toList → Pen H' p l (n + 12) → Keep p H H' → Q (.str ⟨#[c]⟩) H'
theorem at_some {α : Type} {xs : List α} {i : Int} (h0 : 0 ≤ i) (h1 : i < (xs.length : Int)) : ∃ v, atI xs i = some v ∧ v ∈ xs := by
  obtain ⟨j, rfl⟩ : ∃ j : Nat, i = (j : Int) := ⟨i.toNat, by omega⟩
  have hj : j < xs.length := by omega
  exact ⟨xs[j], atI_nat (List.getElem?_eq_getElem hj), List.getElem_mem hj⟩
section
variable {P : Program} {w : World} {K : PySem.W.Frag} {mg : Str → Option Value} {base : Heap}
theorem ok_pickL (D : Dfn K mg "_law_pick" s__law_pick P__law_pick) (B : Blt mg) (CD : Cal P w K mg base 12 "_law_draw" P__law_draw spDr) : Cal P w K mg base 13 "_law_pick" P__law_pick (spPickL K) := by
  refine D.cal sc__law_pick (fun vs H Q E h => ?_) fun f cdv A outer s H vs Q E hr h => ?_
  · obtain ⟨p, l, a, xs, n, rfl, _⟩ := h
    rfl
  obtain ⟨p, l, a, xs, n, rfl, Pn, hn, hS, h1, h2, q⟩ := h
  obtain ⟨kvs, hp⟩ := Pn.dk
  refine ⟨_, (pss_one (ps_ret (pe_ix ix_list (pv 1) (pe_cal CD (hr.mono (by decide)) (pa_cons (pv 0) (pa_cons (pe_callB call_len_seq rfl B.len_ PySem.boot_len (pa_cons (pv 1) pa_nil)) pa_nil))) (fun _ _ => rfl)))), ?_⟩
  refine ⟨_, rfl, _, rfl, _, rfl, a, _, rfl, .inl hS, p, l, _, n, rfl, Pn, hn, by omega, by omega, fun v H1 v0 v1 P1 k1 => ?_⟩
  obtain ⟨x, hx, hm⟩ := at_some v0 v1
  exact ⟨a, xs, v, x, rfl, rfl, k1.lst hp hS, hx, q _ _ hm P1 k1⟩
theorem ok_pickS (D : Dfn K mg "_law_pick" s__law_pick P__law_pick) (B : Blt mg) (CD : Cal P w K mg base 12 "_law_draw" P__law_draw spDr) : Cal P w K mg base 13 "_law_pick" P__law_pick spPickS := by
  refine D.cal sc__law_pick (fun vs H Q E h => ?_) fun f cdv A outer s H vs Q E hr h => ?_
  · obtain ⟨p, l, z, n, rfl, _⟩ := h
    rfl
  obtain ⟨p, l, z, n, rfl, Pn, hn, h1, h2, q⟩ := h
  have hz : z.length ≤ sizeLine := Nat.le_trans h2 (by decide)
  refine ⟨_, (pss_one (ps_ret (pe_ix ix_str (pv 1) (pe_cal CD (hr.mono (by decide)) (pa_cons (pv 0) (pa_cons (pe_callB call_len_str rfl B.len_ PySem.boot_len (pa_cons (pv 1) pa_nil)) pa_nil))) (fun _ _ => rfl)))), ?_⟩
  refine ⟨_, rfl, _, rfl, _, rfl, _, rfl, hz, p, l, _, n, rfl, Pn, hn, by omega, by omega, fun v H1 v0 v1 P1 k1 => ?_⟩
  have e : z.length = z.cps.toList.length := by show z.cps.size = _; rw [Array.length_toList]
  obtain ⟨x, hx, hm⟩ := at_some (xs := z.cps.toList) v0 (by omega)
  exact ⟨z, v, x, rfl, rfl, hz, hx, q _ _ hm P1 k1⟩
end
/-! ### around -/
/-! ### power, great -/
abbrev s__law_power : Stmt := (topS 67)
abbrev N_sc__law_power : List Str := ["_law_figures", "_law_found", "_law_k"]
abbrev P__law_power : List Str := ["_law_figures"]
theorem sc__law_power : FnScope N_sc__law_power P__law_power (defScope s__law_power) := ⟨rfl, rfl, rfl, by decide +kernel, rfl, by decide +kernel, by decide +kernel⟩
def spPower : Sp := fun vs H Q _ => ∃ (g : Nat), vs = [.int (g : Int)] ∧ g ≤ 100 ∧ Q (.int (10 ^ g)) H
theorem pow_bits {i : Nat} (h : i ≤ 100) : ((10 : Int) ^ i).natAbs < 2 ^ 400 := by
  have e : ((10 : Int) ^ i).natAbs = 10 ^ i := by rw [Int.natAbs_pow]; rfl
  rw [e]
  exact Nat.lt_of_le_of_lt (Nat.pow_le_pow_right (by decide) h) (by decide +kernel)
section
variable {P : Program} {w : World} {K : PySem.W.Frag} {mg : Str → Option Value} {base : Heap}
theorem ok_power (D : Dfn K mg "_law_power" s__law_power P__law_power) (B : Blt mg) : Cal P w K mg base 1 "_law_power" P__law_power spPower := by
  refine D.cal sc__law_power (fun vs H Q E h => ?_) fun f cdv A outer s H vs Q E hr h => ?_
  · obtain ⟨g, rfl, _⟩ := h
    rfl
  obtain ⟨g, rfl, hg, q⟩ := h
  refine ⟨_, (pss_cons (ps_set (i := 1) sc__law_power.nd rfl (Or.inl rfl) pe_int) (pss_cons (ps_for PassesOwn.never rfl (pi_range1 rfl B.range_ (pa_cons (pv 0) pa_nil)) (pg_name (i := 2) sc__law_power.nd rfl (Or.inl rfl)) (pss_one (ps_set (i := 1) sc__law_power.nd rfl (Or.inl rfl) (pe_op op_mulW (pv 1) pe_int)))) (pss_one (ps_ret (pv 1))))), ?_⟩
  refine ⟨_, rfl, (g : Int), rfl, by omega, by omega, for_range (lo := 0) (n := (g : Int).toNat) (fun i σ H' => i ≤ g ∧ H' = H ∧ ∃ v, σ = [some (.int (g : Int)), some (.int (10 ^ i)), v]) ⟨by omega, rfl, _, rfl⟩ ?_ ?_⟩
  · rintro i σ H' hi ⟨hi2, rfl, v, rfl⟩
    refine ⟨_, rfl, _, _, rfl, rfl, wide_mul (a := 400) (b := 4) (pow_bits (by omega)) (by decide) (by decide) (by decide) (by decide), ?_⟩
    exact ⟨by omega, rfl, _, by rw [Int.pow_succ]; rfl⟩
  · rintro σ H' ⟨hi2, rfl, v, rfl⟩
    exact ⟨_, rfl, q⟩
end
theorem pow10_le {a b : Nat} (h : a ≤ b) : (10 : Int) ^ a ≤ 10 ^ b := by
  have z := Nat.pow_le_pow_right (n := 10) (by decide) h
  exact_mod_cast z
abbrev s__law_great : Stmt := (topS 68)
abbrev N_sc__law_great : List Str := ["_law_pen_here", "_law_figures", "_law_most", "_law_some"]
abbrev P__law_great : List Str := ["_law_pen_here", "_law_figures"]
theorem sc__law_great : FnScope N_sc__law_great P__law_great (defScope s__law_great) := ⟨rfl, rfl, rfl, by decide +kernel, rfl, by decide +kernel, by decide +kernel⟩
def spGreat : Sp := fun vs H Q _ => ∃ (p l : Addr) (g n : Nat), vs = [.ref p, .int (g : Int)] ∧ Pen H p l n ∧ n + 72 ≤ 2 ^ 39 ∧ 1 ≤ g ∧ g ≤ 80 ∧
  ∀ v H', 0 ≤ v → v < 10 ^ g → Pen H' p l (n + 72) → Keep p H H' → Q (.int v) H'
section
variable {P : Program} {w : World} {K : PySem.W.Frag} {mg : Str → Option Value} {base : Heap}
theorem ok_great (D : Dfn K mg "_law_great" s__law_great P__law_great) (CW : Cal P w K mg base 1 "_law_power" P__law_power spPower) (CD : Cal P w K mg base 12 "_law_draw" P__law_draw spDr) (CP : Cal P w K mg base 13 "_law_pick" P__law_pick (spPickL K)) :
    Cal P w K mg base 14 "_law_great" P__law_great spGreat := by
  refine D.cal sc__law_great (fun vs H Q E h => ?_) fun f cdv A outer s H vs Q E hr h => ?_
  · obtain ⟨p, l, g, n, rfl, _⟩ := h
    rfl
  obtain ⟨p, l, g, n, rfl, Pn, hn, g1, g2, q⟩ := h
  obtain ⟨kvs, hp⟩ := Pn.dk
  have big : (10 : Int) ≤ 10 ^ g := pow10_le g1
  have top : (10 : Int) ^ g ≤ 10 ^ 81 := pow10_le (by omega)
  refine ⟨_, (pss_cons (ps_set (i := 2) sc__law_great.nd rfl (Or.inl rfl) (pe_cal CW (hr.mono (by decide)) (pa_cons (pv 1) pa_nil))) (pss_cons (ps_set (i := 3) sc__law_great.nd rfl (Or.inl rfl) (pe_lst (pa_cons (pe_cal CD (hr.mono (by decide)) (pa_cons (pv 0) (pa_cons pe_int pa_nil))) (pa_cons (pe_cal CD (hr.mono (by decide)) (pa_cons (pv 0) (pa_cons (pv 2) pa_nil))) (pa_cons (pe_cal CD (hr.mono (by decide)) (pa_cons (pv 0) (pa_cons (pv 2) pa_nil))) pa_nil))))) (pss_one (ps_ret (pe_cal CP (hr.mono (by decide)) (pa_cons (pv 0) (pa_cons (pe_op op_cat (pv 3) (pe_lst (pa_cons (pe_op op_add (pe_op op_fdivW (pv 2) pe_int) (pe_cal CD (hr.mono (by decide)) (pa_cons (pv 0) (pa_cons pe_int pa_nil)))) (pa_cons (pe_op op_sub (pe_op op_sub (pv 2) pe_int) (pe_cal CD (hr.mono (by decide)) (pa_cons (pv 0) (pa_cons pe_int pa_nil)))) pa_nil)))) pa_nil))))))), ?_⟩
  refine ⟨_, rfl, g, rfl, by omega, ?_⟩
  generalize (10 : Int) ^ g = most at big top q ⊢
  refine ⟨_, rfl, p, l, _, n, rfl, Pn, by omega, by omega, by omega, fun v1 H1 a1 b1 P1 k1 => ?_⟩
  refine ⟨_, rfl, _, rfl, p, l, _, _, rfl, P1, by omega, by omega, by omega, fun v2 H2 a2 b2 P2 k2 => ?_⟩
  refine ⟨_, rfl, _, rfl, p, l, _, _, rfl, P2, by omega, by omega, by omega, fun v3 H3 a3 b3 P3 k3 => ?_⟩
  refine ⟨(by show 3 ≤ sizeLine; decide), fun t ht => ?_⟩
  have P4 := P3.new (o := .lst [.int v1, .int v2, .int v3]) ht
  have k4 := ((k1.trans k2).trans k3).new (o := .lst [.int v1, .int v2, .int v3]) ht
  have ht4 : (upd H3 t (.lst [.int v1, .int v2, .int v3])) t = some (.lst [.int v1, .int v2, .int v3]) := upd_same
  have tp := P3.ne ht
  have tl := P3.nl ht
  generalize upd H3 t (.lst [.int v1, .int v2, .int v3]) = H4 at P4 k4 ht4 ⊢
  refine ⟨_, rfl, _, rfl, _, rfl, _, _, rfl, rfl, wide_div (b := 4) (by decide) (by decide) (by decide) (by decide), _, rfl, p, l, _, _, rfl, P4, by omega, by omega, by omega, fun v4 H5 a4 b4 P5 k5 => ?_⟩
  refine ⟨_, _, rfl, rfl, _, rfl, _, _, rfl, rfl, _, rfl, p, l, _, _, rfl, P5, by omega, by omega, by omega, fun v5 H6 a5 b5 P6 k6 => ?_⟩
  refine ⟨_, _, rfl, rfl, (by show 2 ≤ sizeLine; decide), fun u hu => ?_⟩
  have e6 := k6 _ _ (k5 _ _ ht4 tp) tp
  have e7 := same_new hu (.lst [.int (most / 10 + v4), .int (most - 1 - v5)]) _ _ e6
  refine ⟨t, u, _, _, rfl, rfl, e7, upd_same, (by show 5 ≤ sizeLine; decide), fun y hy => ?_⟩
  refine ⟨p, l, y, _, _, rfl, (P6.new hu).new hy, by omega, SqL.of upd_same, by show 1 ≤ 5; decide, by show 5 ≤ 1000000; decide, fun v H7 hv P7 k7 => ?_⟩
  have z : ∃ i : Int, v = .int i ∧ 0 ≤ i ∧ i < most := by
    simp only [List.mem_append, List.mem_cons, List.not_mem_nil, or_false] at hv
    rcases hv with (rfl | rfl | rfl) | (rfl | rfl) <;> exact ⟨_, rfl, by omega, by omega⟩
  obtain ⟨i, rfl, i0, i1⟩ := z
  exact q i H7 i0 i1 (P7.le (by omega)) ((((k4.trans k5).trans k6).new hu).new hy |>.trans k7)
end
end Ur
/-! K3: names. -/
namespace Ur
open PySem PySem.Spec PyProof.Rows L2
/-- small letters only -/
def LetOk (z : Str) : Prop := ∀ c ∈ z.cps.toList, 97 ≤ c ∧ c ≤ 122
def NameOk (z : Str) : Prop := 1 ≤ z.length ∧ z.length ≤ 8 ∧ LetOk z
theorem LetOk.app {a b : Str} (x : LetOk a) (y : LetOk b) : LetOk (a ++ b) := fun c h => by
  rw [Str.cps_append, Array.toList_append, List.mem_append] at h
  exact h.elim (x c) (y c)
theorem LetOk.empty : LetOk Str.empty := fun c h => by simp [Str.empty] at h
theorem LetOk.one {c : Nat} (h : 97 ≤ c ∧ c ≤ 122) : LetOk ⟨#[c]⟩ := fun d hd => by
  have e : d = c := by simpa using hd
  rw [e]; exact h
def lett : Str := Str.ofString "abcdefghijklmnopqrstuvwxyz"
theorem lett_ok : LetOk lett := by unfold LetOk; decide +kernel
theorem lett_len : lett.length = 26 := by decide +kernel
theorem lett_tl : lett.cps.toList.length = 26 := by decide +kernel
theorem join_ok : ∀ ss : List Str, (∀ z ∈ ss, z.length = 1 ∧ LetOk z) → (Txt.join Str.empty ss).length = ss.length ∧ LetOk (Txt.join Str.empty ss) := by
  intro ss h
  rw [show Txt.join Str.empty ss = Str.join Str.empty ss from PySem.StrLaws.glued_eq_join _ _]
  induction ss with
  | nil => exact ⟨rfl, LetOk.empty⟩
  | cons a r ih =>
    have ha := h a List.mem_cons_self
    have hr := ih fun z hz => h z (List.mem_cons_of_mem _ hz)
    cases r with
    | nil => exact ⟨ha.1, ha.2⟩
    | cons b r =>
      show (a ++ Str.empty ++ Str.join Str.empty (b :: r)).length = (b :: r).length + 1 ∧ LetOk (a ++ Str.empty ++ Str.join Str.empty (b :: r))
      rw [Str.append_empty, Str.length_append, hr.1, ha.1]
      exact ⟨by omega, ha.2.app hr.2⟩
theorem sum_ones : ∀ ss : List Str, (∀ z ∈ ss, z.length = 1 ∧ LetOk z) → (ss.map (·.length)).sum = ss.length
  | [], _ => rfl
  | a :: r, h => by
    rw [List.map_cons, List.sum_cons, sum_ones r fun z hz => h z (List.mem_cons_of_mem _ hz), (h a List.mem_cons_self).1, List.length_cons]
    omega
theorem mem_snoc {α : Type} {P : α → Prop} {l : List α} {a : α} (h : ∀ z ∈ l, P z) (ha : P a) : ∀ z ∈ l ++ [a], P z := fun z hz => by
  rcases List.mem_append.mp hz with q | q
  · exact h z q
  · rw [List.mem_singleton.mp q]; exact ha
abbrev s__law_names : Stmt := (topS 69)
abbrev N_sc__law_names : List Str := ["_law_pen_here", "_law_many", "_law_letters", "_law_stem", "_law_k", "_law_front", "_law_found", "_law_step", "_law_own", "_law_tail"]
abbrev P__law_names : List Str := ["_law_pen_here", "_law_many"]
theorem sc__law_names : FnScope N_sc__law_names P__law_names (defScope s__law_names) := ⟨rfl, rfl, rfl, by decide +kernel, rfl, by decide +kernel, by decide +kernel⟩
def spNames : Sp := fun vs H Q _ => ∃ (p l : Addr) (m n : Nat), vs = [.ref p, .int (m : Int)] ∧ Pen H p l n ∧ n + 12 * (m + 9) ≤ 2 ^ 39 ∧ m ≤ 1000 ∧
  ∀ (F : Addr) (ss : List Str) (H' : Hp), H' F = some (.lst (ss.map V.str)) → ss.length = m → (∀ z ∈ ss, NameOk z) → H F = none → Pen H' p l (n + 12 * (m + 9)) → Keep p H H' → Q (.ref F) H'
section
variable {P : Program} {w : World} {K : PySem.W.Frag} {mg : Str → Option Value} {base : Heap}
set_option maxHeartbeats 16000000 in
theorem ok_names (D : Dfn K mg "_law_names" s__law_names P__law_names) (B : Blt mg) (CD : Cal P w K mg base 12 "_law_draw" P__law_draw spDr) (CP : Cal P w K mg base 13 "_law_pick" P__law_pick (spPickL K)) (CS : Cal P w K mg base 13 "_law_pick" P__law_pick spPickS) :
    Cal P w K mg base 14 "_law_names" P__law_names spNames := by
  refine D.cal sc__law_names (fun vs H Q E h => ?_) fun f cdv A outer s H vs Q E hr h => ?_
  · obtain ⟨p, l, m, n, rfl, _⟩ := h
    rfl
  obtain ⟨p, l, m, n, rfl, Pn, hn, hm, q⟩ := h
  obtain ⟨kvs, hp⟩ := Pn.dk
  have small : ∀ x : Nat, x ≤ 1000 → x ≤ sizeLine := fun x h => Nat.le_trans h (by decide)
  refine ⟨_, (pss_cons (ps_set (i := 2) sc__law_names.nd rfl (Or.inr rfl) pe_str) (C8.pss_cut (ps_set (i := 3) sc__law_names.nd rfl (Or.inl rfl) (pe_join pe_str (pe_lc (own := [("_law_k", 4)]) (g := gName 4) (tt := tYes) rfl sc__law_names.nd (pi_range1 rfl B.range_ (pa_cons (pe_cal CD (hr.mono (by decide)) (pa_cons (pv 0) (pa_cons pe_int pa_nil))) pa_nil)) (blkOk_by (N := N_sc__law_names) (sc := defScope s__law_names) (by decide +kernel)) (fun _ _ _ _ _ => pg_name (i := 4) sc__law_names.nd rfl (Or.inl rfl)) (fun _ _ _ _ _ => pts_nil) (fun _ _ _ _ _ => (pe_cal CS (hr.mono (by decide)) (pa_cons (pv 0) (pa_cons (pv 2) pa_nil))))))) (pss_cons (ps_par (i := 5) (j := 6) rfl sc__law_names.nd rfl rfl (by decide) rfl rfl (pa_cons (pe_cal CD (hr.mono (by decide)) (pa_cons (pv 0) (pa_cons pe_int pa_nil))) (pa_cons (pe_lst pa_nil) pa_nil)) (by rfl)) (pss_cons (ps_set (i := 7) sc__law_names.nd rfl (Or.inl rfl) (pe_cal CP (hr.mono (by decide)) (pa_cons (pv 0) (pa_cons (pe_lst (pa_cons pe_int (pa_cons pe_int (pa_cons pe_int (pa_cons pe_int (pa_cons pe_int (pa_cons pe_int (pa_cons pe_int (pa_cons pe_int (pa_cons pe_int (pa_cons pe_int (pa_cons pe_int (pa_cons pe_int pa_nil))))))))))))) pa_nil)))) (pss_cons (ps_for PassesOwn.never rfl (pi_range1 rfl B.range_ (pa_cons (pv 1) pa_nil)) (pg_name (i := 4) sc__law_names.nd rfl (Or.inl rfl)) (pss_cons (ps_set (i := 8) sc__law_names.nd rfl (Or.inl rfl) (pe_ix ix_str (pv 2) (pe_op op_mod (pe_callTy call_int1 rfl B.int_ (by decide +kernel) (pa_cons (pe_op op_add (pv 5) (pe_op op_mul (pv 7) (pv 4))) pa_nil)) pe_int) (fun _ _ => rfl))) (C8.pss_cut (ps_set (i := 9) sc__law_names.nd rfl (Or.inl rfl) (pe_ifExp (pt_cmpR op_lt (pv 4) pe_int (nomark _)) pe_str (pe_cal CS (hr.mono (by decide)) (pa_cons (pv 0) (pa_cons (pv 2) pa_nil))))) (pss_one (ps_expr (pe_bm PySem.F.plainAttrs_list PySem.F.slot_list_append PySem.F.type_list_append mt_append (pv 6) (pa_cons (pe_op op_add_str (pe_ix ix_list (pe_lst (pa_cons (pe_op op_add_str (pv 3) (pv 8)) (pa_cons (pe_op op_add_str (pv 8) (pv 3)) pa_nil))) (pe_op op_mod (pe_callB call_len_str rfl B.len_ PySem.boot_len (pa_cons (pv 3) pa_nil)) pe_int) (fun _ _ => rfl)) (pv 9)) pa_nil))))))) (pss_one (ps_ret (pv 6)))))))), ?_⟩
  refine ⟨fun σ' H' => ∃ stem : Str, σ' = [some (.ref p), some (.int (m : Int)), some (.str lett), some (.str stem), none, none, none, none, none, none] ∧ stem.length ≤ 6 ∧ LetOk stem ∧ Pen H' p l (n + 84) ∧ Keep p H H', ?_, ?_⟩
  · refine ⟨⟨_, rfl⟩, _, rfl, p, l, 7, n, rfl, Pn, by omega, by omega, by omega, fun v0 H1 a0 b0 P1 k1 => ?_⟩
    refine ⟨v0, rfl, by omega, by omega, fun D hD => lc_range (lo := 0) (n := v0.toNat) (fun i H' => ∃ ss : List Str, H' D = some (.lst (ss.map V.str)) ∧ ss.length = i ∧ (∀ z ∈ ss, z.length = 1 ∧ LetOk z) ∧ Pen H' p l (n + 12 + 12 * i) ∧ Keep p H H')
      ⟨[], upd_same, rfl, fun z hz => absurd hz List.not_mem_nil, (P1.new hD).le (by omega), k1.new hD⟩ ?_ ?_⟩
    · rintro i H' hi ⟨ss, hs, hl, ho, Pi, ki⟩
      refine ⟨rfl, ?_⟩
      refine ⟨_, rfl, _, rfl, p, l, lett, _, rfl, Pi, by omega, by rw [lett_len]; decide, by rw [lett_len]; decide, fun c H3 hc P3 k3 => ?_⟩
      have nD := P1.ne hD
      have nDl := P1.nl hD
      have hD0 : H D = none := k1.none_of hD nD
      refine ⟨ss.map V.str, k3 _ _ hs nD, by rw [List.length_map]; exact small1000 (by omega), ss ++ [⟨#[c]⟩], by rw [upd_same, List.map_append]; rfl, by rw [List.length_append, hl]; rfl, mem_snoc ho ⟨rfl, LetOk.one (lett_ok c hc)⟩, (P3.le (by omega)).upd nD nDl, (ki.trans k3).at_new hD0⟩
    · rintro H' ⟨ss, hs, hl, ho, Pi, ki⟩
      refine ⟨_, D, ss, rfl, rfl, .inl (SqL.of hs), ?_, ?_⟩
      · rw [sum_ones ss ho]
        show ss.length + ss.length * 0 ≤ _
        omega
      · obtain ⟨j1, j2⟩ := join_ok ss ho
        exact ⟨_, rfl, by show (Txt.join Str.empty ss).length ≤ 6; omega, j2, Pi.le (by omega), ki⟩
  rintro σ' H1 ⟨stem, rfl, st1, st2, P1, k1⟩
  refine ⟨_, rfl, p, l, 26, _, rfl, P1, by omega, by omega, by omega, fun fr H2 f0 f1 P2 k2 => ?_⟩
  refine ⟨(by show 0 ≤ sizeLine; decide), fun F hF => ?_⟩
  have nF := P2.ne hF
  have nFl := P2.nl hF
  have hF0 : H F = none := (k1.trans k2).none_of hF nF
  refine ⟨_, _, rfl, ?_⟩
  refine ⟨_, rfl, (by show 12 ≤ sizeLine; decide), fun t ht => ?_⟩
  refine ⟨p, l, t, _, _, rfl, (P2.new hF).new ht, by omega, SqL.of upd_same, by show 1 ≤ 12; decide, by show 12 ≤ 1000000; decide, fun st H4 hst P4 k4 => ?_⟩
  obtain ⟨sp, hsp, rfl⟩ : ∃ i : Int, i ∈ ([1, 3, 5, 7, 9, 11, 15, 17, 19, 21, 23, 25] : List Int) ∧ V.int i = st := List.mem_map.mp (show st ∈ ([1, 3, 5, 7, 9, 11, 15, 17, 19, 21, 23, 25] : List Int).map V.int from hst)
  have sp1 : 1 ≤ sp ∧ sp ≤ 25 := (by decide : ∀ i ∈ ([1, 3, 5, 7, 9, 11, 15, 17, 19, 21, 23, 25] : List Int), 1 ≤ i ∧ i ≤ 25) sp hsp
  have hF4 : H4 F = some (.lst []) := k4 _ _ (same_new ht (.lst (([1, 3, 5, 7, 9, 11, 15, 17, 19, 21, 23, 25] : List Int).map V.int)) _ _ upd_same) nF
  have k5 : Keep p H H4 := (((k1.trans k2).new hF).new ht).trans k4
  refine ⟨_, rfl, (m : Int), rfl, by omega, by omega, for_range (lo := 0) (n := (m : Int).toNat) (fun i σ' H' => ∃ (ss : List Str) (k own tail : Option V), σ' = [some (.ref p), some (.int (m : Int)), some (.str lett), some (.str stem), k, some (.int fr), some (.ref F), some (.int sp), own, tail] ∧
      H' F = some (.lst (ss.map V.str)) ∧ ss.length = i ∧ i ≤ m ∧ (∀ z ∈ ss, NameOk z) ∧ Pen H' p l (n + 108 + 12 * i) ∧ Keep p H H') ⟨[], none, none, none, rfl, hF4, rfl, Nat.zero_le _, fun z hz => absurd hz List.not_mem_nil, P4.le (by omega), k5⟩ ?_ ?_⟩
  · rintro i σ' H' hi ⟨ss, k, own, tail, rfl, hFi, hl, him, ho, Pi, ki⟩
    have him : i < m := by omega
    obtain ⟨c, hc, hcm⟩ := at_some (xs := lett.cps.toList) (em0 (fr + sp * (0 + (i : Int))) (m := 26) (by decide)) (by rw [lett_tl]; exact em1 _ (by decide))
    refine ⟨_, rfl, _, rfl, _, rfl, _, rfl, _, _, rfl, rfl, .inl (by omega), _, _, rfl, rfl, .inl ⟨_, rfl, _, _, rfl, rfl, by omega, lett, _, c, rfl, rfl, by rw [lett_len]; decide, hc, ?_⟩⟩
    have hcl := lett_ok c hcm
    refine ⟨fun σ' H'' => ∃ t : Str, σ' = [some (.ref p), some (.int (m : Int)), some (.str lett), some (.str stem), some (.int (0 + (i : Int))), some (.int fr), some (.ref F), some (.int sp), some (.str ⟨#[c]⟩), some (.str t)] ∧ t.length ≤ 1 ∧ LetOk t ∧ Pen H'' p l (n + 108 + 12 * i + 12) ∧ Keep p H' H'', ?_, ?_⟩
    · refine ⟨_, rfl, _, _, rfl, rfl, _, rfl, ?_⟩
      refine ite2 (fun _ => ?_) (fun _ => ?_)
      · exact ⟨Str.empty, rfl, by decide, LetOk.empty, Pi.le (by omega), Keep.refl⟩
      · refine ⟨_, rfl, _, rfl, p, l, lett, _, rfl, Pi, by omega, by rw [lett_len]; decide, by rw [lett_len]; decide, fun c2 H3 hc2 P3 k3 => ?_⟩
        exact ⟨⟨#[c2]⟩, rfl, Nat.le_refl 1, LetOk.one (lett_ok c2 hc2), P3, k3⟩
    rintro σ' H3 ⟨t, rfl, t1, t2, P3, k3⟩
    have hF3 := k3 _ _ hFi nF
    have cl : (⟨#[c]⟩ : Str).length = 1 := rfl
    refine ⟨_, rfl, .inl ⟨rfl, _, SqL.of hF3⟩, ?_⟩
    refine ⟨_, rfl, _, rfl, _, _, rfl, rfl, small _ (by rw [cl]; omega), _, rfl, _, rfl, _, _, rfl, rfl, small _ (by rw [cl]; omega), (by show 2 ≤ sizeLine; decide), fun u hu => ?_⟩
    obtain ⟨v, hv, hvm⟩ := at_some (xs := [V.str (stem ++ ⟨#[c]⟩), V.str (⟨#[c]⟩ ++ stem)]) (em0 (stem.length : Int) (m := 2) (by decide)) (em1 (stem.length : Int) (m := 2) (by decide))
    obtain ⟨g, rfl, g1, g2⟩ : ∃ g : Str, v = .str g ∧ g.length = stem.length + 1 ∧ LetOk g := by
      simp only [List.mem_cons, List.not_mem_nil, or_false] at hvm
      rcases hvm with rfl | rfl
      · exact ⟨_, rfl, by rw [Str.length_append, cl], st2.app (LetOk.one hcl)⟩
      · exact ⟨_, rfl, by rw [Str.length_append, cl]; omega, (LetOk.one hcl).app st2⟩
    refine ⟨_, rfl, _, rfl, small _ (by omega), _, _, rfl, rfl, by omega, u, _, _, _, rfl, rfl, SqL.of upd_same, hv, _, rfl, _, _, rfl, rfl, small _ (by omega), ?_⟩
    have hF5 := same_new hu (.lst [V.str (stem ++ ⟨#[c]⟩), V.str (⟨#[c]⟩ ++ stem)]) _ _ hF3
    refine ⟨F, _, _, rfl, rfl, hF5, by rw [List.length_map]; exact small1000 (by omega), ?_⟩
    refine ⟨ss ++ [g ++ t], _, _, _, rfl, by rw [upd_same, List.map_append]; rfl, by rw [List.length_append, hl]; rfl, by omega, mem_snoc ho ⟨by rw [Str.length_append]; omega, by rw [Str.length_append]; omega, g2.app t2⟩, ((P3.new hu).le (by omega)).upd nF nFl, ((ki.trans k3).new hu).at_new hF0⟩
  · rintro σ' H' ⟨ss, k, own, tail, rfl, hFi, hl, him, ho, Pi, ki⟩
    refine ⟨_, rfl, ?_⟩
    exact q F ss H' hFi (by omega) ho hF0 (Pi.le (by omega)) ki
end
end Ur
/-! K4: the painter: is_integer, is_between, is_name, __init__, its fields. -/
namespace Ur
open PySem PySem.Spec PyProof.Rows L2
abbrev s_is_integer : Stmt := (topS 19)
abbrev N_sc_is_integer : List Str := ["value"]
abbrev P_is_integer : List Str := ["value"]
theorem sc_is_integer : FnScope N_sc_is_integer P_is_integer (defScope s_is_integer) := ⟨rfl, rfl, rfl, by decide +kernel, rfl, by decide +kernel, by decide +kernel⟩
def spIsInt : Sp := fun vs H Q _ => ∃ (i : Int), vs = [.int i] ∧ Q (.bl true) H
abbrev s_is_between : Stmt := (topS 20)
abbrev N_sc_is_between : List Str := ["value", "least", "most"]
abbrev P_is_between : List Str := ["value", "least", "most"]
theorem sc_is_between : FnScope N_sc_is_between P_is_between (defScope s_is_between) := ⟨rfl, rfl, rfl, by decide +kernel, rfl, by decide +kernel, by decide +kernel⟩
def spBetween : Sp := fun vs H Q _ => ∃ (v a b : Int), vs = [.int v, .int a, .int b] ∧ Q (.bl (decide (a ≤ v ∧ v ≤ b))) H
section
variable {P : Program} {w : World} {K : PySem.W.Frag} {mg : Str → Option Value} {base : Heap}
theorem ok_is_integer (D : Dfn K mg "is_integer" s_is_integer P_is_integer) (B : Blt mg) : Cal P w K mg base 1 "is_integer" P_is_integer spIsInt := by
  refine D.cal sc_is_integer (fun vs H Q E h => ?_) fun f cdv A outer s H vs Q E hr h => ?_
  · obtain ⟨i, rfl, _⟩ := h
    rfl
  obtain ⟨i, rfl, q⟩ := h
  refine ⟨_, (pss_one (ps_ret (pe_and (pe_callB call_isi rfl B.isinstance_ (by decide +kernel) (pa_cons (pv 0) (pa_cons (pe_bltn (v := .ty "int") rfl B.int_ (by decide +kernel) rfl) pa_nil))) (pe_one (pe_not (pe_callB call_isi rfl B.isinstance_ (by decide +kernel) (pa_cons (pv 0) (pa_cons (pe_bltn (v := .ty "bool") rfl B.bool_ (by decide +kernel) rfl) pa_nil)))))))), ?_⟩
  refine ⟨_, rfl, _, _, _, _, true, rfl, ClsV.ty "int", (TyX.base (TyOf.int i)), kit_ty (by decide +kernel), true, rfl, ?_⟩
  exact ⟨_, rfl, _, _, _, _, false, rfl, ClsV.ty "bool", (TyX.base (TyOf.int i)), kit_ty (by decide +kernel), false, rfl, q⟩
theorem ok_is_between (D : Dfn K mg "is_between" s_is_between P_is_between) (CI : Cal P w K mg base 1 "is_integer" P_is_integer spIsInt) : Cal P w K mg base 2 "is_between" P_is_between spBetween := by
  refine D.cal sc_is_between (fun vs H Q E h => ?_) fun f cdv A outer s H vs Q E hr h => ?_
  · obtain ⟨v, a, b, rfl, _⟩ := h
    rfl
  obtain ⟨v, a, b, rfl, q⟩ := h
  refine ⟨_, (pss_one (ps_ret (pe_and (pe_cal CI (hr.mono (by decide)) (pa_cons (pv 0) pa_nil)) (pe_one (pe_chain op_le op_le (pv 1) (pv 0) (pv 2)))))), ?_⟩
  refine ⟨_, rfl, v, rfl, true, rfl, ?_⟩
  refine ⟨_, rfl, _, rfl, _, _, rfl, rfl, _, rfl, ?_⟩
  refine ite2 (fun c => ?_) (fun c => ?_)
  · have c := of_decide_eq_true c
    refine ⟨_, rfl, _, _, rfl, rfl, ?_⟩
    have e : decide (a ≤ v ∧ v ≤ b) = decide (v ≤ b) := by simp [c]
    rw [e] at q
    exact q
  · have c : ¬ a ≤ v := of_decide_eq_false (Bool.eq_false_iff.mpr c)
    have e : decide (a ≤ v ∧ v ≤ b) = false := by simp [c]
    rw [e] at q
    exact q
end
/-! ### names -/
abbrev s_Painter_is_name : Stmt := (inClass (topS 60) 15)
abbrev N_sc_Painter_is_name : List Str := ["value"]
abbrev P_Painter_is_name : List Str := ["value"]
theorem sc_Painter_is_name : FnScope N_sc_Painter_is_name P_Painter_is_name (defScope s_Painter_is_name) := ⟨rfl, rfl, rfl, by decide +kernel, rfl, by decide +kernel, by decide +kernel⟩
theorem uni_alpha : ∀ c : Nat, 97 ≤ c → c ≤ 122 → Unicode.isAlpha c = true ∧ Unicode.isLower c = true ∧ Unicode.isUpper c = false ∧ Unicode.isTitle c = false := by
  intro c h1 h2
  have z : ∀ i : Fin 26, Unicode.isAlpha (97 + i.val) = true ∧ Unicode.isLower (97 + i.val) = true ∧ Unicode.isUpper (97 + i.val) = false ∧ Unicode.isTitle (97 + i.val) = false := by decide +kernel
  have := z ⟨c - 97, by omega⟩
  have e : 97 + (c - 97) = c := by omega
  simpa only [e] using this
theorem arr_all {a : Array Nat} {f : Nat → Bool} (h : ∀ c ∈ a.toList, f c = true) : a.all f = true := by
  rw [← Array.all_toList]
  exact List.all_eq_true.mpr h
theorem arr_none {a : Array Nat} {f : Nat → Bool} (h : ∀ c ∈ a.toList, f c = false) : a.any f = false := by
  rw [← Array.any_toList]
  exact List.any_eq_false.mpr fun x hx => by rw [h x hx]; decide
theorem arr_some {a : Array Nat} {f : Nat → Bool} (h : ∀ c ∈ a.toList, f c = true) (n : 1 ≤ a.toList.length) : a.any f = true := by
  rw [← Array.any_toList]
  cases e : a.toList with
  | nil => rw [e] at n; exact absurd n (by decide)
  | cons x r => rw [List.any_cons, h x (by rw [e]; exact List.mem_cons_self), Bool.true_or]
theorem name_len {z : Str} (h : NameOk z) : 1 ≤ z.cps.toList.length := by
  have e : z.length = z.cps.size := rfl
  have := h.1
  rw [Array.length_toList]
  omega
theorem name_ascii {z : Str} (h : NameOk z) : Txt.isascii z = true := arr_all fun c hc => decide_eq_true (by have := h.2.2 c hc; omega)
theorem name_alpha {z : Str} (h : NameOk z) : Txt.isalpha z = true := by
  show (decide (z.length > 0) && z.cps.all Unicode.isAlpha) = true
  rw [arr_all fun c hc => (uni_alpha c (h.2.2 c hc).1 (h.2.2 c hc).2).1, decide_eq_true (by have := h.1; omega)]
  rfl
theorem name_lower {z : Str} (h : NameOk z) : Txt.islower z = true := by
  show (z.cps.any Unicode.isLower && !(z.cps.any fun c => Unicode.isUpper c || Unicode.isTitle c)) = true
  rw [arr_some (fun c hc => (uni_alpha c (h.2.2 c hc).1 (h.2.2 c hc).2).2.1) (name_len h), arr_none fun c hc => by
    obtain ⟨_, _, a, b⟩ := uni_alpha c (h.2.2 c hc).1 (h.2.2 c hc).2
    rw [a, b]
    rfl]
  rfl
def spIsName : Sp := fun vs H Q _ => ∃ z : Str, vs = [.str z] ∧ NameOk z ∧ Q (.bl true) H
section
variable {P : Program} {w : World} {K : PySem.W.Frag} {mg : Str → Option Value} {base : Heap}
theorem ok_is_name {f : Addr} {fd : FuncData} (F : Fun K "is_name" "Painter.is_name" s_Painter_is_name f fd) (B : Blt mg) : FnOk P w K mg base CX0 1 f fd P_Painter_is_name spIsName := by
  refine F.ok sc_Painter_is_name (fun vs H Q E h => ?_) (fun cdv A outer s H vs Q E hr h => ?_)
  · obtain ⟨z, rfl, _⟩ := h
    rfl
  obtain ⟨z, rfl, ok, q⟩ := h
  have hl : z.length ≤ sizeLine := Nat.le_trans ok.2.1 (by decide)
  refine ⟨_, (pss_cons (ps_if (PW.pt (pw_or (pt_not (pt_val (pe_callB call_isi rfl B.isinstance_ (by decide +kernel) (pa_cons (pv 0) (pa_cons (pe_bltn (v := .ty "str") rfl B.str_ (by decide +kernel) rfl) pa_nil))))) (pw_or1 (pt_cmpR op_gt (pe_callB call_len_str rfl B.len_ PySem.boot_len (pa_cons (pv 0) pa_nil)) pe_int (nomark _))))) (pss_one (ps_ret pe_bl)) pss_nil) (pss_one (ps_ret (pe_and (pe_m0 PySem.F.slot_str_isascii PySem.F.type_str_isascii mt_isascii (pv 0)) (pe_and (pe_m0 PySem.F.slot_str_isalpha PySem.F.type_str_isalpha mt_isalpha (pv 0)) (pe_one (pe_m0 PySem.F.slot_str_islower PySem.F.type_str_islower mt_islower (pv 0)))))))), ?_⟩
  refine ⟨_, rfl, _, _, _, _, true, rfl, ClsV.ty "str", (TyX.base (TyOf.str z)), kit_ty (by decide +kernel), true, rfl, ?_⟩
  refine iteF ?_
  refine ⟨_, rfl, _, rfl, hl, _, _, rfl, rfl, _, rfl, ?_⟩
  have c : decide ((8 : Int) < (z.length : Int)) = false := decide_eq_false (by have := ok.2.1; omega)
  show (if decide ((8 : Int) < (z.length : Int)) = true then _ else _)
  rw [c]
  refine iteF ?_
  refine ⟨_, rfl, ⟨_, rfl⟩, z, rfl, rfl, trivial, true, by rw [name_ascii ok], ?_⟩
  refine ⟨_, rfl, ⟨_, rfl⟩, z, rfl, rfl, trivial, true, by rw [name_alpha ok], ?_⟩
  refine ⟨_, rfl, ⟨_, rfl⟩, z, rfl, rfl, trivial, ?_⟩
  rw [name_lower ok]
  exact q
end
/-! ### the class -/
def pfs (nm : Str) (d p s : Int) : List (Str × V) := [("_name", .str nm), ("_day", .int d), ("_post", .int p), ("_stride", .int s)]
theorem pfs_mk (nm : Str) (d p s : Int) : putF "_stride" (.int s) (putF "_post" (.int p) (putF "_day" (.int d) (putF "_name" (.str nm) []))) = pfs nm d p s := rfl
theorem pfs_name (nm : Str) (d p s : Int) : (pfs nm d p s).lookup ("_name" : Str) = some (V.str nm) := rfl
theorem pfs_day (nm : Str) (d p s : Int) : (pfs nm d p s).lookup ("_day" : Str) = some (V.int d) := rfl
theorem pfs_post (nm : Str) (d p s : Int) : (pfs nm d p s).lookup ("_post" : Str) = some (V.int p) := rfl
theorem pfs_stride (nm : Str) (d p s : Int) : (pfs nm d p s).lookup ("_stride" : Str) = some (V.int s) := rfl
structure PTxt (K : PySem.W.Frag) (mg : Str → Option Value) (C : Addr) : Prop where
  cl : Cls K C
  nN : NoAttr K C "_name"
  nD : NoAttr K C "_day"
  nP : NoAttr K C "_post"
  nS : NoAttr K C "_stride"
  mgP : mg "Painter" = some (.ref C)
  rd : ClX.CRead K C (.type "type")
  cD : ∃ u, ClX.CVal K C (.type "type") "MAX_DAY" (.int (10 ^ 30)) u
  cP : ∃ u, ClX.CVal K C (.type "type") "MAX_POST" (.int (10 ^ 30)) u
  cS : ∃ u, ClX.CVal K C (.type "type") "MAX_STRIDE" (.int (10 ^ 18)) u
/-- a painter's parts are as the document asks -/
structure PartOk (nm : Str) (d p s : Int) : Prop where
  nm : NameOk nm
  d0 : 0 ≤ d
  d1 : d ≤ 10 ^ 30
  p0 : -(10 ^ 30) ≤ p
  p1 : p ≤ 10 ^ 30
  s0 : -(10 ^ 18) ≤ s
  s1 : s ≤ 10 ^ 18
  sn : s ≠ 0
abbrev s_Painter_init : Stmt := (inClass (topS 60) 3)
abbrev N_sc_Painter_init : List Str := ["self", "name", "day", "post", "stride"]
abbrev P_Painter_init : List Str := ["self", "name", "day", "post", "stride"]
theorem sc_Painter_init : FnScope N_sc_Painter_init P_Painter_init (defScope s_Painter_init) := ⟨rfl, rfl, rfl, by decide +kernel, rfl, by decide +kernel, by decide +kernel⟩
def spInit (C : Addr) : Sp := fun vs H Q _ => ∃ (x dx : Addr) (nm : Str) (d p s : Int), vs = [.ref x, .str nm, .int d, .int p, .int s] ∧ H x = some (.ins C dx []) ∧ PartOk nm d p s ∧
  ∀ H', H' x = some (.ins C dx (pfs nm d p s)) → (∀ b o, H b = some o → b ≠ x → H' b = some o) → Q .non H'
section
variable {P : Program} {w : World} {K : PySem.W.Frag} {mg : Str → Option Value} {base : Heap}
set_option maxHeartbeats 16000000 in
theorem ok_init {C pN f fN : Addr} {fd fdN : FuncData} (F : Fun K "__init__" "Painter.__init__" s_Painter_init f fd) (T : PTxt K mg C) (smP : SMet K C (.type "type") "is_name" pN fN) (FN : FnOk P w K mg base CX0 1 fN fdN P_Painter_is_name spIsName) (bN : Binds K fdN P_Painter_is_name [])
    (CB : Cal P w K mg base 2 "is_between" P_is_between spBetween) : FnOk P w K mg base CX0 3 f fd P_Painter_init (spInit C) := by
  refine F.ok sc_Painter_init (fun vs H Q E h => ?_) (fun cdv A outer s H vs Q E hr h => ?_)
  · obtain ⟨x, dx, nm, d, p, st, rfl, _⟩ := h
    rfl
  obtain ⟨x, dx, nm, d, p, st, rfl, hx, ok, q⟩ := h
  obtain ⟨uD, cD⟩ := T.cD
  obtain ⟨uP, cP⟩ := T.cP
  obtain ⟨uS, cS⟩ := T.cS
  refine ⟨_, (pss_cons (ps_if (pt_not (pt_val (pe_smeth (pe_glob (v := .ref C) rfl T.mgP rfl) T.rd smP FN bN (hr.mono (by decide)) pass0 (pa_cons (pv 1) pa_nil)))) (pss_one ps_never) pss_nil) (pss_cons (ps_if (pt_not (pt_val (pe_cal CB (hr.mono (by decide)) (pa_cons (pv 2) (pa_cons pe_int (pa_cons (ClX.pe_cval (pe_glob (v := .ref C) rfl T.mgP rfl)) pa_nil)))))) (pss_one ps_never) pss_nil) (pss_cons (ps_if (pt_not (pt_val (pe_cal CB (hr.mono (by decide)) (pa_cons (pv 3) (pa_cons (pe_un un_neg (ClX.pe_cval (pe_glob (v := .ref C) rfl T.mgP rfl))) (pa_cons (ClX.pe_cval (pe_glob (v := .ref C) rfl T.mgP rfl)) pa_nil)))))) (pss_one ps_never) pss_nil) (pss_cons (ps_if (PW.pt (pw_or (pt_not (pt_val (pe_cal CB (hr.mono (by decide)) (pa_cons (pv 4) (pa_cons (pe_un un_neg (ClX.pe_cval (pe_glob (v := .ref C) rfl T.mgP rfl))) (pa_cons (ClX.pe_cval (pe_glob (v := .ref C) rfl T.mgP rfl)) pa_nil)))))) (pw_or1 (pt_cmpR op_eq (pv 4) pe_int (nomark _))))) (pss_one ps_never) pss_nil) (pss_cons (ps_fld (pv 0) (pv 1) rfl) (pss_cons (ps_fld (pv 0) (pv 2) rfl) (pss_cons (ps_fld (pv 0) (pv 3) rfl) (pss_one (ps_fld (pv 0) (pv 4) rfl))))))))), ?_⟩
  refine ⟨rfl, _, rfl, nm, rfl, ok.nm, true, rfl, iteF ?_⟩
  refine ⟨_, rfl, C, _, _, _, rfl, T.rd, cD, d, _, _, rfl, _, rfl, iteNS ⟨ok.d0, ok.d1⟩ ?_⟩
  refine ⟨_, rfl, C, _, _, _, rfl, T.rd, cP, _, rfl, C, _, _, _, rfl, T.rd, cP, p, _, _, rfl, _, rfl, iteNS ⟨ok.p0, ok.p1⟩ ?_⟩
  refine ⟨_, rfl, C, _, _, _, rfl, T.rd, cS, _, rfl, C, _, _, _, rfl, T.rd, cS, st, _, _, rfl, _, rfl, iteNS ⟨ok.s0, ok.s1⟩ ?_⟩
  have c : decide (V.int st = V.int 0) = false := decide_eq_false fun e => ok.sn (V.int.inj e)
  refine ⟨_, rfl, rfl, _, rfl, ?_⟩
  show (if decide (V.int st = V.int 0) = true then _ else _)
  rw [c]
  refine iteF ?_
  refine ⟨_, rfl, _, rfl, x, C, dx, [], rfl, hx, T.cl, T.nN, (by show 0 < 1000; decide), ?_⟩
  refine ⟨_, rfl, _, rfl, x, C, dx, _, rfl, upd_same, T.cl, T.nD, (by show 1 < 1000; decide), ?_⟩
  refine ⟨_, rfl, _, rfl, x, C, dx, _, rfl, upd_same, T.cl, T.nP, (by show 2 < 1000; decide), ?_⟩
  refine ⟨_, rfl, _, rfl, x, C, dx, _, rfl, upd_same, T.cl, T.nS, (by show 3 < 1000; decide), ?_⟩
  refine q _ upd_same fun b o e hb => ?_
  rw [upd_ne hb, upd_ne hb, upd_ne hb, upd_ne hb]
  exact e
/-- a painter stands at a -/
def PnAt (C : Addr) (H : Hp) (a : Addr) (nm : Str) (d p s : Int) : Prop := ∃ dx, H a = some (.ins C dx (pfs nm d p s))
/-- what is made and what it promises: Painter(..) -/
def MkP (P : Program) (w : World) (K : PySem.W.Frag) (mg : Str → Option Value) (base : Heap) (C : Addr) : Prop := ∃ f fd, Mk K C f ∧ FnOk P w K mg base CX0 3 f fd P_Painter_init (spInit C) ∧ Binds K fd P_Painter_init []
/-- a property that hands out the attribute -/
def PropC (P : Program) (w : World) (K : PySem.W.Frag) (mg : Str → Option Value) (base : Heap) (C : Addr) (f a : Str) : Prop := ∃ p g fd, PropOf K C f p g ∧ FnOk P w K mg base CX0 1 g fd ["self"] (getSp C a) ∧ Binds K fd ["self"] []
end
section
variable {X : Cx} {C : Addr} {e : Expr} {es : List Expr} {pos p : Pos} {ta : TE} {t : TA} {f a : Str}
theorem pe_prC (he : PE X e ta) (c : Cls X.K C) (hp : PropC X.prog X.w X.K X.mg X.base C f a) (hr : Room 2 X.A) (hab : attributeBase e f X.env (eval e X.env) = eval e X.env := by rfl) : PE X (.Attribute e f pos) (tProp C (getSp C a) [] E0 ta) := by
  obtain ⟨p, g, fd, h1, F, b⟩ := hp
  exact pe_prop he c h1 F hr b .nil pass0 hab
theorem pe_mkP (hp : MkP X.prog X.w X.K X.mg X.base C) (T : PTxt X.K X.mg C) (hr : Room 4 X.A) (ha : PA X (e :: es) t) (hg : Gl X "Painter" := by rfl)
    (he : starEach (e :: es) X.env = (false, eval e X.env) :: starEach es X.env := by rfl) (hpl : (backTo pos (starEach es X.env)).any (·.1) = false := by rfl) : PE X (.Call (.Name "Painter" p) (e :: es) [] pos) (tMake C (spInit C) [] E0 t) := by
  obtain ⟨f, fd, M, F, b⟩ := hp
  exact pe_make M F hr hg T.mgP b .nil pass0 ha (he := he) (hpl := hpl)
end
def AnyR (d p s : Int) : Prop := 0 ≤ d ∧ d ≤ 10 ^ 30 ∧ -(10 ^ 30) ≤ p ∧ p ≤ 10 ^ 30 ∧ -(10 ^ 18) ≤ s ∧ s ≤ 10 ^ 18 ∧ s ≠ 0
theorem AnyR.ok {nm : Str} {d p s : Int} (h : AnyR d p s) (z : NameOk nm) : PartOk nm d p s := by unfold AnyR at h; exact ⟨z, by omega, by omega, by omega, by omega, by omega, by omega, by omega⟩
end Ur
/-! UrG: defs that show things (repr of lists and tuples): their promise holds where nothing is being shown around them. -/
namespace Ur
open PySem PySem.Spec PyProof.Rows L2
/-- nothing is being shown around -/
def Still (A : Around) : Prop := A.guards = some []
theorem Still.deeper {A : Around} {e : Env} (h : Still A) : Still (A.deeper e) := h
structure FnG (P : Program) (w : World) (K : PySem.W.Frag) (mg : Str → Option Value) (base : Heap) (k : Nat) (f : Addr) (fd : FuncData) (ps : List Str) (sp : Sp) : Prop where
  ln : ∀ vs H Q E, sp vs H Q E → vs.length = ps.length
  go : ∀ (A : Around) (out : List Env) (s : Shared) (H : Hp) (args : Args) (us : List Value) (vs : List V) (Q : VK) (E : XK), Still A → Room k A → Env0 P w K mg base A out s H → BindsTo s fd args (ps.zip us) → Vals vs us → sp vs H Q E → codeAny (model P w) A (.call (.ref f) args) (CR CX0 out P w H s Q E) s
section
variable {P : Program} {w : World} {K : PySem.W.Frag} {mg : Str → Option Value} {base : Heap} {k : Nat} {f : Addr} {fd : FuncData} {ps : List Str} {sp : Sp} {x qual : Str} {st : Stmt}
theorem FnG.of (F : FnOk P w K mg base CX0 k f fd ps sp) : FnG P w K mg base k f fd ps sp := ⟨F.len, fun A o s H a us vs Q E _ => F.run A o s H a us vs Q E⟩
theorem FnG.mono {j : Nat} (F : FnG P w K mg base j f fd ps sp) (h : j ≤ k) : FnG P w K mg base k f fd ps sp := ⟨F.ln, fun A o s H a us vs Q E g r => F.go A o s H a us vs Q E g (r.mono h)⟩
theorem runG {N : List Str} (F : Fun K x qual st f fd) (S : FnScope N ps (defScope st)) (len : ∀ vs H Q E, sp vs H Q E → vs.length = ps.length)
    (hbody : ∀ (cdv : Value) (A : Around) (out : List Env) (s : Shared) (H : Hp) (vs : List V) (Q : VK) (E : XK), Still A → Room k (A.deeper (envOfC qual (defScope st) s.heap.objs.size f cdv)) → sp vs H Q E → ∃ t, PSs (cxOf CX0 P w K mg base N qual (defScope st) f cdv A out s H E).nox (defBody st) t ∧ t { nx := fun _ H' => Q .non H', rt := Q } (start N vs) H) :
    FnG P w K mg base (k + 1) f fd ps sp := by
  obtain ⟨oc, od, kV, doc, pm, an, cdv, ct, osl, efd, lk, hcd⟩ := F.ex
  subst efd
  constructor
  · exact len
  intro A out s H args us vs Q E still room e0 hb rel ask
  have old : ∀ b o, base.get? b = some o → s.heap.get? b = some o := fun b o e => (e0.bs b o e).1
  have kin : K.In s.heap := e0.mod.kin.keeps old
  have kinds : ∀ y ∈ ps.zip us, (defScope st).names.lookup y.1 = some .local ∨ ((defScope st).names.lookup y.1 = some .cell ∧ ((cellsFrom (s.heap.objs.size + 1) (defScope st).names []).lookup y.1).isSome = true) := by
    intro y hy
    cases S.par y.1 (List.of_mem_zip (a := y.1) (b := y.2) hy).1 with
    | inl h => exact Or.inl h
    | inr h => exact Or.inr ⟨h, PySem.W.cellsFrom_some _ _ _ (Or.inl h)⟩
  refine codeAny_call_function room.depth (kin _ _ lk) rfl S.co S.gen rfl (PySem.W.codeRec_of kin hcd) (hb _ _ _ _ (wpAny_newFunctionEnv_cells S.kind kinds fun env he s1 made => ?_))
  subst he
  refine ⟨(e0.mod.nolimit.keeps old).keeps made.toInCall.keep, codeAny_func ?_⟩
  obtain ⟨t, ht0, hq⟩ := hbody cdv A out s H vs Q E still (room.deeper _) ask
  have J : Inv (cxOf CX0 P w K mg base N qual (defScope st) f cdv A out s H E) [] (start N vs) H s1 := inv_start S room.hd e0 (len _ _ _ _ ask) rel made
  refine wpAny_mono (ht0.nox.run [] s1 (start N vs) H _ J hq) ?_ (fun _ _ z => z)
  intro fl s2 done
  match fl, done with
  | .ret u, ⟨v, σ', H', J', rv, q⟩ => exact ⟨v, H', J'.os, J'.bare, J'.base, J'.hok, rv, q⟩
  | .next, ⟨σ', H', J', q⟩ => exact ⟨V.non, H', J'.os, J'.bare, J'.base, J'.hok, rfl, q⟩
  | .brk, ⟨_, _, _, q⟩ => exact q.elim
  | .cont, ⟨_, _, _, q⟩ => exact q.elim
/-- a name of the module that can be called where nothing is being shown -/
def CalG (P : Program) (w : World) (K : PySem.W.Frag) (mg : Str → Option Value) (base : Heap) (k : Nat) (x : Str) (ps : List Str) (sp : Sp) : Prop :=
  ∃ (f : Addr) (fd : FuncData), FnG P w K mg base k f fd ps sp ∧ PySem.W.keepIn K (.ref f) = true ∧ Binds K fd ps [] ∧ mg x = some (.ref f)
theorem Dfn.calG {N : List Str} (D : Dfn K mg x st ps) (S : FnScope N ps (defScope st)) (len : ∀ vs H Q E, sp vs H Q E → vs.length = ps.length)
    (hbody : ∀ (f : Addr) (cdv : Value) (A : Around) (out : List Env) (s : Shared) (H : Hp) (vs : List V) (Q : VK) (E : XK), Still A → Room k (A.deeper (envOfC x (defScope st) s.heap.objs.size f cdv)) → sp vs H Q E → ∃ t, PSs (cxOf CX0 P w K mg base N x (defScope st) f cdv A out s H E).nox (defBody st) t ∧ t { nx := fun _ H' => Q .non H', rt := Q } (start N vs) H) :
    CalG P w K mg base (k + 1) x ps sp := by
  obtain ⟨f, fd, F, b, m⟩ := D
  exact ⟨f, fd, runG F S len (hbody f), F.kp, b, m⟩
end
section
variable {X : Cx} {k : Nat} {x : Str} {ps : List Str} {sp : Sp} {e : Expr} {es : List Expr} {t : TA} {p pos : Pos}
theorem pe_calG (c : CalG X.prog X.w X.K X.mg X.base k x ps sp) (hs : Still X.A) (hr : Room k X.A) (ha : PA X (e :: es) t) (hg : Gl X x := by rfl) (hdb : (x == ("__debug__" : Str)) = false := by decide)
    (he : starEach (e :: es) X.env = (false, eval e X.env) :: starEach es X.env := by rfl) (hpl : (backTo pos (starEach es X.env)).any (·.1) = false := by rfl) :
    PE X (.Call (.Name x p) (e :: es) [] pos) (tCall sp [] E0 t) := by
  obtain ⟨f, fd, F, kp, b, m⟩ := c
  constructor
  intro pins s σ H Q I h
  refine wpAny_Call_Name_kw (ld_glob I hg m ?_ hdb)
  refine PySem.W.callWith_K (h₀ := X.base) I.ok.mod.kin kp (thn (ha.run pos pins s σ H _ I h) ?_) he hpl
  intro us s1 ⟨vs, H1, J, r, q⟩
  refine ⟨J.kIn, ?_⟩
  have q : sp (vs ++ []) H1 Q E0 := q
  rw [List.append_nil] at q
  have hl : us.length = ps.length := by rw [← r.length]; exact F.ln _ _ _ _ q
  have bb := b s1 us J.kIn (by rw [List.append_nil]; exact hl)
  rw [List.append_nil] at bb
  refine wpAny_call (codeAny_mono (F.go X.A X.stack s1 H1 ⟨us, []⟩ us vs Q E0 hs hr J.env0 bb r q) ?_)
  intro rr s2 hq
  match rr, hq with
  | .ok (.ret u), hq => exact J.after hq
  | .ok .next, hq => exact False.elim hq
  | .ok .brk, hq => exact False.elim hq
  | .ok .cont, hq => exact False.elim hq
  | .error _, hq => exact False.elim hq
/-- repr(x) of data: its own text -/
def rRepr (K : PySem.W.Frag) : List V → Hp → VK → Prop := fun xs H Q => ∃ (x : V) (d : PyData), xs = [x] ∧ Dp K H x d ∧ d.showable = true ∧ d.hasDict = false ∧ d.depth ≤ 64 ∧ d.shown.length ≤ sizeLine ∧ Q (.str d.shown) H
/-- .. of a value that is no list and no tuple -/
def rReprF : List V → Hp → VK → Prop := fun xs H Q => (xs = [.non] ∧ Q (.str (PyData.shown .none)) H) ∨ (∃ b, xs = [.bl b] ∧ Q (.str (PyData.shown (.bool b))) H) ∨ (∃ i, xs = [.int i] ∧ i.natAbs.log2 < 1920 ∧ Q (.str (PyData.shown (.int i))) H) ∨
  ∃ x : Str, xs = [.str x] ∧ (reprText x).length ≤ sizeLine ∧ Q (.str (PyData.shown (.str x))) H
theorem call_reprF : CallR X (.builtin "repr") rReprF := by
  intro pins s σ H xs us Q I r h
  rcases h with ⟨rfl, q⟩ | ⟨b, rfl, q⟩ | ⟨i, rfl, hz, q⟩ | ⟨x, rfl, hz, q⟩
  · obtain ⟨u, rfl, ru⟩ := vals1 r
    obtain rfl : u = Value.none := ru
    exact PySem.P.repr_of_none ⟨.str _, H, I.tok _, ⟨_, rfl⟩, q⟩
  · obtain ⟨u, rfl, ru⟩ := vals1 r
    obtain rfl : u = Value.bool b := ru
    exact PySem.P.repr_of_bool ⟨.str _, H, I.tok _, ⟨_, rfl⟩, q⟩
  · obtain ⟨u, rfl, t, rfl⟩ := vals1 r
    exact PySem.P.repr_of_int hz ⟨.str _, H, I.tok _, ⟨_, rfl⟩, q⟩
  · obtain ⟨u, rfl, t, rfl⟩ := vals1 r
    exact PySem.P.repr_of_str ⟨.str _, H, I.tok _, ⟨_, rfl⟩, q⟩ hz
theorem call_reprD (hs : Still X.A) (hu : X.A.units + 66 < cLine) : CallR X (.builtin "repr") (rRepr X.K) := by
  intro pins s σ H xs us Q I r h
  obtain ⟨x, d, rfl, hd, sh, nd, dp, sz, q⟩ := h
  have flat : rReprF [x] H Q → wpAny (model X.prog X.w) X.A (call (.builtin "repr") us) (EP X pins σ Q) X.xe s := fun z => call_reprF pins s σ H [x] us Q I r z
  cases d with
  | none => cases hd; exact flat (Or.inl ⟨rfl, q⟩)
  | bool b => cases hd; exact flat (Or.inr (Or.inl ⟨b, rfl, q⟩))
  | int i => cases hd; exact flat (Or.inr (Or.inr (Or.inl ⟨i, rfl, of_decide_eq_true sh, q⟩)))
  | str y => cases hd; exact flat (Or.inr (Or.inr (Or.inr ⟨y, rfl, sz, q⟩)))
  | dict _ => cases hd
  | list ds =>
    obtain ⟨u, rfl, ru⟩ := vals1 r
    obtain ⟨as, rd⟩ := Dp.reads I _ x u hd ru
    obtain ⟨a, rfl⟩ : ∃ a, x = .ref a := by cases hd; exact ⟨_, rfl⟩
    obtain rfl : u = Value.ref a := ru
    exact repr_of_reads' rd sh (fun z => by rw [nd] at z; cases z) hs (by omega) (fun _ _ e => e) (fun h' v tk kp => ⟨.str _, H, I.kept kp, ⟨v, rfl⟩, q⟩) sz
  | tuple ds =>
    obtain ⟨u, rfl, ru⟩ := vals1 r
    obtain ⟨as, rd⟩ := Dp.reads I _ x u hd ru
    obtain ⟨a, rfl⟩ : ∃ a, x = .ref a := by cases hd; exact ⟨_, rfl⟩
    obtain rfl : u = Value.ref a := ru
    exact repr_of_reads' rd sh (fun z => by rw [nd] at z; cases z) hs (by omega) (fun _ _ e => e) (fun h' v tk kp => ⟨.str _, H, I.kept kp, ⟨v, rfl⟩, q⟩) sz
end
/-! ### the law's own call -/
theorem law_callG {P : Program} {w : World} {K : PySem.W.Frag} {mg mb : Str → Option Value} {k : Nat} {fa a : Addr} {fd : FuncData} {x : Str} {sp : Sp} {s1 : Shared} {vs : List Value} {ns : List Int}
    (kin : K.In s1.heap) (hns : s1.heap.Ns mainGlobals mg) (hb : s1.heap.Ns builtinsNs mb) (hbb : ∀ x : Str, x ≠ "__name__" → mb x = bootBuiltins x) (hlim : s1.heap.NoLimit) (hg : s1.gens = #[])
    (ha : s1.heap.get? a = some { cls := .type "list", data := .seq vs.toArray }) (hi : IntsAre vs ns) (hl : ns.length ≤ sizeLine) (hr : Room k callerA)
    (F : ∀ base : Heap, K.In base → base.Ns mainGlobals mg → FnG P w K mg base k fa fd [x] sp) (hbind : ∀ (s : Shared) (u : Value), BindsTo s fd ⟨[u], []⟩ [(x, u)])
    (hsp : ∀ H : Hp, SqL K H a (ns.map V.int) → sp [.ref a] H (fun v _ => v = .bl true) fun _ _ _ => False) :
    codeAny (model P w) callerA (.call (.ref fa) ⟨[.ref a], []⟩) (fun r s' => r = .ok (.ret (.bool true)) ∧ OldK s1.heap s'.heap ∧ s'.os = s1.os ∧ AllBare s'.gens) s1 := by
  have rv : Vals (ns.map V.int) vs := vals_ints hi
  have lenV : vs.length = ns.length := hi.length
  -- the abstract heap: the script alone, where it is none of the module's own objects
  let ob : Obj := { cls := .type "list", data := .seq vs.toArray }
  obtain ⟨H, hH, hS, only⟩ : ∃ H : Hp, (∀ b u, H b = some u → b = a ∧ u = .frz ob (.lst (ns.map V.int)) ∧ K.lookup a = none) ∧ SqL K H a (ns.map V.int) ∧ True := by
    cases hk : K.lookup a with
    | some o =>
      have e : s1.heap.get? a = some o := kin a o hk
      have e2 : o = ob := Option.some.inj (e.symm.trans ha)
      refine ⟨fun _ => none, fun b u z => (nomatch z), Or.inr ⟨o, vs.toArray, 0, hk, by rw [e2], by rw [e2], by rw [e2], ?_, ?_⟩, trivial⟩
      · rw [List.size_toArray, lenV]; exact hl
      · simpa using rv
    | none =>
      refine ⟨fun b => if b = a then some (.frz ob (.lst (ns.map V.int))) else none, fun b u z => ?_, Or.inl (Or.inr ⟨ob, if_pos rfl⟩), trivial⟩
      by_cases hba : b = a
      · refine ⟨hba, ?_, rfl⟩
        have z : (if b = a then some (HO.frz ob (.lst (ns.map V.int))) else none) = some u := z
        rw [if_pos hba] at z
        exact (Option.some.inj z).symm
      · have z : (if b = a then some (HO.frz ob (.lst (ns.map V.int))) else none) = some u := z
        rw [if_neg hba] at z
        cases z
  have hok : HOk P w H s1.heap := by
    intro b u z
    obtain ⟨rfl, rfl, _⟩ := hH b u z
    exact ⟨ha, by rw [List.length_map]; exact hl, vs, _, rv, ha⟩
  have free : ∀ {b : Addr} {o : Obj}, s1.heap.get? b = some o → (b = a → o = ob → K.lookup a ≠ none) → H b = none := by
    intro b o e n
    cases z : H b with
    | none => rfl
    | some u =>
      obtain ⟨h1, _, h3⟩ := hH b u z
      subst h1
      exact absurd h3 (n rfl (Option.some.inj (e.symm.trans ha)))
  have nsB : ∀ {b : Addr} {m : Str → Option Value}, s1.heap.Ns b m → (hidT s1.heap H).Ns b m := by
    intro b m ⟨o, es, ep, e, d, r⟩
    refine ⟨o, es, ep, hidT_get e (free e fun _ z => ?_), d, r⟩
    rw [z] at d
    cases d
  have kinB : K.In (hidT s1.heap H) := by
    intro b o e
    refine hidT_get (kin b o e) (free (kin b o e) fun z _ => ?_)
    subst z
    rw [e]
    exact fun q => nomatch q
  have modB : Mod K mg (hidT s1.heap H) := by
    obtain ⟨mc, l1, l2⟩ := hlim
    exact ⟨kinB, nsB hns, ⟨mb, nsB hb, hbb⟩, ⟨mc, nsB l1, l2⟩⟩
  have none_in : ∀ b : Addr, b ∉ ([] : List Addr) := fun b z => nomatch z
  have e0 : Env0 P w K mg (hidT s1.heap H) callerA [] s1 H := ⟨rfl, modB, fun b o e => of_hidT e, Nat.le_of_eq (hidT_size _ _), trivial, fun b z => absurd z (none_in b), hok, .of_eq hg⟩
  refine codeAny_mono ((F _ kinB (nsB hns)).go callerA [] s1 H ⟨[.ref a], []⟩ [.ref a] [.ref a] _ _ rfl hr e0 (hbind s1 (.ref a)) (.cons rfl .nil) (hsp H hS)) ?_
  intro r s2 h
  match r, h with
  | .error _, h => exact False.elim h
  | .ok .next, h => exact False.elim h
  | .ok .brk, h => exact False.elim h
  | .ok .cont, h => exact False.elim h
  | .ok (.ret u), h =>
    obtain ⟨v, H2, os, bare, un, hok2, rv2, q⟩ := h
    have q : v = .bl true := q
    subst q
    obtain rfl : u = Value.bool true := rv2
    refine ⟨rfl, OldK.of_keep ?_, os, bare⟩
    intro b o e
    cases z : H b with
    | none => exact un.keep b o e z (none_in b) (none_in b)
    | some u =>
      obtain ⟨rfl, rfl, _⟩ := hH b u z
      have z2 := un.frzs b ob _ z
      have e2 := (hok2 b _ z2).1
      rw [ha] at e
      rw [← Option.some.inj e]
      exact e2
theorem walk_ofG {l : PySem.W.OpenLaw} {n k : Nat} {q : Program} {loose : List Str} {XP : (Str → Option Value) → Heap → Prop} {YP : World → Heap → Prop} {d : DefRec} {K : Params → PySem.W.Frag} {sp : PySem.W.Frag → Sp} {x : Str}
    (hn : l.most = some n) (hn2 : n ≤ sizeLine) (hdf : d.params.defaults = []) (hr : Room k callerA) (hY : ∀ (w : World) (h : Heap), YP w h → (K w.params).In h)
    (F : ∀ (w : World) (mg : Str → Option Value) (fa : Addr) (h : Heap), (K w.params).In h → h.Ns mainGlobals mg → mg d.name = some (.ref fa) →
      ∃ fd : FuncData, (∀ (s : Shared) (u : Value), BindsTo s fd ⟨[u], []⟩ [(x, u)]) ∧ ∀ base : Heap, (K w.params).In base → base.Ns mainGlobals mg → FnG l.prog w (K w.params) mg base k fa fd [x] (sp (K w.params)))
    (hsp : ∀ (K : PySem.W.Frag) (H : Hp) (a : Addr) (ns : List Int), ns.length ≤ n → SqL K H a (ns.map V.int) → sp K [.ref a] H (fun v _ => v = .bl true) fun _ _ _ => False) :
    PySem.W.WalkO q loose XP YP l.row.toRowW d [] (fun f vs => PySem.call f vs) := by
  refine Att.attach_call hn hdf ?_
  intro w s0 s1 mg mb fa o pm cd doc a vs ns G Y ho hd hcd hmg hobj hints hlen hg
  have kin := hY w _ Y
  obtain ⟨fd, hb, hF⟩ := F w mg fa _ kin G.T.g hmg
  exact law_callG kin G.T.g G.T.b G.T.builtins G.T.nolimit hg hobj hints (Nat.le_trans hlen hn2) hr hF hb fun H hS => hsp _ H a ns hlen hS
end Ur
/-! UrS: what can be shown, by its parts. -/
namespace Ur
open PySem PySem.Spec PyProof.Rows L2
/-- d can be shown: its weight is at most n, its depth at most k -/
structure Shw (d : PyData) (n k : Nat) : Prop where
  sh : d.showable = true
  nd : d.hasDict = false
  dp : d.depth ≤ k
  lv : d.leavesShort 1930 = true
  wt : d.weight ≤ n
structure ShwAll (ds : List PyData) (n k : Nat) : Prop where
  sh : PyData.showableAll ds = true
  nd : PyData.hasDictAll ds = false
  dp : PyData.depthAll ds ≤ k
  lv : PyData.leavesShortAll 1930 ds = true
  wt : PyData.weightAll ds ≤ n
theorem Shw.mono {d : PyData} {n k m j : Nat} (s : Shw d n k) (h1 : n ≤ m) (h2 : k ≤ j) : Shw d m j := ⟨s.sh, s.nd, Nat.le_trans s.dp h2, s.lv, Nat.le_trans s.wt h1⟩
theorem Shw.non : Shw .none 0 0 := ⟨rfl, rfl, Nat.le_refl _, rfl, Nat.le_refl _⟩
theorem Shw.bl (b : Bool) : Shw (.bool b) 0 0 := ⟨rfl, rfl, Nat.le_refl _, rfl, Nat.le_refl _⟩
theorem Shw.int {i : Int} (h : i.natAbs.log2 < 1920) : Shw (.int i) 1921 0 := by
  refine ⟨decide_eq_true h, rfl, Nat.le_refl _, decide_eq_true ?_, ?_⟩
  · have e : PyData.shown (.int i) = Str.ofString (toString i) := by simp only [PyData.shown]
    rw [e]
    exact Nat.le_trans (PyProof.Rows.int_text_len_1921 h) (by decide)
  · show (if i == 0 then 0 else i.natAbs.log2 + 1) ≤ 1921
    split <;> omega
theorem Shw.intb {i : Int} {b : Nat} (h : i.natAbs < 2 ^ b) (h0 : 0 < b) (h1 : b ≤ 1920) : Shw (.int i) b 0 := by
  have z := PySem.Flt.log2_lt_of h0 h
  refine ⟨decide_eq_true (Nat.lt_of_lt_of_le z h1), rfl, Nat.le_refl _, (Shw.int (Nat.lt_of_lt_of_le z h1)).lv, ?_⟩
  show (if i == 0 then 0 else i.natAbs.log2 + 1) ≤ b
  split <;> omega
theorem Shw.str {x : Str} (h : ∀ c ∈ x.cps.toList, c < 16 ^ 8) : Shw (.str x) x.length 0 := ⟨rfl, rfl, Nat.le_refl _, List.all_eq_true.mpr fun c hc => decide_eq_true (h c hc), Nat.le_refl _⟩
theorem ShwAll.nil : ShwAll [] 0 0 := ⟨rfl, rfl, Nat.le_refl _, rfl, Nat.le_refl _⟩
theorem ShwAll.cons {d : PyData} {ds : List PyData} {n k m j : Nat} (a : Shw d n k) (b : ShwAll ds m j) : ShwAll (d :: ds) (n + 1 + m) (max k j) := by
  refine ⟨?_, ?_, ?_, ?_, ?_⟩
  · show (d.showable && PyData.showableAll ds) = true
    rw [a.sh, b.sh]; rfl
  · show (d.hasDict || PyData.hasDictAll ds) = false
    rw [a.nd, b.nd]; rfl
  · show max d.depth (PyData.depthAll ds) ≤ max k j
    have := a.dp; have := b.dp; omega
  · show (d.leavesShort 1930 && PyData.leavesShortAll 1930 ds) = true
    rw [a.lv, b.lv]; rfl
  · show d.weight + 1 + PyData.weightAll ds ≤ n + 1 + m
    have := a.wt; have := b.wt; omega
theorem ShwAll.lst {ds : List PyData} {n k : Nat} (a : ShwAll ds n k) : Shw (.list ds) n (k + 1) := ⟨a.sh, a.nd, Nat.succ_le_succ a.dp, a.lv, a.wt⟩
theorem ShwAll.tup {ds : List PyData} {n k : Nat} (a : ShwAll ds n k) : Shw (.tuple ds) n (k + 1) := ⟨a.sh, a.nd, Nat.succ_le_succ a.dp, a.lv, a.wt⟩
theorem Shw.fits {d : PyData} {n k : Nat} (s : Shw d n k) (h : n ≤ 8600) : d.shown.length ≤ sizeLine := by
  have z := PyData.shown_le 1930 (by decide) d s.lv
  have w : (1930 + 2) * d.weight ≤ 1932 * 8600 := Nat.mul_le_mul_left _ (Nat.le_trans s.wt h)
  have e : sizeLine = 16777216 := by decide
  omega
/-- d can be shown -/
def ShwOk (d : PyData) : Prop := ∃ n k, Shw d n k ∧ n ≤ 8600 ∧ k ≤ 64
theorem Shw.good {d : PyData} {n k : Nat} (s : Shw d n k) (h : n ≤ 8600) (h2 : k ≤ 64) : ShwOk d := ⟨n, k, s, h, h2⟩
theorem ShwOk.int {i : Int} (h : i.natAbs.log2 < 1920) : ShwOk (.int i) := (Shw.int h).good (by decide) (by decide)
theorem ShwOk.non : ShwOk .none := Shw.non.good (by decide) (by decide)
/-- repr(x), x data that can be shown -/
def rReprS (K : PySem.W.Frag) : List V → Hp → VK → Prop := fun xs H Q => ∃ (x : V) (d : PyData), xs = [x] ∧ Dp K H x d ∧ ShwOk d ∧ ∀ z : Str, z = d.shown → Q (.str z) H
section
variable {X : Cx}
theorem call_reprS (hs : Still X.A) (hu : X.A.units + 66 < cLine) : CallR X (.builtin "repr") (rReprS X.K) := by
  intro pins s σ H xs us Q I r h
  obtain ⟨x, d, rfl, hd, ⟨n, k, sh, hn, hk⟩, q⟩ := h
  exact call_reprD hs hu pins s σ H [x] us Q I r ⟨x, d, rfl, hd, sh.sh, sh.nd, Nat.le_trans sh.dp hk, sh.fits hn, q _ rfl⟩
/-- str(x) of a whole number or a text -/
def rStrB : List V → Hp → VK → Prop := fun xs H Q => (∃ i, xs = [.int i] ∧ i.natAbs.log2 < 1920 ∧ Q (.str (toString i)) H) ∨ ∃ a, xs = [.str a] ∧ Q (.str a) H
theorem call_strB : CallR X (.type "str") rStrB := by
  intro pins s σ H xs us Q I r h
  rcases h with ⟨i, rfl, hz, q⟩ | ⟨a, rfl, q⟩
  · exact call_str_int pins s σ H _ us Q I r ⟨i, rfl, hz, q⟩
  · exact SkE.call_str_str pins s σ H _ us Q I r ⟨a, rfl, q⟩
end
theorem log2_of {i : Int} {b : Nat} (h : i.natAbs < 2 ^ b) (h0 : 0 < b) (h1 : b ≤ 1920) : i.natAbs.log2 < 1920 := Nat.lt_of_lt_of_le (PySem.Flt.log2_lt_of h0 h) h1
end Ur
/-! K8: a painter's properties and methods: name, day, post, stride, text, post_after. -/
namespace Ur
open PySem PySem.Spec PyProof.Rows L2
/-- a property, a method, with what they promise -/
def PropS (P : Program) (w : World) (K : PySem.W.Frag) (mg : Str → Option Value) (base : Heap) (C : Addr) (f : Str) (k : Nat) (sp : Sp) : Prop := ∃ p g fd, PropOf K C f p g ∧ FnOk P w K mg base CX0 k g fd ["self"] sp ∧ Binds K fd ["self"] []
def MethS (P : Program) (w : World) (K : PySem.W.Frag) (mg : Str → Option Value) (base : Heap) (C : Addr) (m : Str) (k : Nat) (ps : List Str) (sp : Sp) : Prop := ∃ f fd, Meth K C m f ∧ FnOk P w K mg base CX0 k f fd ps sp ∧ Binds K fd ps []
section
variable {X : Cx} {C : Addr} {o e : Expr} {es : List Expr} {pos apos : Pos} {ta : TE} {t : TA} {f m : Str} {k : Nat} {sp : Sp} {ps : List Str} {pl : Sem Bool}
theorem pe_prS (he : PE X e ta) (c : Cls X.K C) (hp : PropS X.prog X.w X.K X.mg X.base C f k sp) (hr : Room (k + 1) X.A) (hab : attributeBase e f X.env (eval e X.env) = eval e X.env := by rfl) : PE X (.Attribute e f pos) (tProp C sp [] E0 ta) := by
  obtain ⟨p, g, fd, h1, F, b⟩ := hp
  exact pe_prop he c h1 F hr b .nil pass0 hab
theorem pe_meS (he : PE X o ta) (c : Cls X.K C) (hm : MethS X.prog X.w X.K X.mg X.base C m k ps sp) (hr : Room k X.A) (ha : PA X (e :: es) t)
    (hst : starEach (e :: es) X.env = (false, eval e X.env) :: starEach es X.env := by rfl) (hpl : (backTo pos (starEach es X.env)).any (·.1) = false := by rfl)
    (ht : eval (.Call (.Attribute o m apos) (e :: es) [] pos) X.env = (do let ov ← eval o X.env; standAt apos.atName; let (f, first) ← holding [ov] (getMethod ov m pl); callWith pos f first (backTo pos (starEach (e :: es) X.env)) (backToKw pos (keywordEach [] X.env))) := by rfl) :
    PE X (.Call (.Attribute o m apos) (e :: es) [] pos) (tMeth C m sp [] E0 ta t) := by
  obtain ⟨f, fd, h1, F, b⟩ := hm
  exact pe_meth he c h1 F hr b .nil pass0 ha hst hpl ht
end
def lineOf (nm : Str) (d p s : Int) : Str := nm ++ (" " ++ ((toString d : Str) ++ (" " ++ ((toString p : Str) ++ (" " ++ (toString s : Str))))))
theorem line_join (nm : Str) (d p s : Int) : Txt.join " " [nm, (toString d : Str), (toString p : Str), (toString s : Str)] = lineOf nm d p s := by
  rw [show Txt.join " " [nm, (toString d : Str), (toString p : Str), (toString s : Str)] = Str.join " " [nm, (toString d : Str), (toString p : Str), (toString s : Str)] from PySem.StrLaws.glued_eq_join _ _]
  show nm ++ " " ++ ((toString d : Str) ++ " " ++ ((toString p : Str) ++ " " ++ (toString s : Str))) = lineOf nm d p s
  unfold lineOf
  simp only [Str.append_assoc]
/-- whole numbers that can be written -/
structure Short (d p s : Int) : Prop where
  d : d.natAbs.log2 < 1920
  p : p.natAbs.log2 < 1920
  s : s.natAbs.log2 < 1920
theorem AnyR.short {d p s : Int} (h : AnyR d p s) : Short d p s := by
  unfold AnyR at h
  exact ⟨log2_of (b := 120) (by omega) (by decide) (by decide), log2_of (b := 120) (by omega) (by decide) (by decide), log2_of (b := 120) (by omega) (by decide) (by decide)⟩
theorem PartOk.short {nm : Str} {d p s : Int} (h : PartOk nm d p s) : Short d p s := by
  have := h.d0; have := h.d1; have := h.p0; have := h.p1; have := h.s0; have := h.s1
  exact ⟨log2_of (b := 120) (by omega) (by decide) (by decide), log2_of (b := 120) (by omega) (by decide) (by decide), log2_of (b := 120) (by omega) (by decide) (by decide)⟩
theorem ilen {i : Int} (h : i.natAbs.log2 < 1920) : (toString i : Str).length ≤ 1921 := PyProof.Rows.int_text_len_1921 h
theorem sameTup {K : PySem.W.Frag} {H H' : Hp} {a : Addr} {xs : List V} (e : Same H H') (h : SqT K H a xs) : SqT K H' a xs := by
  rcases h with (h | ⟨o, h⟩) | h
  · exact .inl (.inl (e _ _ h))
  · exact .inl (.inr ⟨o, e _ _ h⟩)
  · exact .inr h
theorem sameAt {H H' : Hp} {a : Addr} {o : HO} (k : Same H H') (h : H a = none) : Same H (upd H' a o) := fun b u e => by rw [upd_ne (ne_of_none e h)]; exact k b u e
/-! ### the properties -/
abbrev s_Painter_name : Stmt := (inClass (topS 60) 4)
abbrev N_sc_Painter_name : List Str := ["self"]
abbrev P_Painter_name : List Str := ["self"]
theorem sc_Painter_name : FnScope N_sc_Painter_name P_Painter_name (defScope s_Painter_name) := ⟨rfl, rfl, rfl, by decide +kernel, rfl, by decide +kernel, by decide +kernel⟩
section
variable {P : Program} {w : World} {K : PySem.W.Frag} {mg : Str → Option Value} {base : Heap} {C : Addr} {f : Addr} {fd : FuncData}
theorem ok_get_name (F : Fun K "name" "Painter.name" s_Painter_name f fd) (T : PTxt K mg C) : FnOk P w K mg base CX0 1 f fd ["self"] (getSp C "_name") := by
  refine F.ok sc_Painter_name (fun vs H Q E h => ?_) (fun cdv A outer s H vs Q E hr h => ?_)
  · obtain ⟨a, dx, fs, v, rfl, _⟩ := h
    rfl
  obtain ⟨a, dx, fs, v, rfl, ha, hl, q⟩ := h
  exact ⟨_, (pss_one (ps_ret (pe_fld (pv 0) rfl))), _, rfl, a, C, dx, fs, v, rfl, ha, T.cl, T.nN, hl, q⟩
end
abbrev s_Painter_day : Stmt := (inClass (topS 60) 5)
abbrev N_sc_Painter_day : List Str := ["self"]
abbrev P_Painter_day : List Str := ["self"]
theorem sc_Painter_day : FnScope N_sc_Painter_day P_Painter_day (defScope s_Painter_day) := ⟨rfl, rfl, rfl, by decide +kernel, rfl, by decide +kernel, by decide +kernel⟩
section
variable {P : Program} {w : World} {K : PySem.W.Frag} {mg : Str → Option Value} {base : Heap} {C : Addr} {f : Addr} {fd : FuncData}
theorem ok_get_day (F : Fun K "day" "Painter.day" s_Painter_day f fd) (T : PTxt K mg C) : FnOk P w K mg base CX0 1 f fd ["self"] (getSp C "_day") := by
  refine F.ok sc_Painter_day (fun vs H Q E h => ?_) (fun cdv A outer s H vs Q E hr h => ?_)
  · obtain ⟨a, dx, fs, v, rfl, _⟩ := h
    rfl
  obtain ⟨a, dx, fs, v, rfl, ha, hl, q⟩ := h
  exact ⟨_, (pss_one (ps_ret (pe_fld (pv 0) rfl))), _, rfl, a, C, dx, fs, v, rfl, ha, T.cl, T.nD, hl, q⟩
end
abbrev s_Painter_post : Stmt := (inClass (topS 60) 6)
abbrev N_sc_Painter_post : List Str := ["self"]
abbrev P_Painter_post : List Str := ["self"]
theorem sc_Painter_post : FnScope N_sc_Painter_post P_Painter_post (defScope s_Painter_post) := ⟨rfl, rfl, rfl, by decide +kernel, rfl, by decide +kernel, by decide +kernel⟩
section
variable {P : Program} {w : World} {K : PySem.W.Frag} {mg : Str → Option Value} {base : Heap} {C : Addr} {f : Addr} {fd : FuncData}
theorem ok_get_post (F : Fun K "post" "Painter.post" s_Painter_post f fd) (T : PTxt K mg C) : FnOk P w K mg base CX0 1 f fd ["self"] (getSp C "_post") := by
  refine F.ok sc_Painter_post (fun vs H Q E h => ?_) (fun cdv A outer s H vs Q E hr h => ?_)
  · obtain ⟨a, dx, fs, v, rfl, _⟩ := h
    rfl
  obtain ⟨a, dx, fs, v, rfl, ha, hl, q⟩ := h
  exact ⟨_, (pss_one (ps_ret (pe_fld (pv 0) rfl))), _, rfl, a, C, dx, fs, v, rfl, ha, T.cl, T.nP, hl, q⟩
end
abbrev s_Painter_stride : Stmt := (inClass (topS 60) 7)
abbrev N_sc_Painter_stride : List Str := ["self"]
abbrev P_Painter_stride : List Str := ["self"]
theorem sc_Painter_stride : FnScope N_sc_Painter_stride P_Painter_stride (defScope s_Painter_stride) := ⟨rfl, rfl, rfl, by decide +kernel, rfl, by decide +kernel, by decide +kernel⟩
section
variable {P : Program} {w : World} {K : PySem.W.Frag} {mg : Str → Option Value} {base : Heap} {C : Addr} {f : Addr} {fd : FuncData}
theorem ok_get_stride (F : Fun K "stride" "Painter.stride" s_Painter_stride f fd) (T : PTxt K mg C) : FnOk P w K mg base CX0 1 f fd ["self"] (getSp C "_stride") := by
  refine F.ok sc_Painter_stride (fun vs H Q E h => ?_) (fun cdv A outer s H vs Q E hr h => ?_)
  · obtain ⟨a, dx, fs, v, rfl, _⟩ := h
    rfl
  obtain ⟨a, dx, fs, v, rfl, ha, hl, q⟩ := h
  exact ⟨_, (pss_one (ps_ret (pe_fld (pv 0) rfl))), _, rfl, a, C, dx, fs, v, rfl, ha, T.cl, T.nS, hl, q⟩
end
abbrev s_Painter_text : Stmt := (inClass (topS 60) 8)
abbrev N_sc_Painter_text : List Str := ["self"]
abbrev P_Painter_text : List Str := ["self"]
theorem sc_Painter_text : FnScope N_sc_Painter_text P_Painter_text (defScope s_Painter_text) := ⟨rfl, rfl, rfl, by decide +kernel, rfl, by decide +kernel, by decide +kernel⟩
def spText (C : Addr) : Sp := fun vs H Q _ => ∃ (a : Addr) (nm : Str) (d p s : Int), vs = [.ref a] ∧ PnAt C H a nm d p s ∧ nm.length ≤ 1000 ∧ Short d p s ∧ Q (.str (lineOf nm d p s)) H
section
variable {P : Program} {w : World} {K : PySem.W.Frag} {mg : Str → Option Value} {base : Heap} {C : Addr} {f : Addr} {fd : FuncData}
theorem ok_text (F : Fun K "text" "Painter.text" s_Painter_text f fd) (T : PTxt K mg C) : FnOk P w K mg base CX0 1 f fd ["self"] (spText C) := by
  refine F.ok sc_Painter_text (fun vs H Q E h => ?_) (fun cdv A outer s H vs Q E hr h => ?_)
  · obtain ⟨a, nm, d, p, st, rfl, _⟩ := h
    rfl
  obtain ⟨a, nm, d, p, st, rfl, ⟨dx, ha⟩, hn, sh, q⟩ := h
  have a1 := ilen sh.d
  have a2 := ilen sh.p
  have a3 := ilen sh.s
  have big : (20000 : Nat) ≤ sizeLine := by decide
  have sp : (" " : Str).length = 1 := by decide +kernel
  refine ⟨_, (pss_one (ps_ret (pe_joined (.cons (pe_fmt (pe_fld (pv 0) rfl)) (.cons pe_str (.cons (pe_fmt (pe_fld (pv 0) rfl)) (.cons pe_str (.cons (pe_fmt (pe_fld (pv 0) rfl)) (.cons pe_str (.cons (pe_fmt (pe_fld (pv 0) rfl)) .nil)))))))))), ?_⟩
  refine ⟨_, rfl, a, C, dx, _, _, rfl, ha, T.cl, T.nN, pfs_name _ _ _ _, .inl ⟨nm, rfl, by omega, nm, rfl, by rw [Str.empty_append]; omega, ?_⟩⟩
  refine ⟨_, rfl, by rw [Str.empty_append, Str.length_append, sp]; omega, ?_⟩
  refine ⟨_, rfl, a, C, dx, _, _, rfl, ha, T.cl, T.nD, pfs_day _ _ _ _, .inr ⟨d, rfl, sh.d, _, rfl, by simp only [Str.empty_append, Str.length_append, sp]; omega, ?_⟩⟩
  refine ⟨_, rfl, by simp only [Str.empty_append, Str.length_append, sp]; omega, ?_⟩
  refine ⟨_, rfl, a, C, dx, _, _, rfl, ha, T.cl, T.nP, pfs_post _ _ _ _, .inr ⟨p, rfl, sh.p, _, rfl, by simp only [Str.empty_append, Str.length_append, sp]; omega, ?_⟩⟩
  refine ⟨_, rfl, by simp only [Str.empty_append, Str.length_append, sp]; omega, ?_⟩
  refine ⟨_, rfl, a, C, dx, _, _, rfl, ha, T.cl, T.nS, pfs_stride _ _ _ _, .inr ⟨st, rfl, sh.s, _, rfl, by simp only [Str.empty_append, Str.length_append, sp]; omega, ?_⟩⟩
  have e : Str.empty ++ nm ++ " " ++ (toString d : Str) ++ " " ++ (toString p : Str) ++ " " ++ (toString st : Str) = lineOf nm d p st := by
    unfold lineOf
    simp only [Str.empty_append, Str.append_assoc]
  rw [← e] at q
  exact q
end
abbrev s_check_count : Stmt := (topS 24)
abbrev N_sc_check_count : List Str := ["value"]
abbrev P_check_count : List Str := ["value"]
theorem sc_check_count : FnScope N_sc_check_count P_check_count (defScope s_check_count) := ⟨rfl, rfl, rfl, by decide +kernel, rfl, by decide +kernel, by decide +kernel⟩
def spCount : Sp := fun vs H Q _ => ∃ c : Int, vs = [.int c] ∧ 0 ≤ c ∧ c ≤ 10 ^ 80 ∧ Q .non H
section
variable {P : Program} {w : World} {K : PySem.W.Frag} {mg : Str → Option Value} {base : Heap} {C : Addr} {f : Addr} {fd : FuncData}
theorem ok_check_count (D : Dfn K mg "check_count" s_check_count P_check_count) {uM : Value} (hM : mg "MAX_ARGUMENT" = some uM) (rM : L2.RelV (.int (10 ^ 80)) uM) (CB : Cal P w K mg base 2 "is_between" P_is_between spBetween) : Cal P w K mg base 3 "check_count" P_check_count spCount := by
  refine D.cal sc_check_count (fun vs H Q E h => ?_) fun f cdv A outer s H vs Q E hr h => ?_
  · obtain ⟨c, rfl, _⟩ := h
    rfl
  obtain ⟨c, rfl, c0, c1, q⟩ := h
  refine ⟨_, (pss_one (ps_if (pt_not (pt_val (pe_cal CB (hr.mono (by decide)) (pa_cons (pv 0) (pa_cons pe_int (pa_cons (pe_glob (v := .int (10 ^ 80)) rfl hM rM) pa_nil)))))) (pss_one ps_never) pss_nil)), ?_⟩
  exact ⟨_, rfl, c, _, _, rfl, _, rfl, iteNS ⟨c0, c1⟩ q⟩
end
end Ur
/-! UrM: the mathematics of common posts, in plain numbers. -/
namespace Ur
/-! ### the divisor and its factor -/
structure Euc (n m d r f g : Int) : Prop where
  d0 : 0 ≤ d
  r0 : 0 ≤ r
  sg : (0 ≤ f ∧ g ≤ 0 ∧ f * r - g * d = m) ∨ (f ≤ 0 ∧ 0 ≤ g ∧ g * d - f * r = m)
  c1 : m ∣ n * f - d
  c2 : m ∣ n * g - r
  dv : ∀ c : Int, c ∣ d → c ∣ r → c ∣ n ∧ c ∣ m
  f0 : -m ≤ f
  f1 : f ≤ m
  g0 : -m ≤ g
  g1 : g ≤ m
theorem Euc.start {n m : Int} (hn : 0 ≤ n) (hm : 0 < m) : Euc n m n m 1 0 :=
  ⟨hn, by omega, Or.inl ⟨by omega, by omega, by omega⟩, ⟨0, by omega⟩, ⟨-1, by omega⟩, fun c a b => ⟨a, b⟩, by omega, by omega, by omega, by omega⟩
theorem le_of_mul {a b m : Int} (ha : 0 ≤ a) (hb : 1 ≤ b) (h : a * b ≤ m) : a ≤ m := by
  have := Int.mul_le_mul_of_nonneg_left hb ha
  omega
theorem Euc.step {n m d r f g : Int} (E : Euc n m d r f g) (hr : r ≠ 0) : Euc n m r (d - d / r * r) g (f - d / r * g) := by
  obtain ⟨d0, r0, sg, c1, c2, dv, f0, f1, g0, g1⟩ := E
  have rp : 0 < r := by omega
  have e : d - d / r * r = d % r := by
    have h := Int.mul_ediv_add_emod d r
    have h2 : r * (d / r) = d / r * r := Int.mul_comm _ _
    omega
  have m0 : 0 ≤ d % r := Int.emod_nonneg d (by omega)
  have t0 : 0 ≤ d / r := Int.ediv_nonneg d0 r0
  have q0 : 0 ≤ d - d / r * r := by omega
  generalize d / r = t at *
  have sg' : (0 ≤ g ∧ f - t * g ≤ 0 ∧ g * (d - t * r) - (f - t * g) * r = m) ∨ (g ≤ 0 ∧ 0 ≤ f - t * g ∧ (f - t * g) * r - g * (d - t * r) = m) := by
    rcases sg with ⟨a, b, c⟩ | ⟨a, b, c⟩
    · refine Or.inr ⟨b, ?_, by grind⟩
      have : t * g ≤ 0 := Int.mul_nonpos_of_nonneg_of_nonpos t0 b
      omega
    · refine Or.inl ⟨b, ?_, by grind⟩
      have : 0 ≤ t * g := Int.mul_nonneg t0 b
      omega
  refine ⟨r0, q0, sg', c2, ?_, fun c h1 h2 => dv c ?_ h1, g0, g1, ?_, ?_⟩
  · obtain ⟨a, ha⟩ := c1
    obtain ⟨b, hb⟩ := c2
    exact ⟨a - t * b, by grind⟩
  · obtain ⟨a, ha⟩ := h1
    obtain ⟨b, hb⟩ := h2
    exact ⟨b + t * a, by grind⟩
  · rcases sg' with ⟨a, b, c⟩ | ⟨a, b, c⟩
    · have z : 0 ≤ g * (d - t * r) := Int.mul_nonneg a q0
      have y : -(f - t * g) * r = -((f - t * g) * r) := Int.neg_mul _ _
      have := le_of_mul (a := -(f - t * g)) (b := r) (m := m) (by omega) (by omega) (by omega)
      omega
    · omega
  · rcases sg' with ⟨a, b, c⟩ | ⟨a, b, c⟩
    · omega
    · have z : g * (d - t * r) ≤ 0 := Int.mul_nonpos_of_nonpos_of_nonneg a q0
      exact le_of_mul (b := r) b (by omega) (by omega)
/-- what comes out: a divisor of both, and its factor -/
structure DivFac (n m d f : Int) : Prop where
  pos : 0 < d
  dn : d ∣ n
  dm : d ∣ m
  cg : m ∣ n * f - d
  f0 : -m ≤ f
  f1 : f ≤ m
theorem Euc.done {n m d f g : Int} (E : Euc n m d 0 f g) (hm : 0 < m) : DivFac n m d f := by
  have z := E.dv d (Int.dvd_refl d) (Int.dvd_zero d)
  refine ⟨?_, z.1, z.2, E.c1, E.f0, E.f1⟩
  have d0 := E.d0
  by_cases h : d = 0
  · have := z.2
    rw [h] at this
    have := Int.zero_dvd.mp this
    omega
  · omega
/-! ### common posts -/
/-- q is on the way that starts at p with the stride s -/
def On (p s q : Int) : Prop := ∃ j : Int, 0 ≤ j ∧ q = p + j * s
/-- how two strides meet: every step-th number of the first one -/
def Steps (s1 s2 step : Int) : Prop := 0 < step ∧ ∀ k : Int, s2 ∣ k * s1 ↔ step ∣ k
/-- the numbers of common posts, on the way of the first one -/
inductive Comm (p1 s1 p2 s2 : Int) : Option (Int × Option Int × Int) → Prop where
  | no : (∀ k : Int, 0 ≤ k → ¬ On p2 s2 (p1 + k * s1)) → Comm p1 s1 p2 s2 none
  | inf {first step : Int} : (0 < s1 ↔ 0 < s2) → Steps s1 s2 step → 0 ≤ first → first ≤ (p2 - p1).natAbs + step → (∀ k : Int, 0 ≤ k → (On p2 s2 (p1 + k * s1) ↔ first ≤ k ∧ step ∣ k - first)) → Comm p1 s1 p2 s2 (some (first, none, step))
  | fin {first last step : Int} : ¬ (0 < s1 ↔ 0 < s2) → Steps s1 s2 step → 0 ≤ first → first ≤ last → last ≤ (p2 - p1).natAbs → step ∣ last - first → (∀ k : Int, 0 ≤ k → (On p2 s2 (p1 + k * s1) ↔ first ≤ k ∧ k ≤ last ∧ step ∣ k - first)) → Comm p1 s1 p2 s2 (some (first, some last, step))
theorem dvd_abs {a b : Int} : (a.natAbs : Int) ∣ b ↔ a ∣ b := Int.natAbs_dvd
/-- n, m as the program has them: the first stride's remainder by the size of the second -/
structure Meet (s1 s2 gap d step res : Int) : Prop where
  d0 : 0 < d
  d1 : d ∣ s1
  d2 : d ∣ s2
  dg : d ∣ gap
  st : Steps s1 s2 step
  se : step * d = s2.natAbs
  /-- the numbers at which the two ways, taken as endless, have the same post -/
  at_ : ∀ k : Int, s2 ∣ k * s1 - gap ↔ step ∣ k - res
  r0 : 0 ≤ res
  r1 : res < step
theorem meet_of {s1 s2 gap d f : Int} (hs2 : s2 ≠ 0) (D : DivFac (s1 % (s2.natAbs : Int)) (s2.natAbs : Int) d f) (hg : d ∣ gap) :
    Meet s1 s2 gap d ((s2.natAbs : Int) / d) ((gap / d * f) % ((s2.natAbs : Int) / d)) := by
  obtain ⟨d0, dn, dm, cg, f0, f1⟩ := D
  generalize hm : (s2.natAbs : Int) = m at *
  have mp : 0 < m := by omega
  obtain ⟨st, hst⟩ := dm
  have est : m / d = st := by rw [hst]; exact Int.mul_ediv_cancel_left _ (by omega)
  rw [est]
  have stp : 0 < st := by
    by_cases h : 0 < st
    · exact h
    · have : d * st ≤ 0 := Int.mul_nonpos_of_nonneg_of_nonpos (by omega) (by omega)
      omega
  obtain ⟨gq, hgq⟩ := hg
  have egq : gap / d = gq := by rw [hgq]; exact Int.mul_ediv_cancel_left _ (by omega)
  rw [egq]
  -- d divides s1
  have e1 : s1 = m * (s1 / m) + s1 % m := (Int.mul_ediv_add_emod s1 m).symm
  obtain ⟨a, ha⟩ := dn
  have d1 : d ∣ s1 := ⟨st * (s1 / m) + a, by grind⟩
  obtain ⟨u, hu⟩ := d1
  -- u * f is 1 modulo st
  obtain ⟨b, hb⟩ := cg
  have uf : ∃ c, u * f - 1 = st * c := by
    refine ⟨b + f * (s1 / m), ?_⟩
    have z : d * (u * f - 1) = d * (st * (b + f * (s1 / m))) := by grind
    exact Int.eq_of_mul_eq_mul_left (by omega) z
  obtain ⟨c, hc⟩ := uf
  have key : ∀ x : Int, d * st ∣ d * x ↔ st ∣ x := fun x => ⟨fun h => Int.dvd_of_mul_dvd_mul_left (by omega) h, fun h => Int.mul_dvd_mul_left d h⟩
  have m2 : ∀ x : Int, s2 ∣ x ↔ m ∣ x := fun x => by rw [← hm]; exact Int.natAbs_dvd.symm
  refine ⟨d0, ⟨u, hu⟩, ?_, ⟨gq, hgq⟩, ⟨stp, fun k => ?_⟩, by rw [hm, hst]; exact Int.mul_comm _ _, fun k => ?_, Int.emod_nonneg _ (by omega), Int.emod_lt_of_pos _ stp⟩
  · have : d ∣ (s2.natAbs : Int) := by rw [hm]; exact ⟨st, hst⟩
    exact Int.dvd_natAbs.mp this
  · rw [m2, hst, hu, show k * (d * u) = d * (k * u) by grind, key]
    constructor
    · intro ⟨x, hx⟩
      exact ⟨x * f - k * c, by grind⟩
    · intro ⟨x, hx⟩
      exact ⟨x * u, by grind⟩
  · rw [m2, hst, hu, hgq, show k * (d * u) - d * gq = d * (k * u - gq) by grind, key]
    have er : gq * f = st * (gq * f / st) + gq * f % st := (Int.mul_ediv_add_emod _ _).symm
    generalize gq * f / st = w at er
    generalize gq * f % st = res at er
    constructor
    · intro ⟨x, hx⟩
      exact ⟨x * f - k * c + w, by grind⟩
    · intro ⟨x, hx⟩
      exact ⟨x * u + gq * c - w * u, by grind⟩
theorem le_fdiv {k a s : Int} (hs : s ≠ 0) : k ≤ a.fdiv s ↔ (0 < s → k * s ≤ a) ∧ (s < 0 → a ≤ k * s) := by
  by_cases h : 0 < s
  · rw [Int.fdiv_eq_ediv_of_nonneg a (by omega), Int.le_ediv_iff_mul_le h]
    exact ⟨fun z => ⟨fun _ => z, fun y => by omega⟩, fun z => z.1 h⟩
  · have h2 : 0 < -s := by omega
    have e : a.fdiv s = (-a) / (-s) := by
      rw [← Int.fdiv_eq_ediv_of_nonneg (-a) (by omega : (0 : Int) ≤ -s), Int.neg_fdiv_neg]
    rw [e, Int.le_ediv_iff_mul_le h2, Int.mul_neg]
    exact ⟨fun z => ⟨fun y => by omega, fun _ => by omega⟩, fun z => by have := z.2 (by omega); omega⟩
theorem on_iff {p1 s1 p2 s2 k : Int} (hs : s2 ≠ 0) : On p2 s2 (p1 + k * s1) ↔ s2 ∣ k * s1 - (p2 - p1) ∧ (0 < s2 → p2 - p1 ≤ k * s1) ∧ (s2 < 0 → k * s1 ≤ p2 - p1) := by
  generalize k * s1 = x
  constructor
  · rintro ⟨j, j0, h⟩
    refine ⟨⟨j, by grind⟩, fun z => ?_, fun z => ?_⟩
    · have : 0 ≤ j * s2 := Int.mul_nonneg j0 (by omega)
      omega
    · have : j * s2 ≤ 0 := Int.mul_nonpos_of_nonneg_of_nonpos j0 (by omega)
      omega
  · rintro ⟨⟨j, hj⟩, h1, h2⟩
    refine ⟨j, ?_, by grind⟩
    by_cases c : 0 ≤ j
    · exact c
    · exfalso
      by_cases z : 0 < s2
      · have := h1 z
        have : s2 * j ≤ s2 * (-1) := Int.mul_le_mul_of_nonneg_left (by omega) (by omega)
        omega
      · have := h2 (by omega)
        have : s2 * (-1) ≤ s2 * j := Int.mul_le_mul_of_nonpos_left (by omega) (by omega)
        omega
theorem abs_mul_ge {g s : Int} (hs : s ≠ 0) : (0 < s → (g.natAbs : Int) * 1 ≤ g.natAbs * s) ∧ (s < 0 → (g.natAbs : Int) * s ≤ g.natAbs * (-1)) :=
  ⟨fun h => Int.mul_le_mul_of_nonneg_left (by omega) (by omega), fun h => Int.mul_le_mul_of_nonneg_left (by omega) (by omega)⟩
/-- a number behind a bound, one of each step -/
theorem from_on {step res low k : Int} (hp : 0 < step) : (low ≤ k ∧ step ∣ k - res) ↔ (low + (res - low) % step ≤ k ∧ step ∣ k - (low + (res - low) % step)) := by
  have e : res - low = step * ((res - low) / step) + (res - low) % step := (Int.mul_ediv_add_emod _ _).symm
  have r0 : 0 ≤ (res - low) % step := Int.emod_nonneg _ (by omega)
  have r1 : (res - low) % step < step := Int.emod_lt_of_pos _ hp
  generalize (res - low) / step = q at e
  generalize (res - low) % step = r at *
  constructor
  · rintro ⟨h, x, hx⟩
    refine ⟨?_, x + q, by grind⟩
    by_cases c : low + r ≤ k
    · exact c
    · have z : step * (x + q) = k - (low + r) := by grind
      have : step * (x + q) ≤ step * (-1) := Int.mul_le_mul_of_nonneg_left (by
        by_cases y : x + q ≤ -1
        · exact y
        · have : 0 ≤ step * (x + q) := Int.mul_nonneg (by omega) (by omega)
          omega) (by omega)
      omega
  · rintro ⟨h, x, hx⟩
    exact ⟨by omega, x - q, by grind⟩
theorem comm_same {p1 s1 p2 s2 d step res : Int} (h1 : s1 ≠ 0) (h2 : s2 ≠ 0) (hs : 0 < s1 ↔ 0 < s2) (M : Meet s1 s2 (p2 - p1) d step res) :
    Comm p1 s1 p2 s2 (some ((if -((-(p2 - p1)).fdiv s1) > 0 then -((-(p2 - p1)).fdiv s1) else 0) + (res - (if -((-(p2 - p1)).fdiv s1) > 0 then -((-(p2 - p1)).fdiv s1) else 0)) % step, none, step)) := by
  have sp := M.st.1
  have low : ∀ k : Int, -((-(p2 - p1)).fdiv s1) ≤ k ↔ (0 < s2 → p2 - p1 ≤ k * s1) ∧ (s2 < 0 → k * s1 ≤ p2 - p1) := fun k => by
    have z := le_fdiv (k := -k) (a := -(p2 - p1)) h1
    have e : -k * s1 = -(k * s1) := Int.neg_mul _ _
    rw [e] at z
    constructor
    · intro y
      have z := z.mp (by omega)
      exact ⟨fun c => by have := z.1 (hs.mpr c); omega, fun c => by have := z.2 (by omega); omega⟩
    · intro y
      have z := z.mpr ⟨fun c => by have := y.1 (hs.mp c); omega, fun c => by have := y.2 (by omega); omega⟩
      omega
  have lowle : -((-(p2 - p1)).fdiv s1) ≤ (p2 - p1).natAbs := by
    rw [low]
    have z := abs_mul_ge (g := p2 - p1) h1
    exact ⟨fun c => by have := z.1 (hs.mpr c); omega, fun c => by have := z.2 (by omega); omega⟩
  generalize -((-(p2 - p1)).fdiv s1) = lo at low lowle ⊢
  have m0 : 0 ≤ (if lo > 0 then lo else 0) ∧ (if lo > 0 then lo else 0) ≤ ((p2 - p1).natAbs : Int) ∧ ∀ k : Int, 0 ≤ k → (lo ≤ k ↔ (if lo > 0 then lo else 0) ≤ k) := by
    split <;> exact ⟨by omega, by omega, fun k _ => by omega⟩
  generalize (if lo > 0 then lo else 0) = l at m0 ⊢
  have r0 : 0 ≤ (res - l) % step := Int.emod_nonneg _ (by omega)
  have r1 : (res - l) % step < step := Int.emod_lt_of_pos _ sp
  refine .inf hs M.st (by omega) (by omega) fun k hk => ?_
  rw [on_iff h2, M.at_ k, ← low k, m0.2.2 k hk, ← from_on sp]
  exact And.comm
theorem opp_low {p1 s1 p2 s2 : Int} (h1 : s1 ≠ 0) (h2 : s2 ≠ 0) (hs : ¬ (0 < s1 ↔ 0 < s2)) (k : Int) : k ≤ (p2 - p1).fdiv s1 ↔ (0 < s2 → p2 - p1 ≤ k * s1) ∧ (s2 < 0 → k * s1 ≤ p2 - p1) := by
  rw [le_fdiv h1]
  constructor
  · intro y
    exact ⟨fun c => y.2 (by omega), fun c => y.1 (by omega)⟩
  · intro y
    exact ⟨fun c => y.2 (by omega), fun c => y.1 (by omega)⟩
/-- beside one another modulo step, and neither below nought: the remainder is the least -/
theorem least_res {step res k : Int} (h0 : 0 ≤ k) (r1 : res < step) (hk : step ∣ k - res) : res ≤ k := by
  obtain ⟨x, hx⟩ := hk
  by_cases c : res ≤ k
  · exact c
  · exfalso
    by_cases y : 0 ≤ x
    · have : 0 ≤ step * x := Int.mul_nonneg (by omega) y
      omega
    · have : step * x ≤ step * (-1) := Int.mul_le_mul_of_nonneg_left (by omega) (by omega)
      omega
theorem comm_no {p1 s1 p2 s2 d step res : Int} (h1 : s1 ≠ 0) (h2 : s2 ≠ 0) (hs : ¬ (0 < s1 ↔ 0 < s2)) (M : Meet s1 s2 (p2 - p1) d step res) (hr : (p2 - p1).fdiv s1 < res) : Comm p1 s1 p2 s2 none := by
  refine .no fun k hk h => ?_
  rw [on_iff h2, M.at_ k, ← opp_low h1 h2 hs k] at h
  have := least_res hk M.r1 h.1
  omega
theorem comm_opp {p1 s1 p2 s2 d step res : Int} (h1 : s1 ≠ 0) (h2 : s2 ≠ 0) (hs : ¬ (0 < s1 ↔ 0 < s2)) (M : Meet s1 s2 (p2 - p1) d step res) (hr : res ≤ (p2 - p1).fdiv s1) :
    Comm p1 s1 p2 s2 (some (res, some ((p2 - p1).fdiv s1 - ((p2 - p1).fdiv s1 - res) % step), step)) := by
  have sp := M.st.1
  have low := opp_low (p1 := p1) (p2 := p2) h1 h2 hs
  have mle : (p2 - p1).fdiv s1 ≤ (p2 - p1).natAbs := by
    by_cases c : (p2 - p1).fdiv s1 ≤ (p2 - p1).natAbs
    · exact c
    · exfalso
      have y := (le_fdiv (k := ((p2 - p1).natAbs : Int) + 1) (a := p2 - p1) h1).mp (by omega)
      have z := abs_mul_ge (g := p2 - p1) h1
      have e : (((p2 - p1).natAbs : Int) + 1) * s1 = (p2 - p1).natAbs * s1 + s1 := by rw [Int.add_mul, Int.one_mul]
      by_cases c : 0 < s1
      · have := y.1 c
        have := z.1 c
        omega
      · have := y.2 (by omega)
        have := z.2 (by omega)
        omega
  generalize (p2 - p1).fdiv s1 = mo at low hr mle ⊢
  have e : mo - res = step * ((mo - res) / step) + (mo - res) % step := (Int.mul_ediv_add_emod _ _).symm
  have q0 : 0 ≤ (mo - res) / step := Int.ediv_nonneg (by omega) (by omega)
  have r0 : 0 ≤ (mo - res) % step := Int.emod_nonneg _ (by omega)
  have r1 : (mo - res) % step < step := Int.emod_lt_of_pos _ sp
  generalize (mo - res) / step = q at e q0
  generalize (mo - res) % step = r at *
  have sq : 0 ≤ step * q := Int.mul_nonneg (by omega) q0
  refine .fin hs M.st M.r0 (by omega) (by omega) ⟨q, by omega⟩ fun k hk => ?_
  rw [on_iff h2, M.at_ k, ← low k]
  constructor
  · rintro ⟨h, hm⟩
    refine ⟨least_res hk M.r1 h, ?_, h⟩
    obtain ⟨x, hx⟩ := h
    by_cases c : k ≤ mo - r
    · exact c
    · exfalso
      have : step * (q + 1) ≤ step * x := Int.mul_le_mul_of_nonneg_left (by
        by_cases y : q + 1 ≤ x
        · exact y
        · have : step * x ≤ step * q := Int.mul_le_mul_of_nonneg_left (by omega) (by omega)
          omega) (by omega)
      have : step * (q + 1) = step * q + step := by rw [Int.mul_add, Int.mul_one]
      omega
  · rintro ⟨_, h, hd⟩
    exact ⟨hd, by omega⟩
theorem comm_gap {p1 s1 p2 s2 d : Int} (h1 : d ∣ s1) (h2 : d ∣ s2) (hg : ¬ d ∣ p2 - p1) : Comm p1 s1 p2 s2 none := by
  refine .no fun k hk ⟨j, _, h⟩ => hg ?_
  obtain ⟨a, rfl⟩ := h1
  obtain ⟨b, rfl⟩ := h2
  exact ⟨k * a - j * b, by grind⟩
theorem mul_bd {a b A B : Int} (h0 : 0 ≤ a) (h1 : a ≤ A) (h2 : -B ≤ b) (h3 : b ≤ B) (hB : 0 ≤ B) : -(A * B) ≤ a * b ∧ a * b ≤ A * B := by
  have x1 : a * b ≤ a * B := Int.mul_le_mul_of_nonneg_left h3 h0
  have x2 : a * B ≤ A * B := Int.mul_le_mul_of_nonneg_right h1 hB
  have x3 : a * (-B) ≤ a * b := Int.mul_le_mul_of_nonneg_left h2 h0
  rw [Int.mul_neg] at x3
  omega
theorem mul_pos1 {a b : Int} (h0 : 1 ≤ a) (h1 : 1 ≤ b) : 1 ≤ a * b := by
  have := Int.mul_le_mul h0 h1 (by decide) (by omega)
  omega
/-- how many steps to a post, if it is on the way -/
def StepsTo (p s q : Int) (r : Option Int) : Prop := ∀ j : Int, r = some j ↔ (0 ≤ j ∧ q = p + j * s)
theorem steps_to_spec {p s q : Int} (hs : s ≠ 0) : StepsTo p s q (if (q - p).fmod s = 0 ∧ 0 ≤ (q - p).fdiv s then some ((q - p).fdiv s) else none) := by
  have e := Int.fmod_add_mul_fdiv (q - p) s
  intro j
  have uniq : q = p + j * s → (q - p).fmod s = 0 ∧ (q - p).fdiv s = j := by
    intro h
    have e2 : q - p = j * s := by omega
    rw [e2]
    exact ⟨Int.mul_fmod_left j s, Int.mul_fdiv_cancel j hs⟩
  constructor
  · intro h
    split at h
    · rename_i c
      obtain rfl := Option.some.inj h
      rw [c.1] at e
      refine ⟨c.2, ?_⟩
      have : s * (q - p).fdiv s = (q - p).fdiv s * s := Int.mul_comm _ _
      omega
    · cases h
  · rintro ⟨h0, h⟩
    obtain ⟨a, b⟩ := uniq h
    rw [if_pos ⟨a, by rw [b]; exact h0⟩, b]
theorem stepsTo_on {p s q : Int} {r : Option Int} (h : StepsTo p s q r) : On p s q ↔ r ≠ none := by
  constructor
  · rintro ⟨j, j0, e⟩ z
    have := (h j).mpr ⟨j0, e⟩
    rw [z] at this
    cases this
  · intro z
    cases r with
    | none => exact absurd rfl z
    | some j => exact ⟨j, (h j).mp rfl⟩
end Ur
/-! KC: common numbers, common posts. -/
namespace Ur
open PySem PySem.Spec PyProof.Rows L2
abbrev s_divisor_and_factor : Stmt := (topS 32)
abbrev N_sc_divisor_and_factor : List Str := ["number", "modulus", "divisor", "factor", "rest", "rest_factor", "times"]
abbrev P_divisor_and_factor : List Str := ["number", "modulus"]
theorem sc_divisor_and_factor : FnScope N_sc_divisor_and_factor P_divisor_and_factor (defScope s_divisor_and_factor) := ⟨rfl, rfl, rfl, by decide +kernel, rfl, by decide +kernel, by decide +kernel⟩
def spDF : Sp := fun vs H Q _ => ∃ n m : Int, vs = [.int n, .int m] ∧ 0 ≤ n ∧ n < m ∧ m < 2 ^ 100 ∧ ∀ (d f : Int) (t : Addr) (H' : Hp), DivFac n m d f → H' t = some (.tup [.int d, .int f]) → Same H H' → Q (.ref t) H'
def restOf (σ : List (Option L2.V)) : Nat := match σ[4]? with
  | some (some (L2.V.int r)) => r.toNat
  | _ => 0
section
variable {P : Program} {w : World} {K : PySem.W.Frag} {mg : Str → Option Value} {base : Heap}
theorem ok_df (D : Dfn K mg "divisor_and_factor" s_divisor_and_factor P_divisor_and_factor) : Cal P w K mg base 1 "divisor_and_factor" P_divisor_and_factor spDF := by
  refine D.cal sc_divisor_and_factor (fun vs H Q E h => ?_) fun f cdv A outer s H vs Q E hr h => ?_
  · obtain ⟨n, m, rfl, _⟩ := h
    rfl
  obtain ⟨n, m, rfl, n0, n1, m1, q⟩ := h
  refine ⟨_, (pss_cons (ps_par (i := 2) (j := 3) rfl sc_divisor_and_factor.nd rfl rfl (by decide) rfl rfl (pa_cons (pv 0) (pa_cons pe_int pa_nil)) (by rfl)) (pss_cons (ps_par (i := 4) (j := 5) rfl sc_divisor_and_factor.nd rfl rfl (by decide) rfl rfl (pa_cons (pv 1) (pa_cons pe_int pa_nil)) (by rfl)) (pss_cons (ps_while PassesOwn.never (pt_cmpR op_ne (pv 4) pe_int (nomark _)) (pss_cons (ps_set (i := 6) sc_divisor_and_factor.nd rfl (Or.inl rfl) (pe_op op_fdivW (pv 2) (pv 4))) (pss_cons (ps_par (i := 2) (j := 4) rfl sc_divisor_and_factor.nd rfl rfl (by decide) rfl rfl (pa_cons (pv 4) (pa_cons (pe_op op_sub (pv 2) (pe_op op_mulW (pv 6) (pv 4))) pa_nil)) (by rfl)) (pss_one (ps_par (i := 3) (j := 5) rfl sc_divisor_and_factor.nd rfl rfl (by decide) rfl rfl (pa_cons (pv 5) (pa_cons (pe_op op_sub (pv 3) (pe_op op_mulW (pv 6) (pv 5))) pa_nil)) (by rfl)))))) (pss_one (ps_ret (pe_tup (pa_cons (pv 2) (pa_cons (pv 3) pa_nil)))))))), ?_⟩
  refine ⟨_, rfl, _, _, rfl, _, rfl, _, _, rfl, ?_⟩
  refine while_by (fun σ' H' => ∃ (d f r g : Int) (t : Option V), σ' = [some (.int n), some (.int m), some (.int d), some (.int f), some (.int r), some (.int g), t] ∧ Euc n m d r f g ∧ d ≤ m ∧ r ≤ m ∧ H' = H) (fun σ _ => restOf σ) ⟨_, _, _, _, _, rfl, Euc.start n0 (by omega), by omega, by omega, rfl⟩ ?_ (fun σ H Q Q' k ⟨v, hv, hs, b, hb, q⟩ => ⟨v, hv, hs, b, hb, k _ _ q⟩)
  rintro σ' H' ⟨d, f, r, g, t, rfl, E, dm, rm, rfl⟩
  refine ⟨_, rfl, rfl, _, rfl, ?_⟩
  by_cases hr0 : r = 0
  · subst hr0
    refine iteNS rfl ?_
    refine ⟨_, rfl, _, rfl, (by show 2 ≤ sizeLine; decide), fun t ht => ?_⟩
    exact q d f t _ (E.done (by omega)) upd_same (same_new ht _)
  · have c : (!decide (V.int r = V.int 0)) = true := by
      rw [decide_eq_false fun e => hr0 (V.int.inj e)]
      rfl
    show (if (!decide (V.int r = V.int 0)) = true then _ else _)
    rw [if_pos c]
    have r0 := E.r0
    have d0 := E.d0
    have f0 := E.f0
    have f1 := E.f1
    have g0 := E.g0
    have g1 := E.g1
    have t0 : 0 ≤ d / r := Int.ediv_nonneg d0 r0
    have t1 : d / r ≤ d := Int.ediv_le_self r d0
    have em := Int.emod_lt_of_pos d (show 0 < r by omega)
    have en := Int.emod_nonneg d hr0
    have e : d - d / r * r = d % r := by
      have h := Int.mul_ediv_add_emod d r
      have h2 : r * (d / r) = d / r * r := Int.mul_comm _ _
      omega
    refine ⟨_, rfl, _, rfl, _, _, rfl, rfl, wide_div (b := 120) (by omega) (by omega) (by decide) (by decide), ?_⟩
    refine ⟨_, rfl, _, rfl, _, rfl, _, rfl, _, _, rfl, rfl, wide_mul (a := 120) (b := 120) (by omega) (by omega) (by decide) (by decide) (by decide), _, _, rfl, rfl, _, _, rfl, ?_⟩
    refine ⟨_, rfl, _, rfl, _, rfl, _, rfl, _, _, rfl, rfl, wide_mul (a := 120) (b := 120) (by omega) (by omega) (by decide) (by decide) (by decide), _, _, rfl, rfl, _, _, rfl, ?_⟩
    refine ⟨⟨_, _, _, _, _, rfl, E.step hr0, rm, by omega, rfl⟩, ?_⟩
    show (d - d / r * r).toNat < r.toNat
    omega
end
def optV : Option Int → V
  | none => .non
  | some i => .int i
/-- the numbers as the program hands them back -/
def CNval (H : Hp) (v : V) : Option (Int × Option Int × Int) → Prop
  | none => v = .non
  | some (a, l, s) => ∃ t, v = .ref t ∧ H t = some (.tup [.int a, optV l, .int s])
/-- two painters -/
structure Two (C : Addr) (H : Hp) (a1 a2 : Addr) (nm1 : Str) (d1 p1 s1 : Int) (nm2 : Str) (d2 p2 s2 : Int) : Prop where
  h1 : PnAt C H a1 nm1 d1 p1 s1
  h2 : PnAt C H a2 nm2 d2 p2 s2
  o1 : PartOk nm1 d1 p1 s1
  o2 : PartOk nm2 d2 p2 s2
theorem PnAt.same {C : Addr} {H H' : Hp} {a : Addr} {nm : Str} {d p s : Int} (h : PnAt C H a nm d p s) (k : Same H H') : PnAt C H' a nm d p s := let ⟨dx, e⟩ := h; ⟨dx, k _ _ e⟩
theorem Two.same {C : Addr} {H H' : Hp} {a1 a2 : Addr} {nm1 nm2 : Str} {d1 p1 s1 d2 p2 s2 : Int} (h : Two C H a1 a2 nm1 d1 p1 s1 nm2 d2 p2 s2) (k : Same H H') : Two C H' a1 a2 nm1 d1 p1 s1 nm2 d2 p2 s2 := ⟨h.h1.same k, h.h2.same k, h.o1, h.o2⟩
abbrev s_common_numbers : Stmt := (topS 30)
abbrev N_sc_common_numbers : List Str := ["one", "other", "size", "divisor", "factor", "gap", "step", "residue", "least", "most"]
abbrev P_common_numbers : List Str := ["one", "other"]
theorem sc_common_numbers : FnScope N_sc_common_numbers P_common_numbers (defScope s_common_numbers) := ⟨rfl, rfl, rfl, by decide +kernel, rfl, by decide +kernel, by decide +kernel⟩
def spCN (C : Addr) : Sp := fun vs H Q _ => ∃ (a1 a2 : Addr) (nm1 : Str) (d1 p1 s1 : Int) (nm2 : Str) (d2 p2 s2 : Int), vs = [.ref a1, .ref a2] ∧ Two C H a1 a2 nm1 d1 p1 s1 nm2 d2 p2 s2 ∧
  ∀ (r : Option (Int × Option Int × Int)) (v : V) (H' : Hp), Comm p1 s1 p2 s2 r → CNval H' v r → Same H H' → Q v H'
theorem df_both {s1 s2 d f : Int} (D : DivFac (s1 % (s2.natAbs : Int)) (s2.natAbs : Int) d f) : d ∣ s1 ∧ d ∣ s2 := by
  obtain ⟨d0, ⟨a, ha⟩, ⟨b, hb⟩, _⟩ := D
  have e1 : s1 = (s2.natAbs : Int) * (s1 / (s2.natAbs : Int)) + s1 % (s2.natAbs : Int) := (Int.mul_ediv_add_emod s1 _).symm
  refine ⟨⟨b * (s1 / (s2.natAbs : Int)) + a, by grind⟩, Int.dvd_natAbs.mp ⟨b, hb⟩⟩
section
variable {P : Program} {w : World} {K : PySem.W.Frag} {mg : Str → Option Value} {base : Heap} {C : Addr}
set_option maxHeartbeats 16000000 in
theorem ok_cn (D : Dfn K mg "common_numbers" s_common_numbers P_common_numbers) (B : Blt mg) (T : PTxt K mg C) (hPost : PropS P w K mg base C "post" 1 (getSp C "_post")) (hStride : PropS P w K mg base C "stride" 1 (getSp C "_stride"))
    (CDF : Cal P w K mg base 1 "divisor_and_factor" P_divisor_and_factor spDF) : Cal P w K mg base 3 "common_numbers" P_common_numbers (spCN C) := by
  refine D.cal sc_common_numbers (fun vs H Q E h => ?_) fun f cdv A outer s H vs Q E hr h => ?_
  · obtain ⟨a1, a2, _, _, _, _, _, _, _, _, rfl, _⟩ := h
    rfl
  obtain ⟨a1, a2, nm1, d1, p1, s1, nm2, d2, p2, s2, rfl, Tw, q⟩ := h
  obtain ⟨dx1, h1⟩ := Tw.h1
  obtain ⟨dx2, h2⟩ := Tw.h2
  obtain ⟨_, _, _, p10, p11, s10, s11, s1n⟩ := Tw.o1
  obtain ⟨_, _, _, p20, p21, s20, s21, s2n⟩ := Tw.o2
  refine ⟨_, (C8.pss_cut (ps_set (i := 2) sc_common_numbers.nd rfl (Or.inl rfl) (pe_callB call_abs rfl B.abs_ (by decide +kernel) (pa_cons (pe_prS (pv 1) T.cl hStride (hr.mono (by decide))) pa_nil))) (pss_cons (ps_asg (pe_cal CDF (hr.mono (by decide)) (pa_cons (pe_op op_mod (pe_prS (pv 0) T.cl hStride (hr.mono (by decide))) (pv 2)) (pa_cons (pv 2) pa_nil))) (pg_tup rfl (pgs_cons (pg_name (i := 3) sc_common_numbers.nd rfl (Or.inl rfl)) (pgs_cons (pg_name (i := 4) sc_common_numbers.nd rfl (Or.inl rfl)) pgs_nil)))) (pss_cons (ps_set (i := 5) sc_common_numbers.nd rfl (Or.inl rfl) (pe_op op_sub (pe_prS (pv 1) T.cl hPost (hr.mono (by decide))) (pe_prS (pv 0) T.cl hPost (hr.mono (by decide))))) (pss_cons (ps_if (pt_cmpR op_ne (pe_op op_mod (pv 5) (pv 3)) pe_int (nomark _)) (pss_one (ps_ret pe_non)) pss_nil) (pss_cons (ps_set (i := 6) sc_common_numbers.nd rfl (Or.inl rfl) (pe_op op_fdivW (pv 2) (pv 3))) (C8.pss_cut (ps_set (i := 7) sc_common_numbers.nd rfl (Or.inl rfl) (pe_op op_mod (pe_op op_mulW (pe_op op_fdivW (pv 5) (pv 3)) (pv 4)) (pv 6))) (pss_cons (ps_if (pt_cmpR op_eq (pe_cmpR op_gt (pe_prS (pv 0) T.cl hStride (hr.mono (by decide))) pe_int (nomark _)) (pe_cmpR op_gt (pe_prS (pv 1) T.cl hStride (hr.mono (by decide))) pe_int (nomark _)) (nomark _)) (pss_cons (ps_set (i := 8) sc_common_numbers.nd rfl (Or.inl rfl) (pe_callB (call_max2 rfl) rfl B.max_ (by decide +kernel) (pa_cons pe_int (pa_cons (pe_un un_neg (pe_op op_fdivX (pe_un un_neg (pv 5)) (pe_prS (pv 0) T.cl hStride (hr.mono (by decide))))) pa_nil)))) (pss_one (ps_ret (pe_tup (pa_cons (pe_op op_add (pv 8) (pe_op op_mod (pe_op op_sub (pv 7) (pv 8)) (pv 6))) (pa_cons pe_non (pa_cons (pv 6) pa_nil))))))) pss_nil) (pss_cons (ps_set (i := 9) sc_common_numbers.nd rfl (Or.inl rfl) (pe_op op_fdivX (pv 5) (pe_prS (pv 0) T.cl hStride (hr.mono (by decide))))) (pss_cons (ps_if (pt_cmpR op_gt (pv 7) (pv 9) (nomark _)) (pss_one (ps_ret pe_non)) pss_nil) (pss_one (ps_ret (pe_tup (pa_cons (pv 7) (pa_cons (pe_op op_sub (pv 9) (pe_op op_mod (pe_op op_sub (pv 9) (pv 7)) (pv 6))) (pa_cons (pv 6) pa_nil))))))))))))))), ?_⟩
  refine ⟨fun σ' H' => σ' = [some (.ref a1), some (.ref a2), some (.int (s2.natAbs : Int)), none, none, none, none, none, none, none] ∧ H' = H, ?_, ?_⟩
  · refine ⟨_, rfl, a2, dx2, _, rfl, h2, a2, dx2, _, _, rfl, h2, pfs_stride _ _ _ _, _, rfl, ?_⟩
    have e : (if s2 < 0 then -s2 else s2) = (s2.natAbs : Int) := by split <;> omega
    exact ⟨by rw [e]; rfl, rfl⟩
  rintro σ' H' ⟨rfl, rfl⟩
  have sz : 0 < (s2.natAbs : Int) := by omega
  refine ⟨_, rfl, a1, dx1, _, rfl, h1, a1, dx1, _, _, rfl, h1, pfs_stride _ _ _ _, _, rfl, _, _, rfl, rfl, sz, _, rfl, _, _, rfl, em0 _ sz, em1 _ sz, by omega, fun d f t H1 D ht sm1 => ?_⟩
  refine ⟨t, _, rfl, SqT.of ht, rfl, _, _, rfl, _, _, rfl, rfl, ?_⟩
  have h1' := sm1 _ _ h1
  have h2' := sm1 _ _ h2
  refine ⟨_, rfl, a2, dx2, _, rfl, h2', a2, dx2, _, _, rfl, h2', pfs_post _ _ _ _, _, rfl, a1, dx1, _, rfl, h1', a1, dx1, _, _, rfl, h1', pfs_post _ _ _ _, _, _, rfl, rfl, ?_⟩
  have dp := D.pos
  refine ⟨_, rfl, _, rfl, _, _, rfl, rfl, dp, rfl, _, rfl, ?_⟩
  by_cases hg : (p2 - p1) % d = 0
  · have c : (V.int ((p2 - p1) % d) = V.int 0) := by rw [hg]
    refine iteNS c ?_
    have M := meet_of (gap := p2 - p1) s2n D (Int.dvd_of_emod_eq_zero hg)
    have dle : d ≤ (s2.natAbs : Int) := Int.le_of_dvd sz D.dm
    refine ⟨_, rfl, _, rfl, _, _, rfl, rfl, wide_div (b := 120) dp (by omega) (by decide) (by decide), ?_⟩
    have stp := M.st.1
    have stl : (s2.natAbs : Int) / d ≤ s2.natAbs := Int.ediv_le_self d (by omega)
    have gq : ((p2 - p1) / d).natAbs < 2 ^ 200 := by
      have : ((p2 - p1) / d).natAbs ≤ (p2 - p1).natAbs := Int.natAbs_ediv_le_natAbs (p2 - p1) d
      omega
    have f0 := D.f0
    have f1 := D.f1
    refine ⟨fun σ' H' => ∃ st res : Int, σ' = [some (.ref a1), some (.ref a2), some (.int (s2.natAbs : Int)), some (.int d), some (.int f), some (.int (p2 - p1)), some (.int st), some (.int res), none, none] ∧ Meet s1 s2 (p2 - p1) d st res ∧ st ≤ s2.natAbs ∧ H' = H1, ?_, ?_⟩
    · refine ⟨_, rfl, _, rfl, _, _, rfl, rfl, wide_div (b := 120) dp (by omega) (by decide) (by decide), _, rfl, _, _, rfl, rfl, wide_mul (a := 200) (b := 120) gq (by omega) (by decide) (by decide) (by decide), _, rfl, _, _, rfl, rfl, stp, ?_⟩
      exact ⟨_, _, rfl, M, stl, rfl⟩
    rintro σ' H' ⟨st, res, rfl, M, stl, rfl⟩
    have stp := M.st.1
    refine ⟨_, rfl, a1, dx1, _, rfl, h1', a1, dx1, _, _, rfl, h1', pfs_stride _ _ _ _, _, _, rfl, rfl, _, rfl, a2, dx2, _, rfl, h2', a2, dx2, _, _, rfl, h2', pfs_stride _ _ _ _, _, _, rfl, rfl, rfl, _, rfl, ?_⟩
    have dvx : CDivX (p2 - p1) s1 := ⟨s1n, Nat.lt_of_lt_of_le (PySem.Flt.log2_lt_of (by decide) (show s1.natAbs < 2 ^ 120 by omega)) (by decide)⟩
    have dvy : CDivX (-(p2 - p1)) s1 := dvx
    refine ite2 (fun c => ?_) (fun c => ?_)
    · have hs : 0 < s1 ↔ 0 < s2 := by
        have e := V.bl.inj (of_decide_eq_true c)
        by_cases a : 0 < s1
        · rw [decide_eq_true a] at e
          exact ⟨fun _ => of_decide_eq_true e.symm, fun _ => a⟩
        · rw [decide_eq_false a] at e
          exact ⟨fun z => absurd z a, fun z => by rw [decide_eq_true z] at e; cases e⟩
      refine ⟨_, rfl, _, rfl, _, rfl, a1, dx1, _, rfl, h1', a1, dx1, _, _, rfl, h1', pfs_stride _ _ _ _, _, _, rfl, rfl, dvy, _, rfl, _, _, rfl, ?_⟩
      refine ⟨_, rfl, _, rfl, _, rfl, _, _, rfl, rfl, _, rfl, _, _, rfl, rfl, stp, _, _, rfl, rfl, _, rfl, (by show 3 ≤ sizeLine; decide), fun t ht => ?_⟩
      exact q _ _ _ (comm_same s1n s2n hs M) ⟨t, rfl, upd_same⟩ (sm1.trans (same_new ht _))
    · have hs : ¬ (0 < s1 ↔ 0 < s2) := by
        intro z
        have z2 : decide (0 < s1) = decide (0 < s2) := by
          by_cases a : 0 < s1
          · rw [decide_eq_true a, decide_eq_true (z.mp a)]
          · rw [decide_eq_false a, decide_eq_false fun y => a (z.mpr y)]
        exact c (decide_eq_true (congrArg V.bl z2))
      refine ⟨_, rfl, _, rfl, a1, dx1, _, rfl, h1', a1, dx1, _, _, rfl, h1', pfs_stride _ _ _ _, _, _, rfl, rfl, dvx, ?_⟩
      refine ⟨_, rfl, _, rfl, _, _, rfl, rfl, _, rfl, ?_⟩
      refine ite2 (fun c => ?_) (fun c => ?_)
      · have c := of_decide_eq_true c
        exact q _ _ _ (comm_no s1n s2n hs M c) rfl sm1
      · have c : ¬ (p2 - p1).fdiv s1 < res := of_decide_eq_false (Bool.eq_false_iff.mpr c)
        refine ⟨_, rfl, _, rfl, _, rfl, _, rfl, _, _, rfl, rfl, _, rfl, _, _, rfl, rfl, stp, _, _, rfl, rfl, _, rfl, (by show 3 ≤ sizeLine; decide), fun t ht => ?_⟩
        exact q _ _ _ (comm_opp s1n s2n hs M (by omega)) ⟨t, rfl, upd_same⟩ (sm1.trans (same_new ht _))
  · have c : (!decide (V.int ((p2 - p1) % d) = V.int 0)) = true := by
      rw [decide_eq_false fun e => hg (V.int.inj e)]
      rfl
    show (if (!decide (V.int ((p2 - p1) % d) = V.int 0)) = true then _ else _)
    rw [if_pos c]
    obtain ⟨y1, y2⟩ := df_both D
    exact q _ _ _ (comm_gap y1 y2 fun z => hg (Int.emod_eq_zero_of_dvd z)) rfl sm1
end
end Ur
/-! KP: common posts. -/
namespace Ur
open PySem PySem.Spec PyProof.Rows L2
/-- the posts as the program hands them back -/
def cpT (p1 s1 : Int) : Option (Int × Option Int × Int) → Option (Int × Option Int × Int)
  | none => none
  | some (a, l, s) => some (p1 + a * s1, l.map (fun x => p1 + x * s1), s * (s1.natAbs : Int))
def optD : Option Int → PyData
  | none => .none
  | some i => .int i
def cnD : Option (Int × Option Int × Int) → PyData
  | none => .none
  | some (a, l, s) => .tuple [.int a, optD l, .int s]
theorem optDp {K : PySem.W.Frag} {H : Hp} : ∀ o : Option Int, Dp K H (optV o) (optD o)
  | none => .non
  | some i => .int i
theorem CNval.dp {K : PySem.W.Frag} {H : Hp} {v : V} : ∀ {r : Option (Int × Option Int × Int)}, CNval H v r → Dp K H v (cnD r)
  | none, h => by
    have h : v = .non := h
    subst h
    exact .non
  | some (a, l, s), h => by
    obtain ⟨t, rfl, ht⟩ := h
    exact .tup (SqT.of ht) (.cons (.int _) (.cons (optDp l) (.cons (.int _) .nil)))
theorem CNval.same {H H' : Hp} {v : V} (k : Same H H') : ∀ {r : Option (Int × Option Int × Int)}, CNval H v r → CNval H' v r
  | none, h => h
  | some (a, l, s), h => let ⟨t, e, ht⟩ := h; ⟨t, e, k _ _ ht⟩
theorem Comm.first_le {p1 s1 p2 s2 a s : Int} {l : Option Int} (C : Comm p1 s1 p2 s2 (some (a, l, s))) : 0 ≤ a ∧ a ≤ (p2 - p1).natAbs + s ∧ Steps s1 s2 s ∧ ∀ x, l = some x → 0 ≤ x ∧ x ≤ (p2 - p1).natAbs := by
  cases C with
  | inf h1 h2 h3 h4 h5 => exact ⟨h3, h4, h2, fun x e => by cases e⟩
  | fin h1 h2 h3 h4 h5 h6 h7 => exact ⟨h3, by have := h2.1; omega, h2, fun x e => by cases e; omega⟩
theorem step_le {s1 s2 s : Int} (h : s2 ≠ 0) (S : Steps s1 s2 s) : s ≤ s2.natAbs := by
  have z := (S.2 (s2.natAbs : Int)).mp (Int.dvd_trans (Int.dvd_natAbs.mpr (Int.dvd_refl s2)) ⟨s1, rfl⟩)
  exact Int.le_of_dvd (by omega) z
end Ur
/-! UrL: lists of numbers that pass a test. -/
namespace Ur
theorem range_snoc (n : Nat) : List.range (n + 1) = List.range n ++ [n] := List.range_succ
theorem filt_none {f : Nat → Bool} : ∀ n, (∀ k, k < n → f k = false) → (List.range n).filter f = []
  | 0, _ => rfl
  | n + 1, h => by
    rw [range_snoc, List.filter_append, filt_none n fun k hk => h k (by omega), List.filter_cons, h n (by omega)]
    rfl
theorem filt_head {f : Nat → Bool} {a : Nat} (fa : f a = true) (lt : ∀ k, k < a → f k = false) : ∀ n, a < n → ∃ tl, (List.range n).filter f = a :: tl
  | 0, h => absurd h (Nat.not_lt_zero a)
  | n + 1, h => by
    rw [range_snoc, List.filter_append]
    by_cases c : a < n
    · obtain ⟨tl, e⟩ := filt_head fa lt n c
      rw [e]
      exact ⟨_, rfl⟩
    · have : n = a := by omega
      subst this
      rw [filt_none n lt, List.filter_cons, if_pos fa]
      exact ⟨[], rfl⟩
theorem filt_last {f : Nat → Bool} {b : Nat} (fb : f b = true) (gt : ∀ k, b < k → f k = false) : ∀ n, b < n → ∃ init, (List.range n).filter f = init ++ [b]
  | 0, h => absurd h (Nat.not_lt_zero b)
  | n + 1, h => by
    rw [range_snoc, List.filter_append]
    by_cases c : b < n
    · obtain ⟨i, e⟩ := filt_last fb gt n c
      rw [e, List.filter_cons, if_neg (by rw [gt n c]; decide)]
      exact ⟨i, by rw [List.filter_nil, List.append_nil]⟩
    · have : n = b := by omega
      subst this
      rw [List.filter_cons, if_pos fb]
      exact ⟨_, rfl⟩
/-- the numbers of r -/
def inR : Option (Int × Option Int × Int) → Nat → Bool
  | none, _ => false
  | some (a, none, s), k => decide (a ≤ (k : Int) ∧ s ∣ (k : Int) - a)
  | some (a, some l, s), k => decide (a ≤ (k : Int) ∧ (k : Int) ≤ l ∧ s ∣ (k : Int) - a)
theorem Comm.on_inR {p1 s1 p2 s2 : Int} {r : Option (Int × Option Int × Int)} (C : Comm p1 s1 p2 s2 r) (k : Nat) : On p2 s2 (p1 + (k : Int) * s1) ↔ inR r k = true := by
  cases C with
  | no h => exact ⟨fun z => absurd z (h k (by omega)), fun z => by cases z⟩
  | inf h1 h2 h3 h4 h5 => exact (h5 k (by omega)).trans ⟨fun z => decide_eq_true z, fun z => of_decide_eq_true z⟩
  | fin h1 h2 h3 h4 h5 h6 h7 => exact (h7 k (by omega)).trans ⟨fun z => decide_eq_true z, fun z => of_decide_eq_true z⟩
theorem Comm.head {p1 s1 p2 s2 a s : Int} {l : Option Int} (C : Comm p1 s1 p2 s2 (some (a, l, s))) {n : Nat} (hn : a < n) : ∃ tl, (List.range n).filter (inR (some (a, l, s))) = a.toNat :: tl := by
  cases C with
  | inf h1 h2 h3 h4 h5 =>
    refine filt_head (decide_eq_true ⟨by omega, ⟨0, by omega⟩⟩) (fun k hk => decide_eq_false fun z => ?_) n (by omega)
    have := z.1
    omega
  | fin h1 h2 h3 h4 h5 h6 h7 =>
    refine filt_head (decide_eq_true ⟨by omega, by omega, ⟨0, by omega⟩⟩) (fun k hk => decide_eq_false fun z => ?_) n (by omega)
    have := z.1
    omega
theorem Comm.last {p1 s1 p2 s2 a s l : Int} (C : Comm p1 s1 p2 s2 (some (a, some l, s))) {n : Nat} (hn : l < n) : ∃ i, (List.range n).filter (inR (some (a, some l, s))) = i ++ [l.toNat] := by
  cases C with
  | fin h1 h2 h3 h4 h5 h6 h7 =>
    have e : ((l.toNat : Nat) : Int) = l := by omega
    refine filt_last (decide_eq_true ⟨by omega, by omega, by rw [e]; exact h6⟩) (fun k hk => decide_eq_false fun z => ?_) n (by omega)
    have := z.2.1
    omega
theorem Comm.sign {p1 s1 p2 s2 a s : Int} {l : Option Int} (C : Comm p1 s1 p2 s2 (some (a, l, s))) (h1 : s1 ≠ 0) (h2 : s2 ≠ 0) : (l = none ↔ 0 < s1 * s2) := by
  have pos : (0 < s1 ↔ 0 < s2) ↔ 0 < s1 * s2 := by
    by_cases a : 0 < s1 <;> by_cases b : 0 < s2
    · exact ⟨fun _ => Int.mul_pos a b, fun _ => ⟨fun _ => b, fun _ => a⟩⟩
    · have : s1 * s2 < 0 := Int.mul_neg_of_pos_of_neg a (by omega)
      exact ⟨fun z => by omega, fun z => by omega⟩
    · have : s1 * s2 < 0 := Int.mul_neg_of_neg_of_pos (by omega) b
      exact ⟨fun z => by omega, fun z => by omega⟩
    · have : 0 < s1 * s2 := Int.mul_pos_of_neg_of_neg (by omega) (by omega)
      exact ⟨fun _ => this, fun _ => ⟨fun z => by omega, fun z => by omega⟩⟩
  cases C with
  | inf h => exact ⟨fun _ => pos.mp h, fun _ => rfl⟩
  | fin h => exact ⟨fun z => (nomatch z), fun z => absurd (pos.mpr z) h⟩
/-- the least common multiple by going: c strides of the first are one of the second -/
theorem steps_dvd {a b step c : Int} (S : Steps a b step) : (b.natAbs : Int) ∣ c * (a.natAbs : Int) ↔ step ∣ c := by
  rw [← S.2 c, Int.natAbs_dvd]
  by_cases h : 0 ≤ a
  · have e : (a.natAbs : Int) = a := by omega
    rw [e]
  · have e : (a.natAbs : Int) = -a := by omega
    rw [e, Int.mul_neg, Int.dvd_neg]
end Ur
/-! UrN: common numbers by remainders. -/
namespace Ur
/-- the numbers of common posts, without a word of their size -/
inductive CommW (p1 s1 p2 s2 : Int) : Option (Int × Option Int × Int) → Prop where
  | no : (∀ k : Int, 0 ≤ k → ¬ On p2 s2 (p1 + k * s1)) → CommW p1 s1 p2 s2 none
  | inf {first step : Int} : (0 < s1 ↔ 0 < s2) → Steps s1 s2 step → 0 ≤ first → (∀ k : Int, 0 ≤ k → (On p2 s2 (p1 + k * s1) ↔ first ≤ k ∧ step ∣ k - first)) → CommW p1 s1 p2 s2 (some (first, none, step))
  | fin {first last step : Int} : ¬ (0 < s1 ↔ 0 < s2) → Steps s1 s2 step → 0 ≤ first → first ≤ last → step ∣ last - first → (∀ k : Int, 0 ≤ k → (On p2 s2 (p1 + k * s1) ↔ first ≤ k ∧ k ≤ last ∧ step ∣ k - first)) → CommW p1 s1 p2 s2 (some (first, some last, step))
theorem Comm.weak {p1 s1 p2 s2 : Int} {r : Option (Int × Option Int × Int)} (C : Comm p1 s1 p2 s2 r) : CommW p1 s1 p2 s2 r := by
  cases C with
  | no h => exact .no h
  | inf h1 h2 h3 h4 h5 => exact .inf h1 h2 h3 h5
  | fin h1 h2 h3 h4 h5 h6 h7 => exact .fin h1 h2 h3 h4 h6 h7
theorem Steps.uniq {a b s t : Int} (S : Steps a b s) (T : Steps a b t) : s = t := by
  have h1 : s ∣ t := (S.2 t).mp ((T.2 t).mpr (Int.dvd_refl t))
  have h2 : t ∣ s := (T.2 s).mp ((S.2 s).mpr (Int.dvd_refl s))
  have a1 := Int.le_of_dvd T.1 h1
  have a2 := Int.le_of_dvd S.1 h2
  omega
theorem CommW.uniq {p1 s1 p2 s2 : Int} {r r' : Option (Int × Option Int × Int)} (C : CommW p1 s1 p2 s2 r) (D : CommW p1 s1 p2 s2 r') : r = r' := by
  have z0 : ∀ a s : Int, s ∣ a - a := fun a s => ⟨0, by omega⟩
  cases C with
  | no h =>
    cases D with
    | no _ => rfl
    | @inf f st g1 g2 g3 g4 => exact absurd ((g4 f g3).mpr ⟨by omega, z0 f st⟩) (h f g3)
    | @fin f l st g1 g2 g3 g4 g5 g6 => exact absurd ((g6 f g3).mpr ⟨by omega, g4, z0 f st⟩) (h f g3)
  | @inf f st h1 h2 h3 h4 =>
    cases D with
    | no g => exact absurd ((h4 f h3).mpr ⟨by omega, z0 f st⟩) (g f h3)
    | @inf f' st' g1 g2 g3 g4 =>
      obtain rfl := h2.uniq g2
      have a := ((g4 f h3).mp ((h4 f h3).mpr ⟨by omega, z0 f st⟩)).1
      have b := ((h4 f' g3).mp ((g4 f' g3).mpr ⟨by omega, z0 f' st⟩)).1
      obtain rfl : f = f' := by omega
      rfl
    | fin g1 => exact absurd h1 g1
  | @fin f l st h1 h2 h3 h4 h5 h6 =>
    cases D with
    | no g => exact absurd ((h6 f h3).mpr ⟨by omega, h4, z0 f st⟩) (g f h3)
    | inf g1 => exact absurd g1 h1
    | @fin f' l' st' g1 g2 g3 g4 g5 g6 =>
      obtain rfl := h2.uniq g2
      have a := ((g6 f h3).mp ((h6 f h3).mpr ⟨by omega, h4, z0 f st⟩)).1
      have b := ((h6 f' g3).mp ((g6 f' g3).mpr ⟨by omega, g4, z0 f' st⟩)).1
      have c := ((g6 l (by omega)).mp ((h6 l (by omega)).mpr ⟨h4, by omega, h5⟩)).2.1
      have d := ((h6 l' (by omega)).mp ((g6 l' (by omega)).mpr ⟨g4, by omega, g5⟩)).2.1
      obtain rfl : f = f' := by omega
      obtain rfl : l = l' := by omega
      rfl
/-- Meet from a common divisor and an inverse -/
theorem meet_by {s1 s2 gap d st u i : Int} (d0 : 0 < d) (hu : s1 = d * u) (hm : (s2.natAbs : Int) = d * st) (stp : 0 < st) (hi : st ∣ u * i - 1) (hg : d ∣ gap) : Meet s1 s2 gap d st ((gap / d * i) % st) := by
  obtain ⟨gq, hgq⟩ := hg
  have egq : gap / d = gq := by rw [hgq]; exact Int.mul_ediv_cancel_left _ (by omega)
  rw [egq]
  obtain ⟨c, hc⟩ := hi
  have key : ∀ x : Int, d * st ∣ d * x ↔ st ∣ x := fun x => ⟨fun h => Int.dvd_of_mul_dvd_mul_left (by omega) h, fun h => Int.mul_dvd_mul_left d h⟩
  have m2 : ∀ x : Int, s2 ∣ x ↔ d * st ∣ x := fun x => by rw [← hm]; exact Int.natAbs_dvd.symm
  refine ⟨d0, ⟨u, hu⟩, ?_, ⟨gq, hgq⟩, ⟨stp, fun k => ?_⟩, by rw [hm]; exact Int.mul_comm _ _, fun k => ?_, Int.emod_nonneg _ (by omega), Int.emod_lt_of_pos _ stp⟩
  · have : d ∣ (s2.natAbs : Int) := ⟨st, hm⟩
    exact Int.dvd_natAbs.mp this
  · rw [m2, hu, show k * (d * u) = d * (k * u) by grind, key]
    constructor
    · intro ⟨x, hx⟩
      exact ⟨x * i - k * c, by grind⟩
    · intro ⟨x, hx⟩
      exact ⟨x * u, by grind⟩
  · rw [m2, hu, hgq, show k * (d * u) - d * gq = d * (k * u - gq) by grind, key]
    have er : gq * i = st * (gq * i / st) + gq * i % st := (Int.mul_ediv_add_emod _ _).symm
    generalize gq * i / st = w at er
    generalize gq * i % st = res at er
    constructor
    · intro ⟨x, hx⟩
      exact ⟨x * i - k * c + w, by grind⟩
    · intro ⟨x, hx⟩
      exact ⟨x * u + gq * c - w * u, by grind⟩
section
variable {p1 s1 p2 s2 d st k j sp : Int}
theorem on_x (h2 : s2 ≠ 0) (hj : j * s2 = k * s1 - (p2 - p1)) (hs : sp * s2 = s1 * st) (x : Int) : On p2 s2 (p1 + (k + x * st) * s1) ↔ 0 ≤ j + x * sp := by
  have e : p1 + (k + x * st) * s1 = p2 + (j + x * sp) * s2 := by grind
  rw [e]
  constructor
  · rintro ⟨y, y0, h⟩
    have : (j + x * sp) * s2 = y * s2 := by omega
    have := Int.eq_of_mul_eq_mul_right h2 this
    omega
  · exact fun h => ⟨_, h, rfl⟩
theorem on_dvd (h2 : s2 ≠ 0) (M : Meet s1 s2 (p2 - p1) d st k) {n : Int} (h : On p2 s2 (p1 + n * s1)) : st ∣ n - k := (M.at_ n).mp ((on_iff h2).mp h).1
theorem sp_sign (h1 : s1 ≠ 0) (h2 : s2 ≠ 0) (stp : 0 < st) (hs : sp * s2 = s1 * st) : (0 < sp ↔ (0 < s1 ↔ 0 < s2)) ∧ sp ≠ 0 := by
  by_cases a : 0 < s1
  · have z : 0 < s1 * st := Int.mul_pos a stp
    by_cases b : 0 < s2
    · have : 0 < sp := by
        by_cases c : 0 < sp
        · exact c
        · have := Int.mul_nonpos_of_nonpos_of_nonneg (show sp ≤ 0 by omega) (show 0 ≤ s2 by omega)
          omega
      exact ⟨⟨fun _ => ⟨fun _ => b, fun _ => a⟩, fun _ => this⟩, by omega⟩
    · have : sp < 0 := by
        by_cases c : sp < 0
        · exact c
        · have := Int.mul_nonpos_of_nonneg_of_nonpos (show 0 ≤ sp by omega) (show s2 ≤ 0 by omega)
          omega
      exact ⟨⟨fun y => by omega, fun y => absurd (y.mp a) b⟩, by omega⟩
  · have z : s1 * st < 0 := Int.mul_neg_of_neg_of_pos (by omega) stp
    by_cases b : 0 < s2
    · have : sp < 0 := by
        by_cases c : sp < 0
        · exact c
        · have := Int.mul_nonneg (show 0 ≤ sp by omega) (show 0 ≤ s2 by omega)
          omega
      exact ⟨⟨fun y => by omega, fun y => absurd (y.mpr b) a⟩, by omega⟩
    · have : 0 < sp := by
        by_cases c : 0 < sp
        · exact c
        · have := Int.mul_nonneg_of_nonpos_of_nonpos (show sp ≤ 0 by omega) (show s2 ≤ 0 by omega)
          omega
      exact ⟨⟨fun _ => ⟨fun y => absurd y a, fun y => absurd y b⟩, fun _ => this⟩, by omega⟩
theorem ge_x (stp : 0 < st) (k0 : 0 ≤ k) (k1 : k < st) (x : Int) : 0 ≤ k + x * st ↔ 0 ≤ x := by
  constructor
  · intro h
    by_cases c : 0 ≤ x
    · exact c
    · have := Int.mul_le_mul_of_nonneg_right (show x ≤ -1 by omega) (show 0 ≤ st by omega)
      omega
  · intro h
    have := Int.mul_nonneg h (show 0 ≤ st by omega)
    omega
theorem mul_le_iff (stp : 0 < st) (x y : Int) : x * st ≤ y * st ↔ x ≤ y := ⟨fun h => Int.le_of_mul_le_mul_right h stp, fun h => Int.mul_le_mul_of_nonneg_right h (by omega)⟩
theorem due_inf (h1 : s1 ≠ 0) (h2 : s2 ≠ 0) (M : Meet s1 s2 (p2 - p1) d st k) (hj : j * s2 = k * s1 - (p2 - p1)) (hs : sp * s2 = s1 * st) (pos : 0 < sp) :
    CommW p1 s1 p2 s2 (some (k + (if 0 - j.fdiv sp > 0 then 0 - j.fdiv sp else 0) * st, none, st)) := by
  have stp := M.st.1
  have low0 : 0 ≤ (if 0 - j.fdiv sp > 0 then 0 - j.fdiv sp else 0) := by split <;> omega
  have lowx : ∀ x : Int, 0 ≤ x → (0 ≤ j + x * sp ↔ (if 0 - j.fdiv sp > 0 then 0 - j.fdiv sp else 0) ≤ x) := fun x x0 => by
    have z : 0 ≤ j + x * sp ↔ 0 - j.fdiv sp ≤ x := by
      rw [Int.fdiv_eq_ediv_of_nonneg j (by omega)]
      have z := Int.le_ediv_iff_mul_le (a := -x) (b := j) pos
      rw [Int.neg_mul] at z
      omega
    rw [z]
    split <;> omega
  generalize (if 0 - j.fdiv sp > 0 then 0 - j.fdiv sp else 0) = low at low0 lowx ⊢
  refine .inf ((sp_sign h1 h2 stp hs).1.mp pos) M.st ?_ fun n hn => ?_
  · have := (ge_x stp M.r0 M.r1 low).mpr low0
    omega
  constructor
  · intro h
    obtain ⟨x, hx⟩ := on_dvd h2 M h
    obtain rfl : n = k + x * st := by rw [Int.mul_comm] at hx; omega
    have x0 := (ge_x stp M.r0 M.r1 x).mp hn
    have := (lowx x x0).mp ((on_x h2 hj hs x).mp h)
    refine ⟨?_, x - low, by grind⟩
    have := (mul_le_iff stp low x).mpr this
    omega
  · rintro ⟨h, x, hx⟩
    obtain rfl : n = k + (low + x) * st := by grind
    rw [on_x h2 hj hs]
    have x0 := (ge_x stp M.r0 M.r1 _).mp hn
    refine (lowx _ x0).mpr ?_
    exact (mul_le_iff stp _ _).mp (by omega)
theorem due_no (h1 : s1 ≠ 0) (h2 : s2 ≠ 0) (M : Meet s1 s2 (p2 - p1) d st k) (hj : j * s2 = k * s1 - (p2 - p1)) (hs : sp * s2 = s1 * st) (neg : sp < 0) (j0 : j < 0) : CommW p1 s1 p2 s2 none := by
  have stp := M.st.1
  refine .no fun n hn h => ?_
  obtain ⟨x, hx⟩ := on_dvd h2 M h
  obtain rfl : n = k + x * st := by rw [Int.mul_comm] at hx; omega
  have x0 := (ge_x stp M.r0 M.r1 x).mp hn
  have := (on_x h2 hj hs x).mp h
  have := Int.mul_nonpos_of_nonneg_of_nonpos x0 (show sp ≤ 0 by omega)
  omega
theorem due_fin (h1 : s1 ≠ 0) (h2 : s2 ≠ 0) (M : Meet s1 s2 (p2 - p1) d st k) (hj : j * s2 = k * s1 - (p2 - p1)) (hs : sp * s2 = s1 * st) (neg : sp < 0) (j0 : 0 ≤ j) :
    CommW p1 s1 p2 s2 (some (k + 0 * st, some (k + j.fdiv (0 - sp) * st), st)) := by
  have stp := M.st.1
  have hx : ∀ x : Int, 0 ≤ j + x * sp ↔ x ≤ j.fdiv (0 - sp) := fun x => by
    rw [Int.fdiv_eq_ediv_of_nonneg j (by omega), Int.le_ediv_iff_mul_le (by omega), Int.mul_sub]
    omega
  have q0 : 0 ≤ j.fdiv (0 - sp) := by rw [← hx]; omega
  generalize j.fdiv (0 - sp) = q at hx q0 ⊢
  have k0 := M.r0
  have qs := Int.mul_nonneg q0 (show 0 ≤ st by omega)
  refine .fin (fun z => by have := (sp_sign h1 h2 stp hs).1.mpr z; omega) M.st (by omega) (by omega) ⟨q, by grind⟩ fun n hn => ?_
  constructor
  · intro h
    obtain ⟨x, hx'⟩ := on_dvd h2 M h
    obtain rfl : n = k + x * st := by rw [Int.mul_comm] at hx'; omega
    have x0 := (ge_x stp M.r0 M.r1 x).mp hn
    have y := (hx x).mp ((on_x h2 hj hs x).mp h)
    have := (mul_le_iff stp x q).mpr y
    have := (mul_le_iff stp 0 x).mpr x0
    exact ⟨by omega, by omega, x, by grind⟩
  · rintro ⟨h, h', x, hx'⟩
    obtain rfl : n = k + x * st := by grind
    rw [on_x h2 hj hs, hx]
    exact (mul_le_iff stp _ _).mp (by omega)
end
/-- a planted post -/
theorem Comm.planted {p1 s1 p2 s2 n : Int} {r : Option (Int × Option Int × Int)} (C : Comm p1 s1 p2 s2 r) (n0 : 0 ≤ n) (h : On p2 s2 (p1 + n * s1)) : ∃ a l st, r = some (a, l, st) ∧ a ≤ n ∧ st ∣ n - a := by
  cases C with
  | no g => exact absurd h (g n n0)
  | inf h1 h2 h3 h4 h5 => exact ⟨_, _, _, rfl, (h5 n n0).mp h⟩
  | fin h1 h2 h3 h4 h5 h6 h7 => exact ⟨_, _, _, rfl, ((h7 n n0).mp h).1, ((h7 n n0).mp h).2.2⟩
/-- dividing by the greatest common divisor -/
theorem gcd_parts {s1 s2 : Int} (h : s2 ≠ 0) : ∃ u st, s1 = (Int.gcd s1 s2 : Int) * u ∧ (s2.natAbs : Int) = (Int.gcd s1 s2 : Int) * st ∧ 0 < st ∧ 0 < (Int.gcd s1 s2 : Int) ∧ Int.gcd u st = 1 ∧ (Int.gcd s1 s2 : Int) ≤ s2.natAbs := by
  have g0 : 0 < Int.gcd s1 s2 := Int.gcd_pos_of_ne_zero_right s1 h
  obtain ⟨u, hu⟩ := Int.gcd_dvd_left s1 s2
  have dz : (Int.gcd s1 s2 : Int) ∣ (s2.natAbs : Int) := Int.dvd_natAbs.mpr (Int.gcd_dvd_right s1 s2)
  obtain ⟨st, hst⟩ := dz
  have g1 : (Int.gcd s1 s2 : Int) ≤ s2.natAbs := Int.le_of_dvd (by omega) ⟨st, hst⟩
  have stp : 0 < st := by
    by_cases c : 0 < st
    · exact c
    · have := Int.mul_nonpos_of_nonneg_of_nonpos (show 0 ≤ (Int.gcd s1 s2 : Int) by omega) (show st ≤ 0 by omega)
      omega
  refine ⟨u, st, hu, hst, stp, by omega, ?_, g1⟩
  have e : Int.gcd s1 s2 = Int.gcd s1 s2 * Int.gcd u st := by
    have z : Int.gcd ((Int.gcd s1 s2 : Int) * u) ((Int.gcd s1 s2 : Int) * st) = Int.gcd s1 s2 * Int.gcd u st := by rw [Int.gcd_mul_left]; rfl
    rw [← hu, ← hst] at z
    rw [← z]
    simp [Int.gcd]
  exact Nat.eq_of_mul_eq_mul_left g0 (by rw [Nat.mul_one]; exact e.symm)
end Ur
/-! UrF: the mathematics of first blocks. -/
namespace Ur
/-- at the n-th post of the one, the other one, with this count, was before -/
def Blk (p1 d1 s1 p2 d2 s2 : Int) (cnt : Option Int) (fl : Bool) (n : Int) : Prop := ∃ j : Int, 0 ≤ j ∧ p1 + n * s1 = p2 + j * s2 ∧ (∀ c, cnt = some c → j < c) ∧ (d2 + j < d1 + n ∨ fl = true ∧ d2 + j = d1 + n)
/-- the least number from 0 on, if there is one -/
def Least (P : Int → Prop) : Option Int → Prop
  | none => ∀ n, 0 ≤ n → ¬ P n
  | some n => 0 ≤ n ∧ P n ∧ ∀ m, 0 ≤ m → m < n → ¬ P m
theorem Least.uniq {P : Int → Prop} : ∀ {a b : Option Int}, Least P a → Least P b → a = b
  | none, none, _, _ => rfl
  | none, some b, h, g => absurd g.2.1 (h b g.1)
  | some a, none, h, g => absurd h.2.1 (g a h.1)
  | some a, some b, h, g => by
    have x : ¬ a < b := fun z => g.2.2 a h.1 z h.2.1
    have y : ¬ b < a := fun z => h.2.2 b g.1 z g.2.1
    obtain rfl : a = b := by omega
    rfl
theorem Least.congr {P Q : Int → Prop} (h : ∀ n, 0 ≤ n → (P n ↔ Q n)) : ∀ {r : Option Int}, Least P r → Least Q r
  | none, l => fun n n0 q => l n n0 ((h n n0).mpr q)
  | some a, l => ⟨l.1, (h a l.1).mp l.2.1, fun m m0 ml q => l.2.2 m m0 ml ((h m m0).mpr q)⟩
/-- no line is below nought at x -/
def Up (ls : List (Int × Int)) (x : Int) : Prop := ∀ z ∈ ls, 0 ≤ z.1 + x * z.2
/-- the index when the lines ws were looked at -/
structure Idx (M : Int) (ws : List (Int × Int)) (x : Int) : Prop where
  x0 : 0 ≤ x
  xM : x ≤ M
  ok : ∀ z ∈ ws, 0 < z.2 → 0 ≤ z.1 + x * z.2
  lt : ∀ y, 0 ≤ y → y < x → ∃ z ∈ ws, z.1 + y * z.2 < 0
theorem Idx.start {M : Int} (h : 0 ≤ M) : Idx M [] 0 := ⟨Int.le_refl 0, h, fun z hz => absurd hz List.not_mem_nil, fun y h1 h2 => by omega⟩
theorem ceil_iff {a b : Int} (hb : 0 < b) (x : Int) : -(a / b) ≤ x ↔ 0 ≤ a + x * b := by
  have z := Int.le_ediv_iff_mul_le (a := -x) (b := a) hb
  rw [Int.neg_mul] at z
  omega
theorem Idx.up {M a b x : Int} {ws : List (Int × Int)} (I : Idx M ws x) (hb : 0 < b) (hM : -M ≤ a ∧ a ≤ M) : Idx M (ws ++ [(a, b)]) (if -(a / b) > x then -(a / b) else x) := by
  have c := fun y => ceil_iff (a := a) hb y
  have up : ∀ x' : Int, x ≤ x' → ∀ z ∈ ws, 0 < z.2 → 0 ≤ z.1 + x' * z.2 := fun x' h z hz hp => by
    have := I.ok z hz hp
    have := Int.mul_le_mul_of_nonneg_right h (show 0 ≤ z.2 by omega)
    omega
  have q1 : -(a / b) ≤ M := by
    rw [c]
    have := Int.mul_le_mul_of_nonneg_left (show 1 ≤ b by omega) (show 0 ≤ M by have := I.x0; have := I.xM; omega)
    omega
  have x0 := I.x0
  have xM := I.xM
  split
  · rename_i h
    refine ⟨by omega, q1, fun z hz hp => ?_, fun y y0 yl => ?_⟩
    · rcases List.mem_append.mp hz with hz | hz
      · exact up _ (by omega) z hz hp
      · obtain rfl := List.mem_singleton.mp hz
        exact (c _).mp (Int.le_refl _)
    · refine ⟨(a, b), List.mem_append_right _ (List.mem_singleton.mpr rfl), ?_⟩
      have := mt (c y).mpr (by omega)
      show a + y * b < 0
      omega
  · rename_i h
    refine ⟨x0, xM, fun z hz hp => ?_, fun y y0 yl => ?_⟩
    · rcases List.mem_append.mp hz with hz | hz
      · exact I.ok z hz hp
      · obtain rfl := List.mem_singleton.mp hz
        exact (c x).mp (by omega)
    · obtain ⟨z, hz, h⟩ := I.lt y y0 yl
      exact ⟨z, List.mem_append_left _ hz, h⟩
theorem Idx.flat {M a b x : Int} {ws : List (Int × Int)} (I : Idx M ws x) (hb : ¬ 0 < b) : Idx M (ws ++ [(a, b)]) x := by
  refine ⟨I.x0, I.xM, fun z hz hp => ?_, fun y y0 yl => ?_⟩
  · rcases List.mem_append.mp hz with hz | hz
    · exact I.ok z hz hp
    · obtain rfl := List.mem_singleton.mp hz
      exact absurd hp hb
  · obtain ⟨z, hz, h⟩ := I.lt y y0 yl
    exact ⟨z, List.mem_append_left _ hz, h⟩
theorem Idx.bad {M x : Int} {ws : List (Int × Int)} (I : Idx M ws x) (h : ∃ z ∈ ws, z.1 + x * z.2 < 0) : Least (Up ws) none := by
  intro y y0 u
  by_cases c : y < x
  · obtain ⟨z, hz, g⟩ := I.lt y y0 c
    have := u z hz
    omega
  · obtain ⟨z, hz, g⟩ := h
    have v := u z hz
    have nb : ¬ 0 < z.2 := fun p => by have := I.ok z hz p; omega
    have := Int.mul_le_mul_of_nonpos_right (show x ≤ y by omega) (show z.2 ≤ 0 by omega)
    omega
theorem Idx.good {M x : Int} {ws : List (Int × Int)} (I : Idx M ws x) (h : ¬ ∃ z ∈ ws, z.1 + x * z.2 < 0) : Least (Up ws) (some x) := by
  refine ⟨I.x0, fun z hz => ?_, fun y y0 yl u => ?_⟩
  · by_cases c : 0 ≤ z.1 + x * z.2
    · exact c
    · exact absurd ⟨z, hz, by omega⟩ h
  · obtain ⟨z, hz, g⟩ := I.lt y y0 yl
    have := u z hz
    omega
/-! ### the lines of two painters -/
def fbLines (d1 d2 f st j0 o : Int) (l cnt : Option Int) (fl : Bool) : List (Int × Int) :=
  [((if fl = true then d1 + f - d2 - j0 else d1 + f - d2 - j0 - 1), st - o)] ++ cnt.toList.map (fun c => (c - 1 - j0, -o)) ++ l.toList.map (fun m => (m - f, -st))
theorem Comm.iff {p1 s1 p2 s2 f st : Int} {l : Option Int} (C : Comm p1 s1 p2 s2 (some (f, l, st))) (n : Int) (n0 : 0 ≤ n) : On p2 s2 (p1 + n * s1) ↔ f ≤ n ∧ (∀ m, l = some m → n ≤ m) ∧ st ∣ n - f := by
  cases C with
  | inf h1 h2 h3 h4 h5 => rw [h5 n n0]; exact ⟨fun z => ⟨z.1, fun m e => (by cases e), z.2⟩, fun z => ⟨z.1, z.2.2⟩⟩
  | fin h1 h2 h3 h4 h5 h6 h7 => rw [h7 n n0]; exact ⟨fun z => ⟨z.1, fun m e => by cases e; exact z.2.1, z.2.2⟩, fun z => ⟨z.1, z.2.1 _ rfl, z.2.2⟩⟩
theorem Comm.pos {p1 s1 p2 s2 f st : Int} {l : Option Int} (C : Comm p1 s1 p2 s2 (some (f, l, st))) : 0 ≤ f ∧ 0 < st ∧ (∀ m, l = some m → f ≤ m) ∧ Steps s1 s2 st := by
  cases C with
  | inf h1 h2 h3 h4 h5 => exact ⟨h3, h2.1, fun m e => (by cases e), h2⟩
  | fin h1 h2 h3 h4 h5 h6 h7 => exact ⟨h3, h2.1, fun m e => (by cases e; exact h4), h2⟩
section
variable {p1 d1 s1 p2 d2 s2 f st j0 o : Int} {l cnt : Option Int} {fl : Bool}
theorem fb_at (h2 : s2 ≠ 0) (C : Comm p1 s1 p2 s2 (some (f, l, st))) (hj : j0 * s2 = p1 + f * s1 - p2) (ho : o * s2 = st * s1) (x : Int) (x0 : 0 ≤ x) :
    Blk p1 d1 s1 p2 d2 s2 cnt fl (f + x * st) ↔ Up (fbLines d1 d2 f st j0 o l cnt fl) x := by
  obtain ⟨f0, stp, fm, S⟩ := C.pos
  have xs := Int.mul_nonneg x0 (show 0 ≤ st by omega)
  have ej : p1 + (f + x * st) * s1 = p2 + (j0 + x * o) * s2 := by grind
  have uj : ∀ j : Int, p1 + (f + x * st) * s1 = p2 + j * s2 → j = j0 + x * o := fun j h => Int.eq_of_mul_eq_mul_right h2 (by rw [ej] at h; omega)
  have e1 : x * (st - o) = x * st - x * o := Int.mul_sub x st o
  have e2 : x * (-o) = -(x * o) := Int.mul_neg x o
  have e3 : x * (-st) = -(x * st) := Int.mul_neg x st
  have iff := C.iff (f + x * st) (by omega)
  have dv : st ∣ f + x * st - f := ⟨x, by rw [Int.mul_comm]; omega⟩
  unfold Up fbLines
  constructor
  · rintro ⟨j, j0', e, hc, hd⟩ z hz
    obtain rfl := uj j e
    have lm := (iff.mp ⟨_, j0', e⟩).2.1
    rw [List.mem_append, List.mem_append] at hz
    rcases hz with (hz | hz) | hz
    · obtain rfl := List.mem_singleton.mp hz
      show 0 ≤ (if fl = true then d1 + f - d2 - j0 else d1 + f - d2 - j0 - 1) + x * (st - o)
      rw [e1]
      split
      · omega
      · rcases hd with hd | ⟨hd, _⟩
        · omega
        · contradiction
    · obtain ⟨c, hc', rfl⟩ := List.mem_map.mp hz
      have := hc c (Option.mem_toList.mp hc')
      show 0 ≤ c - 1 - j0 + x * (-o)
      omega
    · obtain ⟨m, hm, rfl⟩ := List.mem_map.mp hz
      have := lm m (Option.mem_toList.mp hm)
      show 0 ≤ m - f + x * (-st)
      omega
  · intro h
    have h0 := h _ (List.mem_append_left _ (List.mem_append_left _ (List.mem_singleton.mpr rfl)))
    have h0 : 0 ≤ (if fl = true then d1 + f - d2 - j0 else d1 + f - d2 - j0 - 1) + x * (st - o) := h0
    have lm : ∀ m, l = some m → f + x * st ≤ m := fun m e => by
      have := h (m - f, -st) (List.mem_append_right _ (List.mem_map.mpr ⟨m, Option.mem_toList.mpr e, rfl⟩))
      have : 0 ≤ m - f + x * (-st) := this
      omega
    obtain ⟨j, jn, ejj⟩ := iff.mpr ⟨by omega, lm, dv⟩
    obtain rfl := uj j ejj
    refine ⟨_, jn, ej, fun c e => ?_, ?_⟩
    · have := h (c - 1 - j0, -o) (List.mem_append_left _ (List.mem_append_right _ (List.mem_map.mpr ⟨c, Option.mem_toList.mpr e, rfl⟩)))
      have : 0 ≤ c - 1 - j0 + x * (-o) := this
      omega
    · rw [e1] at h0
      by_cases c : fl = true
      · rw [if_pos c] at h0
        by_cases y : d2 + (j0 + x * o) < d1 + (f + x * st)
        · exact .inl y
        · exact .inr ⟨c, by omega⟩
      · rw [if_neg c] at h0
        exact .inl (by omega)
theorem Blk.on {n : Int} (h : Blk p1 d1 s1 p2 d2 s2 cnt fl n) : On p2 s2 (p1 + n * s1) := let ⟨j, a, b, _⟩ := h; ⟨j, a, b⟩
theorem fb_least (h2 : s2 ≠ 0) (C : Comm p1 s1 p2 s2 (some (f, l, st))) (hj : j0 * s2 = p1 + f * s1 - p2) (ho : o * s2 = st * s1) : ∀ {rx : Option Int}, Least (Up (fbLines d1 d2 f st j0 o l cnt fl)) rx →
    Least (Blk p1 d1 s1 p2 d2 s2 cnt fl) (rx.map fun x => f + x * st) := by
  obtain ⟨f0, stp, fm, S⟩ := C.pos
  have at_ : ∀ n, 0 ≤ n → Blk p1 d1 s1 p2 d2 s2 cnt fl n → ∃ x, 0 ≤ x ∧ n = f + x * st ∧ Up (fbLines d1 d2 f st j0 o l cnt fl) x := fun n n0 h => by
    obtain ⟨a, b, x, hx⟩ := (C.iff n n0).mp h.on
    have x0 : 0 ≤ x := by
      by_cases c : 0 ≤ x
      · exact c
      · have := Int.mul_le_mul_of_nonneg_left (show x ≤ -1 by omega) (show 0 ≤ st by omega)
        omega
    obtain rfl : n = f + x * st := by rw [Int.mul_comm] at hx; omega
    exact ⟨x, x0, rfl, (fb_at h2 C hj ho x x0).mp h⟩
  intro rx hx
  cases rx with
  | none => exact fun n n0 h => let ⟨x, x0, _, u⟩ := at_ n n0 h; hx x x0 u
  | some x =>
    obtain ⟨x0, u, lt⟩ := hx
    have := Int.mul_nonneg x0 (show 0 ≤ st by omega)
    refine ⟨show 0 ≤ f + x * st by omega, (fb_at h2 C hj ho x x0).mpr u, fun m m0 ml h => ?_⟩
    obtain ⟨y, y0, rfl, v⟩ := at_ m m0 h
    have ml : f + y * st < f + x * st := ml
    refine lt y y0 ?_ v
    by_cases c : y < x
    · exact c
    · have := Int.mul_le_mul_of_nonneg_right (show x ≤ y by omega) (show 0 ≤ st by omega)
      omega
theorem fb_none (C : Comm p1 s1 p2 s2 none) : Least (Blk p1 d1 s1 p2 d2 s2 cnt fl) none := by
  cases C with
  | no h => exact fun n n0 b => h n n0 b.on
end
end Ur
/-! UrB: first blocks by bounds from below and from above. -/
namespace Ur
/-- (factor, free): no line is below nought at x -/
def UpF (ls : List (Int × Int)) (x : Int) : Prop := ∀ z ∈ ls, 0 ≤ z.2 + x * z.1
theorem UpF.snoc {ws : List (Int × Int)} {a b x : Int} : UpF (ws ++ [(a, b)]) x ↔ UpF ws x ∧ 0 ≤ b + x * a := by
  constructor
  · exact fun h => ⟨fun z hz => h z (List.mem_append_left _ hz), h (a, b) (List.mem_append_right _ (List.mem_singleton.mpr rfl))⟩
  · rintro ⟨h, g⟩ z hz
    rcases List.mem_append.mp hz with hz | hz
    · exact h z hz
    · obtain rfl := List.mem_singleton.mp hz
      exact g
structure LH (M : Int) (ws : List (Int × Int)) (low : Int) (high : Option Int) : Prop where
  l0 : 0 ≤ low
  lM : low ≤ M
  hM : ∀ h, high = some h → -M ≤ h ∧ h ≤ M
  iff : ∀ x, 0 ≤ x → (UpF ws x ↔ low ≤ x ∧ ∀ h, high = some h → x ≤ h)
theorem LH.start {M : Int} (h : 0 ≤ M) : LH M [] 0 none := ⟨Int.le_refl 0, h, fun h e => (by cases e), fun x x0 => ⟨fun _ => ⟨x0, fun h e => (by cases e)⟩, fun _ z hz => absurd hz List.not_mem_nil⟩⟩
theorem LH.zero {M low b : Int} {high : Option Int} {ws : List (Int × Int)} (I : LH M ws low high) (hb : 0 ≤ b) : LH M (ws ++ [(0, b)]) low high :=
  ⟨I.l0, I.lM, I.hM, fun x x0 => by rw [UpF.snoc, I.iff x x0]; exact ⟨fun h => h.1, fun h => ⟨h, by omega⟩⟩⟩
theorem div_bd {a b M : Int} (ha : 0 < a) (hM : -M ≤ b ∧ b ≤ M) : -M ≤ b / a ∧ b / a ≤ M := by
  have z : (b / a).natAbs ≤ b.natAbs := Int.natAbs_ediv_le_natAbs b a
  omega
theorem LH.pos {M low a b : Int} {high : Option Int} {ws : List (Int × Int)} (I : LH M ws low high) (ha : 0 < a) (hM : -M ≤ b ∧ b ≤ M) : LH M (ws ++ [(a, b)]) (if 0 - b / a > low then 0 - b / a else low) high := by
  have l0 := I.l0
  have lM := I.lM
  have bd := div_bd ha hM
  refine ⟨by split <;> omega, by split <;> omega, I.hM, fun x x0 => ?_⟩
  rw [UpF.snoc, I.iff x x0, ← ceil_iff ha x]
  constructor
  · rintro ⟨⟨h1, h2⟩, h3⟩
    exact ⟨by split <;> omega, h2⟩
  · rintro ⟨h1, h2⟩
    split at h1 <;> exact ⟨⟨by omega, h2⟩, by omega⟩
theorem floor_iff {a b : Int} (ha : a < 0) (x : Int) : x ≤ b / (0 - a) ↔ 0 ≤ b + x * a := by
  rw [Int.le_ediv_iff_mul_le (by omega), Int.mul_sub]
  omega
theorem LH.neg {M low a b : Int} {high : Option Int} {ws : List (Int × Int)} (I : LH M ws low high) (ha : a < 0) (hM : -M ≤ b ∧ b ≤ M) (hh : ∀ h, high = some h → b / (0 - a) < h) : LH M (ws ++ [(a, b)]) low (some (b / (0 - a))) := by
  refine ⟨I.l0, I.lM, fun h e => (by cases e; exact div_bd (by omega) hM), fun x x0 => ?_⟩
  rw [UpF.snoc, I.iff x x0, ← floor_iff ha x]
  constructor
  · rintro ⟨⟨h1, h2⟩, h3⟩
    exact ⟨h1, fun h e => by cases e; exact h3⟩
  · rintro ⟨h1, h2⟩
    have := h2 _ rfl
    exact ⟨⟨h1, fun h e => by have := hh h e; omega⟩, this⟩
theorem LH.neg2 {M low a b h : Int} {ws : List (Int × Int)} (I : LH M ws low (some h)) (ha : a < 0) (hh : ¬ b / (0 - a) < h) : LH M (ws ++ [(a, b)]) low (some h) := by
  refine ⟨I.l0, I.lM, I.hM, fun x x0 => ?_⟩
  rw [UpF.snoc, I.iff x x0, ← floor_iff ha x]
  constructor
  · exact fun h => h.1
  · rintro ⟨h1, h2⟩
    have := h2 _ rfl
    exact ⟨⟨h1, h2⟩, by omega⟩
theorem upF_no {ls : List (Int × Int)} {b : Int} (hz : (0, b) ∈ ls) (h : b < 0) : Least (UpF ls) none := fun x x0 u => by
  have := u _ hz
  have : 0 ≤ b + x * 0 := this
  omega
theorem LH.done {M low : Int} {high : Option Int} {ls : List (Int × Int)} (I : LH M ls low high) (h : ∀ h, high = some h → low ≤ h) : Least (UpF ls) (some low) :=
  ⟨I.l0, (I.iff low I.l0).mpr ⟨Int.le_refl _, h⟩, fun m m0 ml u => by have := ((I.iff m m0).mp u).1; omega⟩
theorem LH.fail {M low h : Int} {ls : List (Int × Int)} (I : LH M ls low (some h)) (g : ¬ low ≤ h) : Least (UpF ls) none := fun m m0 u => by
  obtain ⟨a, b⟩ := (I.iff m m0).mp u
  have := b h rfl
  omega
def bkLines (d1 d2 k st j sp : Int) (cnt : Option Int) (fl : Bool) : List (Int × Int) :=
  [(sp, j), (st - sp, d1 + k - d2 - j - (if (!fl) = true then 1 else 0))] ++ cnt.toList.map (fun c => (0 - sp, c - 1 - j))
section
variable {p1 d1 s1 p2 d2 s2 d st k j sp : Int} {cnt : Option Int} {fl : Bool}
theorem bk_at (h2 : s2 ≠ 0) (hj : j * s2 = k * s1 - (p2 - p1)) (hs : sp * s2 = s1 * st) (x : Int) : Blk p1 d1 s1 p2 d2 s2 cnt fl (k + x * st) ↔ UpF (bkLines d1 d2 k st j sp cnt fl) x := by
  have ej : p1 + (k + x * st) * s1 = p2 + (j + x * sp) * s2 := by grind
  have uj : ∀ y : Int, p1 + (k + x * st) * s1 = p2 + y * s2 → y = j + x * sp := fun y h => Int.eq_of_mul_eq_mul_right h2 (by rw [ej] at h; omega)
  have e1 : x * (st - sp) = x * st - x * sp := Int.mul_sub x st sp
  have e2 : x * (0 - sp) = 0 - x * sp := by rw [Int.mul_sub, Int.mul_zero]
  unfold UpF bkLines
  constructor
  · rintro ⟨y, y0, e, hc, hd⟩ z hz
    obtain rfl := uj y e
    rcases List.mem_append.mp hz with hz | hz
    · rcases List.mem_cons.mp hz with rfl | hz
      · exact y0
      · obtain rfl := List.mem_singleton.mp hz
        show 0 ≤ d1 + k - d2 - j - (if (!fl) = true then 1 else 0) + x * (st - sp)
        rw [e1]
        cases fl with
        | true =>
          rw [if_neg (by decide)]
          omega
        | false =>
          rw [if_pos (by decide)]
          rcases hd with hd | ⟨hd, _⟩
          · omega
          · cases hd
    · obtain ⟨c, hc', rfl⟩ := List.mem_map.mp hz
      have := hc c (Option.mem_toList.mp hc')
      show 0 ≤ c - 1 - j + x * (0 - sp)
      omega
  · intro h
    have h0 : 0 ≤ j + x * sp := h (sp, j) (List.mem_append_left _ List.mem_cons_self)
    have h1 : 0 ≤ d1 + k - d2 - j - (if (!fl) = true then 1 else 0) + x * (st - sp) := h (st - sp, _) (List.mem_append_left _ (List.mem_cons_of_mem _ List.mem_cons_self))
    rw [e1] at h1
    refine ⟨_, h0, ej, fun c e => ?_, ?_⟩
    · have : 0 ≤ c - 1 - j + x * (0 - sp) := h (0 - sp, c - 1 - j) (List.mem_append_right _ (List.mem_map.mpr ⟨c, Option.mem_toList.mpr e, rfl⟩))
      omega
    · cases fl with
      | true =>
        rw [if_neg (by decide)] at h1
        by_cases y : d2 + (j + x * sp) < d1 + (k + x * st)
        · exact .inl y
        · exact .inr ⟨rfl, by omega⟩
      | false =>
        rw [if_pos (by decide)] at h1
        exact .inl (by omega)
theorem bk_least (h2 : s2 ≠ 0) (M : Meet s1 s2 (p2 - p1) d st k) (hj : j * s2 = k * s1 - (p2 - p1)) (hs : sp * s2 = s1 * st) : ∀ {rx : Option Int}, Least (UpF (bkLines d1 d2 k st j sp cnt fl)) rx →
    Least (Blk p1 d1 s1 p2 d2 s2 cnt fl) (rx.map fun x => k + x * st) := by
  have stp := M.st.1
  have at_ : ∀ n, 0 ≤ n → Blk p1 d1 s1 p2 d2 s2 cnt fl n → ∃ x, 0 ≤ x ∧ n = k + x * st ∧ UpF (bkLines d1 d2 k st j sp cnt fl) x := fun n n0 h => by
    obtain ⟨x, hx⟩ := on_dvd h2 M h.on
    obtain rfl : n = k + x * st := by rw [Int.mul_comm] at hx; omega
    exact ⟨x, (ge_x stp M.r0 M.r1 x).mp n0, rfl, (bk_at h2 hj hs x).mp h⟩
  intro rx hx
  cases rx with
  | none => exact fun n n0 h => let ⟨x, x0, _, u⟩ := at_ n n0 h; hx x x0 u
  | some x =>
    obtain ⟨x0, u, lt⟩ := hx
    refine ⟨(ge_x stp M.r0 M.r1 x).mpr x0, (bk_at h2 hj hs x).mpr u, fun m m0 ml h => ?_⟩
    obtain ⟨y, y0, rfl, v⟩ := at_ m m0 h
    have ml : k + y * st < k + x * st := ml
    refine lt y y0 ?_ v
    by_cases c : y < x
    · exact c
    · have := Int.mul_le_mul_of_nonneg_right (show x ≤ y by omega) (show 0 ≤ st by omega)
      omega
theorem bk_none (C : CommW p1 s1 p2 s2 none) : Least (Blk p1 d1 s1 p2 d2 s2 cnt fl) none := by
  cases C with
  | no h => exact fun n n0 b => h n n0 b.on
end
end Ur
/-! UrP: the numbers at which several lines are not below nought; the common numbers within bounds. -/
namespace Ur
open PySem PySem.Spec PyProof.Rows L2
/-- at most, if there is a bound -/
def Le (b : Option Int) (x : Int) : Prop := ∀ m, b = some m → x ≤ m
/-- from a on, up to b -/
structure Spn (M : Int) (ws : List (Int × Int)) (a : Int) (b : Option Int) : Prop where
  a0 : 0 ≤ a
  aM : a ≤ M
  iff : ∀ x, 0 ≤ x → (Up ws x ↔ a ≤ x ∧ Le b x)
theorem Up.snoc {ws : List (Int × Int)} {s k x : Int} : Up (ws ++ [(s, k)]) x ↔ Up ws x ∧ 0 ≤ s + x * k := by
  unfold Up
  constructor
  · exact fun h => ⟨fun z hz => h z (List.mem_append_left _ hz), h (s, k) (List.mem_append_right _ (List.mem_singleton.mpr rfl))⟩
  · rintro ⟨h, g⟩ z hz
    rcases List.mem_append.mp hz with hz | hz
    · exact h z hz
    · obtain rfl := List.mem_singleton.mp hz
      exact g
theorem Spn.start {M : Int} (h : 0 ≤ M) : Spn M [] 0 none := ⟨Int.le_refl 0, h, fun x x0 => ⟨fun _ => ⟨x0, fun m e => (by cases e)⟩, fun _ z hz => absurd hz List.not_mem_nil⟩⟩
theorem Spn.pos {M s k a : Int} {b : Option Int} {ws : List (Int × Int)} (I : Spn M ws a b) (hk : 0 < k) (hM : -M ≤ s) : Spn M (ws ++ [(s, k)]) (max a (-(s / k))) b := by
  have q1 : -(s / k) ≤ M := by
    rw [ceil_iff hk]
    have := Int.mul_le_mul_of_nonneg_left (show 1 ≤ k by omega) (show 0 ≤ M by have := I.a0; have := I.aM; omega)
    omega
  have a0 := I.a0
  have aM := I.aM
  refine ⟨by omega, by omega, fun x x0 => ?_⟩
  rw [Up.snoc, I.iff x x0, ← ceil_iff hk]
  constructor
  · rintro ⟨⟨h1, h2⟩, h3⟩
    exact ⟨by omega, h2⟩
  · rintro ⟨h1, h2⟩
    exact ⟨⟨by omega, h2⟩, by omega⟩
theorem Spn.neg {M s k a : Int} {b : Option Int} {ws : List (Int × Int)} (I : Spn M ws a b) (hk : k < 0) : Spn M (ws ++ [(s, k)]) a (some (match b with | none => s / (-k) | some m => min m (s / (-k)))) := by
  refine ⟨I.a0, I.aM, fun x x0 => ?_⟩
  have e := floor_iff (a := k) (b := s) hk x
  rw [show (0 : Int) - k = -k by omega] at e
  rw [Up.snoc, I.iff x x0, ← e]
  cases b with
  | none =>
    constructor
    · rintro ⟨⟨h1, h2⟩, h3⟩
      exact ⟨h1, fun m em => by cases em; exact h3⟩
    · rintro ⟨h1, h2⟩
      exact ⟨⟨h1, fun m em => by cases em⟩, h2 _ rfl⟩
  | some m =>
    constructor
    · rintro ⟨⟨h1, h2⟩, h3⟩
      have := h2 m rfl
      exact ⟨h1, fun n en => by have en : min m (s / (-k)) = n := Option.some.inj en; omega⟩
    · rintro ⟨h1, h2⟩
      have h2 : x ≤ min m (s / (-k)) := h2 _ rfl
      exact ⟨⟨h1, fun n en => by have en := Option.some.inj en; omega⟩, by omega⟩
theorem Spn.flat {M s a : Int} {b : Option Int} {ws : List (Int × Int)} (I : Spn M ws a b) (hs : 0 ≤ s) : Spn M (ws ++ [(s, 0)]) a b :=
  ⟨I.a0, I.aM, fun x x0 => by rw [Up.snoc, I.iff x x0, Int.mul_zero]; exact ⟨fun h => h.1, fun h => ⟨h, by omega⟩⟩⟩
/-- what is answered of lines -/
def SpnOf (ls : List (Int × Int)) : Option (Int × Option Int) → Prop
  | none => ∀ x, 0 ≤ x → ¬ Up ls x
  | some (a, b) => 0 ≤ a ∧ (∀ m, b = some m → a ≤ m) ∧ ∀ x, 0 ≤ x → (Up ls x ↔ a ≤ x ∧ Le b x)
theorem spn_zero {ls : List (Int × Int)} {s : Int} (h : (s, 0) ∈ ls) (hs : s < 0) : SpnOf ls none := fun x x0 u => by
  have := u _ h
  rw [Int.mul_zero] at this
  omega
theorem Spn.done {M a : Int} {b : Option Int} {ws : List (Int × Int)} (I : Spn M ws a b) (h : ∀ m, b = some m → a ≤ m) : SpnOf ws (some (a, b)) := ⟨I.a0, h, I.iff⟩
theorem Spn.fail {M a m : Int} {ws : List (Int × Int)} (I : Spn M ws a (some m)) (h : m < a) : SpnOf ws none := fun x x0 u => by
  obtain ⟨h1, h2⟩ := (I.iff x x0).mp u
  have := h2 m rfl
  omega
/-! ### two painters -/
/-- of the common posts: among the first c1 of one, the first c2 of the other, the other there L days before -/
def CrP (p1 d1 s1 p2 d2 s2 : Int) (c1 c2 L : Option Int) (n : Int) : Prop := ∃ j : Int, 0 ≤ j ∧ p1 + n * s1 = p2 + j * s2 ∧ (∀ c, c1 = some c → n < c) ∧ (∀ c, c2 = some c → j < c) ∧ (∀ k, L = some k → d2 + j + k ≤ d1 + n)
def CrR (p1 d1 s1 p2 d2 s2 : Int) (c1 c2 L : Option Int) : Option (Int × Int × Option Int) → Prop
  | none => ∀ n, 0 ≤ n → ¬ CrP p1 d1 s1 p2 d2 s2 c1 c2 L n
  | some (f, st, m) => 0 ≤ f ∧ 0 < st ∧ (∀ k, m = some k → 1 ≤ k) ∧ ∀ n, 0 ≤ n → (CrP p1 d1 s1 p2 d2 s2 c1 c2 L n ↔ ∃ k, 0 ≤ k ∧ n = f + k * st ∧ ∀ mm, m = some mm → k < mm)
def crLines (d1 d2 f st j0 o : Int) (l c1 c2 L : Option Int) : List (Int × Int) :=
  l.toList.map (fun m => (m - f, -st)) ++ c1.toList.map (fun c => (c - 1 - f, -st)) ++ c2.toList.map (fun c => (c - 1 - j0, -o)) ++ L.toList.map (fun k => (d1 + f - d2 - j0 - k, st - o))
theorem mem_opt {α β : Type} {o : Option α} {g : α → β} {P : β → Prop} : (∀ z ∈ o.toList.map g, P z) ↔ ∀ m, o = some m → P (g m) := by
  cases o with
  | none => exact ⟨fun _ m e => (by cases e), fun _ z hz => absurd hz List.not_mem_nil⟩
  | some a => exact ⟨fun h m e => (by cases e; exact h _ (List.mem_singleton.mpr rfl)), fun h z hz => by obtain rfl := List.mem_singleton.mp hz; exact h a rfl⟩
theorem up_app {xs ys : List (Int × Int)} {x : Int} : Up (xs ++ ys) x ↔ Up xs x ∧ Up ys x := by
  unfold Up
  exact ⟨fun h => ⟨fun z hz => h z (List.mem_append_left _ hz), fun z hz => h z (List.mem_append_right _ hz)⟩, fun ⟨h, g⟩ z hz => (List.mem_append.mp hz).elim (h z) (g z)⟩
theorem up_opt {o : Option Int} {g : Int → Int × Int} {x : Int} : Up (o.toList.map g) x ↔ ∀ m, o = some m → 0 ≤ (g m).1 + x * (g m).2 := mem_opt
section
variable {p1 d1 s1 p2 d2 s2 f st j0 o : Int} {l c1 c2 L : Option Int}
theorem cr_at (h2 : s2 ≠ 0) (C : Comm p1 s1 p2 s2 (some (f, l, st))) (hj : j0 * s2 = p1 + f * s1 - p2) (ho : o * s2 = st * s1) (x : Int) (x0 : 0 ≤ x) :
    CrP p1 d1 s1 p2 d2 s2 c1 c2 L (f + x * st) ↔ Up (crLines d1 d2 f st j0 o l c1 c2 L) x := by
  obtain ⟨f0, stp, fm, S⟩ := C.pos
  have xs := Int.mul_nonneg x0 (show 0 ≤ st by omega)
  have ej : p1 + (f + x * st) * s1 = p2 + (j0 + x * o) * s2 := by grind
  have uj : ∀ j : Int, p1 + (f + x * st) * s1 = p2 + j * s2 → j = j0 + x * o := fun j h => Int.eq_of_mul_eq_mul_right h2 (by rw [ej] at h; omega)
  have e1 : x * (st - o) = x * st - x * o := Int.mul_sub x st o
  have e2 : x * (-o) = -(x * o) := Int.mul_neg x o
  have e3 : x * (-st) = -(x * st) := Int.mul_neg x st
  have iff := C.iff (f + x * st) (by omega)
  have dv : st ∣ f + x * st - f := ⟨x, by rw [Int.mul_comm]; omega⟩
  unfold crLines
  rw [up_app, up_app, up_app, up_opt, up_opt, up_opt, up_opt]
  constructor
  · rintro ⟨j, jn, e, h1, h2', h3⟩
    obtain rfl := uj j e
    have lm := (iff.mp ⟨_, jn, e⟩).2.1
    refine ⟨⟨⟨fun m em => ?_, fun c ec => ?_⟩, fun c ec => ?_⟩, fun k ek => ?_⟩
    · have := lm m em
      show 0 ≤ m - f + x * (-st)
      omega
    · have := h1 c ec
      show 0 ≤ c - 1 - f + x * (-st)
      omega
    · have := h2' c ec
      show 0 ≤ c - 1 - j0 + x * (-o)
      omega
    · have := h3 k ek
      show 0 ≤ d1 + f - d2 - j0 - k + x * (st - o)
      omega
  · rintro ⟨⟨⟨g0, g1⟩, g2⟩, g3⟩
    have lm : ∀ m, l = some m → f + x * st ≤ m := fun m e => by
      have : 0 ≤ m - f + x * (-st) := g0 m e
      omega
    obtain ⟨j, jn, e⟩ := iff.mpr ⟨by omega, lm, dv⟩
    obtain rfl := uj j e
    refine ⟨_, jn, ej, fun c ec => ?_, fun c ec => ?_, fun k ek => ?_⟩
    · have : 0 ≤ c - 1 - f + x * (-st) := g1 c ec
      omega
    · have : 0 ≤ c - 1 - j0 + x * (-o) := g2 c ec
      omega
    · have : 0 ≤ d1 + f - d2 - j0 - k + x * (st - o) := g3 k ek
      omega
theorem cr_span (h2 : s2 ≠ 0) (C : Comm p1 s1 p2 s2 (some (f, l, st))) (hj : j0 * s2 = p1 + f * s1 - p2) (ho : o * s2 = st * s1) : ∀ {r : Option (Int × Option Int)}, SpnOf (crLines d1 d2 f st j0 o l c1 c2 L) r →
    CrR p1 d1 s1 p2 d2 s2 c1 c2 L (r.map fun z => (f + z.1 * st, st, z.2.map fun m => m - z.1 + 1)) := by
  obtain ⟨f0, stp, fm, S⟩ := C.pos
  have at_ : ∀ n, 0 ≤ n → CrP p1 d1 s1 p2 d2 s2 c1 c2 L n → ∃ x, 0 ≤ x ∧ n = f + x * st ∧ Up (crLines d1 d2 f st j0 o l c1 c2 L) x := fun n n0 h => by
    obtain ⟨j, jn, e, _⟩ := id h
    obtain ⟨a, b, x, hx⟩ := (C.iff n n0).mp ⟨j, jn, e⟩
    have x0 : 0 ≤ x := by
      by_cases c : 0 ≤ x
      · exact c
      · have := Int.mul_le_mul_of_nonneg_left (show x ≤ -1 by omega) (show 0 ≤ st by omega)
        omega
    obtain rfl : n = f + x * st := by rw [Int.mul_comm] at hx; omega
    exact ⟨x, x0, rfl, (cr_at h2 C hj ho x x0).mp h⟩
  intro r hr
  cases r with
  | none => exact fun n n0 h => let ⟨x, x0, _, u⟩ := at_ n n0 h; hr x x0 u
  | some z =>
    obtain ⟨a, b⟩ := z
    obtain ⟨a0, ab, iff⟩ := hr
    have as := Int.mul_nonneg a0 (show 0 ≤ st by omega)
    refine ⟨show 0 ≤ f + a * st by omega, stp, fun k e => ?_, fun n n0 => ⟨fun h => ?_, ?_⟩⟩
    · cases b with
      | none => cases e
      | some m =>
        have e : m - a + 1 = k := Option.some.inj e
        have := ab m rfl
        omega
    · obtain ⟨x, x0, rfl, u⟩ := at_ n n0 h
      obtain ⟨g1, g2⟩ := (iff x x0).mp u
      refine ⟨x - a, by omega, ?_, fun mm e => ?_⟩
      · show f + x * st = f + a * st + (x - a) * st
        rw [Int.sub_mul]
        omega
      · cases b with
        | none => cases e
        | some m =>
          have e : m - a + 1 = mm := Option.some.inj e
          have := g2 m rfl
          omega
    · rintro ⟨k, k0, e, hm⟩
      have e : n = f + (a + k) * st := by rw [Int.add_mul]; have : n = f + a * st + k * st := e; omega
      subst e
      refine (cr_at h2 C hj ho (a + k) (by omega)).mpr ((iff (a + k) (by omega)).mpr ⟨by omega, fun m em => ?_⟩)
      subst em
      have : k < m - a + 1 := hm _ rfl
      omega
theorem cr_none (C : Comm p1 s1 p2 s2 none) : CrR p1 d1 s1 p2 d2 s2 c1 c2 L none := by
  cases C with
  | no h => exact fun n n0 b => let ⟨j, a, e, _⟩ := b; h n n0 ⟨j, a, e⟩
/-- the first block out of it -/
theorem cr_block {cnt : Option Int} {fl : Bool} : ∀ {r : Option (Int × Int × Option Int)}, CrR p1 d1 s1 p2 d2 s2 none cnt (some (if fl = true then 0 else 1)) r → Least (Blk p1 d1 s1 p2 d2 s2 cnt fl) (r.map fun z => z.1) := by
  have key : ∀ n, CrP p1 d1 s1 p2 d2 s2 none cnt (some (if fl = true then 0 else 1)) n ↔ Blk p1 d1 s1 p2 d2 s2 cnt fl n := fun n => by
    constructor
    · rintro ⟨j, jn, e, _, h2, h3⟩
      refine ⟨j, jn, e, h2, ?_⟩
      have h3 := h3 _ rfl
      cases fl with
      | true =>
        have h3 : d2 + j + 0 ≤ d1 + n := h3
        by_cases c : d2 + j < d1 + n
        · exact .inl c
        · exact .inr ⟨rfl, by omega⟩
      | false =>
        have h3 : d2 + j + 1 ≤ d1 + n := h3
        exact .inl (by omega)
    · rintro ⟨j, jn, e, h2, h3⟩
      refine ⟨j, jn, e, (fun c ec => by cases ec), h2, fun k ek => ?_⟩
      have ek := Option.some.inj ek
      subst ek
      rcases h3 with h3 | ⟨rfl, h3⟩
      · split <;> omega
      · show d2 + j + 0 ≤ d1 + n
        omega
  intro r hr
  cases r with
  | none => exact fun n n0 h => hr n n0 ((key n).mpr h)
  | some z =>
    obtain ⟨f, st, m⟩ := z
    obtain ⟨f0, stp, m1, iff⟩ := hr
    refine ⟨f0, (key f).mp ((iff f f0).mpr ⟨0, Int.le_refl 0, by omega, fun mm e => by have := m1 mm e; omega⟩), fun n n0 nl h => ?_⟩
    obtain ⟨k, k0, e, _⟩ := (iff n n0).mp ((key n).mpr h)
    have := Int.mul_nonneg k0 (show 0 ≤ st by omega)
    have nl : n < f := nl
    omega
end
end Ur
/-! K4B: picks of whole numbers, rows. -/
namespace Ur
open PySem PySem.Spec PyProof.Rows L2
/-- a pick out of whole numbers -/
def spPickI (K : PySem.W.Frag) : Sp := fun vs H Q _ => ∃ (p l a : Addr) (ns : List Int) (n : Nat), vs = [.ref p, .ref a] ∧ Pen H p l n ∧ n ≤ 2 ^ 39 ∧ SqL K H a (ns.map V.int) ∧ 1 ≤ ns.length ∧ ns.length ≤ 1000000 ∧
  ∀ i H', i ∈ ns → Pen H' p l (n + 12) → Keep p H H' → Q (.int i) H'
/-- one painter's row: a tuple of four -/
def Row (H : Hp) (t : Addr) (R : Int → Int → Int → Prop) : Prop := ∃ nm d p s, H t = some (.tup [.str nm, .int d, .int p, .int s]) ∧ NameOk nm ∧ R d p s
theorem Row.same {H H' : Hp} {t : Addr} {R : Int → Int → Int → Prop} (r : Row H t R) (h : Same H H') : Row H' t R := let ⟨nm, d, p, s, e, z⟩ := r; ⟨nm, d, p, s, h _ _ e, z⟩
theorem Row.keep {H H' : Hp} {t p : Addr} {R : Int → Int → Int → Prop} {kvs : List (Key × V)} (r : Row H t R) (k : Keep p H H') (hp : H p = some (.dK kvs)) : Row H' t R :=
  let ⟨nm, d, q, s, e, z⟩ := r; ⟨nm, d, q, s, k _ _ e (ne_of e hp (by intro z; cases z)), z⟩
theorem Row.updL {H : Hp} {t F : Addr} {R : Int → Int → Int → Prop} {xs ys : List V} (r : Row H t R) (hF : H F = some (.lst xs)) : Row (upd H F (.lst ys)) t R :=
  let ⟨nm, d, q, s, e, z⟩ := r; ⟨nm, d, q, s, by rw [upd_ne (ne_of e hF (by intro z; cases z))]; exact e, z⟩
theorem cut_mem {xs : List V} {lo hi : Option Int} {v : V} (h : v ∈ cutV xs lo hi) : v ∈ xs := List.mem_of_mem_drop (List.mem_of_mem_take h)
theorem cut_last {xs : List V} (h : 1 ≤ xs.length) : (cutV xs none (some (-1))).length = xs.length - 1 := by
  unfold cutV
  rw [HT.sIx_none, List.drop_zero, Nat.sub_zero, List.length_take]
  show min (if (-1 : Int) < 0 then (-1 + (xs.length : Int)).toNat else min (-1 : Int).toNat xs.length) xs.length = _
  rw [if_pos (by decide)]
  omega
theorem ix_last {n : Nat} (h : 1 ≤ n) : ixN n (-1) = some (n - 1) := by
  unfold ixN
  rw [if_neg (by decide), if_pos (by omega)]
  congr 1
  omega
theorem mem_set_or {α : Type} : ∀ {l : List α} {j : Nat} {a x : α}, x ∈ l.set j a → x = a ∨ x ∈ l := fun h => (List.mem_or_eq_of_mem_set h).elim Or.inr Or.inl
section
variable {P : Program} {w : World} {K : PySem.W.Frag} {mg : Str → Option Value} {base : Heap}
theorem ok_pickI (C : Cal P w K mg base 13 "_law_pick" P__law_pick (spPickL K)) : Cal P w K mg base 13 "_law_pick" P__law_pick (spPickI K) := by
  obtain ⟨f, fd, F, r⟩ := C
  refine ⟨f, fd, F.imp fun vs H Q E h => ?_, r⟩
  obtain ⟨p, l, a, ns, n, rfl, h1, h2, h3, h4, h5, q⟩ := h
  refine ⟨p, l, a, _, n, rfl, h1, h2, h3, by rw [List.length_map]; exact h4, by rw [List.length_map]; exact h5, fun v H' hv P' k' => ?_⟩
  obtain ⟨i, hi, rfl⟩ := List.mem_map.mp hv
  exact q i H' hi P' k'
end
theorem iteDT {c A B : Prop} [Decidable c] (hc : c) (h : A) : if decide c = true then A else B := by
  rw [decide_eq_true hc]
  exact iteT h
theorem iteDF {c A B : Prop} [Decidable c] (hc : ¬ c) (h : B) : if decide c = true then A else B := by
  rw [decide_eq_false hc]
  exact iteF h
theorem iteNN {c A B : Prop} [Decidable c] (hc : ¬ c) (h : A) : if (!decide c) = true then A else B := by
  rw [decide_eq_false hc]
  exact iteT h
theorem at_last {α : Type} (ws : List α) (x : α) : atI (ws ++ [x]) (-1) = some x := by
  unfold atI
  rw [ix_last (by rw [List.length_append]; exact Nat.le_add_left _ _), List.length_append]
  show (ws ++ [x])[ws.length + 1 - 1]? = some x
  rw [Nat.add_sub_cancel, List.getElem?_append_right (Nat.le_refl _), Nat.sub_self]
  rfl
end Ur
/-! KF: spans of lines, crossings, first blocks. -/
namespace Ur
open PySem PySem.Spec PyProof.Rows L2
abbrev s__span_of : Stmt := (topS 33)
abbrev N_sc__span_of : List Str := ["lines", "least", "most", "start", "slope", "end"]
abbrev P__span_of : List Str := ["lines"]
theorem sc__span_of : FnScope N_sc__span_of P__span_of (defScope s__span_of) := ⟨rfl, rfl, rfl, by decide +kernel, rfl, by decide +kernel, by decide +kernel⟩
/-- the span as the program hands it back -/
def SpV (H : Hp) (v : V) : Option (Int × Option Int) → Prop
  | none => v = .non
  | some (a, b) => ∃ t, v = .ref t ∧ H t = some (.tup [.int a, optV b])
def spSpan : Sp := fun vs H Q _ => ∃ (L : Addr) (zs : List (Addr × Int × Int)) (M : Int), vs = [.ref L] ∧ H L = some (.lst (zs.map fun z => V.ref z.1)) ∧ (∀ z ∈ zs, H z.1 = some (.tup [.int z.2.1, .int z.2.2])) ∧ zs.length ≤ 4 ∧ 0 ≤ M ∧
  (∀ z ∈ zs, -M ≤ z.2.1 ∧ -(10 ^ 40) ≤ z.2.2 ∧ z.2.2 ≤ 10 ^ 40) ∧ ∀ r v H', SpnOf (zs.map (·.2)) r → (∀ a b, r = some (a, b) → a ≤ M) → SpV H' v r → Same H H' → Q v H'
section
variable {P : Program} {w : World} {K : PySem.W.Frag} {mg : Str → Option Value} {base : Heap} {C : Addr}
set_option maxHeartbeats 16000000 in
theorem ok_span (D : Dfn K mg "_span_of" s__span_of P__span_of) (B : Blt mg) : Cal P w K mg base 1 "_span_of" P__span_of spSpan := by
  refine D.cal sc__span_of (fun vs H Q E h => ?_) fun f cdv A outer s H vs Q E hr h => ?_
  · obtain ⟨L, zs, M, rfl, _⟩ := h
    rfl
  obtain ⟨L, zs, M, rfl, hL, hz, lz, M0, bd, q⟩ := h
  refine ⟨_, (pss_cons (ps_asg (pe_tup (pa_cons pe_int (pa_cons pe_non pa_nil))) (pg_tup rfl (pgs_cons (pg_name (i := 1) sc__span_of.nd rfl (Or.inl rfl)) (pgs_cons (pg_name (i := 2) sc__span_of.nd rfl (Or.inl rfl)) pgs_nil)))) (pss_cons (ps_for PassesOwn.never rfl (pi_list (pv 0)) (pg_tup rfl (pgs_cons (pg_name (i := 3) sc__span_of.nd rfl (Or.inl rfl)) (pgs_cons (pg_name (i := 4) sc__span_of.nd rfl (Or.inl rfl)) pgs_nil))) (pss_one (ps_if (pt_cmpR op_gt (pv 4) pe_int (nomark _)) (pss_one (ps_set (i := 1) sc__span_of.nd rfl (Or.inl rfl) (pe_callB (call_max2 rfl) rfl B.max_ (by decide +kernel) (pa_cons (pv 1) (pa_cons (pe_un un_neg (pe_op op_fdivW (pv 3) (pv 4))) pa_nil))))) (pss_one (ps_if (pt_cmpR op_lt (pv 4) pe_int (nomark _)) (pss_cons (ps_set (i := 5) sc__span_of.nd rfl (Or.inl rfl) (pe_op op_fdivW (pv 3) (pe_un un_neg (pv 4)))) (pss_one (ps_set (i := 2) sc__span_of.nd rfl (Or.inl rfl) (pe_ifExp (pt_cmpR op_isN (pv 2) pe_non (nomark _)) (pv 5) (pe_callB (call_min2 rfl) rfl B.min_ (by decide +kernel) (pa_cons (pv 2) (pa_cons (pv 5) pa_nil))))))) (pss_one (ps_if (pt_cmpR op_lt (pv 3) pe_int (nomark _)) (pss_one (ps_ret pe_non)) pss_nil))))))) (pss_cons (ps_if (PW.pt (pw_and (pt_cmpR op_notN (pv 2) pe_non (nomark _)) (pw_and1 (pt_cmpR op_lt (pv 2) (pv 1) (nomark _))))) (pss_one (ps_ret pe_non)) pss_nil) (pss_one (ps_ret (pe_tup (pa_cons (pv 1) (pa_cons (pv 2) pa_nil)))))))), ?_⟩
  have zget : ∀ (i : Nat) (x : V), (zs.map fun z => V.ref z.1)[i]? = some x → ∃ z, z ∈ zs ∧ x = V.ref z.1 ∧ (zs.map (·.2)).take (i + 1) = (zs.map (·.2)).take i ++ [z.2] := fun i x hx => by
    rw [List.getElem?_map] at hx
    cases e : zs[i]? with
    | none => rw [e] at hx; cases hx
    | some z =>
      rw [e] at hx
      refine ⟨z, List.mem_of_getElem? e, (Option.some.inj hx).symm, ?_⟩
      rw [List.take_succ, List.getElem?_map, e]
      rfl
  refine ⟨(by show 2 ≤ sizeLine; decide), fun u0 hu0 => ⟨u0, _, rfl, SqT.of upd_same, rfl, _, _, rfl, _, _, rfl, rfl, ?_⟩⟩
  obtain ⟨H0, eH0, s0, _⟩ := (show ∃ H', H' = upd H u0 (.tup [.int 0, .non]) ∧ Same H H' ∧ True from ⟨_, rfl, same_new hu0 _, trivial⟩)
  rw [← eH0]
  refine ⟨_, rfl, L, rfl, ⟨_, SqL.of (s0 _ _ hL)⟩, for_list (K := K) (a := L) (xs := zs.map fun z => V.ref z.1) (fun i σ' H' => ∃ (a : Int) (b : Option Int) (o3 o4 o5 : Option V), σ' = [some (.ref L), some (.int a), some (optV b), o3, o4, o5] ∧ Spn M ((zs.map (·.2)).take i) a b ∧ Same H H') ⟨0, none, none, none, none, rfl, Spn.start M0, s0⟩ (fun i σ' H' _ h => by obtain ⟨_, _, _, _, _, _, _, h⟩ := h; exact SqL.of (h _ _ hL)) ?_ ?_⟩
  · rintro i v σ' H' hv ⟨a, b, o3, o4, o5, rfl, I, sm⟩
    obtain ⟨z, zm, rfl, tk⟩ := zget i v hv
    obtain ⟨t, s1, k⟩ := z
    have ht : H' t = some (.tup [.int s1, .int k]) := sm _ _ (hz _ zm)
    obtain ⟨a0, b0, b1⟩ : -M ≤ s1 ∧ -(10 ^ 40) ≤ k ∧ k ≤ 10 ^ 40 := bd _ zm
    have tk : (zs.map (·.2)).take (i + 1) = (zs.map (·.2)).take i ++ [(s1, k)] := tk
    refine ⟨t, _, rfl, SqT.of ht, rfl, _, _, rfl, _, _, rfl, rfl, ?_⟩
    refine ⟨_, rfl, _, _, rfl, rfl, _, rfl, ?_⟩
    by_cases pos : 0 < k
    · refine iteDT pos ?_
      refine ⟨_, rfl, _, rfl, _, rfl, _, _, rfl, rfl, wide_div (b := 200) pos (by omega) (by decide) (by decide), _, rfl, _, _, rfl, ?_⟩
      have e : (if -(s1 / k) > a then -(s1 / k) else a) = max a (-(s1 / k)) := by split <;> omega
      exact ⟨_, b, _, _, _, rfl, by rw [tk, e]; exact I.pos pos a0, sm⟩
    · refine iteDF pos ⟨_, rfl, _, _, rfl, rfl, _, rfl, ?_⟩
      by_cases neg : k < 0
      · refine iteDT neg ?_
        refine ⟨_, rfl, _, rfl, _, rfl, _, _, rfl, rfl, wide_div (i := s1) (j := -k) (b := 200) (by omega) (by omega) (by decide) (by decide), ?_⟩
        cases b with
        | none => exact ⟨_, rfl, rfl, _, rfl, iteDT rfl ⟨_, rfl, a, some (s1 / -k), _, _, _, rfl, by rw [tk]; exact I.neg neg, sm⟩⟩
        | some m =>
          have e : (if s1 / -k < m then s1 / -k else m) = min m (s1 / -k) := by split <;> omega
          exact ⟨_, rfl, rfl, _, rfl, iteDF (by intro z; cases z) ⟨_, rfl, _, rfl, m, _, rfl, a, some _, _, _, _, rfl, by rw [tk, e]; exact I.neg neg, sm⟩⟩
      · refine iteDF neg ⟨_, rfl, _, _, rfl, rfl, _, rfl, ?_⟩
        obtain rfl : k = 0 := by omega
        by_cases c : s1 < 0
        · refine iteDT c ?_
          exact q none .non H' (spn_zero (List.mem_map.mpr ⟨_, zm, rfl⟩) c) (fun a b e => by cases e) rfl sm
        · exact iteDF c ⟨a, b, _, _, _, rfl, by rw [tk]; exact I.flat (by omega), sm⟩
  rintro σ' H' ⟨a, b, o3, o4, o5, rfl, I, sm⟩
  rw [List.length_map, ← List.length_map (f := fun z : Addr × Int × Int => z.2), List.take_length] at I
  refine ⟨_, rfl, rfl, _, rfl, ?_⟩
  cases b with
  | none =>
    refine ⟨_, rfl, _, rfl, (by show 2 ≤ sizeLine; decide), fun u hu => ?_⟩
    exact q (some (a, none)) _ _ (I.done fun m e => by cases e) (fun a' b' e => by cases e; exact I.aM) ⟨u, rfl, upd_same⟩ (sm.trans (same_new hu _))
  | some m =>
    refine ⟨_, rfl, _, rfl, _, _, rfl, rfl, _, rfl, ?_⟩
    by_cases c : m < a
    · exact iteDT c (q none .non H' (I.fail c) (fun a b e => by cases e) rfl sm)
    · refine iteDF c ⟨_, rfl, _, rfl, (by show 2 ≤ sizeLine; decide), fun u hu => ?_⟩
      exact q (some (a, some m)) _ _ (I.done fun n e => by cases e; omega) (fun a' b' e => by cases e; exact I.aM) ⟨u, rfl, upd_same⟩ (sm.trans (same_new hu _))
end
theorem none_of_new {H : Hp} {u L : Addr} {o : HO} (hu : H u = none) (hL : (upd H u o) L = none) : H L = none := by
  cases e : H L with
  | none => rfl
  | some z => rw [same_new hu o _ _ e] at hL; cases hL
/-- the list of lines, as it stands -/
structure LinesAt (H1 H' : Hp) (L : Addr) (zs : List (Addr × Int × Int)) (ls : List (Int × Int)) : Prop where
  nw : H1 L = none
  at_ : H' L = some (.lst (zs.map fun z => V.ref z.1))
  tp : ∀ z ∈ zs, H' z.1 = some (.tup [.int z.2.1, .int z.2.2])
  mp : zs.map (·.2) = ls
  sm : Same H1 H'
theorem LinesAt.snoc {H1 H' : Hp} {L t : Addr} {zs : List (Addr × Int × Int)} {ls : List (Int × Int)} {a b : Int} (h : LinesAt H1 H' L zs ls) (ht : H' t = none) :
    LinesAt H1 (upd (upd H' t (.tup [.int a, .int b])) L (.lst ((zs.map fun z => V.ref z.1) ++ [.ref t]))) L (zs ++ [(t, a, b)]) (ls ++ [(a, b)]) := by
  have nL : t ≠ L := fun e => by rw [e, h.at_] at ht; cases ht
  refine ⟨h.nw, by rw [upd_same, List.map_append]; rfl, fun z hz => ?_, by rw [List.map_append, h.mp]; rfl, sameAt (h.sm.trans (same_new ht _)) h.nw⟩
  rcases List.mem_append.mp hz with hz | hz
  · have e := h.tp z hz
    rw [upd_ne (ne_of e h.at_ (by intro z; cases z)), upd_ne (ne_of_none e ht)]
    exact e
  · obtain rfl := List.mem_singleton.mp hz
    show upd _ L _ t = _
    rw [upd_ne nL, upd_same]
theorem abs_of_mul {j s x : Int} (h : s ≠ 0) (e : j * s = x) : j.natAbs ≤ x.natAbs := by
  rw [← e, Int.natAbs_mul]
  exact Nat.le_mul_of_pos_right _ (by omega)
theorem abs_mul_lt {a b : Int} {A B : Nat} (h1 : a.natAbs ≤ A) (h2 : b.natAbs ≤ B) : (a * b).natAbs ≤ A * B := by
  rw [Int.natAbs_mul]
  exact Nat.mul_le_mul h1 h2
theorem LinesAt.nil {H1 : Hp} {L : Addr} (h : H1 L = none) : LinesAt H1 (upd H1 L (.lst [])) L [] [] := ⟨h, upd_same, (fun z hz => nomatch hz), rfl, same_new h _⟩
theorem LinesAt.len {H1 H' : Hp} {L : Addr} {zs : List (Addr × Int × Int)} {ls : List (Int × Int)} (h : LinesAt H1 H' L zs ls) : zs.length = ls.length := by rw [← h.mp, List.length_map]
theorem optl {o : Option Int} {g : Int → Int × Int} : (o.toList.map g).length ≤ 1 := by cases o <;> simp
/-! ### crossing -/
abbrev s_crossing : Stmt := (topS 31)
abbrev N_sc_crossing : List Str := ["one", "other", "count", "other_count", "lead", "numbers", "first", "last", "step", "other_first", "other_step", "lines", "span", "least", "most"]
abbrev P_crossing : List Str := ["one", "other", "count", "other_count", "lead"]
theorem sc_crossing : FnScope N_sc_crossing P_crossing (defScope s_crossing) := ⟨rfl, rfl, rfl, by decide +kernel, rfl, by decide +kernel, by decide +kernel⟩
def CrV (H : Hp) (v : V) : Option (Int × Int × Option Int) → Prop
  | none => v = .non
  | some (f, st, m) => ∃ t, v = .ref t ∧ H t = some (.tup [.int f, .int st, optV m])
def InB (o : Option Int) : Prop := ∀ c, o = some c → 0 ≤ c ∧ c ≤ 10 ^ 80
/-- days ahead -/
def InL (o : Option Int) : Prop := ∀ c, o = some c → -(10 ^ 80) ≤ c ∧ c ≤ 10 ^ 40
def spCr (C : Addr) : Sp := fun vs H Q _ => ∃ (a1 a2 : Addr) (nm1 : Str) (d1 p1 s1 : Int) (nm2 : Str) (d2 p2 s2 : Int) (c1 c2 L : Option Int), vs = [.ref a1, .ref a2, optV c1, optV c2, optV L] ∧ Two C H a1 a2 nm1 d1 p1 s1 nm2 d2 p2 s2 ∧ InB c1 ∧ InB c2 ∧ InL L ∧
  ∀ r v H', CrR p1 d1 s1 p2 d2 s2 c1 c2 L r → (∀ f st m, r = some (f, st, m) → f ≤ 10 ^ 70 ∧ st ≤ 10 ^ 18) → CrV H' v r → Same H H' → Q v H'
def CrF (K : PySem.W.Frag) (f : Addr) (fd : FuncData) : Prop := FunD K "crossing" "crossing" (defArgs s_crossing) (defBody s_crossing) (defScope s_crossing) [] [("count", .non), ("other_count", .non), ("lead", .non)] f fd
section
variable {P : Program} {w : World} {K : PySem.W.Frag} {mg : Str → Option Value} {base : Heap} {C : Addr}
set_option maxHeartbeats 40000000 in
theorem ok_cr {f : Addr} {fd : FuncData} (F : CrF K f fd) (B : Blt mg) (T : PTxt K mg C) (hDay : PropS P w K mg base C "day" 1 (getSp C "_day")) (hPost : PropS P w K mg base C "post" 1 (getSp C "_post")) (hStride : PropS P w K mg base C "stride" 1 (getSp C "_stride"))
    (CCN : Cal P w K mg base 3 "common_numbers" P_common_numbers (spCN C)) (CSp : Cal P w K mg base 1 "_span_of" P__span_of spSpan) : FnOk P w K mg base CX0 5 f fd P_crossing (spCr C) := by
  refine FunD.ok F sc_crossing (fun vs H Q E h => ?_) (fun cdv A outer s H vs Q E hr h => ?_)
  · obtain ⟨a1, a2, _, _, _, _, _, _, _, _, _, _, _, rfl, _⟩ := h
    rfl
  obtain ⟨a1, a2, nm1, d1, p1, s1, nm2, d2, p2, s2, c1, c2, Ld, rfl, Tw, hc1, hc2, hLd, q⟩ := h
  obtain ⟨dx1, h1⟩ := Tw.h1
  obtain ⟨dx2, h2⟩ := Tw.h2
  obtain ⟨_, d10, d11, p10, p11, s10, s11, s1n⟩ := Tw.o1
  obtain ⟨_, d20, d21, p20, p21, s20, s21, s2n⟩ := Tw.o2
  refine ⟨_, PSs.nox (pss_cons (ps_set (i := 5) sc_crossing.nd rfl (Or.inl rfl) (pe_cal CCN (hr.mono (by decide)) (pa_cons (pv 0) (pa_cons (pv 1) pa_nil)))) (pss_cons (ps_if (pt_cmpR op_isN (pv 5) pe_non (nomark _)) (pss_one (ps_ret pe_non)) pss_nil) (pss_cons (ps_asg (pv 5) (pg_tup rfl (pgs_cons (pg_name (i := 6) sc_crossing.nd rfl (Or.inl rfl)) (pgs_cons (pg_name (i := 7) sc_crossing.nd rfl (Or.inl rfl)) (pgs_cons (pg_name (i := 8) sc_crossing.nd rfl (Or.inl rfl)) pgs_nil))))) (C8.pss_cut (ps_set (i := 9) sc_crossing.nd rfl (Or.inl rfl) (pe_op op_fdivX (pe_op op_sub (pe_op op_add (pe_prS (pv 0) T.cl hPost (hr.mono (by decide))) (pe_op op_mulW (pv 6) (pe_prS (pv 0) T.cl hStride (hr.mono (by decide))))) (pe_prS (pv 1) T.cl hPost (hr.mono (by decide)))) (pe_prS (pv 1) T.cl hStride (hr.mono (by decide))))) (C8.pss_cut (ps_set (i := 10) sc_crossing.nd rfl (Or.inl rfl) (pe_op op_fdivX (pe_op op_mulW (pv 8) (pe_prS (pv 0) T.cl hStride (hr.mono (by decide)))) (pe_prS (pv 1) T.cl hStride (hr.mono (by decide))))) (C8.pss_cut (ps_set (i := 11) sc_crossing.nd rfl (Or.inl rfl) (pe_lst pa_nil)) (C8.pss_cut (ps_if (pt_cmpR op_notN (pv 7) pe_non (nomark _)) (pss_one (ps_expr (pe_bm PySem.F.plainAttrs_list PySem.F.slot_list_append PySem.F.type_list_append mt_append (pv 11) (pa_cons (pe_tup (pa_cons (pe_op op_sub (pv 7) (pv 6)) (pa_cons (pe_un un_neg (pv 8)) pa_nil))) pa_nil)))) pss_nil) (C8.pss_cut (ps_if (pt_cmpR op_notN (pv 2) pe_non (nomark _)) (pss_one (ps_expr (pe_bm PySem.F.plainAttrs_list PySem.F.slot_list_append PySem.F.type_list_append mt_append (pv 11) (pa_cons (pe_tup (pa_cons (pe_op op_sub (pe_op op_sub (pv 2) pe_int) (pv 6)) (pa_cons (pe_un un_neg (pv 8)) pa_nil))) pa_nil)))) pss_nil) (C8.pss_cut (ps_if (pt_cmpR op_notN (pv 3) pe_non (nomark _)) (pss_one (ps_expr (pe_bm PySem.F.plainAttrs_list PySem.F.slot_list_append PySem.F.type_list_append mt_append (pv 11) (pa_cons (pe_tup (pa_cons (pe_op op_sub (pe_op op_sub (pv 3) pe_int) (pv 9)) (pa_cons (pe_un un_neg (pv 10)) pa_nil))) pa_nil)))) pss_nil) (C8.pss_cut (ps_if (pt_cmpR op_notN (pv 4) pe_non (nomark _)) (pss_one (ps_expr (pe_bm PySem.F.plainAttrs_list PySem.F.slot_list_append PySem.F.type_list_append mt_append (pv 11) (pa_cons (pe_tup (pa_cons (pe_op op_sub (pe_op op_sub (pe_op op_sub (pe_op op_add (pe_prS (pv 0) T.cl hDay (hr.mono (by decide))) (pv 6)) (pe_prS (pv 1) T.cl hDay (hr.mono (by decide)))) (pv 9)) (pv 4)) (pa_cons (pe_op op_sub (pv 8) (pv 10)) pa_nil))) pa_nil)))) pss_nil) (pss_cons (ps_set (i := 12) sc_crossing.nd rfl (Or.inl rfl) (pe_cal CSp (hr.mono (by decide)) (pa_cons (pv 11) pa_nil))) (pss_cons (ps_if (pt_cmpR op_isN (pv 12) pe_non (nomark _)) (pss_one (ps_ret pe_non)) pss_nil) (pss_cons (ps_asg (pv 12) (pg_tup rfl (pgs_cons (pg_name (i := 13) sc_crossing.nd rfl (Or.inl rfl)) (pgs_cons (pg_name (i := 14) sc_crossing.nd rfl (Or.inl rfl)) pgs_nil)))) (pss_one (ps_ret (pe_tup (pa_cons (pe_op op_add (pv 6) (pe_op op_mulW (pv 13) (pv 8))) (pa_cons (pv 8) (pa_cons (pe_ifExp (pt_cmpR op_isN (pv 14) pe_non (nomark _)) pe_non (pe_op op_add (pe_op op_sub (pv 14) (pv 13)) pe_int)) pa_nil))))))))))))))))))), ?_⟩
  refine ⟨_, rfl, _, rfl, a1, a2, nm1, d1, p1, s1, nm2, d2, p2, s2, rfl, Tw, fun r v H1 Cm hv sm => ?_⟩
  refine ⟨_, rfl, rfl, _, rfl, ?_⟩
  cases r with
  | none =>
    have hv : v = .non := hv
    subst hv
    exact q none .non _ (cr_none Cm) (fun f st m e => by cases e) rfl sm
  | some x =>
    obtain ⟨a, l, st⟩ := x
    obtain ⟨t, rfl, ht⟩ := hv
    have h1' := sm _ _ h1
    have h2' := sm _ _ h2
    obtain ⟨a0, ab, S, lb⟩ := Cm.first_le
    have sl := step_le s2n S
    have sp := S.1
    have fb : (a * s1).natAbs ≤ 10 ^ 31 * 10 ^ 18 := abs_mul_lt (by omega) (by omega)
    have ob : (st * s1).natAbs ≤ 10 ^ 18 * 10 ^ 18 := abs_mul_lt (by omega) (by omega)
    have dvx : CDivX (p1 + a * s1 - p2) s2 := ⟨s2n, Nat.lt_of_lt_of_le (PySem.Flt.log2_lt_of (by decide) (show s2.natAbs < 2 ^ 120 by omega)) (by decide)⟩
    have dvy : CDivX (st * s1) s2 := dvx
    refine ⟨_, rfl, t, _, rfl, SqT.of ht, rfl, _, _, rfl, _, _, rfl, _, _, rfl, rfl, ?_⟩
    refine ⟨fun σ' H' => ∃ j0 : Int, σ' = [some (.ref a1), some (.ref a2), some (optV c1), some (optV c2), some (optV Ld), some (.ref t), some (.int a), some (optV l), some (.int st), some (.int j0), none, none, none, none, none] ∧ j0 * s2 = p1 + a * s1 - p2 ∧ H' = H1, ?_, ?_⟩
    · refine ⟨_, rfl, a1, dx1, _, rfl, h1', a1, dx1, _, _, rfl, h1', pfs_post _ _ _ _, _, rfl, _, rfl, a1, dx1, _, rfl, h1', a1, dx1, _, _, rfl, h1', pfs_stride _ _ _ _, _, _, rfl, rfl, wide_mul (a := 200) (b := 120) (by omega) (by omega) (by decide) (by decide) (by decide), _, _, rfl, rfl, _, rfl, a2, dx2, _, rfl, h2', a2, dx2, _, _, rfl, h2', pfs_post _ _ _ _, _, _, rfl, rfl, _, rfl, a2, dx2, _, rfl, h2', a2, dx2, _, _, rfl, h2', pfs_stride _ _ _ _, _, _, rfl, rfl, dvx, ?_⟩
      refine ⟨_, rfl, ?_, rfl⟩
      obtain ⟨j, jn, e⟩ := (Cm.iff a a0).mpr ⟨Int.le_refl _, fun m e => (Cm.pos).2.2.1 m e, ⟨0, by omega⟩⟩
      have e2 : p1 + a * s1 - p2 = j * s2 := by omega
      rw [e2, Int.mul_fdiv_cancel j s2n]
    rintro σ' H' ⟨j0, rfl, hj, rfl⟩
    refine ⟨fun σ' H2 => ∃ o : Int, σ' = [some (.ref a1), some (.ref a2), some (optV c1), some (optV c2), some (optV Ld), some (.ref t), some (.int a), some (optV l), some (.int st), some (.int j0), some (.int o), none, none, none, none] ∧ o * s2 = st * s1 ∧ H2 = H', ?_, ?_⟩
    · refine ⟨_, rfl, _, rfl, a1, dx1, _, rfl, h1', a1, dx1, _, _, rfl, h1', pfs_stride _ _ _ _, _, _, rfl, rfl, wide_mul (a := 120) (b := 120) (by omega) (by omega) (by decide) (by decide) (by decide), _, rfl, a2, dx2, _, rfl, h2', a2, dx2, _, _, rfl, h2', pfs_stride _ _ _ _, _, _, rfl, rfl, dvy, ?_⟩
      refine ⟨_, rfl, ?_, rfl⟩
      obtain ⟨j, e⟩ := (S.2 st).mpr (Int.dvd_refl st)
      rw [e, Int.mul_comm s2 j, Int.mul_fdiv_cancel j s2n]
    rintro σ' H2 ⟨o, rfl, ho, rfl⟩
    have jb := abs_of_mul s2n hj
    have obb := abs_of_mul s2n ho
    obtain ⟨g0, eg0⟩ : ∃ g : Int → Int × Int, g = fun m => (m - a, -st) := ⟨_, rfl⟩
    obtain ⟨g1, eg1⟩ : ∃ g : Int → Int × Int, g = fun c => (c - 1 - a, -st) := ⟨_, rfl⟩
    obtain ⟨g2, eg2⟩ : ∃ g : Int → Int × Int, g = fun c => (c - 1 - j0, -o) := ⟨_, rfl⟩
    obtain ⟨g3, eg3⟩ : ∃ g : Int → Int × Int, g = fun k => (d1 + a - d2 - j0 - k, st - o) := ⟨_, rfl⟩
    have eLn : crLines d1 d2 a st j0 o l c1 c2 Ld = l.toList.map g0 ++ c1.toList.map g1 ++ c2.toList.map g2 ++ Ld.toList.map g3 := by rw [eg0, eg1, eg2, eg3]; rfl
    have l0 := optl (o := l) (g := g0)
    have l1 := optl (o := c1) (g := g1)
    have l2 := optl (o := c2) (g := g2)
    have l3 := optl (o := Ld) (g := g3)
    refine ⟨fun σ' H3 => ∃ L : Addr, σ' = [some (.ref a1), some (.ref a2), some (optV c1), some (optV c2), some (optV Ld), some (.ref t), some (.int a), some (optV l), some (.int st), some (.int j0), some (.int o), some (.ref L), none, none, none] ∧ LinesAt H2 H3 L [] [], ?_, ?_⟩
    · exact ⟨(by show 0 ≤ sizeLine; decide), fun L hL => ⟨L, rfl, LinesAt.nil hL⟩⟩
    rintro σ' H3 ⟨L, rfl, z0⟩
    refine ⟨fun σ' H4 => ∃ zs : List (Addr × Int × Int), σ' = [some (.ref a1), some (.ref a2), some (optV c1), some (optV c2), some (optV Ld), some (.ref t), some (.int a), some (optV l), some (.int st), some (.int j0), some (.int o), some (.ref L), none, none, none] ∧ LinesAt H2 H4 L zs (l.toList.map g0), ?_, ?_⟩
    · refine ⟨_, rfl, rfl, _, rfl, ?_⟩
      cases l with
      | none => exact ⟨[], rfl, z0⟩
      | some m =>
        refine ⟨_, rfl, .inl ⟨rfl, _, SqL.of z0.at_⟩, ?_⟩
        refine ⟨_, rfl, _, rfl, _, _, rfl, rfl, _, rfl, _, rfl, (by show 2 ≤ sizeLine; decide), fun u hu => ?_⟩
        refine ⟨L, _, _, rfl, rfl, same_new hu _ _ _ z0.at_, by decide, ?_⟩
        exact ⟨_, rfl, by rw [eg0]; exact z0.snoc hu⟩
    rintro σ' H4 ⟨zs, rfl, z1⟩
    have n1 := z1.len
    refine ⟨fun σ' H5 => ∃ zs : List (Addr × Int × Int), σ' = [some (.ref a1), some (.ref a2), some (optV c1), some (optV c2), some (optV Ld), some (.ref t), some (.int a), some (optV l), some (.int st), some (.int j0), some (.int o), some (.ref L), none, none, none] ∧ LinesAt H2 H5 L zs (l.toList.map g0 ++ c1.toList.map g1), ?_, ?_⟩
    · refine ⟨_, rfl, rfl, _, rfl, ?_⟩
      cases c1 with
      | none => exact ⟨zs, rfl, (List.append_nil _).symm ▸ z1⟩
      | some c =>
        refine ⟨_, rfl, .inl ⟨rfl, _, SqL.of z1.at_⟩, ?_⟩
        refine ⟨_, rfl, _, _, rfl, rfl, _, rfl, _, _, rfl, rfl, _, rfl, _, rfl, (by show 2 ≤ sizeLine; decide), fun u hu => ?_⟩
        refine ⟨L, _, _, rfl, rfl, same_new hu _ _ _ z1.at_, by rw [List.length_map]; exact small1000 (by omega), ?_⟩
        exact ⟨_, rfl, by rw [eg1]; exact z1.snoc hu⟩
    rintro σ' H5 ⟨zs1, rfl, z2⟩
    have n2 := z2.len
    rw [List.length_append] at n2
    refine ⟨fun σ' H6 => ∃ zs : List (Addr × Int × Int), σ' = [some (.ref a1), some (.ref a2), some (optV c1), some (optV c2), some (optV Ld), some (.ref t), some (.int a), some (optV l), some (.int st), some (.int j0), some (.int o), some (.ref L), none, none, none] ∧ LinesAt H2 H6 L zs (l.toList.map g0 ++ c1.toList.map g1 ++ c2.toList.map g2), ?_, ?_⟩
    · refine ⟨_, rfl, rfl, _, rfl, ?_⟩
      cases c2 with
      | none => exact ⟨zs1, rfl, (List.append_nil _).symm ▸ z2⟩
      | some c =>
        refine ⟨_, rfl, .inl ⟨rfl, _, SqL.of z2.at_⟩, ?_⟩
        refine ⟨_, rfl, _, _, rfl, rfl, _, rfl, _, _, rfl, rfl, _, rfl, _, rfl, (by show 2 ≤ sizeLine; decide), fun u hu => ?_⟩
        refine ⟨L, _, _, rfl, rfl, same_new hu _ _ _ z2.at_, by rw [List.length_map]; exact small1000 (by omega), ?_⟩
        exact ⟨_, rfl, by rw [eg2]; exact z2.snoc hu⟩
    rintro σ' H6 ⟨zs2, rfl, z3⟩
    have n3 := z3.len
    rw [List.length_append, List.length_append] at n3
    have h1z := z3.sm _ _ h1'
    have h2z := z3.sm _ _ h2'
    refine ⟨fun σ' H7 => ∃ zs : List (Addr × Int × Int), σ' = [some (.ref a1), some (.ref a2), some (optV c1), some (optV c2), some (optV Ld), some (.ref t), some (.int a), some (optV l), some (.int st), some (.int j0), some (.int o), some (.ref L), none, none, none] ∧ LinesAt H2 H7 L zs (crLines d1 d2 a st j0 o l c1 c2 Ld), ?_, ?_⟩
    · rw [eLn]
      refine ⟨_, rfl, rfl, _, rfl, ?_⟩
      cases Ld with
      | none => exact ⟨zs2, rfl, (List.append_nil _).symm ▸ z3⟩
      | some k =>
        refine ⟨_, rfl, .inl ⟨rfl, _, SqL.of z3.at_⟩, ?_⟩
        refine ⟨_, rfl, a1, dx1, _, rfl, h1z, a1, dx1, _, _, rfl, h1z, pfs_day _ _ _ _, _, rfl, _, _, rfl, rfl, _, rfl, a2, dx2, _, rfl, h2z, a2, dx2, _, _, rfl, h2z, pfs_day _ _ _ _, _, _, rfl, rfl, _, rfl, _, _, rfl, rfl, _, rfl, _, _, rfl, rfl, _, rfl, _, rfl, _, _, rfl, rfl, (by show 2 ≤ sizeLine; decide), fun u hu => ?_⟩
        refine ⟨L, _, _, rfl, rfl, same_new hu _ _ _ z3.at_, by rw [List.length_map]; exact small1000 (by omega), ?_⟩
        exact ⟨_, rfl, by rw [eg3]; exact z3.snoc hu⟩
    rintro σ' H7 ⟨ws, rfl, hw⟩
    have nw := hw.len
    rw [eLn, List.length_append, List.length_append, List.length_append] at nw
    have bds : ∀ y ∈ crLines d1 d2 a st j0 o l c1 c2 Ld, -(10 ^ 50) ≤ y.1 ∧ -(10 ^ 40) ≤ y.2 ∧ y.2 ≤ 10 ^ 40 := by
      intro y hy
      unfold crLines at hy
      rw [List.mem_append, List.mem_append, List.mem_append] at hy
      rcases hy with ((hy | hy) | hy) | hy
      · obtain ⟨m, hm, rfl⟩ := List.mem_map.mp hy
        obtain ⟨m0, m1⟩ := lb m (Option.mem_toList.mp hm)
        show -(10 ^ 50) ≤ m - a ∧ -(10 ^ 40) ≤ -st ∧ -st ≤ 10 ^ 40
        omega
      · obtain ⟨c, hc', rfl⟩ := List.mem_map.mp hy
        obtain ⟨c0, c1⟩ := hc1 c (Option.mem_toList.mp hc')
        show -(10 ^ 50) ≤ c - 1 - a ∧ -(10 ^ 40) ≤ -st ∧ -st ≤ 10 ^ 40
        omega
      · obtain ⟨c, hc', rfl⟩ := List.mem_map.mp hy
        obtain ⟨c0, c1⟩ := hc2 c (Option.mem_toList.mp hc')
        show -(10 ^ 50) ≤ c - 1 - j0 ∧ -(10 ^ 40) ≤ -o ∧ -o ≤ 10 ^ 40
        omega
      · obtain ⟨c, hc', rfl⟩ := List.mem_map.mp hy
        obtain ⟨c0, c1⟩ := hLd c (Option.mem_toList.mp hc')
        show -(10 ^ 50) ≤ d1 + a - d2 - j0 - c ∧ -(10 ^ 40) ≤ st - o ∧ st - o ≤ 10 ^ 40
        omega
    refine ⟨_, rfl, L, ws, 10 ^ 50, rfl, hw.at_, hw.tp, by omega, by decide, fun z hz => bds z.2 (by rw [← hw.mp]; exact List.mem_map.mpr ⟨z, hz, rfl⟩), fun rx v8 H8 lx xm hv8 sm8 => ?_⟩
    rw [hw.mp] at lx
    have R9 := cr_span s2n Cm hj ho lx
    have sm9 := sm.trans (hw.sm.trans sm8)
    refine ⟨_, rfl, rfl, _, rfl, ?_⟩
    cases rx with
    | none =>
      have hv8 : v8 = .non := hv8
      subst hv8
      exact q none .non _ R9 (fun f st m e => by cases e) rfl sm9
    | some y =>
      obtain ⟨x, b⟩ := y
      obtain ⟨t8, rfl, ht8⟩ := hv8
      have x0 : 0 ≤ x := lx.1
      have x1 := xm x b rfl
      have xb := mul_bd (a := x) (b := st) (A := 10 ^ 50) (B := 10 ^ 18) x0 x1 (by omega) (by omega) (by decide)
      refine ⟨_, rfl, t8, _, rfl, SqT.of ht8, rfl, _, _, rfl, _, _, rfl, rfl, ?_⟩
      refine ⟨_, rfl, _, rfl, _, rfl, _, _, rfl, rfl, wide_mul (a := 400) (b := 64) (by omega) (by omega) (by decide) (by decide) (by decide), _, _, rfl, rfl, _, rfl, _, rfl, rfl, _, rfl, ?_⟩
      have fin : ∀ (u : Addr) (m' : Option Int), H8 u = none → m' = b.map (fun m => m - x + 1) → Q (.ref u) (upd H8 u (.tup [.int (a + x * st), .int st, optV m'])) := by
        intro u m' hu em
        subst em
        exact q _ _ _ R9 (fun f st' m e => by
          have e := Option.some.inj e
          have e1 : a + x * st = f := congrArg (·.1) e
          have e2 : st = st' := congrArg (·.2.1) e
          omega) ⟨u, rfl, upd_same⟩ (sm9.trans (same_new hu _))
      cases b with
      | none => exact ⟨(by show 3 ≤ sizeLine; decide), fun u hu => fin u none hu rfl⟩
      | some m => exact ⟨_, rfl, _, rfl, _, _, rfl, rfl, _, _, rfl, rfl, (by show 3 ≤ sizeLine; decide), fun u hu => fin u (some (m - x + 1)) hu rfl⟩
end
/-! ### first_block -/
/-- crossing, as first_block calls it -/
def CrC (P : Program) (w : World) (K : PySem.W.Frag) (mg : Str → Option Value) (base : Heap) (C : Addr) : Prop := ∃ (f : Addr) (fd : FuncData), FnOk P w K mg base CX0 5 f fd P_crossing (spCr C) ∧ PySem.W.keepIn K (.ref f) = true ∧ mg "crossing" = some (.ref f) ∧
  ∃ g, KBn K fd P_crossing 2 ["other_count", "lead"] g (fun vs zs => vs ++ ([.non] ++ zs))
theorem CrC.of {P : Program} {w : World} {K : PySem.W.Frag} {mg : Str → Option Value} {base : Heap} {C : Addr} {f : Addr} {fd : FuncData} (F : CrF K f fd) (h : FnOk P w K mg base CX0 5 f fd P_crossing (spCr C)) (m : mg "crossing" = some (.ref f)) : CrC P w K mg base C := by
  refine ⟨f, fd, h, F.kp, m, ?_⟩
  obtain ⟨mv, h⟩ := FunD.kbinds0 F (ps := P_crossing) 2 ["other_count", "lead"] [("count", .non)] (fun us mv ws => us ++ (mv ++ ws)) (by simp) (fun q hq => by simp only [List.mem_cons, List.not_mem_nil, or_false] at hq; subst hq; exact List.mem_cons_self) (fun r1 r2 r3 => r1.append (r2.append r3)) fun D doc pm an cdv ct us mv ws h1 h2 h3 => match us, mv, ws, h1, h2, h3 with | [_, _], [_], [_, _], _, _, _ => ⟨_, _, _, _, _, _, rfl, rfl, rfl⟩
  exact ⟨_, h⟩
theorem pe_crOL {X : Cx} {C : Addr} {e : Expr} {es : List Expr} {kws : List Keyword} {t tk : TA} {p pos : Pos} (c : CrC X.prog X.w X.K X.mg X.base C) (hr : Room 5 X.A) (ha : PA X (e :: es) t) (hkw : PK X kws tk) (hg : Gl X "crossing" := by rfl)
    (hall : (backToKw pos (keywordEach kws X.env)).all (·.1.isSome) = true := by rfl) (hks : (backToKw pos (keywordEach kws X.env)).filterMap (·.1) = (["other_count", "lead"] : List Str) := by rfl)
    (he : starEach (e :: es) X.env = (false, eval e X.env) :: starEach es X.env := by rfl)
    (hpl : ((backTo pos (starEach (e :: es) X.env)).any (·.1) || (backToKw pos (keywordEach kws X.env)).any (·.1.isNone)) = false := by rfl) :
    PE X (.Call (.Name "crossing" p) (e :: es) kws pos) (tCallN 2 2 (spCr C) (fun vs zs => vs ++ ([.non] ++ zs)) E0 t tk) := by
  obtain ⟨f, fd, F, kp, m, g, b⟩ := c
  exact pe_callN F hr hg m kp b pass0 ha hkw hall hks (he := he) (hpl := hpl)
abbrev s_first_block : Stmt := (topS 35)
abbrev N_sc_first_block : List Str := ["one", "other", "count", "is_earlier", "numbers"]
abbrev P_first_block : List Str := ["one", "other", "count", "is_earlier"]
theorem sc_first_block : FnScope N_sc_first_block P_first_block (defScope s_first_block) := ⟨rfl, rfl, rfl, by decide +kernel, rfl, by decide +kernel, by decide +kernel⟩
def spFB (C : Addr) : Sp := fun vs H Q _ => ∃ (a1 a2 : Addr) (nm1 : Str) (d1 p1 s1 : Int) (nm2 : Str) (d2 p2 s2 : Int) (cnt : Option Int) (fl : Bool), vs = [.ref a1, .ref a2, optV cnt, .bl fl] ∧ Two C H a1 a2 nm1 d1 p1 s1 nm2 d2 p2 s2 ∧ (∀ c, cnt = some c → 0 ≤ c ∧ c ≤ 10 ^ 80) ∧
  ∀ (r : Option Int) (H' : Hp), Least (Blk p1 d1 s1 p2 d2 s2 cnt fl) r → (∀ n, r = some n → n ≤ 10 ^ 70) → Same H H' → Q (optV r) H'
/-- first_block, as it can be called -/
def FBk (K : PySem.W.Frag) (f : Addr) (fd : FuncData) : Prop := FunD K "first_block" "first_block" (defArgs s_first_block) (defBody s_first_block) (defScope s_first_block) [] [("count", .non), ("is_earlier", .bl false)] f fd
section
variable {P : Program} {w : World} {K : PySem.W.Frag} {mg : Str → Option Value} {base : Heap} {C : Addr}
theorem ok_fb {f : Addr} {fd : FuncData} (F : FBk K f fd) (B : Blt mg) (T : PTxt K mg C) (CC : Cal P w K mg base 3 "check_count" P_check_count spCount) (CCr : CrC P w K mg base C) : FnOk P w K mg base CX0 6 f fd P_first_block (spFB C) := by
  refine FunD.ok F sc_first_block (fun vs H Q E h => ?_) (fun cdv A outer s H vs Q E hr h => ?_)
  · obtain ⟨a1, a2, _, _, _, _, _, _, _, _, _, _, rfl, _⟩ := h
    rfl
  obtain ⟨a1, a2, nm1, d1, p1, s1, nm2, d2, p2, s2, cnt, fl, rfl, Tw, hc, q⟩ := h
  refine ⟨_, PSs.nox (C8.pss_cut (ps_if (pt_cmpR op_notN (pv 2) pe_non (nomark _)) (pss_one (ps_expr (pe_cal CC (hr.mono (by decide)) (pa_cons (pv 2) pa_nil)))) pss_nil) (pss_cons (ps_set (i := 4) sc_first_block.nd rfl (Or.inl rfl) (pe_crOL CCr (hr.mono (by decide)) (pa_cons (pv 0) (pa_cons (pv 1) pa_nil)) (pk_cons (pv 2) (pk_cons (pe_ifExp (pt_val (pv 3)) pe_int pe_int) pk_nil)))) (pss_one (ps_ret (pe_ifExp (pt_cmpR op_isN (pv 4) pe_non (nomark _)) pe_non (pe_ix (show IxR _ (rIxT K) from ix_tup) (pv 4) pe_int (fun _ _ => rfl))))))), ?_⟩
  refine ⟨fun σ' H' => σ' = [some (.ref a1), some (.ref a2), some (optV cnt), some (.bl fl), none] ∧ H' = H, ?_, ?_⟩
  · refine ⟨_, rfl, rfl, _, rfl, ?_⟩
    cases cnt with
    | none => exact ⟨rfl, rfl⟩
    | some c => exact ⟨_, rfl, c, rfl, (hc c rfl).1, (hc c rfl).2, rfl, rfl⟩
  rintro σ' H' ⟨rfl, rfl⟩
  have ic : InB cnt := hc
  cases fl
  all_goals
    refine ⟨_, rfl, _, rfl, _, rfl, _, rfl, _, rfl, ?_⟩
    first | refine iteT ?_ | refine iteF ?_
    refine ⟨rfl, rfl, a1, a2, nm1, d1, p1, s1, nm2, d2, p2, s2, none, cnt, some _, rfl, Tw, (fun c e => by cases e), ic, (fun c e => by cases e; decide), fun r v H1 R bd hv sm => ?_⟩
    refine ⟨_, rfl, rfl, _, rfl, ?_⟩
    cases r with
    | none =>
      have hv : v = .non := hv
      subst hv
      exact q none H1 (cr_block (fl := _) (r := none) R) (fun n e => by cases e) sm
    | some z =>
      obtain ⟨f, st, m⟩ := z
      obtain ⟨t, rfl, ht⟩ := hv
      have b := (bd f st m rfl).1
      exact ⟨_, rfl, t, _, _, _, rfl, rfl, SqT.of ht, atI_nat (j := 0) rfl, q (some f) H1 (cr_block (fl := _) (r := some (f, st, m)) R) (fun n e => by cases e; exact b) sm⟩
end
end Ur
/-! KFC: the ways first_block is called. -/
namespace Ur
open PySem PySem.Spec PyProof.Rows L2
/-- first_block, with all the ways its arguments are bound -/
def FBC (P : Program) (w : World) (K : PySem.W.Frag) (mg : Str → Option Value) (base : Heap) (C : Addr) : Prop := ∃ (f : Addr) (fd : FuncData), FnOk P w K mg base CX0 6 f fd P_first_block (spFB C) ∧ PySem.W.keepIn K (.ref f) = true ∧ mg "first_block" = some (.ref f) ∧
  (∃ ds, Vals [.non, .bl false] ds ∧ Binds K fd P_first_block ds) ∧ (∃ g, KBn K fd P_first_block 2 ["count", "is_earlier"] g (fun vs zs => vs ++ ([] ++ zs))) ∧ (∃ g, KBn K fd P_first_block 2 ["is_earlier"] g (fun vs zs => vs ++ ([.non] ++ zs))) ∧ (∃ g, KBn K fd P_first_block 2 ["count"] g (fun vs zs => vs ++ (zs ++ [.bl false])))
theorem FBC.of {P : Program} {w : World} {K : PySem.W.Frag} {mg : Str → Option Value} {base : Heap} {C : Addr} {f : Addr} {fd : FuncData} (F : FBk K f fd) (h : FnOk P w K mg base CX0 6 f fd P_first_block (spFB C)) (m : mg "first_block" = some (.ref f)) : FBC P w K mg base C := by
  refine ⟨f, fd, h, F.kp, m, ?_, ?_, ?_, ?_⟩
  · exact FunD.binds0 F 2 (by simp) rfl fun D doc pm an cdv ct us ks h1 h2 => match us, ks, h1, h2 with | [_, _], [_, _], _, _ => ⟨_, _, _, _, _, _, rfl, rfl, ⟨_, _, _, _, _, _, rfl, rfl, rfl⟩⟩
  · obtain ⟨mv, h⟩ := FunD.kbinds0 F (ps := P_first_block) 2 ["count", "is_earlier"] [] (fun us mv ws => us ++ (mv ++ ws)) (by simp) (fun q hq => by cases hq) (fun r1 r2 r3 => r1.append (r2.append r3)) fun D doc pm an cdv ct us mv ws h1 h2 h3 => match us, mv, ws, h1, h2, h3 with | [_, _], [], [_, _], _, _, _ => rfl
    exact ⟨_, h⟩
  · obtain ⟨mv, h⟩ := FunD.kbinds0 F (ps := P_first_block) 2 ["is_earlier"] [("count", .non)] (fun us mv ws => us ++ (mv ++ ws)) (by simp) (fun q hq => by simp only [List.mem_cons, List.not_mem_nil, or_false] at hq; subst hq; exact List.mem_cons_self) (fun r1 r2 r3 => r1.append (r2.append r3)) fun D doc pm an cdv ct us mv ws h1 h2 h3 => match us, mv, ws, h1, h2, h3 with | [_, _], [_], [_], _, _, _ => ⟨_, _, _, _, _, _, rfl, rfl, rfl⟩
    exact ⟨_, h⟩
  · obtain ⟨mv, h⟩ := FunD.kbinds0 F (ps := P_first_block) 2 ["count"] [("is_earlier", .bl false)] (fun us mv ws => us ++ (ws ++ mv)) (by simp) (fun q hq => by simp only [List.mem_cons, List.not_mem_nil, or_false] at hq; subst hq; exact List.mem_cons_of_mem _ List.mem_cons_self) (fun r1 r2 r3 => r1.append (r3.append r2)) fun D doc pm an cdv ct us mv ws h1 h2 h3 => match us, mv, ws, h1, h2, h3 with | [_, _], [_], [_], _, _, _ => ⟨_, _, _, _, _, _, rfl, rfl, rfl⟩
    exact ⟨_, h⟩
section
variable {X : Cx} {C : Addr} {e : Expr} {es : List Expr} {kws : List Keyword} {t tk : TA} {p pos : Pos}
theorem pe_fb0 (c : FBC X.prog X.w X.K X.mg X.base C) (hr : Room 6 X.A) (ha : PA X (e :: es) t) (hg : Gl X "first_block" := by rfl)
    (he : starEach (e :: es) X.env = (false, eval e X.env) :: starEach es X.env := by rfl) (hpl : (backTo pos (starEach es X.env)).any (·.1) = false := by rfl) :
    PE X (.Call (.Name "first_block" p) (e :: es) [] pos) (tCall (spFB C) [.non, .bl false] E0 t) := by
  obtain ⟨f, fd, F, kp, m, ⟨ds, hd, b⟩, _⟩ := c
  exact pe_call F hr hg m kp b hd pass0 ha (he := he) (hpl := hpl)
theorem pe_fbCE (c : FBC X.prog X.w X.K X.mg X.base C) (hr : Room 6 X.A) (ha : PA X (e :: es) t) (hkw : PK X kws tk) (hg : Gl X "first_block" := by rfl)
    (hall : (backToKw pos (keywordEach kws X.env)).all (·.1.isSome) = true := by rfl) (hks : (backToKw pos (keywordEach kws X.env)).filterMap (·.1) = (["count", "is_earlier"] : List Str) := by rfl)
    (he : starEach (e :: es) X.env = (false, eval e X.env) :: starEach es X.env := by rfl)
    (hpl : ((backTo pos (starEach (e :: es) X.env)).any (·.1) || (backToKw pos (keywordEach kws X.env)).any (·.1.isNone)) = false := by rfl) :
    PE X (.Call (.Name "first_block" p) (e :: es) kws pos) (tCallN 2 2 (spFB C) (fun vs zs => vs ++ ([] ++ zs)) E0 t tk) := by
  obtain ⟨f, fd, F, kp, m, _, ⟨g, b⟩, _⟩ := c
  exact pe_callN F hr hg m kp b pass0 ha hkw hall hks (he := he) (hpl := hpl)
theorem pe_fbE (c : FBC X.prog X.w X.K X.mg X.base C) (hr : Room 6 X.A) (ha : PA X (e :: es) t) (hkw : PK X kws tk) (hg : Gl X "first_block" := by rfl)
    (hall : (backToKw pos (keywordEach kws X.env)).all (·.1.isSome) = true := by rfl) (hks : (backToKw pos (keywordEach kws X.env)).filterMap (·.1) = (["is_earlier"] : List Str) := by rfl)
    (he : starEach (e :: es) X.env = (false, eval e X.env) :: starEach es X.env := by rfl)
    (hpl : ((backTo pos (starEach (e :: es) X.env)).any (·.1) || (backToKw pos (keywordEach kws X.env)).any (·.1.isNone)) = false := by rfl) :
    PE X (.Call (.Name "first_block" p) (e :: es) kws pos) (tCallN 2 1 (spFB C) (fun vs zs => vs ++ ([.non] ++ zs)) E0 t tk) := by
  obtain ⟨f, fd, F, kp, m, _, _, ⟨g, b⟩, _⟩ := c
  exact pe_callN F hr hg m kp b pass0 ha hkw hall hks (he := he) (hpl := hpl)
theorem pe_fbC (c : FBC X.prog X.w X.K X.mg X.base C) (hr : Room 6 X.A) (ha : PA X (e :: es) t) (hkw : PK X kws tk) (hg : Gl X "first_block" := by rfl)
    (hall : (backToKw pos (keywordEach kws X.env)).all (·.1.isSome) = true := by rfl) (hks : (backToKw pos (keywordEach kws X.env)).filterMap (·.1) = (["count"] : List Str) := by rfl)
    (he : starEach (e :: es) X.env = (false, eval e X.env) :: starEach es X.env := by rfl)
    (hpl : ((backTo pos (starEach (e :: es) X.env)).any (·.1) || (backToKw pos (keywordEach kws X.env)).any (·.1.isNone)) = false := by rfl) :
    PE X (.Call (.Name "first_block" p) (e :: es) kws pos) (tCallN 2 1 (spFB C) (fun vs zs => vs ++ (zs ++ [.bl false])) E0 t tk) := by
  obtain ⟨f, fd, F, kp, m, _, _, _, ⟨g, b⟩⟩ := c
  exact pe_callN F hr hg m kp b pass0 ha hkw hall hks (he := he) (hpl := hpl)
end
end Ur
/-! UrE: for i, x in enumerate(t), t a tuple; instances made with a star among the arguments. -/
namespace Ur
open PySem PySem.Spec PyProof.Rows L2
theorem meets_enumerate_newB1 {v : Value} {o : Obj} {H : Heap → Prop} (B : Begins v o H) :
    Meets (Builtin.«enumerate.__new__» ⟨[.type "enumerate", v], []⟩) (fun _ R s => H s.heap ∧
      R (.ok (.ret (.ref (s.heap.push o).objs.size))) { s with heap := (s.heap.push o).push { cls := .type "enumerate", data := .fields #[.none, .bool false, .ref s.heap.objs.size, rawInt 0, .none, .none] } }) :=
  .of_wp fun prog w A R s h => by
    obtain ⟨hp, g, d, tk, os⟩ := s; obtain ⟨h1, h⟩ := h
    have hsub := sub_enumerate
    have q1 : ∀ {A' : Around} {E : Value → Shared → Prop} {Q : Value → Shared → Prop}, Q (.ref hp.objs.size) ⟨hp.push o, g, d, tk, os⟩ → wpAny (model prog w) A' (pyIter v) Q E ⟨hp, g, d, tk, os⟩ :=
      fun q => B.iter prog w _ _ ⟨hp, g, d, tk, os⟩ _ h1 q
    wp_walk using q1
    refine wpAny_stack_any fun st => wpAny_pure ?_
    split
    · rename_i c _ _ _ _ _
      cases (c == Value.type "enumerate")
      · wp_walk using q1
        exact ⟨_, rfl, h⟩
      · wp_walk using q1
        exact ⟨_, rfl, h⟩
    · wp_walk using q1
      exact ⟨_, rfl, h⟩
section
variable {prog : Program} {w : World} {A : Around} {E : Value → Shared → Prop} {s : Shared}
theorem enum_begins1 {v : Value} {o : Obj} {H : Heap → Prop} {Q : Value → Shared → Prop} (B : Begins v o H) (h1 : H s.heap)
    (h : ∀ h', IsEnum h' (s.heap.objs.size + 1) s.heap.objs.size 0 .none → h'.get? s.heap.objs.size = some o → h'.objs.size = s.heap.objs.size + 2 →
      (∀ b o, s.heap.get? b = some o → h'.get? b = some o) → Q (.ref (s.heap.objs.size + 1)) { s with heap := h' }) :
    wpAny (model prog w) A (call (.type "enumerate") [v]) Q E s := by
  refine callType_new F.called_enumerate (by decide) (F.typeCall_enumerate_1 _) (F.newCall_enumerate_1 _) (fun obj => F.args_object_init_2 obj _) F.entry_enumerate_new
    (meets_enumerate_newB1 B) ⟨h1, ?_⟩
  have hz : (s.heap.push o).objs.size = s.heap.objs.size + 1 := Heap.size_push ..
  show _ ∧ _
  rw [hz]
  have he : IsEnum ((s.heap.push o).push { cls := .type "enumerate", data := .fields #[.none, .bool false, .ref s.heap.objs.size, rawInt 0, .none, .none] }) (s.heap.objs.size + 1) s.heap.objs.size 0 .none := by
    have := Heap.get?_push_size (s.heap.push o) (o := { cls := .type "enumerate", data := .fields #[.none, .bool false, .ref s.heap.objs.size, rawInt 0, .none, .none] }) rfl
    rw [hz] at this; exact this
  refine ⟨⟨_, he, rfl⟩, h _ he (Heap.get?_push_of_some _ (Heap.get?_push_size _ B.free)) (by rw [Heap.size_push, hz]) fun b o x => Heap.get?_push_of_some _ (Heap.get?_push_of_some _ x)⟩
end
/-- the tuple at a, each item in a new pair -/
def Ient (K : PySem.W.Frag) (a : Addr) : It :=
  ⟨fun i H => ∃ (xs : List V) (x : V), SqT K H a xs ∧ xs[i]? = some x, fun i H v H' => ∃ T x, v = .ref T ∧ H T = none ∧ H' = upd H T (.tup [.int (i : Nat), x]) ∧ ∀ xs, SqT K H a xs → xs[i]? = some x, fun i H => ∃ xs : List V, SqT K H a xs ∧ xs.length = i⟩
theorem turn_enumT {P : Program} {w : World} {K : PySem.W.Frag} {elts : List Expr} {kk : Nat} {tpos : Pos} (a e it : Addr) :
    Turn P w K (.Tuple elts kk tpos) (Ient K a) [e, it] e (fun i h => (∃ old, IsEnum h e it ((i : Nat) : Int) old) ∧ h.IsTupleIter it a i ∧ e ≠ it ∧ a ≠ it ∧ e ≠ a) where
  mem := by simp
  obj := fun i h st b hb => by
    obtain ⟨⟨old, he⟩, ⟨o, ho, hc, hd⟩, _⟩ := st
    have e' : b = e ∨ b = it := by simpa using hb
    rcases e' with z | z
    · rw [z]; exact ⟨_, he, fun v q => nomatch q⟩
    · rw [z]; exact ⟨o, ho, fun v q => by rw [hd] at q; cases q⟩
  keep := fun i h h' st k => let ⟨⟨old, he⟩, hi, hne⟩ := st; ⟨⟨old, k e (by simp) _ he⟩, hi.at fun o q => k it (by simp) o q, hne⟩
  item := by
    intro X hP hw hK hc i pins s σ H E I hf st hg
    subst hP hw hK
    obtain ⟨⟨old, he⟩, hit, hne, hai, hea⟩ := st
    obtain ⟨xs, x, hq, hx⟩ := hg
    obtain ⟨its, rv, p, hz⟩ := I.tuple hq
    obtain ⟨u, hu, ru⟩ := rv.get hx
    have hi : i < its.toArray.size := by
      have := (List.getElem?_eq_some_iff.mp hu).1
      simpa using this
    have hel : e < s.heap.objs.size := Heap.lt_size he
    have hil : it < s.heap.objs.size := by obtain ⟨_, q, _⟩ := hit; exact Heap.lt_size q
    have D := Draws.tuple (prog := X.prog) (w := X.w) (A := X.A.in1) (I.ok.hd hc) it a hai its.toArray
    refine wpAny_pyNext_enum_itemD D he ⟨hit, p⟩ hi hne (by simp [hne, hea]) fun x0 h' tk hP ho hst' hT hsz hk => ?_
    have ex : x0 = u := by
      have hP : its.toArray[i]? = some x0 := hP
      have h2 : its.toArray[i]? = some u := by simpa using hu
      rw [hP] at h2
      exact Option.some.inj h2
    subst ex
    refine ⟨_, rfl, wpAny_letOwnedTupleGo_enum (s := { s with heap := h', toks := tk + 1 }) ho fun h'' he' sb => ?_⟩
    have hT2 : h''.get? s.heap.objs.size = some { cls := .type "tuple", data := .seq #[.int i tk, x0] } := (sb.2 _ (Nat.ne_of_gt hel)).trans hT
    have new : ObjOk X.prog X.w (upd H s.heap.objs.size (.tup [.int (i : Nat), x])) h'' s.heap.objs.size (.tup [.int (i : Nat), x]) :=
      ⟨by show 2 ≤ sizeLine; decide, [.int i tk, x0], .cons ⟨_, rfl⟩ (.cons ru .nil), ⟨_, hT2, rfl, _, rfl⟩⟩
    have I1 : Inv X pins σ (upd H s.heap.objs.size (.tup [.int (i : Nat), x])) { s with heap := h'', toks := tk + 1 } :=
      I.turnedNew (ch := [e, it]) (fun b ob hb q => (sb.2 b (fun z => hb (by simp [z]))).trans (hk b ob (fun z => hb (by simp [z])) (fun z => hb (by simp [z])) q)) hf (Nat.le_refl _) new
    refine ⟨.ref s.heap.objs.size, _, I1, rfl, ⟨_, x, rfl, I.hok.fresh (Nat.le_refl _), rfl, fun ys hy => by rw [I.tuple_inj hy hq]; exact hx⟩, ⟨⟨x0, ?_⟩, hst'.1.at fun o q => (sb.2 it (Ne.symm hne)).trans q, hne, hai, hea⟩, fun b hb => ?_⟩
    · have e1 : ((i + 1 : Nat) : Int) = (i : Int) + 1 := by omega
      rw [e1]; exact he'
    · have hb' : b < s.heap.objs.size := by
        have e' : b = e ∨ b = it := by simpa using hb
        rcases e' with z | z
        · rw [z]; exact hel
        · rw [z]; exact hil
      rw [upd_ne (Nat.ne_of_lt hb')]
      exact (hf b hb).1
  done := by
    intro X hP hw hK hc i pins s σ H E I hf st hg
    subst hP hw hK
    obtain ⟨⟨old, he⟩, hit, hne, hai, hea⟩ := st
    obtain ⟨xs, hq, hx⟩ := hg
    obtain ⟨its, rv, p, hz⟩ := I.tuple hq
    obtain ⟨f0, f1, f2, f3, f4, f5⟩ := hf it (by simp)
    have hl := rv.length
    have D := Draws.tuple (prog := X.prog) (w := X.w) (A := X.A.in1) (I.ok.hd hc) it a hai its.toArray
    have en : i = its.toArray.size := by simp; omega
    rw [en] at hit
    exact wpAny_pyNext_enum_endD D he ⟨hit, p⟩ fun h' eb => ⟨rfl, I.turned (t' := s.toks) (fun b o hb q => eb b o hb q) f0 f1 f3 f4 f5⟩
  self := fun A i s Q E st h => let ⟨⟨_, he⟩, _⟩ := st; wpAny_pyIter_enum he h
def iEnumT (K : PySem.W.Frag) (ta : TA) : TI := fun σ H R => ta σ H fun vs H1 => ∃ a xs, vs = [.ref a] ∧ SqT K H1 a xs ∧ R (Ient K a) H1
theorem pi_enumT {X : Cx} {e : Expr} {ta : TA} {p pos tpos : Pos} {elts : List Expr} {kk : Nat} (hg : Gl X "enumerate") (hm : X.mg "enumerate" = none) (ha : PA X [e] ta) (hs : starEach [e] X.env = [(false, eval e X.env)] := by rfl) :
    PI X (.Tuple elts kk tpos) (.Call (.Name "enumerate" p) [e] [] pos) (iEnumT X.K ta) := by
  refine ⟨fun pins s σ H R I h => ?_⟩
  refine Call_ (ld_blt I hg hm boot_enumerate (PyProof.Rows.callWith_type1 (thn (ha.run pos pins s σ H _ I h) fun us s1 ⟨vs, H1, I1, r1, q1⟩ => ?_) hs rfl))
  obtain ⟨a, xs, ex, hq, q⟩ := q1
  subst ex
  cases r1 with
  | cons r rr =>
    cases rr
    cases r
    obtain ⟨its, rv, p', hz⟩ := I1.tuple hq
    have p' : s1.heap.IsTuple a its.toArray := p'
    have hal : a < s1.heap.objs.size := by obtain ⟨_, q, _⟩ := p'; exact Heap.lt_size q
    refine enum_begins1 (begins_tuple a its.toArray) p' fun h' he hit hsz hk => wpAny_pyIter_enum he ?_
    have I2 : Inv X pins σ H1 { s1 with heap := h' } := I1.kept (t' := s1.toks) hk
    refine ⟨s1.heap.objs.size + 1, [s1.heap.objs.size + 1, s1.heap.objs.size], _, _, H1, rfl, I2, turn_enumT a (s1.heap.objs.size + 1) s1.heap.objs.size, ⟨⟨.none, he⟩, ⟨_, hit, rfl, rfl⟩, Nat.succ_ne_self _, Nat.ne_of_lt hal, ?_⟩, fun b hb => ?_, q⟩
    · exact fun z => absurd (show s1.heap.objs.size + 1 < s1.heap.objs.size from z ▸ hal) (by omega)
    have e' : b = s1.heap.objs.size + 1 ∨ b = s1.heap.objs.size := by simpa using hb
    have hle : s1.heap.objs.size ≤ b := by
      rcases e' with z | z
      · rw [z]; exact Nat.le_add_right _ _
      · rw [z]; exact Nat.le_refl _
    exact I1.fpOk hle (I1.hok.fresh hle)
theorem walk_enumT {K : PySem.W.Frag} {a : Addr} {xs : List V} : Walk (Ient K a) xs.length (fun H => SqT K H a xs) (YPair (fun i => some (.int (i : Nat))) (fun i => xs[i]?)) := by
  refine ⟨fun i _ hi q => ⟨xs, xs[i], q, by simp [hi]⟩, fun _ q => ⟨xs, q, rfl⟩, fun i H v H' _ q y => ?_⟩
  obtain ⟨T, x, h1, h2, h3, h4⟩ := y
  exact ⟨T, .int (i : Nat), x, h1, h2, h3, rfl, h4 xs q⟩
/-! ### C( *y), C( *y, e) -/
theorem evalArgs_star2 {M : Model} {A : Around} {E : Value → Shared → Prop} {s : Shared} {f : Value} {x : Sem Value} {y : Bool × Sem Value} {rest : List (Bool × Sem Value)} {Q : Args → Shared → Prop}
    (h : wpAny M A (spliced ((true, x) :: y :: rest)) (fun vs s' => Q ⟨vs, []⟩ s') E s) : wpAny M A (evalArgs f true ((true, x) :: y :: rest) []) Q E s := by
  unfold evalArgs
  show wpAny M A (spliced ((true, x) :: y :: rest) >>= _) Q E s
  refine wpAny_bind (wpAny_mono h (fun vs s' h' => ?_) fun _ _ x => x)
  refine wpAny_holding ?_
  exact wpAny_bind (wpAny_pure (wpAny_bind (wpAny_pure (wpAny_pure h'))))
section
variable {X : Cx} {CX : CXT} {k : Nat} {f C : Addr} {sp : Sp} {E : XK} {x : Str} {e e2 : Expr} {te : TE} {t : TA} {p sp_ pos : Pos}
/-- C( *y): a tuple or a list -/
theorem pe_makeS1 (M : Mk X.K C f) (F : FnR X.prog X.w X.K X.mg X.base CX k f sp) (hr : Room (k + 1) X.A) (hg : Gl X x) (hm : X.mg x = some (.ref C)) (hx : Passes CX X E) (he : PE X e te) (hd : (x == ("__debug__" : Str)) = false := by decide)
    (hst : starEach [.Starred e sp_] X.env = [(true, eval e X.env)] := by rfl) :
    PE X (.Call (.Name x p) [.Starred e sp_] [] pos) (fun σ H Q => te σ H fun y H1 => ∃ a xs, y = V.ref a ∧ (SqT X.K H1 a xs ∨ SqL X.K H1 a xs) ∧ ∀ x dx, H1 x = Option.none → H1 dx = Option.none → dx ≠ x →
      sp (V.ref x :: xs) (upd (upd H1 dx (.own x)) x (.ins C dx [])) (fun v H2 => v = .non ∧ Q (.ref x) H2) E) := by
  refine ⟨fun pins s σ H Q I h => ?_⟩
  refine wpAny_Call_Name_kw (ld_glob I hg hm ?_ hd)
  refine PySem.W.callWith_S (h₀ := X.base) I.ok.mod.kin M.kp (thn (he.run pins s σ H _ I h) fun v s1 ⟨y, H1, I1, ry, a, xs, ey, hxs, q⟩ => ?_) hst
  subst ey
  obtain rfl : v = Value.ref a := ry
  exact StX.star_any I1 hxs fun us s2 I2 rv => ⟨I2.kIn, StX.run_makeR M F hr hx I2 rv q⟩
/-- C( *y, e) -/
theorem pe_makeS2 (M : Mk X.K C f) (F : FnR X.prog X.w X.K X.mg X.base CX k f sp) (hr : Room (k + 1) X.A) (hg : Gl X x) (hm : X.mg x = some (.ref C)) (hx : Passes CX X E) (ha : PA X [.Starred e sp_, e2] t) (hd : (x == ("__debug__" : Str)) = false := by decide)
    (hst : starEach [.Starred e sp_, e2] X.env = [(true, eval e X.env), (false, eval e2 X.env)] := by rfl) :
    PE X (.Call (.Name x p) [.Starred e sp_, e2] [] pos) (StX.tMakeR C sp E t) := by
  refine ⟨fun pins s σ H Q I h => ?_⟩
  refine wpAny_Call_Name_kw (ld_glob I hg hm ?_ hd)
  have z := thn (ha.run pos pins s σ H _ I h) fun us s1 ⟨vs, H1, I1, r, q⟩ => (⟨I1.kIn, StX.run_makeR M F hr hx I1 r q⟩ : X.K.In s1.heap ∧ wpAny (model X.prog X.w) X.A (call (.ref C) ([] ++ us)) (EP X pins σ Q) X.xe s1)
  rw [hst] at z ⊢
  exact PySem.W.ks_call rfl (PySem.W.keeps_K M.kp) (evalArgs_star2 z)
/-- C() -/
theorem pe_makeR0 (M : Mk X.K C f) (F : FnR X.prog X.w X.K X.mg X.base CX k f sp) (hr : Room (k + 1) X.A) (hg : Gl X x) (hm : X.mg x = some (.ref C)) (hx : Passes CX X E) (hd : (x == ("__debug__" : Str)) = false := by decide) :
    PE X (.Call (.Name x p) [] [] pos) (fun σ H1 Q => ∀ x dx, H1 x = Option.none → H1 dx = Option.none → dx ≠ x → sp [V.ref x] (upd (upd H1 dx (.own x)) x (.ins C dx [])) (fun v H2 => v = .non ∧ Q (.ref x) H2) E) := by
  refine ⟨fun pins s σ H Q I h => ?_⟩
  refine wpAny_Call_Name_kw (ld_glob I hg hm ?_ hd)
  exact PySem.W.callWith_K0 I.kIn M.kp (StX.run_makeR (us := []) M F hr hx I .nil h)
end
end Ur
/-! FA: a fence is made: Fence.__init__. -/
namespace Ur
open PySem PySem.Spec PyProof.Rows L2
/-- a painter as it stands -/
structure Pt where
  a : Addr
  nm : Str
  d : Int
  p : Int
  s : Int
def PtAt (C : Addr) (H : Hp) (x : Pt) : Prop := PnAt C H x.a x.nm x.d x.p x.s ∧ PartOk x.nm x.d x.p x.s
def refsOf (L : List Pt) : List V := L.map fun x => V.ref x.a
def kvOf (L : List Pt) : List (Key × V) := L.map fun x => (Sum.inr x.nm, V.ref x.a)
def ffs (t d : Addr) : List (Str × V) := [("_painters", .ref t), ("_by_name", .ref d)]
theorem ffs_p (t d : Addr) : (ffs t d).lookup ("_painters" : Str) = some (V.ref t) := rfl
theorem ffs_b (t d : Addr) : (ffs t d).lookup ("_by_name" : Str) = some (V.ref d) := rfl
/-- painters that can stand in a fence -/
structure Crew (C : Addr) (H : Hp) (L : List Pt) : Prop where
  at_ : ∀ x ∈ L, PtAt C H x
  nd : (L.map Pt.nm).Nodup
  few : L.length ≤ 40
/-- a fence stands at f -/
structure FcAt (C CF : Addr) (H : Hp) (f : Addr) (L : List Pt) : Prop where
  ex : ∃ dx t d, H f = some (.ins CF dx (ffs t d)) ∧ H t = some (.tup (refsOf L)) ∧ H d = some (.dK (kvOf L))
  crew : Crew C H L
theorem PtAt.same {C : Addr} {H H' : Hp} {x : Pt} (h : PtAt C H x) (s : Same H H') : PtAt C H' x := let ⟨⟨dx, e⟩, z⟩ := h; ⟨⟨dx, s _ _ e⟩, z⟩
theorem Crew.same {C : Addr} {H H' : Hp} {L : List Pt} (h : Crew C H L) (s : Same H H') : Crew C H' L := ⟨fun x hx => (h.at_ x hx).same s, h.nd, h.few⟩
theorem FcAt.same {C CF : Addr} {H H' : Hp} {f : Addr} {L : List Pt} (h : FcAt C CF H f L) (s : Same H H') : FcAt C CF H' f L :=
  let ⟨dx, t, d, h1, h2, h3⟩ := h.ex
  ⟨⟨dx, t, d, s _ _ h1, s _ _ h2, s _ _ h3⟩, h.crew.same s⟩
theorem valV_of {L : List Pt} {nm : Str} (h : nm ∉ L.map Pt.nm) : valV (kvOf L) (Sum.inr nm : Key) = none := by
  induction L with
  | nil => rfl
  | cons x r ih =>
    have h1 : ¬ nm = x.nm := fun e => h (by rw [e]; exact List.mem_cons_self)
    have h2 : nm ∉ r.map Pt.nm := fun e => h (List.mem_cons_of_mem _ e)
    show valV ((Sum.inr x.nm, V.ref x.a) :: kvOf r) _ = none
    rw [valV_neg (fun e => h1 (Sum.inr.inj e).symm)]
    exact ih h2
theorem valV_at {L : List Pt} (nd : (L.map Pt.nm).Nodup) {x : Pt} (h : x ∈ L) : valV (kvOf L) (Sum.inr x.nm : Key) = some (V.ref x.a) := by
  induction L with
  | nil => cases h
  | cons y r ih =>
    have nd' := List.nodup_cons.mp nd
    show valV ((Sum.inr y.nm, V.ref y.a) :: kvOf r) _ = _
    rcases List.mem_cons.mp h with rfl | h
    · exact valV_pos rfl
    · have ne : ¬ y.nm = x.nm := fun e => nd'.1 (by rw [e]; exact List.mem_map_of_mem h)
      rw [valV_neg (fun e => ne (Sum.inr.inj e))]
      exact ih nd'.2 h
/-- what the class of fences must have -/
structure FTxt (K : PySem.W.Frag) (mg : Str → Option Value) (CF : Addr) : Prop where
  cl : Cls K CF
  nP : NoAttr K CF "_painters"
  nB : NoAttr K CF "_by_name"
  mgF : mg "Fence" = some (.ref CF)
theorem fun_star {K : PySem.W.Frag} {P : Program} {w : World} {mg : Str → Option Value} {base : Heap} {x qual : Str} {st : Stmt} {f : Addr} {fd : FuncData} {N : List Str} {p1 pv : Str} {k : Nat} {sp : Sp} (F : Fun K x qual st f fd) (S : FnScope N [p1, pv] (defScope st))
    (h0 : ∀ (kV doc pm : Value) (an : Option Addr) (cdv ct : Value) (a : Value), bindArgs (PySem.W.fnOf x qual (defArgs st) (defBody st) (defScope st) .none kV doc pm an cdv ct) ⟨[a], []⟩ = (newTuple [] >>= fun t => pure [(p1, a), (pv, t)]))
    (h1 : ∀ (kV doc pm : Value) (an : Option Addr) (cdv ct : Value) (a r : Value) (rs : List Value), bindArgs (PySem.W.fnOf x qual (defArgs st) (defBody st) (defScope st) .none kV doc pm an cdv ct) ⟨a :: r :: rs, []⟩ = (newTuple (r :: rs) >>= fun t => pure [(p1, a), (pv, t)]))
    (hbody : ∀ (cdv : Value) (A : Around) (outer : List Env) (s : Shared) (H : Hp) (vs : List V) (Q : VK) (E : XK), Room k (A.deeper (envOfC qual (defScope st) s.heap.objs.size f cdv)) → sp vs H Q E →
      ∃ t, PSs (cxOf CX0 P w K mg base N qual (defScope st) f cdv A outer s H E).nox (defBody st) t ∧ t { nx := fun _ H' => Q .non H', rt := Q } (start N vs) H) :
    FnR P w K mg base CX0 (k + 1) f (fun vs H Q E => ∃ w rest, vs = w :: rest ∧ rest.length ≤ sizeLine ∧ ∀ p, H p = Option.none → sp [w, V.ref p] (upd H p (.tup rest)) Q E) := by
  obtain ⟨oc, od, kV, doc, pm, an, cdv, ct, osl, rfl, lk, hcd⟩ := F.ex
  refine (StX.fn_star (ps := [p1]) (pv := pv) (sp := sp) lk hcd S StX.cxUp_none (StX.bind_star1 (B := fun us => bindArgs (PySem.W.fnOf x qual (defArgs st) (defBody st) (defScope st) .none kV doc pm an cdv ct) ⟨us, []⟩) (h0 kV doc pm an cdv ct) (h1 kV doc pm an cdv ct)) fun A outer s H vs Q E hr hsp => ?_).imp ?_
  · obtain ⟨t, h, q⟩ := hbody cdv A outer s H vs Q E hr hsp
    exact ⟨t, h.nox, q⟩
  · rintro vs H Q E ⟨w, rest, rfl, hl, q⟩
    exact ⟨[w], rest, rfl, rfl, hl, q⟩
abbrev s_Fence_init : Stmt := (inClass (topS 62) 0)
abbrev N_sc_Fence_init : List Str := ["self", "painters", "index", "painter", "by_name"]
abbrev P_Fence_init : List Str := ["self", "painters"]
theorem sc_Fence_init : FnScope N_sc_Fence_init P_Fence_init (defScope s_Fence_init) := ⟨rfl, rfl, rfl, by decide +kernel, rfl, by decide +kernel, by decide +kernel⟩
def spFInit (C CF : Addr) : Sp := fun vs H Q _ => ∃ (x dx t : Addr) (L : List Pt), vs = [.ref x, .ref t] ∧ H x = some (.ins CF dx []) ∧ H t = some (.tup (refsOf L)) ∧ Crew C H L ∧
  ∀ H' d, H' x = some (.ins CF dx (ffs t d)) → H' d = some (.dK (kvOf L)) → Keep x H H' → Q .non H'
section
variable {P : Program} {w : World} {K : PySem.W.Frag} {mg : Str → Option Value} {base : Heap}
theorem refs_at {L : List Pt} {i : Nat} {v : V} (h : (refsOf L)[i]? = some v) : ∃ x, L[i]? = some x ∧ v = V.ref x.a := by
  unfold refsOf at h
  rw [List.getElem?_map] at h
  cases e : L[i]? with
  | none => rw [e] at h; cases h
  | some x => rw [e] at h; exact ⟨x, rfl, (Option.some.inj h).symm⟩
theorem take_snoc {α : Type} {L : List α} {i : Nat} {x : α} (h : L[i]? = some x) : L.take (i + 1) = L.take i ++ [x] := by
  rw [List.take_add_one, h]
  rfl
set_option maxHeartbeats 16000000 in
theorem ok_finit {C CF f : Addr} {fd : FuncData} (F : Fun K "__init__" "Fence.__init__" s_Fence_init f fd) (B : Blt mg) (hEn : mg "enumerate" = none) (T : PTxt K mg C) (U : FTxt K mg CF) (hI : C8.InsC K C) (hName : PropS P w K mg base C "name" 1 (getSp C "_name"))
    {uM : Value} (hMP : mg "MAX_PAINTERS" = some uM) (rMP : L2.RelV (.int 40) uM) :
    FnR P w K mg base CX0 3 f (fun vs H Q E => ∃ w rest, vs = w :: rest ∧ rest.length ≤ sizeLine ∧ ∀ p, H p = Option.none → spFInit C CF [w, V.ref p] (upd H p (.tup rest)) Q E) := by
  refine fun_star F (k := 2) sc_Fence_init (fun _ _ _ _ _ _ _ => rfl) (fun _ _ _ _ _ _ _ _ _ => rfl) (fun cdv A outer s H vs Q E hr h => ?_)
  obtain ⟨x, dx, t, L, rfl, hx, ht, cr, q⟩ := h
  have hu := hu_of hr
  refine ⟨_, (pss_cons (ps_for PassesOwn.never rfl (pi_enumT rfl hEn (pa_cons (pv 1) pa_nil)) (pg_tup rfl (pgs_cons (pg_name (i := 2) sc_Fence_init.nd rfl (Or.inl rfl)) (pgs_cons (pg_name (i := 3) sc_Fence_init.nd rfl (Or.inl rfl)) pgs_nil))) (pss_one (ps_if (pt_not (pt_val (pe_callB (C8.call_isC hI) rfl B.isinstance_ (by decide +kernel) (pa_cons (pv 3) (pa_cons (pe_glob (v := V.ref C) rfl T.mgP rfl) pa_nil))))) (pss_one ps_never) pss_nil))) (pss_cons (ps_set (i := 4) sc_Fence_init.nd rfl (Or.inl rfl) pe_dnewK) (pss_cons (ps_for PassesOwn.never rfl (pi_tup (pv 1)) (pg_name (i := 3) sc_Fence_init.nd rfl (Or.inl rfl)) (pss_cons (ps_if (pt_cmp (pc_din hu (pe_prS (pv 3) T.cl hName (hr.mono (by decide))) (pv 4))) (pss_one ps_never) pss_nil) (pss_one (ps_dput hu (pv 4) (pe_prS (pv 3) T.cl hName (hr.mono (by decide))) (pv 3) rfl)))) (pss_cons (ps_if (pt_cmpR op_gt (pe_callB call_len_seq rfl B.len_ PySem.boot_len (pa_cons (pv 1) pa_nil)) (pe_glob (v := .int 40) rfl hMP rMP) (nomark _)) (pss_one ps_never) pss_nil) (pss_cons (ps_fld (pv 0) (pv 1) rfl) (pss_one (ps_fld (pv 0) (pv 4) rfl))))))), ?_⟩
  refine ⟨_, rfl, t, _, rfl, .inl (.inl ht), ?_⟩
  refine for_it walk_enumT (fun i σ H1 => ∃ o2 o3, σ = [some (.ref x), some (.ref t), o2, o3, none] ∧ Same H H1) ⟨_, _, rfl, Same.refl _⟩ (fun i σ H1 _ h => by obtain ⟨_, _, _, h⟩ := h; exact sameTup h (.inl (.inl ht))) ?_ ?_
  · rintro i v σ H1 H2 hi ⟨o2, o3, rfl, s1⟩ ⟨T0, y1, y2, rfl, hT, rfl, e1, e2⟩
    obtain rfl := Option.some.inj e1
    obtain ⟨z, hz, rfl⟩ := refs_at e2
    refine ⟨T0, _, rfl, .inl (.inl upd_same), rfl, _, _, rfl, _, _, rfl, rfl, ?_⟩
    have pz := ((cr.at_ z (List.mem_of_getElem? hz)).same s1).same (same_new hT (.tup [V.int (i : Int), V.ref z.a]))
    obtain ⟨dz, ez⟩ := pz.1
    refine ⟨_, rfl, z.a, dz, _, rfl, ez, true, rfl, iteF ?_⟩
    exact ⟨_, _, rfl, s1.trans (same_new hT _)⟩
  · rintro σ H1 ⟨o2, o3, rfl, s1⟩
    refine fun d hd => ?_
    have ht1 := s1 _ _ ht
    have cr1 := cr.same s1
    have hx1 := s1 _ _ hx
    refine ⟨_, rfl, t, rfl, ⟨_, .inl (.inl (same_new hd _ _ _ ht1))⟩, for_tup (K := K) (a := t) (xs := refsOf L) (fun i σ H2 => ∃ o3, σ = [some (.ref x), some (.ref t), o2, o3, some (.ref d)] ∧ H2 d = some (.dK (kvOf (L.take i))) ∧ Same H1 H2) ⟨_, rfl, upd_same, same_new hd _⟩ (fun i σ H2 _ h => by obtain ⟨_, _, _, h⟩ := h; exact .inl (.inl (h _ _ ht1))) ?_ ?_⟩
    · rintro i v σ H2 e2 ⟨o3, rfl, hd2, s2⟩
      obtain ⟨z, hz, rfl⟩ := refs_at e2
      have hi : i < L.length := (List.getElem?_eq_some_iff.mp hz).1
      have pz := (cr1.at_ z (List.mem_of_getElem? hz)).same s2
      obtain ⟨dz, ez⟩ := id pz.1
      have nk : z.nm ∉ (L.take i).map Pt.nm := by
        have h1 := cr.nd
        have h2 : L = L.take i ++ z :: L.drop (i + 1) := by
          have h3 : L.drop i = z :: L.drop (i + 1) := by
            rw [List.drop_eq_getElem_cons hi]
            congr 1
            exact Option.some.inj ((List.getElem?_eq_getElem hi).symm.trans hz)
          rw [← h3, List.take_append_drop]
        rw [h2, List.map_append, List.map_cons] at h1
        exact fun e => (List.nodup_append.mp h1).2.2 _ e _ List.mem_cons_self rfl
      have vn := valV_of nk
      refine ⟨_, rfl, z.a, dz, _, rfl, ez, z.a, dz, _, _, rfl, ez, pfs_name _ _ _ _, ?_⟩
      refine ⟨_, rfl, d, none, rfl, ?_, _, rfl, iteF ?_⟩
      · have g := DGet.k (k := (Sum.inr z.nm : Key)) hd2
        rw [vn] at g
        exact g
      refine ⟨_, rfl, _, rfl, _, rfl, z.a, dz, _, rfl, ez, z.a, dz, _, _, rfl, ez, pfs_name _ _ _ _, d, _, rfl, DPut.k (k := (Sum.inr z.nm : Key)) hd2 (by show (kvOf (L.take i)).length < sizeLine; unfold kvOf; rw [List.length_map, List.length_take]; exact Nat.lt_of_le_of_lt (Nat.le_trans (Nat.min_le_right _ _) cr.few) (by decide)), ?_⟩
      refine ⟨_, rfl, ?_, fun b o e => ?_⟩
      · rw [upd_same, putK_new _ vn, take_snoc hz]
        show some (HO.dK (kvOf (L.take i) ++ [(Sum.inr z.nm, V.ref z.a)])) = some (HO.dK (kvOf (L.take i ++ [z])))
        unfold kvOf
        rw [List.map_append]
        rfl
      · have nb : b ≠ d := ne_of_none e hd
        rw [upd_ne nb]
        exact s2 _ _ e
    · rintro σ H2 ⟨o3, rfl, hd2, s2⟩
      have hl : (refsOf L).length = L.length := by unfold refsOf; rw [List.length_map]
      rw [hl, List.take_length] at hd2
      have ht2 := s2 _ _ ht1
      have hx2 := s2 _ _ hx1
      refine ⟨_, rfl, t, _, rfl, .inr (SqT.of ht2), _, _, rfl, rfl, _, rfl, ?_⟩
      have c : decide ((40 : Int) < ((refsOf L).length : Int)) = false := decide_eq_false (by have := cr.few; rw [hl]; omega)
      show (if decide ((40 : Int) < ((refsOf L).length : Int)) = true then _ else _)
      rw [c]
      refine iteF ?_
      refine ⟨_, rfl, _, rfl, x, CF, dx, [], rfl, hx2, U.cl, U.nP, (by show 0 < 1000; decide), ?_⟩
      refine ⟨_, rfl, _, rfl, x, CF, dx, _, rfl, upd_same, U.cl, U.nB, (by show 1 < 1000; decide), ?_⟩
      have nd : d ≠ x := fun e => by rw [e] at hd; rw [hx1] at hd; cases hd
      refine q _ d upd_same ?_ fun b o e nb => ?_
      · rw [upd_ne nd, upd_ne nd]
        exact hd2
      · rw [upd_ne nb, upd_ne nb]
        exact s2 _ _ (s1 _ _ e)
end
end Ur
/-! UrO: operators of own classes: + with another own class at its right, ==, != with both answers, in, len, [..]; == and != of tuples whose items have an own ==. -/
namespace PySem.W
open PySem PySem.Calls PyProof.Rows Builtin
section
variable {prog : Program} {w : World} {A : Around} {E : Value → Shared → Prop} {s : Shared} {K : Frag} {x C C2 L f f2 : Addr} {h₀ : Heap} {m : Str → Option Value} {ox : Obj} {od : Option Obj} {b tb : Value}
/-- a + b, b of another own class that has the operator too, but not the reflected one -/
theorem ur_binC {op : Operator} {Q : Value → Shared → Prop} (F : Fr h₀ L s.heap m) (X₀ : K.In h₀) (I : InstAt s.heap x ox C od) (hb : Looks (model prog w) s.heap (typeOf b) (.ref C2)) (hc : selfFirst K C = true) (hc2 : selfFirst K C2 = true) (hne : C ≠ C2)
    (hs : findIn K (.ref C) (PySem.dunder op.info.2) = some (some (.ref f))) (hf : isFn K (.ref f) = true) (hr : findIn K (.ref C) (dunderR op.info.2) = some none)
    (hs2 : findIn K (.ref C2) (PySem.dunder op.info.2) = some (some (.ref f2))) (hr2 : findIn K (.ref C2) (dunderR op.info.2) = some none) (hsub : subIn K (.ref C2) (.ref C) = some false)
    (h : wpAny (model prog w) A (call (.ref f) [.ref x, b]) (CmpBack Q) E s) : wpAny (model prog w) A (binaryOp op (.ref x) b) Q E s := by
  have X := X₀.keeps F.keep
  obtain ⟨cd, rest, hcd, hm⟩ := ksp_first hc
  obtain ⟨cd2, rest2, hcd2, hm2⟩ := ksp_first hc2
  rcases hi : op.info with ⟨sym, nm'⟩
  rw [hi] at hs hr hs2 hr2
  dsimp only at hs hr hs2 hr2
  have one := ksp_try X I hs hf h
  obtain ⟨hh, g, d, tt, os⟩ := s
  have L1 : Looks (model prog w) hh (typeOf (.ref x)) (.ref C) := I.type
  have L2 : Looks (model prog w) hh (typeOf b) (.ref C2) := hb
  have L3 : Looks (model prog w) hh (fillsNumberSlot (.ref C) nm') true := fills_K X hcd hm hs
  have L4 : Looks (model prog w) hh (fillsNumberSlot (.ref C2) nm') true := fills_K X hcd2 hm2 hs2
  have L5 : Looks (model prog w) hh (isSubtype (.ref C2) (.ref C)) false := looks_subIn X hsub
  have L6 : Looks (model prog w) hh (numberSlotInPython (.ref C) nm') true := ksp_inPy X hs hr (.inl rfl)
  have L7 : Looks (model prog w) hh (numberSlotInPython (.ref C2) nm') true := ksp_inPy X hs2 hr2 (.inl rfl)
  have hne : (Value.ref C == Value.ref C2) = false := Bool.eq_false_iff.mpr fun q => by cases beq_iff_eq.mp q; exact hne rfl
  simp only [binaryOp, hi]
  refine wpAny_holding (wpAny_bind ?_)
  unfold binaryOp1
  refine wpAny_bind (L1.at (wpAny_bind (L2.at (wpAny_bind (L3.at ?_)))))
  simp only [hne, Bool.false_eq_true, if_false]
  ksp_lk
  refine wpAny_mono one (fun r s' hr' => ?_) fun _ _ e => e
  obtain ⟨v, rfl, hq⟩ := hr'
  ksp_lk
  exact hq
/-- a builtin slot of an own class, asked for -/
theorem ur_ifBound {name : Str} {id : String} {args : List Value} {M : Model} {Q : Option Value → Shared → Prop} (X : K.In s.heap) (I : InstAt s.heap x ox C od) (hs : findIn K (.ref C) name = some (some (.builtin id)))
    (hb : ∀ self, bindSpecial (.builtin id) self = pure (.builtin id, [self])) (h : wpAny M A (call (.builtin id) (.ref x :: args)) (fun v => Q (some v)) E s) : wpAny M A (callSpecialIfBound? (.ref x) name args) Q E s := by
  simp only [callSpecialIfBound?, bindSpecialIfBound?]
  refine wpAny_holding (wpAny_bind (wpAny_bind (wpAny_bind (I.type.here ((looks_findIn X hs).here ?_)))))
  refine wpAny_bind (wpAny_askSetting (wpAny_ite ?_))
  have fin : wpAny M A (call (.builtin id) ([.ref x] ++ args) >>= fun v => pure (some v)) Q E s := wpAny_bind (wpAny_mono h (fun v s' h' => wpAny_pure h') fun _ _ h' => h')
  split
  · exact wpAny_bind (wpAny_of_eq (hb _) (wpAny_pure (by exact fin)))
  · exact wpAny_tryCatch (wpAny_bind (wpAny_of_eq (hb _) (wpAny_pure (by exact fin))))
/-- a != b by an own == that answers True or False -/
theorem ur_ne {Q : Value → Shared → Prop} (hu : A.units + 1 < cLine) (X : K.In s.heap) (I : InstAt s.heap x ox C od) (hb : Looks (model prog w) s.heap (typeOf b) tb) (hn : notFirst K C tb = true) (hm : mroIn K C (.type "object") = some true)
    (hs : findIn K (.ref C) "__eq__" = some (some (.ref f))) (hf : isFn K (.ref f) = true) (hne : findIn K (.ref C) "__ne__" = some (some (.builtin "object.__ne__")))
    (h : wpAny (model prog w) A.in1 (call (.ref f) [.ref x, b]) (fun v s' => ∃ c, v = .bool c ∧ Q (.bool (!c)) s') E s) : wpAny (model prog w) A (richCompare .NotEq (.ref x) b) Q E s := by
  have one : wpAny (model prog w) A (tryCompare (.ref x) "__ne__" b) (fun r s' => ∃ v, r = some v ∧ Q v s') E s := by
    unfold tryCompare
    refine wpAny_bind (ur_ifBound X I hne (fun self => F.cmp_object.ne.bind self) (wpAny_call (codeAny_call_builtin F.cmp_object.ne.plain F.cmpEntry_ne (check_slot F.cmpKind_ne F.cmpSplit_ne (I.type.andThen (looks_mroIn X hm)) (F.cmpArgs_ne _ _) ?_))))
    unfold Builtin.«object.__ne__»
    refine wpAny_bind (m := slotArgs "__ne__" 1 _) (wpAny_pure ?_)
    refine wpAny_bind (m := cRoomFor _ _) (wpAny_cRoomFor (Nat.lt_of_le_of_lt (by first | exact Nat.le_refl _ | exact Nat.le_succ _) hu) ?_)
    refine wpAny_bind (m := callSpecialIfBound? (.ref x) (Str.ofString "__eq__") [b]) (ifBound_K X I hs hf (wpAny_mono h (fun r s' hq => ?_) fun _ _ y => y))
    obtain ⟨c, rfl, q⟩ := hq
    refine wpAny_bind (m := truthy (.bool c)) (wpAny_truthy_bool ?_)
    exact wpAny_pure (wpAny_pure ⟨_, rfl, q⟩)
  unfold richCompare
  simp only [oneThing_ref]
  refine wpAny_holding (wpAny_bind (wpAny_cRoomFor (Nat.lt_of_succ_lt hu) ?_))
  refine wpAny_bind (I.type.here (wpAny_bind (hb.here ?_)))
  split
  · rename_i q
    have e : subIn K tb (.ref C) = some false := by
      rcases Bool.or_eq_true_iff.mp hn with e | e
      · rw [beq_iff_eq.mp e] at q; simp at q
      · exact beq_iff_eq.mp e
    refine wpAny_bind ((looks_subIn X e).here ?_)
    simp only [Bool.false_eq_true, if_false]
    refine wpAny_bind (wpAny_mono one (fun r s' z => ?_) fun _ _ e => e)
    obtain ⟨v, rfl, hq⟩ := z
    exact wpAny_pure hq
  · refine wpAny_bind (wpAny_pure ?_)
    simp only [Bool.false_eq_true, if_false]
    refine wpAny_bind (wpAny_mono one (fun r s' z => ?_) fun _ _ e => e)
    obtain ⟨v, rfl, hq⟩ := z
    exact wpAny_pure hq
end
end PySem.W
/-! UrQ: == and != of tuples whose items have an own ==, with both answers. -/
namespace GQ
open PySem PySem.SeqAt
open AutoSeq1 (wpAny_loadPart')
open MeetsSeq MeetsSeq2 MeetsSeq3 SeqRoads2
section
variable {prog : Program} {w : World} {A : Around} {R : Result → Shared → Prop}
theorem tuple_eqB (l b : Addr) (items items2 : Array Value) (n n2 : Nat) (dd dd2 : Option Addr) (sl sl2 : Array (Option Value)) (e : Nat → Bool) (I : Nat → Shared → Prop)
    (turn : ∀ i (h1 : i < items.size) (h2 : i < items2.size) s, I i s → wpAny (model prog w) A.in1 (eqBool items[i] items2[i]) (fun r s' => r = e i ∧ I (i + 1) s') (fun e s' => R (.error e) s') s)
    (fin : ∀ i s, I i s → R (.ok (.ret (.bool ((List.range (min items.size items2.size)).all e && items.size == items2.size)))) s) {s : Shared}
    (hl : s.heap.get? l = some { cls := .type "tuple", dict := dd, data := .seq items n, slots := sl }) (hb : s.heap.get? b = some { cls := .type "tuple", dict := dd2, data := .seq items2 n2, slots := sl2 }) (h : I 0 s) :
    wpAny (model prog w) A.in1 (Builtin.«tuple.__eq__» ⟨[.ref l, .ref b], []⟩) (FinOf prog w A R) (fun e s' => R (.error e) s') s := by
  have f2 := AutoSeq1.sub_tuple_tuple
  have hZ : (items.toList.zip items2.toList).length = min items.size items2.size := by simp
  have h0 := h
  obtain ⟨hp, g, d, tk, os⟩ := s
  wp_walk using wpAny_loadPart' hl, wpAny_loadPart' hb, wpAny_forIn_list _ (fun rest b s' => b.1 = none ∧ ∃ i, rest = (items.toList.zip items2.toList).drop i ∧ I i s' ∧
    ((List.range (min items.size items2.size)).all e && items.size == items2.size) = (((List.range (min items.size items2.size)).drop i).all e && items.size == items2.size)) _
  case turn =>
    rintro ⟨y, x⟩ rest b s' ⟨hb', i, hz, hI, hR⟩
    have hlt : i < (items.toList.zip items2.toList).length := by
      rcases Nat.lt_or_ge i (items.toList.zip items2.toList).length with h' | h'
      · exact h'
      · rw [List.drop_of_length_le h'] at hz; cases hz
    have hm : i < min items.size items2.size := hZ ▸ hlt
    have h1 : i < items.size := Nat.lt_of_lt_of_le hm (Nat.min_le_left _ _)
    have h2 : i < items2.size := Nat.lt_of_lt_of_le hm (Nat.min_le_right _ _)
    rw [List.drop_eq_getElem_cons hlt] at hz
    injection hz with hyx hrest
    have hy : y = items[i] := by have := congrArg Prod.fst hyx; simpa using this
    have hx : x = items2[i] := by have := congrArg Prod.snd hyx; simpa using this
    subst hy hx
    have hd : (List.range (min items.size items2.size)).drop i = i :: (List.range (min items.size items2.size)).drop (i + 1) := by simp [List.drop_eq_getElem_cons, hm]
    rw [hd, List.all_cons] at hR
    refine wpAny_bind (wpAny_mono (turn i h1 h2 s' hI) (fun r s2 q2 => ?_) fun _ _ x => x)
    obtain ⟨hr, q2⟩ := q2
    subst hr
    cases hy : e i with
    | true =>
      rw [hy] at hR
      wp_walk
      exact ⟨rfl, i + 1, hrest, q2, by simpa using hR⟩
    | false =>
      rw [hy] at hR
      wp_walk
      have z := fin _ _ q2
      rw [hR] at z
      simpa using z
  case fin =>
    rintro ⟨b1, b2⟩ s' ⟨hb', i, hz, hI, hR⟩
    simp only at hb'
    subst hb'
    have hge : min items.size items2.size ≤ i := by
      rcases Nat.lt_or_ge i (items.toList.zip items2.toList).length with h' | h'
      · rw [List.drop_eq_getElem_cons h'] at hz; cases hz
      · exact hZ ▸ h'
    rw [List.drop_of_length_le (by simpa using hge)] at hR
    wp_walk
    have z := fin _ _ hI
    rw [hR] at z
    simpa [Builtin.Tuple.tupleCompareSizes] using z
  case h =>
    exact ⟨rfl, 0, rfl, h0, by simp⟩
theorem tuple_neB (l b : Addr) (items items2 : Array Value) (n n2 : Nat) (dd dd2 : Option Addr) (sl sl2 : Array (Option Value)) (e : Nat → Bool) (I : Nat → Shared → Prop)
    (turn : ∀ i (h1 : i < items.size) (h2 : i < items2.size) s, I i s → wpAny (model prog w) A.in1 (eqBool items[i] items2[i]) (fun r s' => r = e i ∧ I (i + 1) s') (fun e s' => R (.error e) s') s)
    (fin : ∀ i s, I i s → R (.ok (.ret (.bool (!((List.range (min items.size items2.size)).all e && items.size == items2.size))))) s) {s : Shared}
    (hl : s.heap.get? l = some { cls := .type "tuple", dict := dd, data := .seq items n, slots := sl }) (hb : s.heap.get? b = some { cls := .type "tuple", dict := dd2, data := .seq items2 n2, slots := sl2 }) (h : I 0 s) :
    wpAny (model prog w) A.in1 (Builtin.«tuple.__ne__» ⟨[.ref l, .ref b], []⟩) (FinOf prog w A R) (fun e s' => R (.error e) s') s := by
  have f2 := AutoSeq1.sub_tuple_tuple
  have hZ : (items.toList.zip items2.toList).length = min items.size items2.size := by simp
  have h0 := h
  obtain ⟨hp, g, d, tk, os⟩ := s
  wp_walk using wpAny_loadPart' hl, wpAny_loadPart' hb, wpAny_forIn_list _ (fun rest b s' => b.1 = none ∧ ∃ i, rest = (items.toList.zip items2.toList).drop i ∧ I i s' ∧
    ((List.range (min items.size items2.size)).all e && items.size == items2.size) = (((List.range (min items.size items2.size)).drop i).all e && items.size == items2.size)) _
  case turn =>
    rintro ⟨y, x⟩ rest b s' ⟨hb', i, hz, hI, hR⟩
    have hlt : i < (items.toList.zip items2.toList).length := by
      rcases Nat.lt_or_ge i (items.toList.zip items2.toList).length with h' | h'
      · exact h'
      · rw [List.drop_of_length_le h'] at hz; cases hz
    have hm : i < min items.size items2.size := hZ ▸ hlt
    have h1 : i < items.size := Nat.lt_of_lt_of_le hm (Nat.min_le_left _ _)
    have h2 : i < items2.size := Nat.lt_of_lt_of_le hm (Nat.min_le_right _ _)
    rw [List.drop_eq_getElem_cons hlt] at hz
    injection hz with hyx hrest
    have hy : y = items[i] := by have := congrArg Prod.fst hyx; simpa using this
    have hx : x = items2[i] := by have := congrArg Prod.snd hyx; simpa using this
    subst hy hx
    have hd : (List.range (min items.size items2.size)).drop i = i :: (List.range (min items.size items2.size)).drop (i + 1) := by simp [List.drop_eq_getElem_cons, hm]
    rw [hd, List.all_cons] at hR
    refine wpAny_bind (wpAny_mono (turn i h1 h2 s' hI) (fun r s2 q2 => ?_) fun _ _ x => x)
    obtain ⟨hr, q2⟩ := q2
    subst hr
    cases hy : e i with
    | true =>
      rw [hy] at hR
      wp_walk
      exact ⟨rfl, i + 1, hrest, q2, by simpa using hR⟩
    | false =>
      rw [hy] at hR
      wp_walk
      have z := fin _ _ q2
      rw [hR] at z
      simpa using z
  case fin =>
    rintro ⟨b1, b2⟩ s' ⟨hb', i, hz, hI, hR⟩
    simp only at hb'
    subst hb'
    have hge : min items.size items2.size ≤ i := by
      rcases Nat.lt_or_ge i (items.toList.zip items2.toList).length with h' | h'
      · rw [List.drop_eq_getElem_cons h'] at hz; cases hz
      · exact hZ ▸ h'
    rw [List.drop_of_length_le (by simpa using hge)] at hR
    wp_walk
    have z := fin _ _ hI
    rw [hR] at z
    simpa [Builtin.Tuple.tupleCompareSizes, bne] using z
  case h =>
    exact ⟨rfl, 0, rfl, h0, by simp⟩
end
section
variable {prog : Program} {w : World} {A : Around} {E : Value → Shared → Prop} {s : Shared}
theorem rc_tupEqB {l b : Addr} {items items2 : Array Value} {Q : Value → Shared → Prop} (e : Nat → Bool) (hu : A.units < cLine) (I : Nat → Shared → Prop) (hl : s.heap.IsTuple l items) (hb : s.heap.IsTuple b items2)
    (turn : ∀ i (h1 : i < items.size) (h2 : i < items2.size) s, I i s → wpAny (model prog w) A.in1 (eqBool items[i] items2[i]) (fun r s' => r = e i ∧ I (i + 1) s') E s)
    (fin : ∀ i s, I i s → Q (.bool ((List.range (min items.size items2.size)).all e && items.size == items2.size)) s) (h : I 0 s) : wpAny (model prog w) A (richCompare .Eq (.ref l) (.ref b)) Q E s := by
  obtain ⟨⟨cls, dd, data, sl⟩, ho, hc, n, hd⟩ := id hl
  obtain ⟨⟨cls2, dd2, data2, sl2⟩, ho2, hc2, n2, hd2⟩ := id hb
  simp only at hc hd hc2 hd2
  subst hc hd hc2 hd2
  refine wpAny_richCompare_same_room (op := .Eq) ⟨_, ho, rfl⟩ ⟨_, ho2, rfl⟩ F.slot_tuple_eq (call_here F.slot_tuple_eq ⟨_, ho, rfl⟩ F.entry_tuple_eq (F.args_tuple_eq_2 _ _) ?_) hu
  exact tuple_eqB (R := wants (fun v s' => v ≠ .notImplemented ∧ Q v s') E) l b items items2 n n2 dd dd2 sl sl2 e I turn (fun i s' q => ⟨(fun x => nomatch x), fin i s' q⟩) ho ho2 h
theorem rc_tupNeB {l b : Addr} {items items2 : Array Value} {Q : Value → Shared → Prop} (e : Nat → Bool) (hu : A.units < cLine) (I : Nat → Shared → Prop) (hl : s.heap.IsTuple l items) (hb : s.heap.IsTuple b items2)
    (turn : ∀ i (h1 : i < items.size) (h2 : i < items2.size) s, I i s → wpAny (model prog w) A.in1 (eqBool items[i] items2[i]) (fun r s' => r = e i ∧ I (i + 1) s') E s)
    (fin : ∀ i s, I i s → Q (.bool (!((List.range (min items.size items2.size)).all e && items.size == items2.size))) s) (h : I 0 s) : wpAny (model prog w) A (richCompare .NotEq (.ref l) (.ref b)) Q E s := by
  obtain ⟨⟨cls, dd, data, sl⟩, ho, hc, n, hd⟩ := id hl
  obtain ⟨⟨cls2, dd2, data2, sl2⟩, ho2, hc2, n2, hd2⟩ := id hb
  simp only at hc hd hc2 hd2
  subst hc hd hc2 hd2
  refine wpAny_richCompare_same_room (op := .NotEq) ⟨_, ho, rfl⟩ ⟨_, ho2, rfl⟩ F.slot_tuple_ne (call_here F.slot_tuple_ne ⟨_, ho, rfl⟩ F.entry_tuple_ne (F.args_tuple_ne_2 _ _) ?_) hu
  exact tuple_neB (R := wants (fun v s' => v ≠ .notImplemented ∧ Q v s') E) l b items items2 n n2 dd dd2 sl sl2 e I turn (fun i s' q => ⟨(fun x => nomatch x), fin i s' q⟩) ho ho2 h
end
end GQ
/-! UrV: the rules for == and != of own instances and of tuples of them, for in, len and [..] of own instances. -/
namespace Ur
open PySem PySem.Spec PyProof.Rows L2
/-- x == y is b, by the abstract heap -/
abbrev EqvB := V → V → Bool → Hp → Prop
def MonB (D : EqvB) : Prop := ∀ x y b H H', Ext H H' → D x y b H → D x y b H'
def EqB (X : Cx) (n : Nat) (D : EqvB) : Prop :=
  ∀ (A : Around) (pins : List (Addr × Obj)) (s : Shared) (σ : L2.St) (H : Hp) (x y : V) (b : Bool) (u v : Value), Sub X n A → Inv X pins σ H s → L2.RelV x u → L2.RelV y v → D x y b H →
    wpAny (model X.prog X.w) A (eqBool u v) (fun r s' => r = b ∧ ∃ H', Inv X pins σ H' s' ∧ Ext H H') X.xe s
def RcB (X : Cx) (n : Nat) (op : CmpOp) (g : Bool → Bool) (D : EqvB) : Prop :=
  ∀ (A : Around) (pins : List (Addr × Obj)) (s : Shared) (σ : L2.St) (H : Hp) (x y : V) (b : Bool) (u v : Value), Sub X n A → Inv X pins σ H s → L2.RelV x u → L2.RelV y v → D x y b H →
    wpAny (model X.prog X.w) A (richCompare op u v) (fun r s' => r = .bool (g b) ∧ ∃ H', Inv X pins σ H' s' ∧ Ext H H') X.xe s
section
variable {X : Cx} {n m : Nat} {D : EqvB}
theorem look_ref {M : Model} {h : Heap} {a : Addr} {o : Obj} {t : Value} (ho : h.get? a = some o) (hc : o.cls = t) : PySem.W.Looks M h (typeOf (.ref a)) t := fun A Q E s k q => wpAny_typeOf_ref (k _ _ ho) (by rw [hc]; exact q)
/-- of what kind a value is -/
inductive Knd (H : Hp) : V → Value → Prop where
  | non : Knd H .non (.type "NoneType")
  | bl (x : Bool) : Knd H (.bl x) (.type "bool")
  | int (i : Int) : Knd H (.int i) (.type "int")
  | str (x : Str) : Knd H (.str x) (.type "str")
  | lst {a : Addr} {xs : List V} (e : H a = some (.lst xs)) : Knd H (.ref a) (.type "list")
  | tup {a : Addr} {xs : List V} (e : H a = some (.tup xs)) : Knd H (.ref a) (.type "tuple")
  | dK {a : Addr} {kvs : List (Key × V)} (e : H a = some (.dK kvs)) : Knd H (.ref a) (.type "dict")
  | ins {a C dx : Addr} {fs : List (Str × V)} (e : H a = some (.ins C dx fs)) : Knd H (.ref a) (.ref C)
theorem Knd.ext {H H' : Hp} {y : V} {t : Value} (k : Knd H y t) (e : Ext H H') : Knd H' y t := by
  cases k with
  | non => exact .non
  | bl x => exact .bl x
  | int i => exact .int i
  | str x => exact .str x
  | lst h => exact .lst (e _ _ h)
  | tup h => exact .tup (e _ _ h)
  | dK h => exact .dK (e _ _ h)
  | ins h => exact .ins (e _ _ h)
theorem ty_looks {M : Model} {pins : List (Addr × Obj)} {s : Shared} {σ : L2.St} {H : Hp} {y : V} {v t : Value} (I : Inv X pins σ H s) (r : L2.RelV y v) (ty : Knd H y t) : PySem.W.Looks M s.heap (typeOf v) t := by
  cases ty with
  | non => obtain rfl : v = Value.none := r; exact PySem.W.Looks.of_pure rfl
  | bl x => obtain rfl : v = Value.bool x := r; exact PySem.W.Looks.of_pure rfl
  | int i => obtain ⟨tk, rfl⟩ := (show ∃ tk, v = Value.int i tk from r); exact PySem.W.Looks.of_pure rfl
  | str z => obtain ⟨tk, rfl⟩ := (show ∃ tk, v = Value.str z tk from r); exact PySem.W.Looks.of_pure rfl
  | @lst a xs e =>
    obtain rfl : v = Value.ref a := r
    obtain ⟨_, its, m, rv, g⟩ := (show ObjOk X.prog X.w H s.heap a (.lst xs) from I.hok a _ e)
    exact look_ref g rfl
  | @tup a xs e =>
    obtain rfl : v = Value.ref a := r
    obtain ⟨_, its, rv, o, g, gc, m, gd⟩ := (show ObjOk X.prog X.w H s.heap a (.tup xs) from I.hok a _ e)
    exact look_ref g gc
  | @dK a kvs e =>
    obtain rfl : v = Value.ref a := r
    obtain ⟨_, nsys, kv, rk, o, es0, ep, g, ex, gd, _, prs, _⟩ := dk_of I.hok e
    exact look_ref g ex.1
  | @ins a C dx fs e =>
    obtain rfl : v = Value.ref a := r
    obtain ⟨mA, J0, _⟩ := ins_get I.hok e
    obtain ⟨od, J, _⟩ := J0.look
    exact J.type
/-- what the own == of a class says of a and y -/
abbrev Says := Addr → V → Bool → Hp → Prop
def spEqB (R : Says) : Sp := fun vs H Q _ => ∃ a y b, vs = [.ref a, y] ∧ R a y b H ∧ ∀ H', Ext H H' → Q (.bl b) H'
/-- a class with an own ==, without an own != -/
def EqC (P : Program) (w : World) (K : PySem.W.Frag) (mg : Str → Option Value) (base : Heap) (C : Addr) (k : Nat) (R : Says) : Prop :=
  ∃ f fd ps, PySem.W.findIn K (.ref C) "__eq__" = some (some (.ref f)) ∧ PySem.W.isFn K (.ref f) = true ∧ FnOk P w K mg base CX0 k f fd ps (spEqB R) ∧ Binds K fd ps [] ∧
    PySem.W.findIn K (.ref C) "__ne__" = some (some (.builtin "object.__ne__")) ∧ PySem.W.mroIn K C (.type "object") = some true
def DOwn (K : PySem.W.Frag) (C : Addr) (R : Says) : EqvB := fun x y b H => ∃ a dx fs t, x = .ref a ∧ H a = some (.ins C dx fs) ∧ Knd H y t ∧ PySem.W.notFirst K C t = true ∧ R a y b H
theorem own_run {f : Addr} {fd : FuncData} {ps : List Str} {R : Says} (F : FnOk X.prog X.w X.K X.mg X.base CX0 n f fd ps (spEqB R)) (hb : Binds X.K fd ps []) {A : Around} {pins : List (Addr × Obj)} {s : Shared} {σ : L2.St} {H : Hp} {a : Addr} {y : V} {b : Bool} {v : Value} (sb : Sub X n A) (I : Inv X pins σ H s) (ry : L2.RelV y v) (hr : R a y b H)
    {Q : Value → Shared → Prop} (q : ∀ s' H', Inv X pins σ H' s' → Ext H H' → Q (.bool b) s') : wpAny (model X.prog X.w) A (call (.ref f) [.ref a, v]) Q X.xe s := by
  have hsp : spEqB R [.ref a, y] H (fun v H' => v = .bl b ∧ Ext H H') E0 := ⟨a, y, b, rfl, hr, fun H' e => ⟨rfl, e⟩⟩
  have e0 : Env0 X.prog X.w X.K X.mg X.base A X.stack s H := by
    have e := I.env0
    exact ⟨by rw [sb.fr]; exact e.frames, e.mod, e.bs, e.bsz, e.funs, e.frf, e.hok, e.bare⟩
  have hl := F.len _ _ _ _ hsp
  have r2 : Vals [V.ref a, y] [Value.ref a, v] := .cons rfl (.cons ry .nil)
  refine wpAny_call (codeAny_mono (F.run A X.stack s H ⟨[.ref a, v], []⟩ [.ref a, v] [.ref a, y] _ E0 sb.room e0 (by
    have := hb s [.ref a, v] I.kIn (by simpa using hl)
    simpa using this) r2 hsp) fun r s' hq => ?_)
  cases r with
  | error e => exact pass0 pins σ H s e s' I hq
  | ok fl =>
    cases fl with
    | ret w =>
      obtain ⟨z, H', I', rz, ez, ex⟩ := I.after hq
      subst ez
      cases rz
      exact q s' H' I' ex
    | next => exact False.elim hq
    | brk => exact False.elim hq
    | cont => exact False.elim hq
theorem rcB_own {C : Addr} {R : Says} (h : EqC X.prog X.w X.K X.mg X.base C n R) : RcB X n .Eq id (DOwn X.K C R) := by
  obtain ⟨f, fd, ps, hs, hf, F, hb, _, _⟩ := h
  intro A pins s σ H x y b u v sb I rx ry d
  obtain ⟨a, dx, fs, t, rfl, ha, hk, hn, hr⟩ := d
  cases rx
  obtain ⟨mA, J0, _⟩ := ins_get I.hok ha
  obtain ⟨od, J, _⟩ := J0.look
  obtain ⟨m, hF⟩ := I.fr
  refine PySem.W.cmp_K (op := .Eq) (tb := t) sb.room.units0 hF I.ok.mod.kin J (ty_looks I ry hk) hn hs hf ?_
  exact own_run F hb sb I ry hr fun s' H' I' ex => ⟨rfl, H', I', ex⟩
theorem rcB_ownNe {C : Addr} {R : Says} (h : EqC X.prog X.w X.K X.mg X.base C n R) : RcB X (n + 1) .NotEq (!·) (DOwn X.K C R) := by
  obtain ⟨f, fd, ps, hs, hf, F, hb, hne, hm⟩ := h
  intro A pins s σ H x y b u v sb I rx ry d
  obtain ⟨a, dx, fs, t, rfl, ha, hk, hn, hr⟩ := d
  cases rx
  obtain ⟨mA, J0, _⟩ := ins_get I.hok ha
  obtain ⟨od, J, _⟩ := J0.look
  refine PySem.W.ur_ne (hu_of sb.room) I.kIn J (ty_looks I ry hk) hn hm hs hf hne ?_
  exact own_run F hb sb.in1 I ry hr fun s' H' I' ex => ⟨b, rfl, rfl, H', I', ex⟩
/-- within a list or tuple: the same object is equal to itself -/
theorem RcB.eqB (h : RcB X n .Eq id D) (hr : ∀ x y b H, D x y b H → ∃ a c, x = .ref a ∧ y = .ref c) (hs : ∀ a b H, D (.ref a) (.ref a) b H → b = true) : EqB X n D := by
  intro A pins s σ H x y b u v sb I rx ry d
  obtain ⟨a, c, rfl, rfl⟩ := hr _ _ _ _ d
  cases rx
  cases ry
  by_cases hab : a = c
  · subst hab
    obtain rfl := hs _ _ _ d
    exact SeqAt.EqAt.same (A := A) (s := s) (.ref a) X.prog X.w X.xe _ ⟨rfl, H, I, Ext.rfl'⟩
  · refine GQ.eqBool_refG hab (wpAny_mono (h A pins s σ H (.ref a) (.ref c) b _ _ sb I rfl rfl d) (fun r s' q => ?_) fun _ _ x => x)
    obtain ⟨hr', q⟩ := q
    exact ⟨b, hr', rfl, q⟩
/-- item by item: e says of the i-th -/
def PrsB (D : EqvB) (xs ys : List V) (e : Nat → Bool) (H : Hp) : Prop := ∀ (i : Nat) x y, xs[i]? = some x → ys[i]? = some y → D x y (e i) H
def allB (e : Nat → Bool) (m k : Nat) : Bool := (List.range (min m k)).all e && m == k
def DTupB (K : PySem.W.Frag) (D : EqvB) : EqvB := fun x y b H => ∃ a c xs ys e, x = .ref a ∧ y = .ref c ∧ SqT K H a xs ∧ SqT K H c ys ∧ PrsB D xs ys e H ∧ b = allB e xs.length ys.length
theorem turnB (hD : MonB D) (h : EqB X n D) {A : Around} (sb : Sub X (n + 1) A) {pins : List (Addr × Obj)} {σ : L2.St} {H : Hp} {xs ys : List V} {e : Nat → Bool} {its its2 : List Value} (p : PrsB D xs ys e H) (r : Vals xs its) (r2 : Vals ys its2)
    (i : Nat) (h1 : i < its.toArray.size) (h2 : i < its2.toArray.size) (s' : Shared) (l : LoopI X pins σ H s') :
    wpAny (model X.prog X.w) A.in1 (eqBool its.toArray[i] its2.toArray[i]) (fun r s2 => r = e i ∧ LoopI X pins σ H s2) X.xe s' := by
  obtain ⟨H1, I1, e1⟩ := l
  have g1 : its[i]? = some its.toArray[i] := by
    have h1' : i < its.length := by simpa using h1
    rw [List.getElem?_eq_getElem h1'] <;> simp
  have g2 : its2[i]? = some its2.toArray[i] := by
    have h2' : i < its2.length := by simpa using h2
    rw [List.getElem?_eq_getElem h2'] <;> simp
  have k1 : i < xs.length := by rw [r.length]; simpa using h1
  have k2 : i < ys.length := by rw [r2.length]; simpa using h2
  obtain ⟨u, hu, ru⟩ := r.get (List.getElem?_eq_getElem k1)
  obtain ⟨v, hv, rv⟩ := r2.get (List.getElem?_eq_getElem k2)
  rw [g1] at hu
  rw [g2] at hv
  rw [Option.some.inj hu, Option.some.inj hv]
  refine wpAny_mono (h A.in1 pins s' σ H1 _ _ _ u v sb.in1 I1 ru rv (hD _ _ _ _ _ e1 (p i _ _ (List.getElem?_eq_getElem k1) (List.getElem?_eq_getElem k2)))) (fun r s2 q => ?_) fun _ _ x => x
  obtain ⟨hr, H2, I2, e2⟩ := q
  exact ⟨hr, H2, I2, e1.trans e2⟩
theorem rcB_tup (hD : MonB D) (h : EqB X n D) : RcB X (n + 1) .Eq id (DTupB X.K D) := by
  intro A pins s σ H x y b u v sb I rx ry d
  obtain ⟨a, c, xs, ys, e, rfl, rfl, ha, hb, p, rfl⟩ := d
  cases rx
  cases ry
  obtain ⟨its, r, i1, z⟩ := I.tuple ha
  obtain ⟨its2, r2, i2, z2⟩ := I.tuple hb
  refine GQ.rc_tupEqB e sb.room.units0 (fun _ s' => LoopI X pins σ H s') i1 i2 (fun i h1 h2 s' q => turnB hD h sb p r r2 i h1 h2 s' q) (fun i s' q => ⟨?_, q⟩) ⟨H, I, Ext.rfl'⟩
  unfold allB
  rw [List.size_toArray, List.size_toArray, ← r.length, ← r2.length]
  rfl
theorem rcB_tupNe (hD : MonB D) (h : EqB X n D) : RcB X (n + 1) .NotEq (!·) (DTupB X.K D) := by
  intro A pins s σ H x y b u v sb I rx ry d
  obtain ⟨a, c, xs, ys, e, rfl, rfl, ha, hb, p, rfl⟩ := d
  cases rx
  cases ry
  obtain ⟨its, r, i1, z⟩ := I.tuple ha
  obtain ⟨its2, r2, i2, z2⟩ := I.tuple hb
  refine GQ.rc_tupNeB e sb.room.units0 (fun _ s' => LoopI X pins σ H s') i1 i2 (fun i h1 h2 s' q => turnB hD h sb p r r2 i h1 h2 s' q) (fun i s' q => ⟨?_, q⟩) ⟨H, I, Ext.rfl'⟩
  unfold allB
  rw [List.size_toArray, List.size_toArray, ← r.length, ← r2.length]
def rEqB (g : Bool → Bool) (D : EqvB) : R2 := fun x y H Q => ∃ b, D x y b H ∧ ∀ H', Ext H H' → Q (.bl (g b)) H'
theorem op_rcB {op : CmpOp} {g : Bool → Bool} (h : RcB X n op g D) (hr : Room n X.A) (ho : compareOp op = richCompare op := by rfl) : OpR X (compareOp op) (rEqB g D) := by
  intro pins s σ H x y v u Q I rx ry hq
  obtain ⟨b, d, q⟩ := hq
  rw [ho]
  refine wpAny_mono (h X.A pins s σ H x y b v u ⟨hr, rfl⟩ I rx ry d) (fun r s' z => ?_) fun _ _ x => x
  obtain ⟨hr', H', I', e⟩ := z
  subst hr'
  exact ⟨.bl (g b), H', I', rfl, q H' e⟩
/-! ### in, not in, len, [..] -/
/-- a method with what it promises, as an operator is found -/
def OwnR (P : Program) (w : World) (K : PySem.W.Frag) (mg : Str → Option Value) (base : Heap) (C : Addr) (m : Str) (k : Nat) (ps : List Str) (sp : Sp) : Prop :=
  ∃ f fd, PySem.W.findIn K (.ref C) m = some (some (.ref f)) ∧ PySem.W.isFn K (.ref f) = true ∧ PySem.W.fnIn K f = true ∧ FnOk P w K mg base CX0 k f fd ps sp ∧ Binds K fd ps []
variable {C : Addr} {k : Nat} {sp : Sp} {ps : List Str}
/-- x in o: what the own __contains__ promises, a bool -/
def spIn (R : Addr → V → Bool → Hp → Prop) : Sp := fun vs H Q _ => ∃ a y b, vs = [.ref a, y] ∧ R a y b H ∧ ∀ H', Ext H H' → Q (.bl b) H'
def rInO (C : Addr) (neg : Bool) (R : Addr → V → Bool → Hp → Prop) : R2 := fun x y H Q => ∃ a dx fs b, y = .ref a ∧ H a = some (.ins C dx fs) ∧ R a x b H ∧ ∀ H', Ext H H' → Q (.bl (if neg then !b else b)) H'
theorem op_inO {R : Addr → V → Bool → Hp → Prop} (h : OwnR X.prog X.w X.K X.mg X.base C "__contains__" k ps (spIn R)) (hr : Room k X.A) : OpR X (compareOp .In) (rInO C false R) := by
  intro pins s σ H x y v u Q I rx ry hq
  obtain ⟨a, dx, fs, b, rfl, ha, hR, q⟩ := hq
  obtain ⟨f, fd, hs, hf, _, F, hb⟩ := h
  obtain rfl : u = Value.ref a := ry
  obtain ⟨mA, J0, _⟩ := ins_get I.hok ha
  obtain ⟨od, J, _⟩ := J0.look
  obtain ⟨m, F0⟩ := I.fr
  refine PySem.W.in_K F0 I.ok.mod.kin J hs hf (wpAny_mono (run_fn (Q := fun z H' => z = .bl b ∧ Q (.bl b) H') F hr hb .nil pass0 I (.cons (show L2.RelV (.ref a) (.ref a) from rfl) (.cons rx .nil)) ⟨a, x, b, rfl, hR, fun H' e => ⟨rfl, q H' e⟩⟩) (fun r s' z => ?_) fun _ _ z => z)
  obtain ⟨z, H', I', rz, ez, q'⟩ := z
  subst ez
  obtain rfl : r = Value.bool b := rz
  exact wpAny_truthy_bool ⟨.bl b, H', I', rfl, q'⟩
theorem op_notInO {R : Addr → V → Bool → Hp → Prop} (h : OwnR X.prog X.w X.K X.mg X.base C "__contains__" k ps (spIn R)) (hr : Room k X.A) : OpR X (compareOp .NotIn) (rInO C true R) := by
  intro pins s σ H x y v u Q I rx ry hq
  obtain ⟨a, dx, fs, b, rfl, ha, hR, q⟩ := hq
  obtain ⟨f, fd, hs, hf, _, F, hb⟩ := h
  obtain rfl : u = Value.ref a := ry
  obtain ⟨mA, J0, _⟩ := ins_get I.hok ha
  obtain ⟨od, J, _⟩ := J0.look
  obtain ⟨m, F0⟩ := I.fr
  refine PySem.W.notIn_K F0 I.ok.mod.kin J hs hf (wpAny_mono (run_fn (Q := fun z H' => z = .bl b ∧ Q (.bl (!b)) H') F hr hb .nil pass0 I (.cons (show L2.RelV (.ref a) (.ref a) from rfl) (.cons rx .nil)) ⟨a, x, b, rfl, hR, fun H' e => ⟨rfl, q H' e⟩⟩) (fun r s' z => ?_) fun _ _ z => z)
  obtain ⟨z, H', I', rz, ez, q'⟩ := z
  subst ez
  obtain rfl : r = Value.bool b := rz
  exact wpAny_truthy_bool ⟨.bl (!b), H', I', rfl, q'⟩
/-- len(o), o an own instance -/
theorem call_lenO (h : OwnR X.prog X.w X.K X.mg X.base C "__len__" k ps sp) (hr : Room (k + 1) X.A) :
    CallR X (.builtin "len") (fun xs H Q => ∃ a dx fs, xs = [.ref a] ∧ H a = some (.ins C dx fs) ∧ sp [.ref a] H (fun v H' => ∃ n : Int, v = .int n ∧ 0 ≤ n ∧ n < 2 ^ 63 ∧ Q (.int n) H') E0) := by
  intro pins s σ H xs us Q I r hq
  obtain ⟨a, dx, fs, rfl, ha, q⟩ := hq
  obtain ⟨f, fd, hs, hf, _, F, hb⟩ := h
  obtain ⟨u, rfl, ru⟩ := vals1 r
  obtain rfl : u = Value.ref a := ru
  obtain ⟨mA, J0, _⟩ := ins_get I.hok ha
  obtain ⟨od, J, _⟩ := J0.look
  obtain ⟨m, F0⟩ := I.fr
  have e0 : Env0 X.prog X.w X.K X.mg X.base X.A.in1 X.stack s H := by
    have e := I.env0
    exact ⟨e.frames, e.mod, e.bs, e.bsz, e.funs, e.frf, e.hok, e.bare⟩
  have hl := F.len _ _ _ _ q
  have r2 : Vals [V.ref a] [Value.ref a] := .cons rfl .nil
  refine PySem.W.len_K F0 I.ok.mod.kin J hs hf (wpAny_call (codeAny_mono (F.run X.A.in1 X.stack s H ⟨[.ref a], []⟩ [.ref a] [.ref a] _ E0 hr.in1 e0 (by
    have := hb s [.ref a] I.kIn (by simpa using hl)
    simpa using this) r2 q) fun r s' hq => ?_))
  cases r with
  | error e => exact pass0 pins σ H s e s' I hq
  | ok fl =>
    cases fl with
    | ret w =>
      obtain ⟨z, H', I', rz, n, ez, n0, n1, q'⟩ := I.after hq
      subst ez
      obtain ⟨tk, rfl⟩ := (show ∃ tk, w = Value.int n tk from rz)
      exact ⟨⟨n0, n1⟩, .int n, H', I'.tok _, ⟨_, rfl⟩, q'⟩
    | next => exact False.elim hq
    | brk => exact False.elim hq
    | cont => exact False.elim hq
/-- a def runs somewhere below -/
theorem sub_run {f : Addr} {fd : FuncData} (F : FnOk X.prog X.w X.K X.mg X.base CX0 k f fd ps sp) (hb : Binds X.K fd ps []) {A : Around} {pins : List (Addr × Obj)} {s : Shared} {σ : L2.St} {H : Hp} {vs : List V} {us : List Value} {Q : VK} (sb : Sub X k A) (I : Inv X pins σ H s) (rv : Vals vs us) (hsp : sp vs H Q E0) :
    wpAny (model X.prog X.w) A (call (.ref f) us) (EP X pins σ Q) X.xe s := by
  have e0 : Env0 X.prog X.w X.K X.mg X.base A X.stack s H := by
    have e := I.env0
    exact ⟨by rw [sb.fr]; exact e.frames, e.mod, e.bs, e.bsz, e.funs, e.frf, e.hok, e.bare⟩
  have hl : us.length = ps.length := by rw [← rv.length]; exact F.len _ _ _ _ hsp
  refine wpAny_call (codeAny_mono (F.run A X.stack s H ⟨us, []⟩ us vs Q E0 sb.room e0 (by
    have := hb s us I.kIn (by simpa using hl)
    simpa using this) rv hsp) fun r s' hq => ?_)
  cases r with
  | error e => exact pass0 pins σ H s e s' I hq
  | ok fl =>
    cases fl with
    | ret w => exact I.after hq
    | next => exact False.elim hq
    | brk => exact False.elim hq
    | cont => exact False.elim hq
/-- o[e], o an own instance with an own [..] -/
theorem pe_ixO {o e : Expr} {pos : Pos} {ta tb : TE} (h : OwnR X.prog X.w X.K X.mg X.base C "__getitem__" k ps sp) (hr : Room (k + 1) X.A) (ha : PE X o ta) (hb : PE X e tb)
    (hsl : ∀ ov iv, subscripted e true ov iv = runValue (.builtin "lifetime.subscript" ⟨[ov, iv], []⟩) := by intro _ _; with_unfolding_all rfl) :
    PE X (.Subscript o e pos) (fun σ H Q => ta σ H fun x H1 => tb σ H1 fun y H2 => ∃ a dx fs, x = .ref a ∧ H2 a = some (.ins C dx fs) ∧ sp [x, y] H2 Q E0) := by
  refine ⟨fun pins s σ H Q I hq => ?_⟩
  obtain ⟨f, fd, hs, hf, hfi, F, hbi⟩ := h
  refine Subscript_ (binT ha hb I hq fun v u s2 x y H2 I2 rx ry q => ?_)
  obtain ⟨a, dx, fs, rfl, ea, q⟩ := q
  obtain rfl : v = Value.ref a := rx
  obtain ⟨mA, J0, _⟩ := ins_get I2.hok ea
  obtain ⟨od, J, _⟩ := J0.look
  obtain ⟨m, F0⟩ := I2.fr
  exact PySem.W.sub_K F0 I2.ok.mod.kin J hs hfi hf (sub_run (vs := [V.ref a, y]) F hbi ⟨hr.in1, rfl⟩ I2 (.cons (show L2.RelV (.ref a) (.ref a) from rfl) (.cons ry .nil)) q) (hsl _ _)
/-! ### + of an instance and an instance of another class -/
structure AddTwo (K : PySem.W.Frag) (C C2 : Addr) : Prop where
  self : PySem.W.selfFirst K C = true
  self2 : PySem.W.selfFirst K C2 = true
  back : PySem.W.findIn K (.ref C) "__radd__" = some none
  back2 : PySem.W.findIn K (.ref C2) "__radd__" = some none
  add2 : ∃ f, PySem.W.findIn K (.ref C2) "__add__" = some (some (.ref f))
  sub : PySem.W.subIn K (.ref C2) (.ref C) = some false
  ne : C ≠ C2
theorem op_addTwo {C2 : Addr} (h : OwnR X.prog X.w X.K X.mg X.base C "__add__" k ps sp) (c : AddTwo X.K C C2) (hr : Room k X.A) :
    OpR X (binaryOp .Add) (fun x y H Q => ∃ a dx fs c dy gs, x = .ref a ∧ y = .ref c ∧ H a = some (.ins C dx fs) ∧ H c = some (.ins C2 dy gs) ∧ sp [.ref a, .ref c] H (fun v H' => (∃ r, v = .ref r) ∧ Q v H') E0) := by
  intro pins s σ H x y v u Q I rx ry hq
  obtain ⟨a, dx, fs, b, dy, gs, rfl, rfl, ha, hb, q⟩ := hq
  obtain ⟨f, fd, hs, hf, _, F, hbi⟩ := h
  obtain rfl : v = Value.ref a := rx
  obtain rfl : u = Value.ref b := ry
  obtain ⟨mA, J0, _⟩ := ins_get I.hok ha
  obtain ⟨od, J, _⟩ := J0.look
  obtain ⟨m, F0⟩ := I.fr
  obtain ⟨f2, h2⟩ := c.add2
  refine PySem.W.ur_binC (op := .Add) F0 I.ok.mod.kin J (ty_looks I (show L2.RelV (.ref b) (.ref b) from rfl) (.ins hb)) c.self c.self2 c.ne hs hf c.back h2 c.back2 c.sub (wpAny_mono (run_fn F hr hbi .nil pass0 I (.cons (show L2.RelV (.ref a) (.ref a) from rfl) (.cons (show L2.RelV (.ref b) (.ref b) from rfl) .nil)) q) (fun r s' z => ?_) fun _ _ z => z)
  obtain ⟨z, H', I', rz, ⟨d, ed⟩, q'⟩ := z
  subst ed
  obtain rfl : r = Value.ref d := rz
  exact ⟨.ref d, H', I', rfl, q'⟩
end
end Ur
/-! UrX: errors: several except clauses with names; an error that was caught and is kept as a value; isinstance of it. -/
namespace Ur
open PySem PySem.Spec PyProof.Rows L2
/-- an error that was caught, known by its class and its dict -/
def exk (p : Addr) (cls : Value) (d : Option Addr) : HO := .ext fun h => ∃ o : Obj, h.get? p = some o ∧ Zc cls d o ∧ ∃ vs, o.data = .fields vs
theorem exk_ok {P : Program} {w : World} {H : Hp} {h : Heap} {p : Addr} {cls : Value} {d : Option Addr} {o : Obj} (g : h.get? p = some o) (z : Zc cls d o) (f : ∃ vs, o.data = .fields vs) : ObjOk P w H h p (exk p cls d) := by
  refine ⟨⟨o, g, z, f⟩, ⟨o, g⟩, ?_⟩
  rintro h1 h2 ⟨o1, g1, z1, f1⟩ st
  exact ⟨o1, st _ g1, z1, f1⟩
section
variable {X : Cx} {pins : List (Addr × Obj)} {σ : L2.St} {H : Hp} {s : Shared} {p : Addr} {o : Obj} {cls : Value} {d : Option Addr}
/-- an object that was made here and is told nothing of as yet is told of -/
theorem noteErr (I : Inv X pins σ H s) (na : H p = none) (g : s.heap.get? p = some o) (z : Zc cls d o) (f : ∃ vs, o.data = .fields vs) (n0 : X.s_0.heap.get? p = none) (nL : p ≠ X.env.locals)
    (np : ∀ q ∈ X.pn ++ pins, q.1 ≠ p) : Inv X pins σ (upd H p (exk p cls d)) s := by
  have some_ne : ∀ {b : Addr} {u : HO}, H b = some u → b ≠ p := fun {b u} e q => by
    subst q
    rw [na] at e
    cases e
  have was_ne : ∀ {b : Addr} {u : Obj}, X.s_0.heap.get? b = some u → b ≠ p := fun {b u} e q => by
    subst q
    rw [n0] at e
    cases e
  obtain ⟨ok, os, bare, base, loc, cell, free, freeC, pin, hok, len⟩ := I
  refine ⟨ok, os, bare, ⟨base.keep, base.slot, ?_, base.there, ?_, ?_, ?_⟩, loc, cell, ?_, ?_, ?_, ?_, len⟩
  · intro b u e n x
    rw [upd_ne (was_ne e)]
    exact base.free b u e n x
  · intro b xs e
    have t := base.tups b xs e
    rw [upd_ne (some_ne t)]
    exact t
  · intro b u xs e
    have t := base.frzs b u xs e
    rw [upd_ne (some_ne t)]
    exact t
  · intro b ps e
    obtain ⟨m, t⟩ := base.tbls b ps e
    exact ⟨m, by rw [upd_ne (some_ne t)]; exact t⟩
  · rw [upd_ne (Ne.symm nL)]
    exact free
  · intro x c e
    have cp : c ≠ p := by
      rintro rfl
      obtain ⟨v, o2, g2, d2⟩ := cell x c e
      obtain ⟨vs, fd⟩ := f
      rw [g] at g2
      cases g2
      rw [fd] at d2
      cases d2
    rw [upd_ne cp]
    exact freeC x c e
  · intro q hq
    obtain ⟨g1, g2, g3⟩ := pin q hq
    exact ⟨g1, by rw [upd_ne (np q hq)]; exact g2, g3⟩
  · intro b u e
    by_cases hb : b = p
    · subst hb
      rw [upd_same] at e
      obtain rfl := Option.some.inj e
      exact exk_ok g z f
    · rw [upd_ne hb] at e
      refine (hok b u e).stay (fun _ _ _ x => x) (fun c q => ?_) (fun c xs q => ?_)
      · rw [upd_ne (some_ne q)]; exact q
      · rw [upd_ne (some_ne q)]; exact q
end
/-! ### try: .. except A as e: .. except B as e: .. -/
abbrev Suite := Addr → Value → Option Addr → TS
/-- behind a suite the error is known, its name is gone -/
def endsOf (D : Ends) (i : Nat) (p : Addr) (cls : Value) (d : Option Addr) : Ends where
  nx := fun σ H => H p = none → D.nx (σ.set i none) (upd H p (exk p cls d))
  rt := D.rt
  bk := fun σ H => D.bk (σ.set i none) H
  ct := fun σ H => D.ct (σ.set i none) H
/-- what is wished of an error, clause by clause: the class, the slot of the name, the suite -/
def wTries (K : PySem.W.Frag) (W0 : WX) (D : Ends) : List (Value × Nat × Suite) → WX
  | [] => W0
  | (c, i, ts) :: r => fun cls d σ H => ∃ b, PySem.W.exmOne K cls c = some b ∧ (b = true → ∀ p, H p = none → ts p cls d (endsOf D i p cls d) (σ.set i (some (.ref p))) H) ∧ (b = false → wTries K W0 D r cls d σ H)
inductive Clauses (X : Cx) : List ExceptHandler → List (Value × Nat × Suite) → Prop
  | nil : Clauses X [] []
  | cons {x n : Str} {c : Value} {i : Nat} {ts : Suite} {b0 : Stmt} {rest : List Stmt} {np hp : Pos} {hs : List ExceptHandler} {l : List (Value × Nat × Suite)} (names : Names X x c) (slot : X.N[i]? = some n) (kind : X.env.kindOf n = some .local)
      (suite : ∀ (p : Addr) (o : Obj) (cls : Value) (d : Option Addr) (pn : List (Addr × Obj)), Zc cls d o → (∃ vs, o.data = .fields vs) → PSs (X.suite p ((p, o) :: pn)) (b0 :: rest) (ts p cls d)) (more : Clauses X hs l) :
      Clauses X (.ExceptHandler (some (.Name x np)) (some n) (b0 :: rest) hp :: hs) ((c, i, ts) :: l)
section
variable {X : Cx} {body : List Stmt} {h1 : ExceptHandler} {hs : List ExceptHandler} {l : List (Value × Nat × Suite)} {pos : Pos} {tb : WX → TS} {W0 : WX}
theorem ps_tries (hst : X.stack = X.env :: X.outer) (hfl : X.env.frame = some X.env.locals) (hnx : X.ex = []) (hN : X.N.Nodup) (tk : Takes X W0)
    (hb : ∀ (W : WX) (pn : List (Addr × Obj)) (xe : Value → Shared → Prop), Takes (X.tr pn xe) W → PassesOwn (model X.prog X.w) X.A X.env xe → PSs (X.tr pn xe) body (tb W))
    (hc : Clauses X (h1 :: hs) l) : PS X (.Try body (h1 :: hs) [] [] pos) (fun D σ H => tb (wTries X.K W0 D l) D σ H) := by
  constructor
  intro pins s σ H D I ask
  have ok := I.ok
  have fr : X.A.frames = some (X.env :: X.outer) := ok.frames.trans (congrArg some hst)
  refine wpAny_Try_except ?_
  let xe : Value → Shared → Prop := fun e s₁ => wpAny (model X.prog X.w) X.A (noteFrame e X.env) (fun _ s₂ => wpAny (model X.prog X.w) X.A (setFlight e none) (fun _ s₃ => wpAny (model X.prog X.w) X.A (handleBy e X.env (h1 :: hs)) (SP X pins D) X.xe s₃) X.xe s₂) X.xe s₁
  have air : Takes (X.tr (X.pn ++ pins) xe) (wTries X.K W0 D l) := by
    rintro u s1 ⟨p, B, sI, pins1, σ1, H1, cls, d, rfl, J0, nb, up, sky, na, os, ag, w⟩
    have J : Inv X pins σ1 H1 sI := J0.ofTry ok
    have sky : Sky B (X.env :: X.outer) p (Zc cls d) X.env.locals s1.heap := hst ▸ sky
    show wpAny (model X.prog X.w) X.A (noteFrame (.ref p) X.env) _ _ _
    refine Sky.land Zc.steady fr hfl sky fun g3 fl3 up3 => ?_
    have J3 : Inv X pins σ1 H1 { s1 with heap := g3 } := J.landed nb fl3.1 (up.trans up3) os ag
    obtain ⟨o3, v3, e3, z3, f3⟩ := fl3.there
    have far : p ∉ frs (X.env :: X.outer) := by
      intro m
      obtain ⟨_, oo, eo, nf⟩ := fl3.2.2.1.mem m
      rw [e3] at eo
      obtain rfl := Option.some.inj eo
      exact nf _ f3
    have nL : p ≠ X.env.locals := fun q => far (List.mem_filterMap.mpr ⟨X.env, List.mem_cons_self, hfl.trans (congrArg some q.symm)⟩)
    have nF : p ∉ X.fs := by
      intro m
      obtain ⟨en, he, q⟩ := List.mem_filterMap.mp m
      exact far (List.mem_filterMap.mpr ⟨en, List.mem_cons_of_mem _ he, q⟩)
    have gone : sI.heap.get? p = none := by
      cases q : sI.heap.get? p with
      | none => rfl
      | some oo =>
        have := nb p oo q (by rw [hst]; exact far)
        have nB : B.get? p = none := fl3.2.1
        rw [nB] at this
        cases this
    have n0 : X.s_0.heap.get? p = none := by
      cases q : X.s_0.heap.get? p with
      | none => rfl
      | some oo =>
        obtain ⟨o4, e4⟩ := J.base.there p oo q (by rw [hnx]; exact fun z => nomatch z)
        rw [gone] at e4
        cases e4
    have np : ∀ q ∈ X.pn ++ pins, q.1 ≠ p := by
      intro q hq e
      have := (J.pin q hq).1
      rw [e, gone] at this
      cases this
    have S3 := J3.suite e3 f3 na nL nF
    have go : ∀ {hs' : List ExceptHandler} {l' : List (Value × Nat × Suite)}, Clauses X hs' l' → wTries X.K W0 D l' cls d σ1 H1 → wpAny (model X.prog X.w) X.A (handleBy (.ref p) X.env hs') (SP X pins D) X.xe { s1 with heap := g3 } := by
      intro hs' l' cl
      induction cl with
      | nil =>
        intro w
        refine wpAny_handleBy_nil ?_
        obtain ⟨_, _, _, oe, vs, T, oT, tt, he, hz, hd, h1, _⟩ := id fl3
        unfold PySem.passOn
        refine wpAny_bind (wpAny_field he hd h1 ?_)
        rw [if_neg (by simp)]
        have rest : wpAny (model X.prog X.w) X.A (setFlight (.ref p) X.env.frame) (fun _ s4 => wpAny (model X.prog X.w) X.A (throw (.ref p) : Sem Flow) (SP X pins D) X.xe s4) X.xe { s1 with heap := g3 } := by
          rw [hfl]
          exact HandSPX.setFlight_upZ fl3 fun g4 held up4 => wpAny_throw (tk _ _ ⟨p, B, sI, pins, σ1, H1, cls, d, rfl, J, nb, (up.trans up3).trans up4, .inr (.inr (by rw [hst]; exact held)), na, os, ag, w⟩)
        first
          | exact wpAny_bind (wpAny_pure (wpAny_bind rest))
          | exact wpAny_bind rest
      | @cons x n c i ts b0 more2 np2 hp2 hs2 l2 names slot kind suite more ih =>
        intro w
        obtain ⟨b, fits, yes, no⟩ := w
        refine wpAny_handleBy_cons (codeAny_handlers_test ?_) (fun q => nomatch q)
        have LT : PySem.W.Looks (model X.prog X.w) g3 (typeOf (.ref p)) cls := fun A Q E s k q => wpAny_typeOf_ref (k _ _ e3) (z3.1.symm ▸ q)
        have LM := PySem.W.exm_one (M := model X.prog X.w) J3.kIn LT fits
        have ask : ∀ {Q : Value → Shared → Prop} {E : Value → Shared → Prop}, Q c { s1 with heap := g3 } → wpAny (model X.prog X.w) (X.A.mark (some (.ref p))) (eval (.Name x np2) X.env) Q E { s1 with heap := g3 } := by
          intro Q E q
          rcases names with ⟨gl, db, m | ⟨m, bv, nn⟩⟩
          · exact ld_glob (X := X.suite p ((p, o3) :: (X.pn ++ pins))) S3 gl m q db
          · exact ld_blt (X := X.suite p ((p, o3) :: (X.pn ++ pins))) S3 gl m bv q nn db
        refine ask (LM.here ?_)
        cases b with
        | false => exact ih (no rfl)
        | true =>
          refine codeAny_handlers_suite_as (HandSPX.lands_againZ fl3 fun g4 fl4 up4 => ?_)
          have J4 : Inv X pins σ1 H1 { s1 with heap := g4 } := J.landed nb fl4.1 ((up.trans up3).trans up4) os ag
          obtain ⟨o4, v4, e4, z4, f4⟩ := fl4.there
          have S4 := J4.suite e4 f4 na nL nF
          refine store_ok (X := X.suite p ((p, o4) :: (X.pn ++ pins))) (v := .ref p) S4 hN slot (Or.inl kind) rfl (fun s5 S5 => ?_) (.inr kind)
          refine wpAny_mono ((suite p o4 cls d (X.pn ++ pins) z4 ⟨_, f4⟩).run [] s5 _ H1 _ S5 (yes rfl p na)) ?_ (fun _ _ z => z.elim)
          intro fl s6 sp
          have bye : ∀ {σ6 : L2.St} {H6 : Hp} {Q : Shared → Prop}, Inv X pins σ6 H6 s6 → (∀ s7, Inv X pins (σ6.set i none) H6 s7 → Q s7) → wpAny (model X.prog X.w) X.A (do bindName X.env n .none; unbindBehindTheSuite X.env n hp2) (fun _ s7 => Q s7) X.xe s6 :=
            fun S6 q => gone_ok S6 hN slot kind q
          match fl, sp with
          | .next, ⟨σ6, H6, S6, q6⟩ =>
            have pin6 := S6.pin (p, o4) (List.mem_append_left _ List.mem_cons_self)
            exact bye (noteErr (S6.unsuite ok) pin6.2.1 pin6.1 z4 ⟨_, f4⟩ n0 nL np) fun s7 J7 => ⟨_, _, J7, q6 pin6.2.1⟩
          | .brk, ⟨σ6, H6, S6, q6⟩ => exact bye (S6.unsuite ok) fun s7 J7 => ⟨_, _, J7, q6⟩
          | .cont, ⟨σ6, H6, S6, q6⟩ => exact bye (S6.unsuite ok) fun s7 J7 => ⟨_, _, J7, q6⟩
          | .ret u, ⟨v6, σ6, H6, S6, r6, q6⟩ => exact bye (S6.unsuite ok) fun s7 J7 => ⟨_, _, _, J7, r6, q6⟩
    exact go hc w
  refine wpAny_mono ((hb (wTries X.K W0 D l) (X.pn ++ pins) xe air PassesOwn.looking).run [] s σ H D (I.toTry _) ask) ?_ (fun _ _ z => z)
  intro fl s1 sp
  match fl, sp with
  | .next, ⟨σ1, H1, J, q⟩ => exact wpAny_execs_nil ⟨σ1, H1, J.ofTry ok, q⟩
  | .brk, ⟨σ1, H1, J, q⟩ => exact ⟨σ1, H1, J.ofTry ok, q⟩
  | .cont, ⟨σ1, H1, J, q⟩ => exact ⟨σ1, H1, J.ofTry ok, q⟩
  | .ret u, ⟨v, σ1, H1, J, r, q⟩ => exact ⟨v, σ1, H1, J.ofTry ok, r, q⟩
end
/-! ### isinstance -/
/-- where an error's dict is: nowhere, or tracked -/
def DictAt (H : Hp) (d : Option Addr) : Prop := d = none ∨ ∃ (a : Addr) (fs : List (Str × V)), d = some a ∧ H a = some (.xd fs)
theorem dict_look {X : Cx} {pins : List (Addr × Obj)} {σ : L2.St} {H : Hp} {s : Shared} {p C : Addr} {o : Obj} {d : Option Addr} (I : Inv X pins σ H s) (g : s.heap.get? p = some o) (z : Zc (.ref C) d o) (f : ∃ vs, o.data = .fields vs) (hd : DictAt H d) :
    ∃ od, PySem.W.InstAt s.heap p o C od := by
  obtain ⟨vs, f⟩ := f
  have nc : PySem.W.notCls o = true := by unfold PySem.W.notCls; rw [f]
  rcases hd with rfl | ⟨a, fs, rfl, ha⟩
  · exact ⟨none, g, z.1, nc, by rw [z.2]; trivial⟩
  · have x : ObjOk X.prog X.w H s.heap a (.xd fs) := I.hok a _ ha
    obtain ⟨mA, hns, hr⟩ := x
    obtain ⟨od, ho, hl⟩ := lookIn_ns hns
    exact ⟨some od, g, z.1, nc, by rw [z.2]; exact ho⟩
theorem isi_err {X : Cx} {pins : List (Addr × Obj)} {σ : L2.St} {H : Hp} {s : Shared} {p D : Addr} {o : Obj} {d : Option Addr} {cv : Value} {b : Bool} {Q : VK} (I : Inv X pins σ H s) (C : ExcC X.K D) (g : s.heap.get? p = some o) (z : Zc (.ref D) d o)
    (f : ∃ vs, o.data = .fields vs) (hd : DictAt H d) (e : PySem.W.kitOne X.K (.ref D) cv = some b) (q : Q (.bl b) H) : wpAny (model X.prog X.w) X.A (call (.builtin "isinstance") [.ref p, cv]) (EP X pins σ Q) X.xe s := by
  obtain ⟨od, J⟩ := dict_look I g z f hd
  have hc : (PySem.W.clsIn X.K D).isSome = true := by
    obtain ⟨cd, hcd, _⟩ := PySem.W.any_some C.hd
    rw [hcd]; rfl
  exact PySem.W.kia_one (PySem.W.kitx_exc hc C.hg C.hk C.hs C.ha C.hn C.ht C.hm) I.kIn J e (fun z => nomatch z) fun tk => ⟨.bl b, H, I.tok tk, rfl, q⟩
/-- isinstance(e, c) of an error that is kept -/
def rIsK (K : PySem.W.Frag) : List V → Hp → VK → Prop := fun xs H Q => ∃ (p D : Addr) (d : Option Addr) (c : V) (cv : Value) (b : Bool), xs = [.ref p, c] ∧ H p = some (exk p (.ref D) d) ∧ DictAt H d ∧ ExcC K D ∧ ClsV c cv ∧ PySem.W.kitOne K (.ref D) cv = some b ∧ Q (.bl b) H
theorem call_isK {X : Cx} : CallR X (.builtin "isinstance") (rIsK X.K) := by
  intro pins s σ H xs us Q I r h
  obtain ⟨p, D, d, c, cv, b, rfl, hp, hd, C, k, e, q⟩ := h
  obtain ⟨u1, u2, rfl, r1, r2⟩ := vals2 r
  obtain rfl : u1 = Value.ref p := r1
  obtain rfl := k.eq r2
  have x : ObjOk X.prog X.w H s.heap p (.ext _) := I.hok p _ hp
  obtain ⟨⟨o, g, z, f⟩, _⟩ := x
  exact isi_err I C g z f hd e q
/-- .. of the error that a suite holds -/
def rIsS (K : PySem.W.Frag) (D p : Addr) (d : Option Addr) : List V → Hp → VK → Prop := fun xs H Q => ∃ (c : V) (cv : Value) (b : Bool), xs = [.ref p, c] ∧ DictAt H d ∧ ClsV c cv ∧ PySem.W.kitOne K (.ref D) cv = some b ∧ Q (.bl b) H
theorem call_isS {X : Cx} {p D : Addr} {o : Obj} {d : Option Addr} {pn : List (Addr × Obj)} (C : ExcC X.K D) (z : Zc (.ref D) d o) (f : ∃ vs, o.data = .fields vs) : CallR (X.suite p ((p, o) :: pn)) (.builtin "isinstance") (rIsS X.K D p d) := by
  intro pins s σ H xs us Q I r h
  obtain ⟨c, cv, b, rfl, hd, k, e, q⟩ := h
  obtain ⟨u1, u2, rfl, r1, r2⟩ := vals2 r
  obtain rfl : u1 = Value.ref p := r1
  obtain rfl := k.eq r2
  exact isi_err (X := X.suite p ((p, o) :: pn)) I C (I.pin (p, o) (List.mem_append_left _ List.mem_cons_self)).1 z f hd e q
end Ur
/-! UrY: values of any kind: what they are, what isinstance says of them, how they are shown. -/
namespace Ur
open PySem PySem.Spec PyProof.Rows L2
def keyD : Key → PyData
  | .inl i => .int i
  | .inr x => .str x
/-- no object: None, a bool, a number, a text -/
inductive Flat : V → PyData → Prop
  | non : Flat .non .none
  | bl (b : Bool) : Flat (.bl b) (.bool b)
  | int (i : Int) : Flat (.int i) (.int i)
  | str (x : Str) : Flat (.str x) (.str x)
/-- v is the data d, at most n deep; np is no part of it, nor is the table of the modules -/
def DqN (H : Hp) (np : Addr) : Nat → V → PyData → Prop
  | 0, v, d => Flat v d
  | n + 1, v, d => Flat v d ∨ (∃ (a : Addr) (xs : List V) (ds : List PyData), v = .ref a ∧ H a = some (.lst xs) ∧ a ≠ sysModules ∧ Paired (DqN H np n) xs ds ∧ d = .list ds) ∨
      (∃ (a : Addr) (xs : List V) (ds : List PyData), v = .ref a ∧ H a = some (.tup xs) ∧ Paired (DqN H np n) xs ds ∧ d = .tuple ds) ∨
      ∃ (a : Addr) (kvs : List (Key × V)) (es : List (PyData × PyData)), v = .ref a ∧ a ≠ np ∧ H a = some (.dK kvs) ∧ Paired (fun (p : Key × V) (e : PyData × PyData) => e.1 = keyD p.1 ∧ DqN H np n p.2 e.2) kvs es ∧ d = .dict es
theorem Paired.map2 {α β : Type} {R S : α → β → Prop} (f : ∀ a b, R a b → S a b) : ∀ {xs : List α} {ys : List β}, Paired R xs ys → Paired S xs ys
  | _, _, .nil => .nil
  | _, _, .cons h t => .cons (f _ _ h) (Paired.map2 f t)
theorem DqN.flat {H : Hp} {np : Addr} {v : V} {d : PyData} (f : Flat v d) : ∀ {n : Nat}, DqN H np n v d
  | 0 => f
  | _ + 1 => .inl f
/-- it stays what it is while nothing but np changes -/
theorem DqN.keep {H H' : Hp} {np : Addr} {kk : List (Key × V)} (k : Keep np H H') (hn : H np = some (.dK kk)) : ∀ {n : Nat} {v : V} {d : PyData}, DqN H np n v d → DqN H' np n v d
  | 0, _, _, h => h
  | n + 1, v, d, h => by
    rcases h with h | ⟨a, xs, ds, e, ha, ns, ps, ed⟩ | ⟨a, xs, ds, e, ha, ps, ed⟩ | ⟨a, kvs, es, e, na, ha, ps, ed⟩
    · exact .inl h
    · exact .inr (.inl ⟨a, xs, ds, e, k _ _ ha (ne_of ha hn (by intro z; cases z)), ns, Paired.map2 (fun _ _ => DqN.keep k hn) ps, ed⟩)
    · exact .inr (.inr (.inl ⟨a, xs, ds, e, k _ _ ha (ne_of ha hn (by intro z; cases z)), Paired.map2 (fun _ _ => DqN.keep k hn) ps, ed⟩))
    · exact .inr (.inr (.inr ⟨a, kvs, es, e, na, k _ _ ha na, Paired.map2 (fun _ _ q => ⟨q.1, DqN.keep k hn q.2⟩) ps, ed⟩))
theorem DqN.same {H H' : Hp} {np : Addr} (k : Same H H') : ∀ {n : Nat} {v : V} {d : PyData}, DqN H np n v d → DqN H' np n v d
  | 0, _, _, h => h
  | n + 1, v, d, h => by
    rcases h with h | ⟨a, xs, ds, e, ha, ns, ps, ed⟩ | ⟨a, xs, ds, e, ha, ps, ed⟩ | ⟨a, kvs, es, e, na, ha, ps, ed⟩
    · exact .inl h
    · exact .inr (.inl ⟨a, xs, ds, e, k _ _ ha, ns, Paired.map2 (fun _ _ => DqN.same k) ps, ed⟩)
    · exact .inr (.inr (.inl ⟨a, xs, ds, e, k _ _ ha, Paired.map2 (fun _ _ => DqN.same k) ps, ed⟩))
    · exact .inr (.inr (.inr ⟨a, kvs, es, e, na, k _ _ ha, Paired.map2 (fun _ _ q => ⟨q.1, DqN.same k q.2⟩) ps, ed⟩))
theorem DqN.up {H : Hp} {np : Addr} : ∀ {n : Nat} {v : V} {d : PyData}, DqN H np n v d → DqN H np (n + 1) v d
  | 0, _, _, h => .inl h
  | n + 1, v, d, h => by
    rcases h with h | ⟨a, xs, ds, e, ha, ns, ps, ed⟩ | ⟨a, xs, ds, e, ha, ps, ed⟩ | ⟨a, kvs, es, e, na, ha, ps, ed⟩
    · exact .inl h
    · exact .inr (.inl ⟨a, xs, ds, e, ha, ns, Paired.map2 (fun _ _ => DqN.up) ps, ed⟩)
    · exact .inr (.inr (.inl ⟨a, xs, ds, e, ha, Paired.map2 (fun _ _ => DqN.up) ps, ed⟩))
    · exact .inr (.inr (.inr ⟨a, kvs, es, e, na, ha, Paired.map2 (fun _ _ q => ⟨q.1, DqN.up q.2⟩) ps, ed⟩))
section
variable {X : Cx} {pins : List (Addr × Obj)} {σ : L2.St} {H : Hp} {s : Shared} {np : Addr}
theorem Flat.reads {v : V} {d : PyData} {u : Value} {h : Heap} (f : Flat v d) (r : RelV v u) : Reads h u d [] := by
  cases f with
  | non => obtain rfl : u = Value.none := r; exact Reads.none
  | bl b => obtain rfl : u = Value.bool b := r; exact Reads.bool b
  | int i => obtain ⟨t, rfl⟩ := (show ∃ t, u = Value.int i t from r); exact Reads.int i t
  | str x => obtain ⟨t, rfl⟩ := (show ∃ t, u = Value.str x t from r); exact Reads.str x t
theorem readsAll_of {h : Heap} {R : V → PyData → Prop} (f : ∀ v d u, R v d → RelV v u → ∃ as, Reads h u d as ∧ sysModules ∉ as) :
    ∀ {xs : List V} {ds : List PyData} {us : List Value}, Paired R xs ds → Vals xs us → ∃ as, ReadsAll h us ds as ∧ sysModules ∉ as
  | _, _, _, .nil, .nil => ⟨_, ReadsAll.nil, fun z => nomatch z⟩
  | _, _, _, .cons a b, .cons r t => by
    obtain ⟨as, q1, n1⟩ := f _ _ _ a r
    obtain ⟨bs, q2, n2⟩ := readsAll_of f b t
    exact ⟨_, ReadsAll.cons q1 q2, fun z => (List.mem_append.mp z).elim n1 n2⟩
theorem reads_keys {h : Heap} : ∀ {es : List DictEntry} {kv : List (Key × Value)}, Pairs (mixKind X.prog X.w) es kv → ReadsAll h (es.map (·.key)) (kv.map fun p => keyD p.1) []
  | _, _, .nil => ReadsAll.nil
  | _, _, .cons (e := e) (kv := p) k _ t => by
    have z := reads_keys (h := h) t
    rcases keyIs_shape k with ⟨i, tk, e1, e2⟩ | ⟨x, tk, e1, e2⟩
    · have y : Reads h e.key (keyD p.1) [] := by rw [e1, e2]; exact Reads.int i tk
      exact ReadsAll.cons y z
    · have y : Reads h e.key (keyD p.1) [] := by rw [e1, e2]; exact Reads.str x tk
      exact ReadsAll.cons y z
theorem pairs_vals : ∀ {es : List DictEntry} {kv : List (Key × Value)}, Pairs (mixKind X.prog X.w) es kv → es.map (·.val) = kv.map (·.2)
  | _, _, .nil => rfl
  | _, _, .cons _ e t => by
    rw [List.map_cons, List.map_cons, e, pairs_vals t]
theorem DqN.reads (I : Inv X pins σ H s) : ∀ (n : Nat) (v : V) (d : PyData) (u : Value), DqN H np n v d → RelV v u → ∃ as, Reads s.heap u d as ∧ sysModules ∉ as
  | 0, _, _, _, h, r => ⟨_, Flat.reads h r, fun z => nomatch z⟩
  | n + 1, v, d, u, h, r => by
    rcases h with h | ⟨a, xs, ds, rfl, ha, ns, ps, rfl⟩ | ⟨a, xs, ds, rfl, ha, ps, rfl⟩ | ⟨a, kvs, es, rfl, na, ha, ps, rfl⟩
    · exact ⟨_, Flat.reads h r, fun z => nomatch z⟩
    · obtain rfl : u = Value.ref a := r
      obtain ⟨_, its, m, rv, g⟩ := (show ObjOk X.prog X.w H s.heap a (.lst xs) from I.hok a _ ha)
      obtain ⟨as, q, nq⟩ := readsAll_of (DqN.reads I n) ps rv
      exact ⟨_, Reads.list g rfl rfl q, fun z => (List.mem_cons.mp z).elim (fun e => ns e.symm) nq⟩
    · obtain rfl : u = Value.ref a := r
      obtain ⟨_, its, rv, o, g, gc, m, gd⟩ := (show ObjOk X.prog X.w H s.heap a (.tup xs) from I.hok a _ ha)
      obtain ⟨as, q, nq⟩ := readsAll_of (DqN.reads I n) ps rv
      exact ⟨_, Reads.tuple g gc gd q, nq⟩
    · obtain rfl : u = Value.ref a := r
      obtain ⟨_, nsys, kv, rk, o, es0, ep, g, ex, gd, _, prs, _⟩ := dk_of I.hok ha
      have key : ∀ {kvs : List (Key × V)} {es : List (PyData × PyData)} {kv : List (Key × Value)}, Paired (fun (p : Key × V) (e : PyData × PyData) => e.1 = keyD p.1 ∧ DqN H np n p.2 e.2) kvs es → KV kvs kv →
          (kv.map fun p => keyD p.1) = es.map (·.1) ∧ Paired (DqN H np n) (kvs.map (·.2)) (es.map (·.2)) ∧ Vals (kvs.map (·.2)) (kv.map (·.2)) := by
        intro kvs es kv p
        induction p generalizing kv with
        | nil => intro r; cases r; exact ⟨rfl, .nil, .nil⟩
        | cons h t ih =>
          intro r
          cases r with
          | cons r1 r2 =>
            obtain ⟨e1, e2, e3⟩ := ih r2
            refine ⟨?_, .cons h.2 e2, .cons r1.2 e3⟩
            rw [List.map_cons, List.map_cons, e1, h.1, r1.1]
      obtain ⟨e1, e2, e3⟩ := key ps rk
      obtain ⟨bs, q, nq⟩ := readsAll_of (DqN.reads I n) e2 e3
      have k1 := reads_keys (X := X) (h := s.heap) prs
      rw [e1] at k1
      have v1 := pairs_vals (X := X) prs
      refine ⟨_, Reads.dict g ex.1 gd k1 (by rw [v1]; exact q), fun z => ?_⟩
      have z : sysModules ∈ a :: bs := z
      rcases List.mem_cons.mp z with z | z
      · rw [z] at nsys
        simp at nsys
      · exact nq z
end
/-- a value of any kind -/
def Any (H : Hp) (v : V) (d : PyData) : Prop := ∃ (np : Addr) (n : Nat), DqN H np n v d
/-! ### what can be shown, dicts too -/
structure ShX (d : PyData) (n k : Nat) : Prop where
  sh : d.showable = true
  dp : d.depth ≤ k
  lv : d.leavesShort 1930 = true
  wt : d.weight ≤ n
structure ShXAll (ds : List PyData) (n k : Nat) : Prop where
  sh : PyData.showableAll ds = true
  dp : PyData.depthAll ds ≤ k
  lv : PyData.leavesShortAll 1930 ds = true
  wt : PyData.weightAll ds ≤ n
theorem Shw.x {d : PyData} {n k : Nat} (s : Shw d n k) : ShX d n k := ⟨s.sh, s.dp, s.lv, s.wt⟩
theorem ShX.mono {d : PyData} {n k m j : Nat} (s : ShX d n k) (h1 : n ≤ m) (h2 : k ≤ j) : ShX d m j := ⟨s.sh, Nat.le_trans s.dp h2, s.lv, Nat.le_trans s.wt h1⟩
theorem ShXAll.nil : ShXAll [] 0 0 := ⟨rfl, Nat.le_refl _, rfl, Nat.le_refl _⟩
theorem ShXAll.cons {d : PyData} {ds : List PyData} {n k m j : Nat} (a : ShX d n k) (b : ShXAll ds m j) : ShXAll (d :: ds) (n + 1 + m) (max k j) := by
  refine ⟨?_, ?_, ?_, ?_⟩
  · show (d.showable && PyData.showableAll ds) = true
    rw [a.sh, b.sh]; rfl
  · show max d.depth (PyData.depthAll ds) ≤ max k j
    have := a.dp; have := b.dp; omega
  · show (d.leavesShort 1930 && PyData.leavesShortAll 1930 ds) = true
    rw [a.lv, b.lv]; rfl
  · show d.weight + 1 + PyData.weightAll ds ≤ n + 1 + m
    have := a.wt; have := b.wt; omega
theorem ShXAll.lst {ds : List PyData} {n k : Nat} (a : ShXAll ds n k) : ShX (.list ds) n (k + 1) := ⟨a.sh, Nat.succ_le_succ a.dp, a.lv, a.wt⟩
theorem ShX.fits {d : PyData} {n k : Nat} (s : ShX d n k) (h : n ≤ 8600) : d.shown.length ≤ sizeLine := by
  have z := PyData.shown_le 1930 (by decide) d s.lv
  have w : (1930 + 2) * d.weight ≤ 1932 * 8600 := Nat.mul_le_mul_left _ (Nat.le_trans s.wt h)
  have e : sizeLine = 16777216 := by decide
  omega
/-- repr(x) of any such value -/
def rReprQ : List V → Hp → VK → Prop := fun xs H Q => ∃ (x : V) (d : PyData) (n k : Nat), xs = [x] ∧ Any H x d ∧ ShX d n k ∧ n ≤ 8600 ∧ k ≤ 64 ∧ ∀ z : Str, z = d.shown → Q (.str z) H
section
variable {X : Cx}
theorem call_reprQ (hs : Still X.A) (hu : X.A.units + 66 < cLine) : CallR X (.builtin "repr") rReprQ := by
  intro pins s σ H xs us Q I r h
  obtain ⟨x, d, n, k, rfl, ⟨np, m, hd⟩, sh, hn, hk, q⟩ := h
  have q := q _ rfl
  have fz := sh.fits hn
  have flat : Flat x d → wpAny (model X.prog X.w) X.A (call (.builtin "repr") us) (EP X pins σ Q) X.xe s := by
    intro f
    refine call_reprF pins s σ H [x] us Q I r ?_
    cases f with
    | non => exact Or.inl ⟨rfl, q⟩
    | bl b => exact Or.inr (Or.inl ⟨b, rfl, q⟩)
    | int i => exact Or.inr (Or.inr (Or.inl ⟨i, rfl, of_decide_eq_true sh.sh, q⟩))
    | str y => exact Or.inr (Or.inr (Or.inr ⟨y, rfl, fz, q⟩))
  have dp := Nat.le_trans sh.dp hk
  obtain ⟨u, rfl, ru⟩ := vals1 r
  have big : ∀ a, x = .ref a → wpAny (model X.prog X.w) X.A (call (.builtin "repr") [u]) (EP X pins σ Q) X.xe s := by
    rintro a rfl
    obtain rfl : u = Value.ref a := ru
    obtain ⟨as, rd, ns⟩ := DqN.reads I m _ d (Value.ref a) hd rfl
    exact repr_of_reads' rd sh.sh (fun _ => ns) hs (by omega) (fun _ _ e => e) (fun h' v tk kp => ⟨.str _, H, I.kept kp, ⟨v, rfl⟩, q⟩) fz
  cases m with
  | zero => exact flat hd
  | succ m =>
    rcases hd with h | ⟨a, xs, ds, e, _⟩ | ⟨a, xs, ds, e, _⟩ | ⟨a, kvs, es, e, _⟩
    · exact flat h
    · exact big a e
    · exact big a e
    · exact big a e
end
/-! ### isinstance -/
def kindD : PyData → String
  | .none => "NoneType"
  | .bool _ => "bool"
  | .int _ => "int"
  | .str _ => "str"
  | .list _ => "list"
  | .tuple _ => "tuple"
  | .dict _ => "dict"
theorem Flat.ty {K : PySem.W.Frag} {H : Hp} {v : V} {d : PyData} (f : Flat v d) : TyX K H v (.type (kindD d)) := by
  cases f with
  | non => exact .base .non
  | bl b => exact .base (.bl b)
  | int i => exact .base (.int i)
  | str x => exact .base (.str x)
theorem DqN.ty {K : PySem.W.Frag} {H : Hp} {np : Addr} : ∀ {n : Nat} {v : V} {d : PyData}, DqN H np n v d → TyX K H v (.type (kindD d))
  | 0, _, _, h => Flat.ty h
  | n + 1, v, d, h => by
    rcases h with h | ⟨a, xs, ds, rfl, ha, ns, ps, rfl⟩ | ⟨a, xs, ds, rfl, ha, ps, rfl⟩ | ⟨a, kvs, es, rfl, na, ha, ps, rfl⟩
    · exact h.ty
    · exact .base (.lst ha)
    · exact .base (.tup ha)
    · exact .base (.dK ha)
def isIntD : PyData → Bool
  | .int _ => true
  | .bool _ => true
  | _ => false
def isBoolD : PyData → Bool
  | .bool _ => true
  | _ => false
def isStrD : PyData → Bool
  | .str _ => true
  | _ => false
theorem kit_intD {K : PySem.W.Frag} (d : PyData) : PySem.W.kitOne K (.type (kindD d)) (.type "int") = some (isIntD d) := by
  cases d with
  | none => exact kit_ty (K := K) (a := "NoneType") (b := "int") (r := false) (by decide +kernel)
  | bool _ => exact kit_ty (K := K) (a := "bool") (b := "int") (r := true) (by decide +kernel)
  | int _ => exact kit_ty (K := K) (a := "int") (b := "int") (r := true) (by decide +kernel)
  | str _ => exact kit_ty (K := K) (a := "str") (b := "int") (r := false) (by decide +kernel)
  | list _ => exact kit_ty (K := K) (a := "list") (b := "int") (r := false) (by decide +kernel)
  | tuple _ => exact kit_ty (K := K) (a := "tuple") (b := "int") (r := false) (by decide +kernel)
  | dict _ => exact kit_ty (K := K) (a := "dict") (b := "int") (r := false) (by decide +kernel)
theorem kit_boolD {K : PySem.W.Frag} (d : PyData) : PySem.W.kitOne K (.type (kindD d)) (.type "bool") = some (isBoolD d) := by
  cases d with
  | none => exact kit_ty (K := K) (a := "NoneType") (b := "bool") (r := false) (by decide +kernel)
  | bool _ => exact kit_ty (K := K) (a := "bool") (b := "bool") (r := true) (by decide +kernel)
  | int _ => exact kit_ty (K := K) (a := "int") (b := "bool") (r := false) (by decide +kernel)
  | str _ => exact kit_ty (K := K) (a := "str") (b := "bool") (r := false) (by decide +kernel)
  | list _ => exact kit_ty (K := K) (a := "list") (b := "bool") (r := false) (by decide +kernel)
  | tuple _ => exact kit_ty (K := K) (a := "tuple") (b := "bool") (r := false) (by decide +kernel)
  | dict _ => exact kit_ty (K := K) (a := "dict") (b := "bool") (r := false) (by decide +kernel)
theorem kit_strD {K : PySem.W.Frag} (d : PyData) : PySem.W.kitOne K (.type (kindD d)) (.type "str") = some (isStrD d) := by
  cases d with
  | none => exact kit_ty (K := K) (a := "NoneType") (b := "str") (r := false) (by decide +kernel)
  | bool _ => exact kit_ty (K := K) (a := "bool") (b := "str") (r := false) (by decide +kernel)
  | int _ => exact kit_ty (K := K) (a := "int") (b := "str") (r := false) (by decide +kernel)
  | str _ => exact kit_ty (K := K) (a := "str") (b := "str") (r := true) (by decide +kernel)
  | list _ => exact kit_ty (K := K) (a := "list") (b := "str") (r := false) (by decide +kernel)
  | tuple _ => exact kit_ty (K := K) (a := "tuple") (b := "str") (r := false) (by decide +kernel)
  | dict _ => exact kit_ty (K := K) (a := "dict") (b := "str") (r := false) (by decide +kernel)
/-- isinstance(x, T) of such a value -/
def rIsQ (T : String) (g : PyData → Bool) : List V → Hp → VK → Prop := fun xs H Q => ∃ (x : V) (d : PyData), xs = [x, .ty T] ∧ Any H x d ∧ Q (.bl (g d)) H
theorem call_isQ {X : Cx} {T : String} {g : PyData → Bool} (hk : ∀ d, PySem.W.kitOne X.K (.type (kindD d)) (.type T) = some (g d)) : CallR X (.builtin "isinstance") (rIsQ T g) := by
  intro pins s σ H xs us Q I r h
  obtain ⟨x, d, rfl, ⟨np, n, hd⟩, q⟩ := h
  exact call_isi pins s σ H _ us Q I r ⟨x, .ty T, _, _, g d, rfl, .ty T, hd.ty, hk d, q⟩
/-! ### a list's display: no table of the modules -/
def tLstS (t : TA) : TE := fun σ H Q => t σ H fun xs H1 => xs.length ≤ sizeLine ∧ ∀ p, H1 p = none → p ≠ sysModules → Q (.ref p) (upd H1 p (.lst xs))
theorem pe_lstS {X : Cx} {es : List Expr} {pos : Pos} {t : TA} (h : PA X es t) : PE X (.List es pos) (tLstS t) := by
  constructor
  intro pins s σ H Q I hq
  refine wpAny_List_spliced (thn (h.run pos pins s σ H _ I hq) ?_)
  rintro us s1 ⟨xs, H1, J, r, z, q⟩
  refine ⟨by rw [← r.length]; exact z, ?_⟩
  have fresh := J.hok.fresh (Nat.le_refl s1.heap.objs.size)
  have two : cStatics < s1.heap.objs.size := by
    obtain ⟨mc, hn, _⟩ := J.nolimit
    exact hn.lt
  have one : s1.heap.objs.size ≠ sysModules := by
    intro e
    rw [e] at two
    exact absurd two (by decide)
  exact ⟨.ref s1.heap.objs.size, _, J.laid (o := .lst xs) (t' := s1.toks) (fun _ _ e => Heap.get?_push_of_some _ e) (Nat.le_refl _) ⟨z, us, 0, r, Heap.get?_push_size _ rfl⟩, rfl, q _ fresh one⟩
end Ur
/-! FB: fences: painters, names, len, in, [..], + . -/
namespace Ur
open PySem PySem.Spec PyProof.Rows L2
theorem FcAt.len {C CF : Addr} {H : Hp} {f : Addr} {L : List Pt} (h : FcAt C CF H f L) : L.length ≤ 40 := h.crew.few
theorem refs_len (L : List Pt) : (refsOf L).length = L.length := by unfold refsOf; rw [List.length_map]
theorem refs_snoc (L : List Pt) (x : Pt) : refsOf (L ++ [x]) = refsOf L ++ [V.ref x.a] := by unfold refsOf; rw [List.map_append]; rfl
/-- a fence that was just made -/
theorem fence_made {C CF : Addr} {H H2 : Hp} {x dx p d : Addr} {L : List Pt} (nx : H x = none) (nd : H dx = none) (np : upd (upd H dx (.own x)) x (.ins CF dx []) p = none) (h1 : H2 x = some (.ins CF dx (ffs p d))) (h2 : H2 d = some (.dK (kvOf L)))
    (k : Keep x (upd (upd (upd H dx (.own x)) x (.ins CF dx [])) p (.tup (refsOf L))) H2) (cr : Crew C H L) : FcAt C CF H2 x L ∧ Same H H2 := by
  have px : p ≠ x := fun e => by rw [e, upd_same] at np; cases np
  have sm : Same H H2 := Same.made nx nd fun b o e hb => k b o (by rw [upd_ne (ne_of_none e np)]; exact e) hb
  exact ⟨⟨⟨dx, p, d, h1, k _ _ upd_same px, h2⟩, cr.same sm⟩, sm⟩
/-- what a crew asks where the fence is made -/
theorem Crew.made {C CF : Addr} {H : Hp} {x dx p : Addr} {L : List Pt} (nx : H x = none) (nd : H dx = none) (np : upd (upd H dx (.own x)) x (.ins CF dx []) p = none) (cr : Crew C H L) (u : HO) : Crew C (upd (upd (upd H dx (.own x)) x (.ins CF dx [])) p u) L :=
  cr.same fun b o e => by
    have e2 : upd (upd H dx (.own x)) x (.ins CF dx []) b = some o := by rw [upd_ne (ne_of_none e nx), upd_ne (ne_of_none e nd)]; exact e
    rw [upd_ne (ne_of_none e2 np)]
    exact e2
/-- the promise of Fence.__init__ as it is called -/
abbrev spFI (C CF : Addr) : Sp := fun vs H Q E => ∃ w rest, vs = w :: rest ∧ rest.length ≤ sizeLine ∧ ∀ p, H p = Option.none → spFInit C CF [w, V.ref p] (upd H p (.tup rest)) Q E
/-- how it is asked where a fence is made of a crew -/
theorem ask_fence {C CF : Addr} {H : Hp} {x dx : Addr} {L : List Pt} {Q : VK} {E : XK} (nx : H x = none) (nd : H dx = none) (cr : Crew C H L) (q : ∀ H', FcAt C CF H' x L → Same H H' → Q .non H') :
    spFI C CF (V.ref x :: refsOf L) (upd (upd H dx (.own x)) x (.ins CF dx [])) Q E := by
  refine ⟨_, _, rfl, by rw [refs_len]; exact Nat.le_trans cr.few (by decide), fun p np => ?_⟩
  have px : x ≠ p := fun e => by rw [← e, upd_same] at np; cases np
  refine ⟨x, dx, p, L, rfl, by rw [upd_ne px]; exact upd_same, upd_same, cr.made nx nd np _, fun H' d h1 h2 k => ?_⟩
  obtain ⟨f, s⟩ := fence_made nx nd np h1 h2 k cr
  exact q H' f s
def MkF (P : Program) (w : World) (K : PySem.W.Frag) (mg : Str → Option Value) (base : Heap) (C CF : Addr) : Prop := ∃ f, Mk K CF f ∧ FnR P w K mg base CX0 3 f (spFI C CF)
abbrev s_Fence_add : Stmt := (inClass (topS 62) 9)
abbrev N_sc_Fence_add : List Str := ["self", "other"]
abbrev P_Fence_add : List Str := ["self", "other"]
theorem sc_Fence_add : FnScope N_sc_Fence_add P_Fence_add (defScope s_Fence_add) := ⟨rfl, rfl, rfl, by decide +kernel, rfl, by decide +kernel, by decide +kernel⟩
def spFAdd (C CF : Addr) : Sp := fun vs H Q _ => ∃ (f : Addr) (L : List Pt) (x : Pt), vs = [.ref f, .ref x.a] ∧ FcAt C CF H f L ∧ Crew C H (L ++ [x]) ∧ ∀ g H', FcAt C CF H' g (L ++ [x]) → Same H H' → Q (.ref g) H'
section
variable {P : Program} {w : World} {K : PySem.W.Frag} {mg : Str → Option Value} {base : Heap} {C CF : Addr} {f : Addr} {fd : FuncData}
theorem ok_fadd (F : Fun K "__add__" "Fence.__add__" s_Fence_add f fd) (U : FTxt K mg CF) (hMk : MkF P w K mg base C CF) : FnOk P w K mg base CX0 5 f fd P_Fence_add (spFAdd C CF) := by
  obtain ⟨fI, MF, FI⟩ := hMk
  refine F.ok sc_Fence_add (fun vs H Q E h => ?_) (fun cdv A outer s H vs Q E hr h => ?_)
  · obtain ⟨f, L, x, rfl, _⟩ := h
    rfl
  obtain ⟨f, L, x, rfl, hf, cr, q⟩ := h
  obtain ⟨dx, t, d, h1, h2, h3⟩ := hf.ex
  refine ⟨_, (pss_one (ps_ret (pe_makeS2 MF FI (hr.mono (by decide)) rfl U.mgF pass0 (StX.pa_star (pe_fld (pv 0) rfl) (pa_cons (pv 1) pa_nil))))), ?_⟩
  refine ⟨_, rfl, f, CF, dx, _, _, rfl, h1, U.cl, U.nP, ffs_p _ _, t, _, rfl, .inl (.inl (.inl h2)), _, rfl, fun x1 dx1 nx nd ne => ?_⟩
  rw [show refsOf L ++ [V.ref x.a] = refsOf (L ++ [x]) from (refs_snoc _ _).symm]
  exact ask_fence nx nd cr fun H' hf' s' => ⟨rfl, q x1 H' hf' s'⟩
end
abbrev s_Fence_painters : Stmt := (inClass (topS 62) 1)
abbrev N_sc_Fence_painters : List Str := ["self"]
abbrev P_Fence_painters : List Str := ["self"]
theorem sc_Fence_painters : FnScope N_sc_Fence_painters P_Fence_painters (defScope s_Fence_painters) := ⟨rfl, rfl, rfl, by decide +kernel, rfl, by decide +kernel, by decide +kernel⟩
section
variable {P : Program} {w : World} {K : PySem.W.Frag} {mg : Str → Option Value} {base : Heap} {C CF : Addr} {f : Addr} {fd : FuncData}
theorem ok_get_painters (F : Fun K "painters" "Fence.painters" s_Fence_painters f fd) (U : FTxt K mg CF) : FnOk P w K mg base CX0 1 f fd ["self"] (getSp CF "_painters") := by
  refine F.ok sc_Fence_painters (fun vs H Q E h => ?_) (fun cdv A outer s H vs Q E hr h => ?_)
  · obtain ⟨a, dx, fs, v, rfl, _⟩ := h
    rfl
  obtain ⟨a, dx, fs, v, rfl, ha, hl, q⟩ := h
  exact ⟨_, (pss_one (ps_ret (pe_fld (pv 0) rfl))), _, rfl, a, CF, dx, fs, v, rfl, ha, U.cl, U.nP, hl, q⟩
end
abbrev s_Fence_names : Stmt := (inClass (topS 62) 2)
abbrev N_sc_Fence_names : List Str := ["self", "painter"]
abbrev P_Fence_names : List Str := ["self"]
theorem sc_Fence_names : FnScope N_sc_Fence_names P_Fence_names (defScope s_Fence_names) := ⟨rfl, rfl, rfl, by decide +kernel, rfl, by decide +kernel, by decide +kernel⟩
def spFNames (C CF : Addr) : Sp := fun vs H Q _ => ∃ (f : Addr) (L : List Pt), vs = [.ref f] ∧ FcAt C CF H f L ∧ ∀ r H', H' r = some (.tup (L.map fun x => V.str x.nm)) → Same H H' → Q (.ref r) H'
section
variable {P : Program} {w : World} {K : PySem.W.Frag} {mg : Str → Option Value} {base : Heap} {C CF : Addr} {f : Addr} {fd : FuncData}
theorem ok_fnames (F : Fun K "names" "Fence.names" s_Fence_names f fd) (T : PTxt K mg C) (U : FTxt K mg CF) (nb_tuple : mg "tuple" = none) (hName : PropS P w K mg base C "name" 1 (getSp C "_name")) : FnOk P w K mg base CX0 3 f fd ["self"] (spFNames C CF) := by
  refine F.ok sc_Fence_names (fun vs H Q E h => ?_) (fun cdv A outer s H vs Q E hr h => ?_)
  · obtain ⟨f, L, rfl, _⟩ := h
    rfl
  obtain ⟨f, L, rfl, hf, q⟩ := h
  obtain ⟨dx, t, d, h1, h2, h3⟩ := hf.ex
  refine ⟨_, (pss_one (ps_ret (pe_callTy call_tuple_of rfl nb_tuple (by decide +kernel) (pa_cons (pe_lc (own := [("painter", 1)]) (g := gName 1) (tt := tYes) rfl sc_Fence_names.nd (pi_tup (pe_fld (pv 0) rfl)) (blkOk_by (N := N_sc_Fence_names) (sc := defScope s_Fence_names) (by decide +kernel)) (fun _ _ _ _ _ => pg_name (i := 1) sc_Fence_names.nd rfl (Or.inl rfl)) (fun _ _ _ _ _ => pts_nil) (fun _ _ _ _ _ => (pe_prS (pv 1) T.cl hName (hr.mono (by decide))))) pa_nil)))), ?_⟩
  refine ⟨_, rfl, f, CF, dx, _, _, rfl, h1, U.cl, U.nP, ffs_p _ _, t, rfl, ⟨_, .inl (.inl h2)⟩, fun D hD => ?_⟩
  refine lc_tup (K := K) (a := t) (xs := refsOf L) (fun i H' => H' D = some (.lst ((L.take i).map fun x => V.str x.nm)) ∧ Same H H') ⟨upd_same, same_new hD _⟩ (fun i H' _ h => .inl (.inl (h.2 _ _ h2))) ?_ ?_
  · rintro i v H' e ⟨hD', sm⟩
    obtain ⟨z, hz, rfl⟩ := refs_at e
    have pz := (hf.crew.at_ z (List.mem_of_getElem? hz)).same sm
    obtain ⟨dz, ez⟩ := pz.1
    refine ⟨rfl, _, rfl, z.a, dz, _, rfl, ez, z.a, dz, _, _, rfl, ez, pfs_name _ _ _ _, _, hD', ?_, ?_, ?_⟩
    · rw [List.length_map, List.length_take]
      exact Nat.lt_of_le_of_lt (Nat.le_trans (Nat.min_le_right _ _) hf.len) (by decide)
    · rw [upd_same, take_snoc hz, List.map_append]
      rfl
    · exact fun b o e => by rw [upd_ne (ne_of_none e hD)]; exact sm _ _ e
  · rintro H' ⟨hD', sm⟩
    rw [refs_len, List.take_length] at hD'
    refine ⟨D, _, rfl, .inl ⟨SqL.of hD', fun r hr0 => ?_⟩⟩
    exact q r _ upd_same (sm.trans (same_new hr0 _))
end
abbrev s_Fence_len : Stmt := (inClass (topS 62) 4)
abbrev N_sc_Fence_len : List Str := ["self"]
abbrev P_Fence_len : List Str := ["self"]
theorem sc_Fence_len : FnScope N_sc_Fence_len P_Fence_len (defScope s_Fence_len) := ⟨rfl, rfl, rfl, by decide +kernel, rfl, by decide +kernel, by decide +kernel⟩
def spFLen (C CF : Addr) : Sp := fun vs H Q _ => ∃ (f : Addr) (L : List Pt), vs = [.ref f] ∧ FcAt C CF H f L ∧ Q (.int L.length) H
section
variable {P : Program} {w : World} {K : PySem.W.Frag} {mg : Str → Option Value} {base : Heap} {C CF : Addr} {f : Addr} {fd : FuncData}
theorem ok_flen (F : Fun K "__len__" "Fence.__len__" s_Fence_len f fd) (B : Blt mg) (U : FTxt K mg CF) : FnOk P w K mg base CX0 1 f fd ["self"] (spFLen C CF) := by
  refine F.ok sc_Fence_len (fun vs H Q E h => ?_) (fun cdv A outer s H vs Q E hr h => ?_)
  · obtain ⟨f, L, rfl, _⟩ := h
    rfl
  obtain ⟨f, L, rfl, hf, q⟩ := h
  obtain ⟨dx, t, d, h1, h2, h3⟩ := hf.ex
  refine ⟨_, (pss_one (ps_ret (pe_callB call_len_seq rfl B.len_ PySem.boot_len (pa_cons (pe_fld (pv 0) rfl) pa_nil)))), ?_⟩
  refine ⟨_, rfl, f, CF, dx, _, _, rfl, h1, U.cl, U.nP, ffs_p _ _, t, _, rfl, .inr (SqT.of h2), ?_⟩
  rw [refs_len]
  exact q
end
/-- isinstance(x, T), T a built-in type, x of a told kind -/
def rIsT (K : PySem.W.Frag) (T : String) (g : PyData → Bool) : List V → Hp → VK → Prop := fun xs H Q => ∃ (x : V) (d : PyData), xs = [x, .ty T] ∧ TyX K H x (.type (kindD d)) ∧ Q (.bl (g d)) H
theorem call_isT {X : Cx} {K : PySem.W.Frag} (e : X.K = K) {T : String} {g : PyData → Bool} (hk : ∀ d, PySem.W.kitOne K (.type (kindD d)) (.type T) = some (g d)) : CallR X (.builtin "isinstance") (rIsT K T g) := by
  subst e
  intro pins s σ H xs us Q I r h
  obtain ⟨x, d, rfl, hd, q⟩ := h
  exact call_isi pins s σ H _ us Q I r ⟨x, .ty T, _, _, g d, rfl, .ty T, hd, hk d, q⟩
/-- a value of the kind of d; a text is d's own -/
def Kin (K : PySem.W.Frag) (H : Hp) (y : V) (d : PyData) : Prop := TyX K H y (.type (kindD d)) ∧ ∀ z, d = .str z → y = .str z
/-- x in fence -/
def inD (L : List Pt) (d : PyData) : Bool := match d with
  | .str z => decide (z ∈ L.map Pt.nm)
  | _ => false
def InF (K : PySem.W.Frag) (C CF : Addr) : Addr → V → Bool → Hp → Prop := fun f y b H => ∃ (L : List Pt) (d : PyData), FcAt C CF H f L ∧ Kin K H y d ∧ b = inD L d
theorem any_str {H : Hp} {y : V} {z : Str} (h : Any H y (.str z)) : y = .str z := by
  obtain ⟨np, n, h⟩ := h
  cases n with
  | zero => cases h; rfl
  | succ n =>
    rcases h with h | ⟨a, xs, ds, _, _, _, _, ed⟩ | ⟨a, xs, ds, _, _, _, ed⟩ | ⟨a, kvs, es, _, _, _, _, ed⟩
    · cases h; rfl
    · cases ed
    · cases ed
    · cases ed
theorem kin_of {K : PySem.W.Frag} {H : Hp} {y : V} {d : PyData} (h : Any H y d) : Kin K H y d := ⟨let ⟨_, _, z⟩ := h; z.ty, fun z e => any_str (by rw [← e]; exact h)⟩
abbrev s_Fence_contains : Stmt := (inClass (topS 62) 5)
abbrev N_sc_Fence_contains : List Str := ["self", "x"]
abbrev P_Fence_contains : List Str := ["self", "x"]
theorem sc_Fence_contains : FnScope N_sc_Fence_contains P_Fence_contains (defScope s_Fence_contains) := ⟨rfl, rfl, rfl, by decide +kernel, rfl, by decide +kernel, by decide +kernel⟩
section
variable {P : Program} {w : World} {K : PySem.W.Frag} {mg : Str → Option Value} {base : Heap} {C CF : Addr} {f : Addr} {fd : FuncData}
theorem valV_is (L : List Pt) (z : Str) : (valV (kvOf L) (Sum.inr z : Key)).isSome = decide (z ∈ L.map Pt.nm) := by
  induction L with
  | nil => rfl
  | cons x r ih =>
    show (valV ((Sum.inr x.nm, V.ref x.a) :: kvOf r) _).isSome = _
    by_cases e : x.nm = z
    · rw [valV_pos (p := ((Sum.inr x.nm : Key), V.ref x.a)) (by rw [e])]
      subst e
      simp
    · rw [valV_neg (p := ((Sum.inr x.nm : Key), V.ref x.a)) (fun q => e (Sum.inr.inj q)), ih]
      have e' : ¬ z = x.nm := fun q => e q.symm
      simp [e']
theorem ok_fin (F : Fun K "__contains__" "Fence.__contains__" s_Fence_contains f fd) (B : Blt mg) (U : FTxt K mg CF) : FnOk P w K mg base CX0 1 f fd P_Fence_contains (spIn (InF K C CF)) := by
  refine F.ok sc_Fence_contains (fun vs H Q E h => ?_) (fun cdv A outer s H vs Q E hr h => ?_)
  · obtain ⟨a, y, b, rfl, _⟩ := h
    rfl
  obtain ⟨f, y, b, rfl, ⟨L, d, hf, hy, rfl⟩, q⟩ := h
  obtain ⟨dx, t, dd, h1, h2, h3⟩ := hf.ex
  have hu := hu_of hr
  refine ⟨_, (pss_one (ps_ret (pe_and (pe_callB (call_isT (K := K) rfl kit_strD) rfl B.isinstance_ (by decide +kernel) (pa_cons (pv 1) (pa_cons (pe_bltn (v := .ty "str") rfl B.str_ (by decide +kernel) rfl) pa_nil))) (pe_one (pe_cmp (pc_din hu (pv 1) (pe_fld (pv 0) rfl)) rfl))))), ?_⟩
  refine ⟨_, rfl, y, d, rfl, hy.1, isStrD d, rfl, ?_⟩
  cases d with
  | str z =>
    obtain rfl := hy.2 z rfl
    refine iteT ?_
    refine ⟨_, rfl, _, rfl, f, CF, dx, _, _, rfl, h1, U.cl, U.nB, ffs_b _ _, dd, _, rfl, DGet.k (k := (Sum.inr z : Key)) h3, ?_⟩
    rw [valV_is]
    exact q H Ext.rfl'
  | none => exact iteF (q H Ext.rfl')
  | bool _ => exact iteF (q H Ext.rfl')
  | int _ => exact iteF (q H Ext.rfl')
  | list _ => exact iteF (q H Ext.rfl')
  | tuple _ => exact iteF (q H Ext.rfl')
  | dict _ => exact iteF (q H Ext.rfl')
end
abbrev s_Fence_getitem : Stmt := (inClass (topS 62) 6)
abbrev N_sc_Fence_getitem : List Str := ["self", "at"]
abbrev P_Fence_getitem : List Str := ["self", "at"]
theorem sc_Fence_getitem : FnScope N_sc_Fence_getitem P_Fence_getitem (defScope s_Fence_getitem) := ⟨rfl, rfl, rfl, by decide +kernel, rfl, by decide +kernel, by decide +kernel⟩
def spFGet (C CF : Addr) : Sp := fun vs H Q _ => ∃ (f : Addr) (L : List Pt) (x : Pt), vs = [.ref f, .str x.nm] ∧ FcAt C CF H f L ∧ x ∈ L ∧ ∀ H', Same H H' → Q (.ref x.a) H'
section
variable {P : Program} {w : World} {K : PySem.W.Frag} {mg : Str → Option Value} {base : Heap} {C CF : Addr} {f : Addr} {fd : FuncData}
theorem kin_str (K : PySem.W.Frag) (H : Hp) (z : Str) : Kin K H (.str z) (.str z) := ⟨.base (.str z), fun y e => by cases e; rfl⟩
theorem ok_fget (F : Fun K "__getitem__" "Fence.__getitem__" s_Fence_getitem f fd) (B : Blt mg) (U : FTxt K mg CF) (hIn : OwnR P w K mg base CF "__contains__" 1 P_Fence_contains (spIn (InF K C CF))) : FnOk P w K mg base CX0 2 f fd P_Fence_getitem (spFGet C CF) := by
  refine F.ok sc_Fence_getitem (fun vs H Q E h => ?_) (fun cdv A outer s H vs Q E hr h => ?_)
  · obtain ⟨a, L, x, rfl, _⟩ := h
    rfl
  obtain ⟨f, L, x, rfl, hf, hx, q⟩ := h
  obtain ⟨dx, t, dd, h1, h2, h3⟩ := hf.ex
  have hu := hu_of hr
  refine ⟨_, (pss_cons (ps_if (pt_cmpR (op_notInO hIn (hr.mono (by decide))) (pv 1) (pv 0) (by rfl)) (pss_one ps_never) pss_nil) (pss_one (ps_ret (pe_dget hu (pe_fld (pv 0) rfl) (pv 1) (fun _ _ => rfl))))), ?_⟩
  refine ⟨_, rfl, _, rfl, f, dx, _, true, rfl, h1, ⟨L, _, hf, kin_str K H x.nm, ?_⟩, fun H' e => ⟨false, rfl, iteF ?_⟩⟩
  · exact (decide_eq_true (List.mem_map_of_mem hx)).symm
  have hf' := hf.same (H' := H') fun b o z => e b o z
  have v := DGet.k (k := (Sum.inr x.nm : Key)) (e _ _ h3)
  rw [valV_at hf.crew.nd hx] at v
  exact ⟨_, rfl, f, CF, dx, _, _, rfl, e _ _ h1, U.cl, U.nB, ffs_b _ _, _, rfl, dd, _, rfl, v, q H' fun b o z => e b o z⟩
end
end Ur
/-! FC: == and != of painters and of fences. -/
namespace Ur
open PySem PySem.Spec PyProof.Rows L2
/-! ### isinstance of an own class, both answers -/
structure KitC (K : PySem.W.Frag) (C : Addr) : Prop where
  no : ∀ d : PyData, PySem.W.kitOne K (.type (kindD d)) (.ref C) = some false
/-- a value of another kind than an instance -/
def Oth (K : PySem.W.Frag) (H : Hp) (y : V) : Prop := ∃ d : PyData, TyX K H y (.type (kindD d)) ∧ Knd H y (.type (kindD d))
def rIsO (K : PySem.W.Frag) (C : Addr) : List V → Hp → VK → Prop := fun xs H Q => ∃ (y : V) (b : Bool), xs = [y, .ref C] ∧ ((∃ a dx fs, y = .ref a ∧ H a = some (.ins C dx fs) ∧ b = true) ∨ Oth K H y ∧ b = false) ∧ Q (.bl b) H
theorem call_isO {X : Cx} {K : PySem.W.Frag} (ek : X.K = K) {C : Addr} (c : C8.InsC K C) (z : KitC K C) : CallR X (.builtin "isinstance") (rIsO K C) := by
  subst ek
  intro pins s σ H xs us Q I r h
  obtain ⟨y, b, rfl, h, q⟩ := h
  rcases h with ⟨a, dx, fs, rfl, ha, rfl⟩ | ⟨⟨d, hd, _⟩, rfl⟩
  · exact C8.call_isC c pins s σ H _ us Q I r ⟨a, dx, fs, rfl, ha, q⟩
  · exact call_isi pins s σ H _ us Q I r ⟨y, .ref C, _, _, false, rfl, .own C, hd, z.no d, q⟩
theorem DqN.knd {H : Hp} {np : Addr} : ∀ {n : Nat} {v : V} {d : PyData}, DqN H np n v d → Knd H v (.type (kindD d))
  | 0, _, _, h => by cases h <;> constructor
  | n + 1, v, d, h => by
    rcases h with h | ⟨a, xs, ds, rfl, ha, ns, ps, rfl⟩ | ⟨a, xs, ds, rfl, ha, ps, rfl⟩ | ⟨a, kvs, es, rfl, na, ha, ps, rfl⟩
    · cases h <;> constructor
    · exact .lst ha
    · exact .tup ha
    · exact .dK ha
theorem notFirst_ty {K : PySem.W.Frag} {C : Addr} (d : PyData) : PySem.W.notFirst K C (.type (kindD d)) = true := by
  have key : ∀ (T : String) (l : List String), fastBuiltinMro T = some (l.map Value.type) → PySem.W.notFirst K C (.type T) = true := fun T l e => by
    have z : PySem.W.subIn K (.type T) (.ref C) = some false := by
      show (fastBuiltinMro T).map (·.contains (.ref C)) = some false
      rw [e]
      show some ((l.map Value.type).contains (.ref C)) = some false
      congr 1
      induction l with
      | nil => rfl
      | cons x r ih =>
        rw [List.map_cons, List.contains_cons]
        have h : (Value.ref C == Value.type x) = false := Bool.eq_false_iff.mpr fun q => by cases beq_iff_eq.mp q
        rw [h]
        clear e
        induction r with
        | nil => rfl
        | cons y r ih2 =>
          rw [List.map_cons, List.contains_cons]
          have h2 : (Value.ref C == Value.type y) = false := Bool.eq_false_iff.mpr fun q => by cases beq_iff_eq.mp q
          rw [h2]
          simp
    unfold PySem.W.notFirst
    rw [z]
    simp
  cases d with
  | none => exact key "NoneType" ["NoneType", "object"] (by decide +kernel)
  | bool _ => exact key "bool" ["bool", "int", "object"] (by decide +kernel)
  | int _ => exact key "int" ["int", "object"] (by decide +kernel)
  | str _ => exact key "str" ["str", "object"] (by decide +kernel)
  | list _ => exact key "list" ["list", "object"] (by decide +kernel)
  | tuple _ => exact key "tuple" ["tuple", "object"] (by decide +kernel)
  | dict _ => exact key "dict" ["dict", "object"] (by decide +kernel)
theorem sub_ty_no {K : PySem.W.Frag} {C : Addr} (d : PyData) : PySem.W.subIn K (.type (kindD d)) (.ref C) = some false := by
  have z := notFirst_ty (K := K) (C := C) d
  unfold PySem.W.notFirst at z
  rcases Bool.or_eq_true_iff.mp z with e | e
  · cases beq_iff_eq.mp e
  · exact beq_iff_eq.mp e
theorem kitC_of {K : PySem.W.Frag} {C : Addr} (i : PySem.W.isClsIn K C = true) (t : PySem.W.typeIn K (.ref C) = some (.type "type")) : KitC K C := ⟨fun d => by
  have e2 : ((PySem.W.clsIn K C).isSome && PySem.W.typeIn K (.ref C) == some (.type "type")) = true := by
    have i2 : (PySem.W.clsIn K C).isSome = true := i
    rw [i2, t] <;> rfl
  show (if (Value.type (kindD d) == Value.ref C) = true then some true else if ((PySem.W.clsIn K C).isSome && PySem.W.typeIn K (.ref C) == some (.type "type")) = true then PySem.W.subIn K (.type (kindD d)) (.ref C) else none) = some false
  rw [if_neg (fun z => by cases beq_iff_eq.mp z), if_pos e2]
  exact sub_ty_no d⟩
theorem notFirst_own {K : PySem.W.Frag} {C : Addr} : PySem.W.notFirst K C (.ref C) = true := by simp [PySem.W.notFirst]
theorem Any.ext {H H' : Hp} {v : V} {d : PyData} (h : Any H v d) (e : Ext H H') : Any H' v d := let ⟨np, n, z⟩ := h; ⟨np, n, DqN.same (fun b o q => e b o q) z⟩
/-! ### painters -/
def Pt.parts (x : Pt) : Str × Int × Int × Int := (x.nm, x.d, x.p, x.s)
def PnX (C : Addr) (H : Hp) (x : Pt) : Prop := PnAt C H x.a x.nm x.d x.p x.s
theorem PnX.ext {C : Addr} {H H' : Hp} {x : Pt} (h : PnX C H x) (e : Ext H H') : PnX C H' x := let ⟨dx, z⟩ := h; ⟨dx, e _ _ z⟩
theorem PnX.same_parts {C : Addr} {H : Hp} {x z : Pt} (h : PnX C H x) (h2 : PnX C H z) (e : x.a = z.a) : x.parts = z.parts := by
  obtain ⟨d1, e1⟩ := h
  obtain ⟨d2, e2⟩ := h2
  rw [e] at e1
  rw [e1] at e2
  have e3 := HO.ins.inj (Option.some.inj e2)
  have e4 : pfs x.nm x.d x.p x.s = pfs z.nm z.d z.p z.s := e3.2.2
  unfold pfs at e4
  simp only [List.cons.injEq, Prod.mk.injEq, V.str.injEq, V.int.injEq, and_true, true_and] at e4
  unfold Pt.parts
  rw [e4.1, e4.2.1, e4.2.2.1, e4.2.2.2]
def SaysP (K : PySem.W.Frag) (C : Addr) : Says := fun a y b H => ∃ x : Pt, x.a = a ∧ PnX C H x ∧ ((∃ z : Pt, y = .ref z.a ∧ PnX C H z ∧ b = decide (x.parts = z.parts)) ∨ Oth K H y ∧ b = false)
abbrev s_Painter_eq : Stmt := (inClass (topS 60) 14)
abbrev N_sc_Painter_eq : List Str := ["self", "other"]
abbrev P_Painter_eq : List Str := ["self", "other"]
theorem sc_Painter_eq : FnScope N_sc_Painter_eq P_Painter_eq (defScope s_Painter_eq) := ⟨rfl, rfl, rfl, by decide +kernel, rfl, by decide +kernel, by decide +kernel⟩
section
variable {P : Program} {w : World} {K : PySem.W.Frag} {mg : Str → Option Value} {base : Heap} {C : Addr} {f : Addr} {fd : FuncData}
theorem bl_of {b c : Bool} {Q : VK} {H : Hp} (q : Q (.bl b) H) (e : b = c) : Q (.bl c) H := e ▸ q
theorem ok_eqB (F : Fun K "__eq__" "Painter.__eq__" s_Painter_eq f fd) (B : Blt mg) (T : PTxt K mg C) (hI : C8.InsC K C) (hK : KitC K C) : FnOk P w K mg base CX0 1 f fd P_Painter_eq (spEqB (SaysP K C)) := by
  refine F.ok sc_Painter_eq (fun vs H Q E h => ?_) (fun cdv A outer s H vs Q E hr h => ?_)
  · obtain ⟨a, y, b, rfl, _⟩ := h
    rfl
  obtain ⟨a, y, b, rfl, ⟨x, rfl, ⟨dx, hx⟩, hy⟩, q⟩ := h
  refine ⟨_, (pss_one (ps_ret (pe_and (pe_callB (call_isO (K := K) rfl hI hK) rfl B.isinstance_ (by decide +kernel) (pa_cons (pv 1) (pa_cons (pe_glob (v := V.ref C) rfl T.mgP rfl) pa_nil))) (pe_and (pe_cmpR op_eq (pe_fld (pv 0) rfl) (pe_fld (pv 1) rfl) (nomark _)) (pe_and (pe_cmpR op_eq (pe_fld (pv 0) rfl) (pe_fld (pv 1) rfl) (nomark _)) (pe_and (pe_cmpR op_eq (pe_fld (pv 0) rfl) (pe_fld (pv 1) rfl) (nomark _)) (pe_one (pe_cmpR op_eq (pe_fld (pv 0) rfl) (pe_fld (pv 1) rfl) (nomark _))))))))), ?_⟩
  have q := q H Ext.rfl'
  rcases hy with ⟨z, rfl, ⟨dz, hz⟩, rfl⟩ | ⟨hd, rfl⟩
  · refine ⟨_, rfl, _, true, rfl, .inl ⟨z.a, dz, _, rfl, hz, rfl⟩, true, rfl, iteT ?_⟩
    refine ⟨_, rfl, x.a, C, dx, _, _, rfl, hx, T.cl, T.nN, pfs_name _ _ _ _, _, rfl, z.a, C, dz, _, _, rfl, hz, T.cl, T.nN, pfs_name _ _ _ _, rfl, ?_⟩
    refine ⟨_, rfl, ?_⟩
    by_cases e1 : ¬ x.nm = z.nm
    · exact iteDF (fun e => e1 (V.str.inj e)) (bl_of q (decide_eq_false fun e => e1 (congrArg (·.1) e)))
    have e1 : x.nm = z.nm := Decidable.not_not.mp e1
    refine iteDT (by rw [e1]) ?_
    refine ⟨_, rfl, x.a, C, dx, _, _, rfl, hx, T.cl, T.nD, pfs_day _ _ _ _, _, rfl, z.a, C, dz, _, _, rfl, hz, T.cl, T.nD, pfs_day _ _ _ _, rfl, ?_⟩
    refine ⟨_, rfl, ?_⟩
    by_cases e2 : ¬ x.d = z.d
    · exact iteDF (fun e => e2 (V.int.inj e)) (bl_of q (decide_eq_false fun e => e2 (congrArg (·.2.1) e)))
    have e2 : x.d = z.d := Decidable.not_not.mp e2
    refine iteDT (by rw [e2]) ?_
    refine ⟨_, rfl, x.a, C, dx, _, _, rfl, hx, T.cl, T.nP, pfs_post _ _ _ _, _, rfl, z.a, C, dz, _, _, rfl, hz, T.cl, T.nP, pfs_post _ _ _ _, rfl, ?_⟩
    refine ⟨_, rfl, ?_⟩
    by_cases e3 : ¬ x.p = z.p
    · exact iteDF (fun e => e3 (V.int.inj e)) (bl_of q (decide_eq_false fun e => e3 (congrArg (·.2.2.1) e)))
    have e3 : x.p = z.p := Decidable.not_not.mp e3
    refine iteDT (by rw [e3]) ?_
    refine ⟨_, rfl, x.a, C, dx, _, _, rfl, hx, T.cl, T.nS, pfs_stride _ _ _ _, _, rfl, z.a, C, dz, _, _, rfl, hz, T.cl, T.nS, pfs_stride _ _ _ _, rfl, ?_⟩
    refine bl_of q ?_
    by_cases e4 : x.s = z.s
    · rw [decide_eq_true (show V.int x.s = V.int z.s by rw [e4]), decide_eq_true (show x.parts = z.parts by unfold Pt.parts; rw [e1, e2, e3, e4])]
    · rw [decide_eq_false (show ¬ V.int x.s = V.int z.s from fun e => e4 (V.int.inj e)), decide_eq_false (show ¬ x.parts = z.parts from fun e => e4 (congrArg (·.2.2.2) e))]
  · exact ⟨_, rfl, _, false, rfl, .inr ⟨hd, rfl⟩, false, rfl, iteF q⟩
end
/-- two painters, as items -/
def DPt (C : Addr) : EqvB := fun u v b H => ∃ x z : Pt, u = .ref x.a ∧ v = .ref z.a ∧ PnX C H x ∧ PnX C H z ∧ b = decide (x.parts = z.parts)
theorem mon_pt {C : Addr} : MonB (DPt C) := fun u v b H H' e h => let ⟨x, z, h1, h2, h3, h4, h5⟩ := h; ⟨x, z, h1, h2, h3.ext e, h4.ext e, h5⟩
theorem RcB.imp {X : Cx} {n : Nat} {op : CmpOp} {g : Bool → Bool} {D D' : EqvB} (h : RcB X n op g D) (f : ∀ x y b H, D' x y b H → D x y b H) : RcB X n op g D' := fun A pins s σ H x y b u v sb I rx ry d => h A pins s σ H x y b u v sb I rx ry (f _ _ _ _ d)
section
variable {X : Cx} {C : Addr}
theorem pt_own {x y : V} {b : Bool} {H : Hp} (h : DPt C x y b H) : DOwn X.K C (SaysP X.K C) x y b H := by
  obtain ⟨x, z, rfl, rfl, h3, h4, h5⟩ := h
  obtain ⟨dx, e⟩ := id h3
  obtain ⟨dz, e'⟩ := id h4
  exact ⟨x.a, dx, _, .ref C, rfl, e, .ins e', notFirst_own, x, rfl, h3, .inl ⟨z, rfl, h4, h5⟩⟩
theorem rcB_pt (h : EqC X.prog X.w X.K X.mg X.base C 1 (SaysP X.K C)) : RcB X 1 .Eq id (DPt C) := (rcB_own h).imp fun _ _ _ _ d => pt_own d
theorem rcB_ptNe (h : EqC X.prog X.w X.K X.mg X.base C 1 (SaysP X.K C)) : RcB X 2 .NotEq (!·) (DPt C) := (rcB_ownNe h).imp fun _ _ _ _ d => pt_own d
theorem eqB_pt (h : EqC X.prog X.w X.K X.mg X.base C 1 (SaysP X.K C)) : EqB X 1 (DPt C) := (rcB_pt h).eqB (fun x y b H d => let ⟨x, z, h1, h2, _⟩ := d; ⟨_, _, h1, h2⟩) fun a b H d => by
  obtain ⟨x, z, h1, h2, h3, h4, rfl⟩ := d
  exact decide_eq_true (h3.same_parts h4 (by rw [← V.ref.inj h1, ← V.ref.inj h2]))
end
/-! ### tuples of painters -/
def partsOf (L : List Pt) : List (Str × Int × Int × Int) := L.map Pt.parts
def eAt (L M : List Pt) (i : Nat) : Bool := match L[i]?, M[i]? with
  | some x, some z => decide (x.parts = z.parts)
  | _, _ => true
theorem allB_parts (L M : List Pt) : allB (eAt L M) L.length M.length = decide (partsOf L = partsOf M) := by
  have key : allB (eAt L M) L.length M.length = true ↔ partsOf L = partsOf M := by
    unfold allB
    rw [Bool.and_eq_true, List.all_eq_true, beq_iff_eq]
    constructor
    · rintro ⟨h1, h2⟩
      apply List.ext_getElem?
      intro i
      unfold partsOf
      rw [List.getElem?_map, List.getElem?_map]
      by_cases hi : i < L.length
      · have hj : i < M.length := h2 ▸ hi
        have z := h1 i (by rw [List.mem_range]; omega)
        unfold eAt at z
        rw [List.getElem?_eq_getElem hi, List.getElem?_eq_getElem hj] at z ⊢
        have z := of_decide_eq_true z
        simp [z]
      · rw [List.getElem?_eq_none (by omega), List.getElem?_eq_none (by omega)]
    · intro h
      have hl : L.length = M.length := by
        have := congrArg List.length h
        unfold partsOf at this
        rw [List.length_map, List.length_map] at this
        exact this
      refine ⟨fun i hi => ?_, hl⟩
      rw [List.mem_range] at hi
      have h1 : i < L.length := by omega
      have h2 : i < M.length := by omega
      have z := congrArg (·[i]?) h
      unfold partsOf at z
      simp only [List.getElem?_map, List.getElem?_eq_getElem h1, List.getElem?_eq_getElem h2, Option.map_some] at z
      unfold eAt
      rw [List.getElem?_eq_getElem h1, List.getElem?_eq_getElem h2]
      exact decide_eq_true (Option.some.inj z)
  cases e : allB (eAt L M) L.length M.length with
  | true => exact (decide_eq_true (key.mp e)).symm
  | false => exact (decide_eq_false fun h => by rw [key.mpr h] at e; cases e).symm
theorem prs_parts {C : Addr} {H : Hp} {L M : List Pt} (h1 : ∀ x ∈ L, PnX C H x) (h2 : ∀ x ∈ M, PnX C H x) : PrsB (DPt C) (refsOf L) (refsOf M) (eAt L M) H := by
  intro i u v e1 e2
  obtain ⟨x, hx, rfl⟩ := refs_at e1
  obtain ⟨z, hz, rfl⟩ := refs_at e2
  refine ⟨x, z, rfl, rfl, h1 x (List.mem_of_getElem? hx), h2 z (List.mem_of_getElem? hz), ?_⟩
  unfold eAt
  rw [hx, hz]
/-- two tuples of painters -/
theorem tup_parts {K : PySem.W.Frag} {C : Addr} {H : Hp} {L M : List Pt} {a c : Addr} (h1 : ∀ x ∈ L, PnX C H x) (h2 : ∀ x ∈ M, PnX C H x) (ha : SqT K H a (refsOf L)) (hc : SqT K H c (refsOf M)) : DTupB K (DPt C) (.ref a) (.ref c) (decide (partsOf L = partsOf M)) H :=
  ⟨a, c, _, _, eAt L M, rfl, rfl, ha, hc, prs_parts h1 h2, by rw [refs_len, refs_len, allB_parts]⟩
theorem Crew.pn {C : Addr} {H : Hp} {L : List Pt} (h : Crew C H L) : ∀ x ∈ L, PnX C H x := fun x hx => (h.at_ x hx).1
/-! ### fences -/
def SaysF (K : PySem.W.Frag) (C CF : Addr) : Says := fun f y b H => ∃ L, FcAt C CF H f L ∧ ((∃ g M, y = .ref g ∧ FcAt C CF H g M ∧ b = decide (partsOf L = partsOf M)) ∨ Oth K H y ∧ b = false)
abbrev s_Fence_eq : Stmt := (inClass (topS 62) 8)
abbrev N_sc_Fence_eq : List Str := ["self", "other"]
abbrev P_Fence_eq : List Str := ["self", "other"]
theorem sc_Fence_eq : FnScope N_sc_Fence_eq P_Fence_eq (defScope s_Fence_eq) := ⟨rfl, rfl, rfl, by decide +kernel, rfl, by decide +kernel, by decide +kernel⟩
section
variable {P : Program} {w : World} {K : PySem.W.Frag} {mg : Str → Option Value} {base : Heap} {C CF : Addr} {f : Addr} {fd : FuncData}
theorem ok_feqB (F : Fun K "__eq__" "Fence.__eq__" s_Fence_eq f fd) (B : Blt mg) (U : FTxt K mg CF) (hI : C8.InsC K CF) (hK : KitC K CF) (hEq : EqC P w K mg base C 1 (SaysP K C)) : FnOk P w K mg base CX0 3 f fd P_Fence_eq (spEqB (SaysF K C CF)) := by
  refine F.ok sc_Fence_eq (fun vs H Q E h => ?_) (fun cdv A outer s H vs Q E hr h => ?_)
  · obtain ⟨a, y, b, rfl, _⟩ := h
    rfl
  obtain ⟨f, y, b, rfl, ⟨L, hf, hy⟩, q⟩ := h
  obtain ⟨dx, t, dd, h1, h2, h3⟩ := hf.ex
  refine ⟨_, (pss_one (ps_ret (pe_and (pe_callB (call_isO (K := K) rfl hI hK) rfl B.isinstance_ (by decide +kernel) (pa_cons (pv 1) (pa_cons (pe_glob (v := V.ref CF) rfl U.mgF rfl) pa_nil))) (pe_one (pe_cmpR (op_rcB (rcB_tup mon_pt (eqB_pt hEq)) (hr.mono (by decide))) (pe_fld (pv 0) rfl) (pe_fld (pv 1) rfl) (nomark _)))))), ?_⟩
  rcases hy with ⟨g, M, rfl, hg, rfl⟩ | ⟨hd, rfl⟩
  · obtain ⟨dy, t', dd', g1, g2, g3⟩ := hg.ex
    refine ⟨_, rfl, _, true, rfl, .inl ⟨g, dy, _, rfl, g1, rfl⟩, true, rfl, iteT ?_⟩
    exact ⟨_, rfl, f, CF, dx, _, _, rfl, h1, U.cl, U.nP, ffs_p _ _, _, rfl, g, CF, dy, _, _, rfl, g1, U.cl, U.nP, ffs_p _ _, _, tup_parts hf.crew.pn hg.crew.pn (.inl (.inl h2)) (.inl (.inl g2)), fun H' e => q H' e⟩
  · exact ⟨_, rfl, _, false, rfl, .inr ⟨hd, rfl⟩, false, rfl, iteF (q H Ext.rfl')⟩
end
/-- a fence and another one, or a value of another kind -/
def DFc (K : PySem.W.Frag) (C CF : Addr) : EqvB := fun u v b H => ∃ f, u = .ref f ∧ SaysF K C CF f v b H
section
variable {X : Cx} {C CF : Addr}
theorem fc_own {x y : V} {b : Bool} {H : Hp} (h : DFc X.K C CF x y b H) : DOwn X.K CF (SaysF X.K C CF) x y b H := by
  obtain ⟨f, rfl, L, hf, hy⟩ := h
  obtain ⟨dx, t, dd, h1, h2, h3⟩ := hf.ex
  rcases hy with ⟨g, M, rfl, hg, rfl⟩ | ⟨hd, rfl⟩
  · obtain ⟨dy, t', dd', g1, g2, g3⟩ := hg.ex
    exact ⟨f, dx, _, .ref CF, rfl, h1, .ins g1, notFirst_own, L, hf, .inl ⟨g, M, rfl, hg, rfl⟩⟩
  · obtain ⟨d, hd1, hd2⟩ := id hd
    exact ⟨f, dx, _, _, rfl, h1, hd2, notFirst_ty d, L, hf, .inr ⟨hd, rfl⟩⟩
theorem rcB_fc (h : EqC X.prog X.w X.K X.mg X.base CF 3 (SaysF X.K C CF)) : RcB X 3 .Eq id (DFc X.K C CF) := (rcB_own h).imp fun _ _ _ _ d => fc_own d
theorem rcB_fcNe (h : EqC X.prog X.w X.K X.mg X.base CF 3 (SaysF X.K C CF)) : RcB X 4 .NotEq (!·) (DFc X.K C CF) := (rcB_ownNe h).imp fun _ _ _ _ d => fc_own d
end
end Ur
/-! K5: rows of painters: small. -/
namespace Ur
open PySem PySem.Spec PyProof.Rows L2
/-- what small, aimed and lined promise: a list of rows -/
def spRows (R : Int → Int → Int → Prop) : Sp := fun vs H Q _ => ∃ (p l : Addr) (most n : Nat), vs = [.ref p, .int (most : Int)] ∧ Pen H p l n ∧ n + 100000 ≤ 2 ^ 39 ∧ 1 ≤ most ∧ most ≤ 40 ∧
  ∀ (F : Addr) (ts : List Addr) (H' : Hp), H' F = some (.lst (ts.map V.ref)) → 1 ≤ ts.length → ts.length ≤ most → (∀ t ∈ ts, Row H' t R) → H F = none → Pen H' p l (n + 100000) → Keep p H H' → Q (.ref F) H'
/-- small numbers -/
def SmallR (d p s : Int) : Prop := 0 ≤ d ∧ d ≤ 6 ∧ -8 ≤ p ∧ p ≤ 8 ∧ -6 ≤ s ∧ s ≤ 6 ∧ s ≠ 0
end Ur
/-! K6: rows of painters with great numbers: aimed, lined. -/
namespace Ur
open PySem PySem.Spec PyProof.Rows L2
def AimR (d p s : Int) : Prop := 0 ≤ d ∧ d ≤ 2 * 10 ^ 29 ∧ -(3 * 10 ^ 28) ≤ p ∧ p ≤ 3 * 10 ^ 28 ∧ -(10 ^ 17) ≤ s ∧ s ≤ 10 ^ 17 ∧ s ≠ 0
def LineR (d p s : Int) : Prop := 0 ≤ d ∧ d ≤ 10 ^ 29 ∧ -(2 * 10 ^ 29) ≤ p ∧ p ≤ 2 * 10 ^ 29 ∧ -(12 * 10 ^ 16) ≤ s ∧ s ≤ 12 * 10 ^ 16 ∧ s ≠ 0
def HubAt (H : Hp) (t : Addr) : Prop := ∃ D S : Int, H t = some (.tup [.int D, .int S]) ∧ 10 ^ 12 ≤ D ∧ D ≤ 10 ^ 12 + 10 ^ 29 ∧ -(10 ^ 28) ≤ S ∧ S ≤ 10 ^ 28
theorem HubAt.keep {H H' : Hp} {t p : Addr} {kvs : List (Key × V)} (r : HubAt H t) (k : Keep p H H') (hp : H p = some (.dK kvs)) : HubAt H' t := let ⟨D, S, e, z⟩ := r; ⟨D, S, k _ _ e (ne_of e hp (by intro z; cases z)), z⟩
theorem HubAt.updL {H : Hp} {t F : Addr} {xs ys : List V} (r : HubAt H t) (hF : H F = some (.lst xs)) : HubAt (upd H F (.lst ys)) t := let ⟨D, S, e, z⟩ := r; ⟨D, S, by rw [upd_ne (ne_of e hF (by intro z; cases z))]; exact e, z⟩
end Ur
/-! K7: lined, painters. -/
namespace Ur
open PySem PySem.Spec PyProof.Rows L2
/-! ### painters: none, or rows of one of the three kinds -/
theorem small_any {d p s : Int} (h : SmallR d p s) : AnyR d p s := by unfold SmallR at h; unfold AnyR; omega
theorem aim_any {d p s : Int} (h : AimR d p s) : AnyR d p s := by unfold AimR at h; unfold AnyR; omega
theorem line_any {d p s : Int} (h : LineR d p s) : AnyR d p s := by unfold LineR at h; unfold AnyR; omega
theorem Row.imp {H : Hp} {t : Addr} {R S : Int → Int → Int → Prop} (r : Row H t R) (h : ∀ d p s, R d p s → S d p s) : Row H t S := let ⟨nm, d, p, s, e, z, y⟩ := r; ⟨nm, d, p, s, e, z, h _ _ _ y⟩
end Ur
/-! N3: the names are different ones. -/
namespace Ur
open PySem PySem.Spec PyProof.Rows L2
def baseN (stem : Str) (c : Nat) : Str := if stem.length % 2 = 0 then stem ++ ⟨#[c]⟩ else ⟨#[c]⟩ ++ stem
/-- the j-th name -/
def NmAt (stem : Str) (fr sp : Int) (j : Nat) (g : Str) : Prop := ∃ (c : Nat) (t : Str), lett.cps.toList[((fr + sp * (j : Int)) % 26).toNat]? = some c ∧ t.length = (if j < 26 then 0 else 1) ∧ g = baseN stem c ++ t
theorem at_emod {a : Int} {c : Nat} (h : atI lett.cps.toList (a % 26) = some c) : lett.cps.toList[(a % 26).toNat]? = some c := by
  obtain ⟨j, hj⟩ : ∃ j : Nat, a % 26 = (j : Int) := ⟨(a % 26).toNat, by have := Int.emod_nonneg a (show (26 : Int) ≠ 0 by decide); omega⟩
  have hl : j < 26 := by have := Int.emod_lt_of_pos a (show (0 : Int) < 26 by decide); omega
  rw [hj] at h ⊢
  rw [atI_nat (List.getElem?_eq_getElem (show j < lett.cps.toList.length by rw [lett_tl]; exact hl))] at h
  rw [Int.toNat_natCast, List.getElem?_eq_getElem (show j < lett.cps.toList.length by rw [lett_tl]; exact hl)]
  exact h
theorem nmAt_snoc {stem : Str} {fr sp : Int} {ss : List Str} {i : Nat} {g : Str} (hl : ss.length = i) (h : ∀ j g, ss[j]? = some g → NmAt stem fr sp j g) (hg : NmAt stem fr sp i g) : ∀ j y, (ss ++ [g])[j]? = some y → NmAt stem fr sp j y := by
  intro j y e
  by_cases hj : j < ss.length
  · rw [List.getElem?_append_left hj] at e
    exact h j y e
  · have hj2 : j < (ss ++ [g]).length := (List.getElem?_eq_some_iff.mp e).1
    rw [List.length_append] at hj2
    have : j = i := by have h1 : ([g] : List Str).length = 1 := rfl; omega
    subst this
    rw [List.getElem?_append_right (by omega), hl, Nat.sub_self] at e
    obtain rfl := Option.some.inj e
    exact hg
theorem base_inj {stem : Str} {c d : Nat} {t u : Str} (hl : t.length = u.length) (e : baseN stem c ++ t = baseN stem d ++ u) : c = d := by
  have e2 : (baseN stem c).cps.toList ++ t.cps.toList = (baseN stem d).cps.toList ++ u.cps.toList := by
    have z := congrArg (fun s : Str => s.cps.toList) e
    simpa [Str.cps_append, Array.toList_append] using z
  have hl2 : t.cps.toList.length = u.cps.toList.length := by rw [Array.length_toList, Array.length_toList]; exact hl
  have e3 := (List.append_inj' e2 hl2).1
  unfold baseN at e3
  by_cases ev : stem.length % 2 = 0
  · rw [if_pos ev, if_pos ev, Str.cps_append, Str.cps_append, Array.toList_append, Array.toList_append] at e3
    simpa using e3
  · rw [if_neg ev, if_neg ev, Str.cps_append, Str.cps_append, Array.toList_append, Array.toList_append] at e3
    simpa using e3
theorem lett_inj : ∀ i < 26, ∀ j < 26, lett.cps.toList[i]? = lett.cps.toList[j]? → i = j := by decide +kernel
theorem step_inj {sp d : Int} (h : sp ∈ ([1, 3, 5, 7, 9, 11, 15, 17, 19, 21, 23, 25] : List Int)) (e : (sp * d) % 26 = 0) : d % 26 = 0 := by
  simp only [List.mem_cons, List.not_mem_nil, or_false] at h
  rcases h with rfl | rfl | rfl | rfl | rfl | rfl | rfl | rfl | rfl | rfl | rfl | rfl <;> omega
theorem nm_ne {stem : Str} {fr sp : Int} (h : sp ∈ ([1, 3, 5, 7, 9, 11, 15, 17, 19, 21, 23, 25] : List Int)) {i j : Nat} {g : Str} (hij : i < j) (hj : j < 52) (a : NmAt stem fr sp i g) (b : NmAt stem fr sp j g) : False := by
  obtain ⟨c, t, hc, ht, e1⟩ := a
  obtain ⟨d, u, hd, hu, e2⟩ := b
  have len : ∀ (c : Nat) (t : Str), (baseN stem c ++ t).length = stem.length + 1 + t.length := fun c t => by
    rw [Str.length_append]
    congr 1
    unfold baseN
    split
    · rw [Str.length_append]; rfl
    · rw [Str.length_append]
      show 1 + stem.length = _
      omega
  have hl : t.length = u.length := by
    have z := congrArg Str.length (e1.symm.trans e2)
    rw [len, len] at z
    omega
  have hcd := base_inj hl (e1.symm.trans e2)
  subst hcd
  have b1 := Int.emod_nonneg (fr + sp * (i : Int)) (show (26 : Int) ≠ 0 by decide)
  have b2 := Int.emod_lt_of_pos (fr + sp * (i : Int)) (show (0 : Int) < 26 by decide)
  have b3 := Int.emod_nonneg (fr + sp * (j : Int)) (show (26 : Int) ≠ 0 by decide)
  have b4 := Int.emod_lt_of_pos (fr + sp * (j : Int)) (show (0 : Int) < 26 by decide)
  have ei := lett_inj _ (by omega) _ (by omega) (hc.trans hd.symm)
  have em : (fr + sp * (i : Int)) % 26 = (fr + sp * (j : Int)) % 26 := by omega
  have ez : (sp * ((j : Int) - (i : Int))) % 26 = 0 := by
    rw [Int.mul_sub]
    generalize sp * (j : Int) = x at em ⊢
    generalize sp * (i : Int) = y at em ⊢
    omega
  have zz := step_inj h ez
  rw [hl, hu] at ht
  split at ht <;> split at ht <;> omega
theorem nm_nodup {stem : Str} {fr sp : Int} (h : sp ∈ ([1, 3, 5, 7, 9, 11, 15, 17, 19, 21, 23, 25] : List Int)) {ss : List Str} (hl : ss.length ≤ 52) (hs : ∀ j g, ss[j]? = some g → NmAt stem fr sp j g) : ss.Nodup := by
  rw [List.nodup_iff_pairwise_ne, List.pairwise_iff_getElem]
  intro i j hi hj hij e
  exact nm_ne h hij (by omega) (hs i _ (List.getElem?_eq_getElem hi)) (by rw [e]; exact hs j _ (List.getElem?_eq_getElem hj))
def spNamesN : Sp := fun vs H Q _ => ∃ (p l : Addr) (m n : Nat), vs = [.ref p, .int (m : Int)] ∧ Pen H p l n ∧ n + 12 * (m + 9) ≤ 2 ^ 39 ∧ m ≤ 52 ∧
  ∀ (F : Addr) (ss : List Str) (H' : Hp), H' F = some (.lst (ss.map V.str)) → ss.length = m → (∀ z ∈ ss, NameOk z) → ss.Nodup → H F = none → Pen H' p l (n + 12 * (m + 9)) → Keep p H H' → Q (.ref F) H'
section
variable {P : Program} {w : World} {K : PySem.W.Frag} {mg : Str → Option Value} {base : Heap}
set_option maxHeartbeats 16000000 in
theorem ok_namesN (D : Dfn K mg "_law_names" s__law_names P__law_names) (B : Blt mg) (CD : Cal P w K mg base 12 "_law_draw" P__law_draw spDr) (CP : Cal P w K mg base 13 "_law_pick" P__law_pick (spPickL K)) (CS : Cal P w K mg base 13 "_law_pick" P__law_pick spPickS) :
    Cal P w K mg base 14 "_law_names" P__law_names spNamesN := by
  refine D.cal sc__law_names (fun vs H Q E h => ?_) fun f cdv A outer s H vs Q E hr h => ?_
  · obtain ⟨p, l, m, n, rfl, _⟩ := h
    rfl
  obtain ⟨p, l, m, n, rfl, Pn, hn, hm, q⟩ := h
  obtain ⟨kvs, hp⟩ := Pn.dk
  have small : ∀ x : Nat, x ≤ 1000 → x ≤ sizeLine := fun x h => Nat.le_trans h (by decide)
  refine ⟨_, (pss_cons (ps_set (i := 2) sc__law_names.nd rfl (Or.inr rfl) pe_str) (C8.pss_cut (ps_set (i := 3) sc__law_names.nd rfl (Or.inl rfl) (pe_join pe_str (pe_lc (own := [("_law_k", 4)]) (g := gName 4) (tt := tYes) rfl sc__law_names.nd (pi_range1 rfl B.range_ (pa_cons (pe_cal CD (hr.mono (by decide)) (pa_cons (pv 0) (pa_cons pe_int pa_nil))) pa_nil)) (blkOk_by (N := N_sc__law_names) (sc := defScope s__law_names) (by decide +kernel)) (fun _ _ _ _ _ => pg_name (i := 4) sc__law_names.nd rfl (Or.inl rfl)) (fun _ _ _ _ _ => pts_nil) (fun _ _ _ _ _ => (pe_cal CS (hr.mono (by decide)) (pa_cons (pv 0) (pa_cons (pv 2) pa_nil))))))) (pss_cons (ps_par (i := 5) (j := 6) rfl sc__law_names.nd rfl rfl (by decide) rfl rfl (pa_cons (pe_cal CD (hr.mono (by decide)) (pa_cons (pv 0) (pa_cons pe_int pa_nil))) (pa_cons (pe_lst pa_nil) pa_nil)) (by rfl)) (pss_cons (ps_set (i := 7) sc__law_names.nd rfl (Or.inl rfl) (pe_cal CP (hr.mono (by decide)) (pa_cons (pv 0) (pa_cons (pe_lst (pa_cons pe_int (pa_cons pe_int (pa_cons pe_int (pa_cons pe_int (pa_cons pe_int (pa_cons pe_int (pa_cons pe_int (pa_cons pe_int (pa_cons pe_int (pa_cons pe_int (pa_cons pe_int (pa_cons pe_int pa_nil))))))))))))) pa_nil)))) (pss_cons (ps_for PassesOwn.never rfl (pi_range1 rfl B.range_ (pa_cons (pv 1) pa_nil)) (pg_name (i := 4) sc__law_names.nd rfl (Or.inl rfl)) (pss_cons (ps_set (i := 8) sc__law_names.nd rfl (Or.inl rfl) (pe_ix ix_str (pv 2) (pe_op op_mod (pe_callTy call_int1 rfl B.int_ (by decide +kernel) (pa_cons (pe_op op_add (pv 5) (pe_op op_mul (pv 7) (pv 4))) pa_nil)) pe_int) (fun _ _ => rfl))) (C8.pss_cut (ps_set (i := 9) sc__law_names.nd rfl (Or.inl rfl) (pe_ifExp (pt_cmpR op_lt (pv 4) pe_int (nomark _)) pe_str (pe_cal CS (hr.mono (by decide)) (pa_cons (pv 0) (pa_cons (pv 2) pa_nil))))) (pss_one (ps_expr (pe_bm PySem.F.plainAttrs_list PySem.F.slot_list_append PySem.F.type_list_append mt_append (pv 6) (pa_cons (pe_op op_add_str (pe_ix ix_list (pe_lst (pa_cons (pe_op op_add_str (pv 3) (pv 8)) (pa_cons (pe_op op_add_str (pv 8) (pv 3)) pa_nil))) (pe_op op_mod (pe_callB call_len_str rfl B.len_ PySem.boot_len (pa_cons (pv 3) pa_nil)) pe_int) (fun _ _ => rfl)) (pv 9)) pa_nil))))))) (pss_one (ps_ret (pv 6)))))))), ?_⟩
  refine ⟨fun σ' H' => ∃ stem : Str, σ' = [some (.ref p), some (.int (m : Int)), some (.str lett), some (.str stem), none, none, none, none, none, none] ∧ stem.length ≤ 6 ∧ LetOk stem ∧ Pen H' p l (n + 84) ∧ Keep p H H', ?_, ?_⟩
  · refine ⟨⟨_, rfl⟩, _, rfl, p, l, 7, n, rfl, Pn, by omega, by omega, by omega, fun v0 H1 a0 b0 P1 k1 => ?_⟩
    refine ⟨v0, rfl, by omega, by omega, fun D hD => lc_range (lo := 0) (n := v0.toNat) (fun i H' => ∃ ss : List Str, H' D = some (.lst (ss.map V.str)) ∧ ss.length = i ∧ (∀ z ∈ ss, z.length = 1 ∧ LetOk z) ∧ Pen H' p l (n + 12 + 12 * i) ∧ Keep p H H')
      ⟨[], upd_same, rfl, fun z hz => absurd hz List.not_mem_nil, (P1.new hD).le (by omega), k1.new hD⟩ ?_ ?_⟩
    · rintro i H' hi ⟨ss, hs, hl, ho, Pi, ki⟩
      refine ⟨rfl, ?_⟩
      refine ⟨_, rfl, _, rfl, p, l, lett, _, rfl, Pi, by omega, by rw [lett_len]; decide, by rw [lett_len]; decide, fun c H3 hc P3 k3 => ?_⟩
      have nD := P1.ne hD
      have nDl := P1.nl hD
      have hD0 : H D = none := k1.none_of hD nD
      refine ⟨ss.map V.str, k3 _ _ hs nD, by rw [List.length_map]; exact small1000 (by omega), ss ++ [⟨#[c]⟩], by rw [upd_same, List.map_append]; rfl, by rw [List.length_append, hl]; rfl, mem_snoc ho ⟨rfl, LetOk.one (lett_ok c hc)⟩, (P3.le (by omega)).upd nD nDl, (ki.trans k3).at_new hD0⟩
    · rintro H' ⟨ss, hs, hl, ho, Pi, ki⟩
      refine ⟨_, D, ss, rfl, rfl, .inl (SqL.of hs), ?_, ?_⟩
      · rw [sum_ones ss ho]
        show ss.length + ss.length * 0 ≤ _
        omega
      · obtain ⟨j1, j2⟩ := join_ok ss ho
        exact ⟨_, rfl, by show (Txt.join Str.empty ss).length ≤ 6; omega, j2, Pi.le (by omega), ki⟩
  rintro σ' H1 ⟨stem, rfl, st1, st2, P1, k1⟩
  refine ⟨_, rfl, p, l, 26, _, rfl, P1, by omega, by omega, by omega, fun fr H2 f0 f1 P2 k2 => ?_⟩
  refine ⟨(by show 0 ≤ sizeLine; decide), fun F hF => ?_⟩
  have nF := P2.ne hF
  have nFl := P2.nl hF
  have hF0 : H F = none := (k1.trans k2).none_of hF nF
  refine ⟨_, _, rfl, ?_⟩
  refine ⟨_, rfl, (by show 12 ≤ sizeLine; decide), fun t ht => ?_⟩
  refine ⟨p, l, t, _, _, rfl, (P2.new hF).new ht, by omega, SqL.of upd_same, by show 1 ≤ 12; decide, by show 12 ≤ 1000000; decide, fun st H4 hst P4 k4 => ?_⟩
  obtain ⟨sp, hsp, rfl⟩ : ∃ i : Int, i ∈ ([1, 3, 5, 7, 9, 11, 15, 17, 19, 21, 23, 25] : List Int) ∧ V.int i = st := List.mem_map.mp (show st ∈ ([1, 3, 5, 7, 9, 11, 15, 17, 19, 21, 23, 25] : List Int).map V.int from hst)
  have sp1 : 1 ≤ sp ∧ sp ≤ 25 := (by decide : ∀ i ∈ ([1, 3, 5, 7, 9, 11, 15, 17, 19, 21, 23, 25] : List Int), 1 ≤ i ∧ i ≤ 25) sp hsp
  have hF4 : H4 F = some (.lst []) := k4 _ _ (same_new ht (.lst (([1, 3, 5, 7, 9, 11, 15, 17, 19, 21, 23, 25] : List Int).map V.int)) _ _ upd_same) nF
  have k5 : Keep p H H4 := (((k1.trans k2).new hF).new ht).trans k4
  refine ⟨_, rfl, (m : Int), rfl, by omega, by omega, for_range (lo := 0) (n := (m : Int).toNat) (fun i σ' H' => ∃ (ss : List Str) (k own tail : Option V), σ' = [some (.ref p), some (.int (m : Int)), some (.str lett), some (.str stem), k, some (.int fr), some (.ref F), some (.int sp), own, tail] ∧
      H' F = some (.lst (ss.map V.str)) ∧ ss.length = i ∧ i ≤ m ∧ (∀ z ∈ ss, NameOk z) ∧ (∀ j g, ss[j]? = some g → NmAt stem fr sp j g) ∧ Pen H' p l (n + 108 + 12 * i) ∧ Keep p H H') ⟨[], none, none, none, rfl, hF4, rfl, Nat.zero_le _, fun z hz => absurd hz List.not_mem_nil, fun j g e => by simp at e, P4.le (by omega), k5⟩ ?_ ?_⟩
  · rintro i σ' H' hi ⟨ss, k, own, tail, rfl, hFi, hl, him, ho, hnm, Pi, ki⟩
    have him : i < m := by omega
    obtain ⟨c, hc, hcm⟩ := at_some (xs := lett.cps.toList) (em0 (fr + sp * (0 + (i : Int))) (m := 26) (by decide)) (by rw [lett_tl]; exact em1 _ (by decide))
    refine ⟨_, rfl, _, rfl, _, rfl, _, rfl, _, _, rfl, rfl, .inl (by omega), _, _, rfl, rfl, .inl ⟨_, rfl, _, _, rfl, rfl, by omega, lett, _, c, rfl, rfl, by rw [lett_len]; decide, hc, ?_⟩⟩
    have hcl := lett_ok c hcm
    refine ⟨fun σ' H'' => ∃ t : Str, σ' = [some (.ref p), some (.int (m : Int)), some (.str lett), some (.str stem), some (.int (0 + (i : Int))), some (.int fr), some (.ref F), some (.int sp), some (.str ⟨#[c]⟩), some (.str t)] ∧ t.length = (if i < 26 then 0 else 1) ∧ LetOk t ∧ Pen H'' p l (n + 108 + 12 * i + 12) ∧ Keep p H' H'', ?_, ?_⟩
    · refine ⟨_, rfl, _, _, rfl, rfl, _, rfl, ?_⟩
      refine ite2 (fun hc1 => ?_) (fun hc1 => ?_)
      · have hc1 := of_decide_eq_true hc1
        exact ⟨Str.empty, rfl, by rw [if_pos (by omega)]; rfl, LetOk.empty, Pi.le (by omega), Keep.refl⟩
      · refine ⟨_, rfl, _, rfl, p, l, lett, _, rfl, Pi, by omega, by rw [lett_len]; decide, by rw [lett_len]; decide, fun c2 H3 hc2 P3 k3 => ?_⟩
        have hc1 : ¬ (0 + (i : Int) < 26) := fun z => hc1 (decide_eq_true z)
        exact ⟨⟨#[c2]⟩, rfl, by rw [if_neg (by omega)]; rfl, LetOk.one (lett_ok c2 hc2), P3, k3⟩
    rintro σ' H3 ⟨t, rfl, t0, t2, P3, k3⟩
    have t1 : t.length ≤ 1 := by rw [t0]; split <;> omega
    have hF3 := k3 _ _ hFi nF
    have cl : (⟨#[c]⟩ : Str).length = 1 := rfl
    refine ⟨_, rfl, .inl ⟨rfl, _, SqL.of hF3⟩, ?_⟩
    refine ⟨_, rfl, _, rfl, _, _, rfl, rfl, small _ (by rw [cl]; omega), _, rfl, _, rfl, _, _, rfl, rfl, small _ (by rw [cl]; omega), (by show 2 ≤ sizeLine; decide), fun u hu => ?_⟩
    obtain ⟨v, hv, hvm⟩ := at_some (xs := [V.str (stem ++ ⟨#[c]⟩), V.str (⟨#[c]⟩ ++ stem)]) (em0 (stem.length : Int) (m := 2) (by decide)) (em1 (stem.length : Int) (m := 2) (by decide))
    obtain ⟨g, rfl, g1, g2, g3⟩ : ∃ g : Str, v = .str g ∧ g.length = stem.length + 1 ∧ LetOk g ∧ g = baseN stem c := by
      by_cases ev : stem.length % 2 = 0
      · have e0 : (stem.length : Int) % 2 = ((0 : Nat) : Int) := by omega
        rw [e0, atI_nat (show ([V.str (stem ++ ⟨#[c]⟩), V.str (⟨#[c]⟩ ++ stem)] : List V)[0]? = some (V.str (stem ++ ⟨#[c]⟩)) from rfl)] at hv
        obtain rfl := Option.some.inj hv
        exact ⟨_, rfl, by rw [Str.length_append, cl], st2.app (LetOk.one hcl), by unfold baseN; rw [if_pos ev]⟩
      · have e0 : (stem.length : Int) % 2 = ((1 : Nat) : Int) := by omega
        rw [e0, atI_nat (show ([V.str (stem ++ ⟨#[c]⟩), V.str (⟨#[c]⟩ ++ stem)] : List V)[1]? = some (V.str (⟨#[c]⟩ ++ stem)) from rfl)] at hv
        obtain rfl := Option.some.inj hv
        exact ⟨_, rfl, by rw [Str.length_append, cl]; omega, (LetOk.one hcl).app st2, by unfold baseN; rw [if_neg ev]⟩
    refine ⟨_, rfl, _, rfl, small _ (by omega), _, _, rfl, rfl, by omega, u, _, _, _, rfl, rfl, SqL.of upd_same, hv, _, rfl, _, _, rfl, rfl, small _ (by omega), ?_⟩
    have hF5 := same_new hu (.lst [V.str (stem ++ ⟨#[c]⟩), V.str (⟨#[c]⟩ ++ stem)]) _ _ hF3
    refine ⟨F, _, _, rfl, rfl, hF5, by rw [List.length_map]; exact small1000 (by omega), ?_⟩
    refine ⟨ss ++ [g ++ t], _, _, _, rfl, by rw [upd_same, List.map_append]; rfl, by rw [List.length_append, hl]; rfl, by omega, mem_snoc ho ⟨by rw [Str.length_append]; omega, by rw [Str.length_append]; omega, g2.app t2⟩, nmAt_snoc hl hnm ⟨c, t, by rw [Int.zero_add] at hc; exact at_emod hc, t0, by rw [g3]⟩, ((P3.new hu).le (by omega)).upd nF nFl, ((ki.trans k3).new hu).at_new hF0⟩
  · rintro σ' H' ⟨ss, k, own, tail, rfl, hFi, hl, him, ho, hnm, Pi, ki⟩
    refine ⟨_, rfl, ?_⟩
    exact q F ss H' hFi (by omega) ho (nm_nodup hsp (by omega) hnm) hF0 (Pi.le (by omega)) ki
end
end Ur
/-! N5: rows with different names: small. -/
namespace Ur
open PySem PySem.Spec PyProof.Rows L2
/-- a row with this name -/
def RowN (H : Hp) (t : Addr) (z : Str) (R : Int → Int → Int → Prop) : Prop := ∃ d p s, H t = some (.tup [.str z, .int d, .int p, .int s]) ∧ NameOk z ∧ R d p s
/-- rows with these names, from the first on -/
def RowsN (H : Hp) (ts : List Addr) (zs : List Str) (R : Int → Int → Int → Prop) : Prop := ∀ (j : Nat) (t : Addr) (z : Str), ts[j]? = some t → zs[j]? = some z → RowN H t z R
section
variable {H H' : Hp} {t p F y : Addr} {z : Str} {R S : Int → Int → Int → Prop} {ts us : List Addr} {zs ss : List Str} {kvs : List (Key × V)} {xs ys : List V} {i : Nat}
theorem RowN.row (r : RowN H t z R) : Row H t R := let ⟨d, p, s, e, ok, q⟩ := r; ⟨z, d, p, s, e, ok, q⟩
theorem RowN.same (r : RowN H t z R) (h : Same H H') : RowN H' t z R := let ⟨d, p, s, e, q⟩ := r; ⟨d, p, s, h _ _ e, q⟩
theorem RowN.keep (r : RowN H t z R) (k : Keep p H H') (hp : H p = some (.dK kvs)) : RowN H' t z R := let ⟨d, q, s, e, x⟩ := r; ⟨d, q, s, k _ _ e (ne_of e hp (by intro z; cases z)), x⟩
theorem RowN.updL (r : RowN H t z R) (hF : H F = some (.lst xs)) : RowN (upd H F (.lst ys)) t z R := let ⟨d, q, s, e, x⟩ := r; ⟨d, q, s, by rw [upd_ne (ne_of e hF (by intro z; cases z))]; exact e, x⟩
theorem RowN.imp (r : RowN H t z R) (h : ∀ d p s, R d p s → S d p s) : RowN H t z S := let ⟨d, p, s, e, ok, q⟩ := r; ⟨d, p, s, e, ok, h _ _ _ q⟩
theorem RowsN.nil : RowsN H [] zs R := fun j t z e => by simp at e
theorem RowsN.same (h : RowsN H ts zs R) (s : Same H H') : RowsN H' ts zs R := fun j t z e1 e2 => (h j t z e1 e2).same s
theorem RowsN.keep (h : RowsN H ts zs R) (k : Keep p H H') (hp : H p = some (.dK kvs)) : RowsN H' ts zs R := fun j t z e1 e2 => (h j t z e1 e2).keep k hp
theorem RowsN.updL (h : RowsN H ts zs R) (hF : H F = some (.lst xs)) : RowsN (upd H F (.lst ys)) ts zs R := fun j t z e1 e2 => (h j t z e1 e2).updL hF
theorem RowsN.imp (h : RowsN H ts zs R) (f : ∀ d p s, R d p s → S d p s) : RowsN H ts zs S := fun j t z e1 e2 => (h j t z e1 e2).imp f
theorem RowsN.snoc (hl : ts.length = i) (hz : zs[i]? = some z) (h : RowsN H ts zs R) (r : RowN H t z R) : RowsN H (ts ++ [t]) zs R := by
  intro j u v e1 e2
  by_cases hj : j < ts.length
  · rw [List.getElem?_append_left hj] at e1
    exact h j u v e1 e2
  · have hj2 : j < (ts ++ [t]).length := (List.getElem?_eq_some_iff.mp e1).1
    rw [List.length_append] at hj2
    have h1 : ([t] : List Addr).length = 1 := rfl
    have : j = i := by omega
    subst this
    rw [List.getElem?_append_right (by omega), hl, Nat.sub_self] at e1
    obtain rfl := Option.some.inj e1
    rw [hz] at e2
    obtain rfl := Option.some.inj e2
    exact r
theorem RowsN.set (hl : us.length = i + 1) (hz : zs[i]? = some z) (h : RowsN H us zs R) (r : RowN H y z R) : RowsN H (us.set i y) zs R := by
  intro j u v e1 e2
  by_cases e : i = j
  · subst e
    rw [List.getElem?_set_self (by omega)] at e1
    obtain rfl := Option.some.inj e1
    rw [hz] at e2
    obtain rfl := Option.some.inj e2
    exact r
  · rw [List.getElem?_set_ne e] at e1
    exact h j u v e1 e2
theorem RowsN.row (h : RowsN H ts zs R) (hl : ts.length ≤ zs.length) : ∀ t ∈ ts, Row H t R := fun t ht => by
  obtain ⟨j, hj, rfl⟩ := List.getElem_of_mem ht
  exact (h j _ _ (List.getElem?_eq_getElem hj) (List.getElem?_eq_getElem (by omega))).row
theorem str_at {x : V} (h : (ss.map V.str)[i]? = some x) : ∃ z, ss[i]? = some z ∧ V.str z = x := by
  rw [List.getElem?_map] at h
  cases e : ss[i]? with
  | none => rw [e] at h; cases h
  | some z => rw [e] at h; exact ⟨z, rfl, Option.some.inj h⟩
end
/-- what small, aimed and lined promise: rows with different names -/
def spRowsN (R : Int → Int → Int → Prop) : Sp := fun vs H Q _ => ∃ (p l : Addr) (most n : Nat), vs = [.ref p, .int (most : Int)] ∧ Pen H p l n ∧ n + 100000 ≤ 2 ^ 39 ∧ 1 ≤ most ∧ most ≤ 40 ∧
  ∀ (F : Addr) (ts : List Addr) (ss : List Str) (H' : Hp), H' F = some (.lst (ts.map V.ref)) → ts.length = ss.length → 1 ≤ ts.length → ts.length ≤ most → RowsN H' ts ss R → (∀ z ∈ ss, NameOk z) → ss.Nodup → H F = none → Pen H' p l (n + 100000) → Keep p H H' → Q (.ref F) H'
end Ur
/-! N6: rows with different names: aimed. -/
namespace Ur
open PySem PySem.Spec PyProof.Rows L2
end Ur
/-! N7: rows with different names: lined. -/
namespace Ur
open PySem PySem.Spec PyProof.Rows L2
end Ur
/-! FD: the laws' own fences: _law_painter, _law_fence, _law_some, _law_odd. -/
namespace Ur
open PySem PySem.Spec PyProof.Rows L2
/-- one row's values -/
abbrev Quad := Str × Int × Int × Int
def quadV (q : Quad) : List V := [.str q.1, .int q.2.1, .int q.2.2.1, .int q.2.2.2]
def QuadOk (q : Quad) : Prop := PartOk q.1 q.2.1 q.2.2.1 q.2.2.2
/-- rows of painters that can stand in one fence -/
structure Team (H : Hp) (ts : List Addr) (qs : List Quad) : Prop where
  len : ts.length = qs.length
  at_ : ∀ (j : Nat) (t : Addr) (q : Quad), ts[j]? = some t → qs[j]? = some q → H t = some (.tup (quadV q))
  ok : ∀ q ∈ qs, QuadOk q
  nd : (qs.map (·.1)).Nodup
  few : qs.length ≤ 40
section
variable {H H' : Hp} {ts : List Addr} {qs : List Quad} {p F : Addr} {kvs : List (Key × V)} {xs ys : List V}
theorem Team.same (h : Team H ts qs) (s : Same H H') : Team H' ts qs := ⟨h.len, fun j t q a b => s _ _ (h.at_ j t q a b), h.ok, h.nd, h.few⟩
theorem Team.keep (h : Team H ts qs) (k : Keep p H H') (hp : H p = some (.dK kvs)) : Team H' ts qs := ⟨h.len, fun j t q a b => k _ _ (h.at_ j t q a b) (ne_of (h.at_ j t q a b) hp (by intro z; cases z)), h.ok, h.nd, h.few⟩
theorem Team.updL (h : Team H ts qs) (hF : H F = some (.lst xs)) : Team (upd H F (.lst ys)) ts qs := ⟨h.len, fun j t q a b => by rw [upd_ne (ne_of (h.at_ j t q a b) hF (by intro z; cases z))]; exact h.at_ j t q a b, h.ok, h.nd, h.few⟩
theorem Team.nil : Team H [] [] := ⟨rfl, fun j t q e => by simp at e, (fun q h => nomatch h), List.nodup_nil, Nat.zero_le _⟩
theorem team_of {R : Int → Int → Int → Prop} {ss : List Str} (hR : ∀ d p s, R d p s → AnyR d p s) (hl : ts.length = ss.length) (h : RowsN H ts ss R) : ∃ qs : List Quad, qs.map (·.1) = ss ∧ (∀ q ∈ qs, (NameOk q.1 → QuadOk q) ∧ R q.2.1 q.2.2.1 q.2.2.2) ∧ ∀ (j : Nat) (t : Addr) (q : Quad), ts[j]? = some t → qs[j]? = some q → H t = some (.tup (quadV q)) := by
  induction ss generalizing ts with
  | nil => exact ⟨[], rfl, (fun q h => nomatch h), fun j t q _ e => by simp at e⟩
  | cons z r ih =>
    cases ts with
    | nil => cases hl
    | cons t us =>
      obtain ⟨qs, e1, e2, e3⟩ := ih (Nat.succ.inj hl) fun j t z a b => h (j + 1) t z (by simpa using a) (by simpa using b)
      obtain ⟨d, p, s, e, ok, q⟩ := h 0 t z rfl rfl
      refine ⟨(z, d, p, s) :: qs, by rw [List.map_cons, e1], fun x hx => ?_, fun j u x a b => ?_⟩
      · rcases List.mem_cons.mp hx with rfl | hx
        · exact ⟨fun ok => (hR _ _ _ q).ok ok, q⟩
        · exact e2 x hx
      · cases j with
        | zero =>
          obtain rfl := Option.some.inj a
          obtain rfl := Option.some.inj b
          exact e
        | succ j => exact e3 j u x (by simpa using a) (by simpa using b)
theorem team_mk {R : Int → Int → Int → Prop} {ss : List Str} (hR : ∀ d p s, R d p s → AnyR d p s) (hl : ts.length = ss.length) (h : RowsN H ts ss R) (ok : ∀ z ∈ ss, NameOk z) (nd : ss.Nodup) (few : ts.length ≤ 40) : ∃ qs : List Quad, Team H ts qs ∧ ∀ q ∈ qs, R q.2.1 q.2.2.1 q.2.2.2 := by
  obtain ⟨qs, e1, e2, e3⟩ := team_of hR hl h
  have el : qs.length = ss.length := by rw [← e1, List.length_map]
  exact ⟨qs, ⟨by omega, e3, fun q hq => (e2 q hq).1 (ok _ (by rw [← e1]; exact List.mem_map_of_mem hq)), by rw [e1]; exact nd, by omega⟩, fun q hq => (e2 q hq).2⟩
theorem Team.get (h : Team H ts qs) {j : Nat} {v : V} (e : (ts.map V.ref)[j]? = some v) : ∃ t q, v = .ref t ∧ ts[j]? = some t ∧ qs[j]? = some q ∧ H t = some (.tup (quadV q)) ∧ QuadOk q := by
  rw [List.getElem?_map] at e
  cases e1 : ts[j]? with
  | none => rw [e1] at e; cases e
  | some t =>
    rw [e1] at e
    have hj : j < qs.length := by rw [← h.len]; exact (List.getElem?_eq_some_iff.mp e1).1
    exact ⟨t, qs[j], (Option.some.inj e).symm, rfl, List.getElem?_eq_getElem hj, h.at_ j t _ e1 (List.getElem?_eq_getElem hj), h.ok _ (List.getElem_mem hj)⟩
end
section
variable {P : Program} {w : World} {K : PySem.W.Frag} {mg : Str → Option Value} {base : Heap} {C CF : Addr}
theorem partsOf_names (L : List Pt) : (partsOf L).map (·.1) = L.map Pt.nm := by unfold partsOf; rw [List.map_map]; rfl
theorem crew_snoc {C : Addr} {H : Hp} {L : List Pt} {x : Pt} {qs : List Quad} {i : Nat} {q : Quad} (cr : Crew C H L) (e : partsOf L = qs.take i) (hq : qs[i]? = some q) (hx : PnAt C H x.a x.nm x.d x.p x.s) (ex : x.parts = q) (ok : ∀ q ∈ qs, QuadOk q) (nd : (qs.map (·.1)).Nodup) (few : qs.length ≤ 40) :
    Crew C H (L ++ [x]) ∧ partsOf (L ++ [x]) = qs.take (i + 1) := by
  have hp : partsOf (L ++ [x]) = qs.take (i + 1) := by
    rw [take_snoc hq, ← e, ← ex]
    unfold partsOf
    rw [List.map_append]
    rfl
  refine ⟨⟨fun y hy => ?_, ?_, ?_⟩, hp⟩
  · rcases List.mem_append.mp hy with hy | hy
    · exact cr.at_ y hy
    · obtain rfl := List.mem_singleton.mp hy
      have o := ok q (List.mem_of_getElem? hq)
      rw [← ex] at o
      exact ⟨hx, o⟩
  · rw [← partsOf_names, hp, List.map_take]
    exact nd.sublist (List.take_sublist _ _)
  · have z := congrArg List.length hp
    unfold partsOf at z
    rw [List.length_map, List.length_take] at z
    omega
end
/-- days and posts well within the bounds -/
def MidR (d p s : Int) : Prop := AnyR d p s ∧ d ≤ 3 * 10 ^ 29 ∧ -(3 * 10 ^ 29) ≤ p ∧ p ≤ 3 * 10 ^ 29
theorem small_mid {d p s : Int} (h : SmallR d p s) : MidR d p s := by unfold SmallR at h; unfold MidR AnyR; omega
theorem aim_mid {d p s : Int} (h : AimR d p s) : MidR d p s := by unfold AimR at h; unfold MidR AnyR; omega
theorem line_mid {d p s : Int} (h : LineR d p s) : MidR d p s := by unfold LineR at h; unfold MidR AnyR; omega
end Ur
/-! UrH: histories as numbers: who stops where; there is at most one. SP i n j m: the post number n of i is the post number m of j. -/
namespace Ur
open PySem PySem.Spec PyProof.Rows L2
abbrev SPt := Nat → Int → Nat → Int → Prop
/-- i paints its post number n -/
def Paints (cnt : Nat → Option Int) (i : Nat) (n : Int) : Prop := ∀ c, cnt i = some c → n < c
/-- i comes to its post number n behind j, which paints cnt posts -/
def PBlk (d : Nat → Int) (SP : SPt) (i j : Nat) (cnt : Option Int) (n : Int) : Prop := ∃ m, 0 ≤ m ∧ SP i n j m ∧ (∀ c, cnt = some c → m < c) ∧ (d j + m < d i + n ∨ d j + m = d i + n ∧ j < i)
/-- i comes to its post number n behind somebody -/
def HBlk (N : Nat) (d : Nat → Int) (SP : SPt) (cnt : Nat → Option Int) (i : Nat) (n : Int) : Prop := ∃ j, j < N ∧ PBlk d SP i j (cnt j) n
/-- the counts are those of a history -/
def IsHist (N : Nat) (d : Nat → Int) (SP : SPt) (cnt : Nat → Option Int) : Prop := ∀ i, i < N → Least (HBlk N d SP cnt i) (cnt i)
/-- whoever stops, stops where its blocker painted -/
def Blkr (N : Nat) (SP : SPt) (cnt : Nat → Option Int) (blk : Nat → Nat) : Prop := ∀ i c, i < N → cnt i = some c → blk i < N ∧ ∃ m, 0 ≤ m ∧ SP i c (blk i) m ∧ Paints cnt (blk i) m
section
variable {N : Nat} {d : Nat → Int} {SP : SPt} {cnt cnt' : Nat → Option Int}
theorem paints_iff {i : Nat} {n : Int} {P : Int → Prop} (h : Least P (cnt i)) : Paints cnt i n ↔ ∀ k, 0 ≤ k → k ≤ n → ¬ P k := by
  unfold Paints
  cases e : cnt i with
  | none =>
    rw [e] at h
    exact ⟨fun _ k k0 _ => h k k0, fun _ c ec => by cases ec⟩
  | some a =>
    rw [e] at h
    obtain ⟨a0, pa, lt⟩ := h
    constructor
    · intro g k k0 kn
      have := g a rfl
      exact lt k k0 (by omega)
    · intro g c ec
      obtain rfl := Option.some.inj ec
      by_cases c : n < a
      · exact c
      · exact absurd pa (g a a0 (by omega))
/-- the order in which they come: by days, then by the list -/
theorem key_lt {N t u i j : Nat} (hi : i < N) (hj : j < N) (h : t < u ∨ t = u ∧ j < i) : t * N + j < u * N + i := by
  rcases h with h | ⟨rfl, h⟩
  · have := Nat.mul_le_mul_right N (show t + 1 ≤ u from h)
    rw [Nat.add_mul] at this
    omega
  · omega
theorem hist_same (d0 : ∀ i, i < N → 0 ≤ d i) (h : IsHist N d SP cnt) (h' : IsHist N d SP cnt') : ∀ (k : Nat) (i : Nat) (n : Int), i < N → 0 ≤ n → (d i + n).toNat * N + i = k → (HBlk N d SP cnt i n ↔ HBlk N d SP cnt' i n) ∧ (Paints cnt i n ↔ Paints cnt' i n) := by
  intro k
  induction k using Nat.strongRecOn with
  | _ k ih =>
    have blk : ∀ (i : Nat) (n : Int), i < N → 0 ≤ n → (d i + n).toNat * N + i ≤ k → (HBlk N d SP cnt i n ↔ HBlk N d SP cnt' i n) := by
      intro i n hi n0 hk
      have di := d0 i hi
      have key : ∀ j m, j < N → 0 ≤ m → (d j + m < d i + n ∨ d j + m = d i + n ∧ j < i) → (Paints cnt j m ↔ Paints cnt' j m) := by
        intro j m hj m0 o
        have dj := d0 j hj
        have lt : (d j + m).toNat * N + j < (d i + n).toNat * N + i := key_lt hi hj (by
          rcases o with o | ⟨o, q⟩
          · exact .inl (by omega)
          · exact .inr ⟨by omega, q⟩)
        exact (ih _ (by omega) j m hj m0 rfl).2
      constructor
      · rintro ⟨j, hj, m, m0, e, pj, o⟩
        exact ⟨j, hj, m, m0, e, (key j m hj m0 o).mp pj, o⟩
      · rintro ⟨j, hj, m, m0, e, pj, o⟩
        exact ⟨j, hj, m, m0, e, (key j m hj m0 o).mpr pj, o⟩
    intro i n hi n0 hk
    have di := d0 i hi
    refine ⟨blk i n hi n0 (by omega), ?_⟩
    rw [paints_iff (h i hi), paints_iff (h' i hi)]
    have le : ∀ x, 0 ≤ x → x ≤ n → (d i + x).toNat * N + i ≤ k := fun x x0 xn => by
      have := Nat.mul_le_mul_right N (show (d i + x).toNat ≤ (d i + n).toNat by omega)
      omega
    exact ⟨fun g x x0 xn b => g x x0 xn ((blk i x hi x0 (le x x0 xn)).mpr b), fun g x x0 xn b => g x x0 xn ((blk i x hi x0 (le x x0 xn)).mp b)⟩
/-- there is one history only -/
theorem hist_uniq (d0 : ∀ i, i < N → 0 ≤ d i) (h : IsHist N d SP cnt) (h' : IsHist N d SP cnt') {i : Nat} (hi : i < N) : cnt i = cnt' i :=
  Least.uniq (h i hi) (Least.congr (fun n n0 => ((hist_same d0 h h' _ i n hi n0 rfl).1).symm) (h' i hi))
/-! ### how it is found: the first block of all, again and again -/
def KLt (a b : Int × Nat) : Prop := a.1 < b.1 ∨ a.1 = b.1 ∧ a.2 < b.2
theorem KLt.trans {a b c : Int × Nat} (h : KLt a b) (g : KLt b c) : KLt a c := by
  unfold KLt at *
  omega
theorem not_klt {a b c : Int × Nat} (h : ¬ KLt b a) (g : KLt c a) : KLt c b := by
  unfold KLt at *
  omega
/-- the key of a coming -/
abbrev kOf (d : Nat → Int) (i : Nat) (n : Int) : Int × Nat := (d i + n, i)
/-- some painters are known to stop, at posts of their blockers, the last of them at the key K -/
structure Part (N : Nat) (d : Nat → Int) (SP : SPt) (C : Nat → Option Int) (B : Nat → Nat) (K : Int × Nat) : Prop where
  old : ∀ i c, i < N → C i = some c → 0 ≤ c ∧ (B i < N ∧ PBlk d SP i (B i) (C (B i)) c) ∧ (∀ n, 0 ≤ n → n < c → ¬ HBlk N d SP C i n) ∧ ¬ KLt K (kOf d i c)
  new : ∀ i n, i < N → C i = none → 0 ≤ n → HBlk N d SP C i n → ¬ KLt (kOf d i n) K
theorem Part.start {B : Nat → Nat} {K : Int × Nat} (h : ∀ i n, i < N → 0 ≤ n → ¬ KLt (kOf d i n) K) : Part N d SP (fun _ => none) B K := ⟨fun i c _ e => (by cases e), fun i n hi _ n0 _ => h i n hi n0⟩
/-- one more is known to stop -/
def putC (C : Nat → Option Int) (i : Nat) (c : Int) : Nat → Option Int := fun j => if j = i then some c else C j
def putB (B : Nat → Nat) (i j : Nat) : Nat → Nat := fun k => if k = i then j else B k
theorem putC_at {C : Nat → Option Int} {i : Nat} {c : Int} : putC C i c i = some c := by unfold putC; rw [if_pos rfl]
theorem putC_ne {C : Nat → Option Int} {i j : Nat} {c : Int} (h : j ≠ i) : putC C i c j = C j := by unfold putC; rw [if_neg h]
theorem putB_at {B : Nat → Nat} {i j : Nat} : putB B i j i = j := by unfold putB; rw [if_pos rfl]
theorem putB_ne {B : Nat → Nat} {i j k : Nat} (h : k ≠ i) : putB B i j k = B k := by unfold putB; rw [if_neg h]
theorem putC_le {C : Nat → Option Int} {i j : Nat} {c m : Int} (hi : C i = none) (h : ∀ x, putC C i c j = some x → m < x) : ∀ x, C j = some x → m < x := fun x ex => by
  by_cases e : j = i
  · subst e
    rw [hi] at ex
    cases ex
  · exact h x (by rw [putC_ne e]; exact ex)
theorem HBlk.less {C : Nat → Option Int} {i k : Nat} {c n : Int} (hi : C i = none) (h : HBlk N d SP (putC C i c) k n) : HBlk N d SP C k n :=
  let ⟨j, hj, m, m0, e, pj, o⟩ := h
  ⟨j, hj, m, m0, e, putC_le hi pj, o⟩
theorem Part.step {C : Nat → Option Int} {B : Nat → Nat} {K : Int × Nat} (h : Part N d SP C B K) {i b : Nat} {c : Int} (hi : i < N) (hb : b < N) (ni : C i = none) (c0 : 0 ≤ c) (pb : PBlk d SP i b (C b) c) (least : ∀ k n, k < N → C k = none → 0 ≤ n → HBlk N d SP C k n → ¬ KLt (kOf d k n) (kOf d i c)) :
    Part N d SP (putC C i c) (putB B i b) (kOf d i c) := by
  have up : ¬ KLt (kOf d i c) K := h.new i c hi ni c0 ⟨b, hb, pb⟩
  refine ⟨fun k ck hk ek => ?_, fun k n hk ek n0 b => ?_⟩
  · by_cases e : k = i
    · subst e
      rw [putC_at] at ek
      obtain rfl := Option.some.inj ek
      rw [putB_at]
      refine ⟨c0, ⟨hb, ?_⟩, fun n n0 nl b => ?_, fun z => by unfold KLt at z; omega⟩
      · obtain ⟨m, m0, e, pj, o⟩ := pb
        refine ⟨m, m0, e, fun x ex => ?_, o⟩
        by_cases eb : b = k
        · subst eb
          rw [putC_at] at ex
          obtain rfl := Option.some.inj ex
          omega
        · rw [putC_ne eb] at ex
          exact pj x ex
      · exact least k n hk ni n0 (HBlk.less ni b) (by unfold KLt; show d k + n < d k + c ∨ _; omega)
    · have ek : C k = some ck := by rw [putC_ne e] at ek; exact ek
      obtain ⟨k0, ⟨kB, kb⟩, kl, kK⟩ := h.old k ck hk ek
      rw [putB_ne e]
      refine ⟨k0, ⟨kB, ?_⟩, fun n n0 nl b => kl n n0 nl (HBlk.less ni b), fun z => ?_⟩
      · obtain ⟨m, m0, ee, pj, o⟩ := kb
        refine ⟨m, m0, ee, fun x ex => ?_, o⟩
        by_cases ej : B k = i
        · rw [ej, putC_at] at ex
          obtain rfl := Option.some.inj ex
          rw [ej] at o
          have z1 : KLt (kOf d i m) (kOf d k ck) := o
          have z2 : ¬ KLt K (kOf d k ck) := kK
          unfold KLt at z1 z2 up
          simp only [kOf] at z1 z2 up
          omega
        · rw [putC_ne ej] at ex
          exact pj x ex
      · have z2 : ¬ KLt K (kOf d k ck) := kK
        unfold KLt at z z2 up
        simp only [kOf] at z z2 up
        omega
  · have ne : k ≠ i := fun e => by rw [e, putC_at] at ek; cases ek
    have ek : C k = none := by rw [putC_ne ne] at ek; exact ek
    exact least k n hk ek n0 (HBlk.less ni b)
/-- nobody else is blocked: this is the history -/
theorem Part.done {C : Nat → Option Int} {B : Nat → Nat} {K : Int × Nat} (h : Part N d SP C B K) (no : ∀ i n, i < N → C i = none → 0 ≤ n → ¬ HBlk N d SP C i n) : IsHist N d SP C ∧ Blkr N SP C B := by
  refine ⟨fun i hi => ?_, fun i c hi e => ?_⟩
  · cases e : C i with
    | none => exact fun n n0 => no i n hi e n0
    | some c =>
      obtain ⟨c0, b, l, _⟩ := h.old i c hi e
      exact ⟨c0, ⟨_, b⟩, l⟩
  · obtain ⟨c0, ⟨bB, m, m0, ee, pj, o⟩, l, _⟩ := h.old i c hi e
    exact ⟨bB, m, m0, ee, pj⟩
/-- a post is painted once -/
theorem paint_once (h : IsHist N d SP cnt) {i j : Nat} {n m : Int} (hi : i < N) (hj : j < N) (n0 : 0 ≤ n) (m0 : 0 ≤ m) (pi : Paints cnt i n) (pj : Paints cnt j m) (e : SP i n j m) (e' : SP j m i n) : i = j := by
  by_cases ne : i = j
  · exact ne
  have bi := (paints_iff (h i hi)).mp pi n n0 (Int.le_refl n)
  have bj := (paints_iff (h j hj)).mp pj m m0 (Int.le_refl m)
  by_cases c : d j + m < d i + n ∨ d j + m = d i + n ∧ j < i
  · exact absurd ⟨j, hj, m, m0, e, pj, c⟩ bi
  · exact absurd ⟨i, hi, n, n0, e', pi, by omega⟩ bj
/-- the blocker is one painter only -/
theorem blkr_uniq (h : IsHist N d SP cnt) (sy : ∀ i n j m k l, SP i n j m → SP i n k l → SP j m k l) {blk blk' : Nat → Nat} (b : Blkr N SP cnt blk) (b' : Blkr N SP cnt blk') {i : Nat} {c : Int} (hi : i < N) (e : cnt i = some c) : blk i = blk' i := by
  obtain ⟨h1, m, m0, e1, p1⟩ := b i c hi e
  obtain ⟨h2, m', m0', e2, p2⟩ := b' i c hi e
  exact paint_once h h1 h2 m0 m0' p1 p2 (sy _ _ _ _ _ _ e1 e2) (sy _ _ _ _ _ _ e2 e1)
/-! ### by pairs -/
/-- the first blocks of all pairs, of those who are not known to stop -/
def PairsOk (N : Nat) (d : Nat → Int) (SP : SPt) (C : Nat → Option Int) (R : Nat → Nat → Option Int) : Prop := ∀ i j, i < N → j < N → C i = none → Least (PBlk d SP i j (C j)) (R i j)
theorem PairsOk.block {C : Nat → Option Int} {R : Nat → Nat → Option Int} (h : PairsOk N d SP C R) {i j : Nat} {c : Int} (hi : i < N) (hj : j < N) (ni : C i = none) (e : R i j = some c) : 0 ≤ c ∧ PBlk d SP i j (C j) c := by
  have l := h i j hi hj ni
  rw [e] at l
  exact ⟨l.1, l.2.1⟩
theorem PairsOk.found {C : Nat → Option Int} {R : Nat → Nat → Option Int} (h : PairsOk N d SP C R) {i : Nat} {n : Int} (hi : i < N) (ni : C i = none) (n0 : 0 ≤ n) (b : HBlk N d SP C i n) : ∃ j c, j < N ∧ R i j = some c ∧ c ≤ n := by
  obtain ⟨j, hj, b⟩ := b
  have l := h i j hi hj ni
  cases e : R i j with
  | none =>
    rw [e] at l
    exact absurd b (l n n0)
  | some c =>
    rw [e] at l
    refine ⟨j, c, hj, e, ?_⟩
    by_cases z : c ≤ n
    · exact z
    · exact absurd b (l.2.2 n n0 (by omega))
/-- the first of all first blocks is a stop -/
theorem Part.next {C : Nat → Option Int} {B : Nat → Nat} {K : Int × Nat} {R : Nat → Nat → Option Int} (h : Part N d SP C B K) (ok : PairsOk N d SP C R) {i j : Nat} {c : Int} (hi : i < N) (hj : j < N) (ni : C i = none) (e : R i j = some c)
    (least : ∀ k l x, k < N → l < N → C k = none → R k l = some x → ¬ KLt (kOf d k x) (kOf d i c)) : Part N d SP (putC C i c) (putB B i j) (kOf d i c) := by
  obtain ⟨c0, b⟩ := ok.block hi hj ni e
  refine h.step hi hj ni c0 b fun k n hk nk n0 bk => ?_
  obtain ⟨l, x, hl, ex, le⟩ := ok.found hk nk n0 bk
  have z := least k l x hk hl nk ex
  unfold KLt at *
  simp only [kOf] at *
  omega
theorem Part.end_ {C : Nat → Option Int} {B : Nat → Nat} {K : Int × Nat} {R : Nat → Nat → Option Int} (h : Part N d SP C B K) (ok : PairsOk N d SP C R) (no : ∀ k l, k < N → l < N → C k = none → R k l = none) : IsHist N d SP C ∧ Blkr N SP C B :=
  h.done fun i n hi ni n0 b => by
    obtain ⟨l, x, hl, ex, _⟩ := ok.found hi ni n0 b
    rw [no i l hi hl ni] at ex
    cases ex
theorem PairsOk.put {C : Nat → Option Int} {R R' : Nat → Nat → Option Int} (h : PairsOk N d SP C R) {i : Nat} {c : Int} (hi : i < N)
    (same : ∀ k l, k < N → l < N → putC C i c k = none → l ≠ i → R' k l = R k l) (col : ∀ k, k < N → putC C i c k = none → Least (PBlk d SP k i (some c)) (R' k i)) : PairsOk N d SP (putC C i c) R' := by
  intro k l hk hl nk
  have ne : k ≠ i := fun e => by rw [e, putC_at] at nk; cases nk
  have nk' : C k = none := by rw [putC_ne ne] at nk; exact nk
  by_cases e : l = i
  · subst e
    rw [putC_at]
    exact col k hk nk
  · rw [same k l hk hl nk e, putC_ne e]
    exact h k l hk hl nk'
/-- only as many stop as there are -/
def openN (N : Nat) (C : Nat → Option Int) : Nat := ((List.range N).filter fun i => (C i).isNone).length
theorem openN_put {C : Nat → Option Int} {i : Nat} {c : Int} (hi : i < N) (ni : C i = none) : openN N (putC C i c) < openN N C := by
  unfold openN
  have sub : ∀ l : List Nat, (l.filter fun j => (putC C i c j).isNone).length ≤ (l.filter fun j => (C j).isNone).length ∧ (i ∈ l → (l.filter fun j => (putC C i c j).isNone).length < (l.filter fun j => (C j).isNone).length) := by
    intro l
    induction l with
    | nil => exact ⟨Nat.le_refl _, fun h => nomatch h⟩
    | cons x r ih =>
      by_cases e : x = i
      · subst e
        have h1 : (putC C x c x).isNone = false := by rw [putC_at]; rfl
        have h2 : (C x).isNone = true := by rw [ni]; rfl
        rw [List.filter_cons, List.filter_cons, h1, h2]
        simp only [Bool.false_eq_true, if_false, if_true, List.length_cons]
        exact ⟨by omega, fun _ => by omega⟩
      · rw [List.filter_cons, List.filter_cons, putC_ne e]
        cases (C x).isNone with
        | true =>
          simp only [if_true, List.length_cons]
          refine ⟨by omega, fun h => ?_⟩
          rcases List.mem_cons.mp h with h | h
          · exact absurd h.symm e
          · have := ih.2 h
            omega
        | false =>
          simp only [Bool.false_eq_true, if_false]
          refine ⟨ih.1, fun h => ?_⟩
          rcases List.mem_cons.mp h with h | h
          · exact absurd h.symm e
          · exact ih.2 h
  exact (sub (List.range N)).2 (List.mem_range.mpr hi)
end
end Ur
/-! UrRg: a range that is kept, and walked again and again. -/
namespace Ur
open PySem PySem.Spec PyProof.Rows L2
def RngO (lo hi : Int) (a : Addr) : HO := .ext fun h => ∃ t u v, IsRange h a lo hi 1 t u v
theorem rngO_ok {P : Program} {w : World} {H : Hp} {h : Heap} {a : Addr} {lo hi : Int} {t u v : Tok} (g : IsRange h a lo hi 1 t u v) : ObjOk P w H h a (RngO lo hi a) := by
  refine ⟨⟨t, u, v, g⟩, ⟨_, g⟩, fun h1 h2 p k => ?_⟩
  obtain ⟨t, u, v, p⟩ := p
  exact ⟨t, u, v, k _ p⟩
section
variable {X : Cx} {tg : Expr}
def tRng (ta : TA) : TE := fun σ H Q => ta σ H fun vs H1 => ∃ j : Int, vs = [.int j] ∧ -(2 ^ 62) ≤ j ∧ j < 2 ^ 62 ∧ ∀ r, H1 r = none → Q (.ref r) (upd H1 r (RngO 0 j r))
theorem pe_rng {a : Expr} {ta : TA} {p pos : Pos} (hg : Gl X "range") (hm : X.mg "range" = none) (ha : PA X [a] ta) (hs : starEach [a] X.env = [(false, eval a X.env)] := by rfl) : PE X (.Call (.Name "range" p) [a] [] pos) (tRng ta) := by
  refine ⟨fun pins s σ H Q I h => ?_⟩
  refine Call_ (ld_blt I hg hm boot_range (PyProof.Rows.callWith_type1 (thn (ha.run pos pins s σ H _ I h) fun us s1 ⟨vs, H1, I1, r1, q1⟩ => ?_) hs rfl))
  obtain ⟨j, e, q1, q2, q⟩ := q1
  subst e
  cases r1 with
  | cons r rr =>
    cases rr
    obtain ⟨t, rfl⟩ := r
    refine call_range_1 ?_
    have g := IsRange.new s1.heap 0 j 1 s1.toks t (s1.toks + 1)
    exact ⟨.ref s1.heap.objs.size, _, I1.laid (fun b u z => Heap.get?_push_of_some _ z) (Nat.le_refl _) (rngO_ok g), rfl, q _ (I1.hok.fresh (Nat.le_refl _))⟩
def iRngV (te : TE) : TI := fun σ H R => te σ H fun x H1 => ∃ (r : Addr) (lo hi : Int), x = .ref r ∧ H1 r = some (RngO lo hi r) ∧ (-(2 ^ 62) ≤ lo ∧ lo < 2 ^ 62 ∧ -(2 ^ 62) ≤ hi ∧ hi < 2 ^ 62) ∧ R (Itr lo (hi - lo).toNat) H1
theorem pi_rngV {e : Expr} {te : TE} (he : PE X e te) : PI X tg e (iRngV te) := by
  refine ⟨fun pins s σ H R I h => ?_⟩
  refine thn (he.run pins s σ H _ I h) fun v s1 ⟨x, H1, I1, r1, q1⟩ => ?_
  obtain ⟨r, lo, hi, e, hr, ⟨b1, b2, b3, b4⟩, q⟩ := q1
  subst e
  cases r1
  obtain ⟨t, u, w, g⟩ := (I1.hok r _ hr).1
  refine wpAny_pyIter_range g (small_one b1 b2 b3 b4) ?_
  refine ⟨s1.heap.objs.size, [s1.heap.objs.size], _, _, H1, rfl, I1.kept (t' := s1.toks) fun b o e => Heap.get?_push_of_some _ e, turn_range _ lo (hi - lo).toNat, ?_, fun b hb => ?_, q⟩
  · have e1 : lo + ((0 : Nat) : Int) * 1 = lo := by simp
    have e2 : (((hi - lo).toNat : Nat) : Int) - ((0 : Nat) : Int) = Builtin.Range.rangeSize lo hi 1 := by rw [rangeSize_one]; split <;> omega
    show IsRangeIter _ _ (lo + ((0 : Nat) : Int) * 1) ((((hi - lo).toNat : Nat) : Int) - ((0 : Nat) : Int)) 1
    rw [e1, e2]
    exact Heap.get?_push_size _ rfl
  · have e : b = s1.heap.objs.size := by simpa using hb
    subst e
    exact I1.fpOk (Nat.le_refl _) (I1.hok.fresh (Nat.le_refl _))
end
end Ur
/-! UrLm: a lambda with parameters and one captured name, handed to a def that calls it deep within. -/
namespace Ur
open PySem PySem.Spec PyProof.Rows L2
/-! ### a heap without one address; a cell that is locked -/
def del (H : Hp) (c : Addr) : Hp := fun b => if b = c then none else H b
theorem del_same {H : Hp} {c : Addr} : del H c c = none := by unfold del; rw [if_pos rfl]
theorem del_ne {H : Hp} {b c : Addr} (h : b ≠ c) : del H c b = H b := by unfold del; rw [if_neg h]
theorem del_none {H : Hp} {b c : Addr} (h : H b = none) : del H c b = none := by unfold del; split; rfl; exact h
/-- a cell that holds v -/
def CellV (c : Addr) (v : V) : HO := .ext fun h => ∃ u, RelV v u ∧ ∃ o, h.get? c = some o ∧ o.data = .cell (some u)
section
variable {P : Program} {w : World} {K : PySem.W.Frag} {mg : Str → Option Value} {base : Heap} {A : Around} {outer : List Env} {s : Shared} {H H' : Hp} {h h' : Heap} {c : Addr} {oc : Obj} {v : V} {x : HO} {fs : List Addr}
theorem hok_del (hok : HOk P w H h) (hc : H c = some (.frz oc x)) : HOk P w (del H c) h := fun a o e => by
  by_cases ne : a = c
  · rw [ne, del_same] at e
    cases e
  · rw [del_ne ne] at e
    exact (hok a o e).stay (fun b u _ q => q) (fun b q => by rw [del_ne (ne_of q hc (by intro z; cases z))]; exact q) fun b xs q => by rw [del_ne (ne_of q hc (by intro z; cases z))]; exact q
theorem cellV_ok (ho : h.get? c = some oc) (hv : ∃ u, RelV v u ∧ oc.data = .cell (some u)) : ObjOk P w H h c (.frz oc (CellV c v)) := by
  obtain ⟨u, r, hd⟩ := hv
  exact ⟨ho, ⟨u, r, oc, ho, hd⟩, ⟨oc, ho⟩, fun h1 h2 ⟨u, r, o, e1, e2⟩ k => ⟨u, r, o, k _ e1, e2⟩⟩
theorem hok_lock (hok : HOk P w H h) (hc : H c = none) (ho : h.get? c = some oc) (hv : ∃ u, RelV v u ∧ oc.data = .cell (some u)) : HOk P w (upd H c (.frz oc (CellV c v))) h := fun a o e => by
  by_cases ne : a = c
  · subst ne
    rw [upd_same] at e
    cases e
    exact cellV_ok ho hv
  · rw [upd_ne ne] at e
    exact (hok a o e).stay (fun b u _ q => q) (fun b q => by rw [upd_ne (ne_of_none q hc)]; exact q) fun b xs q => by rw [upd_ne (ne_of_none q hc)]; exact q
theorem lock_data (hok : HOk P w H h) (hc : H c = some (.frz oc (CellV c v))) : h.get? c = some oc ∧ ∃ u, RelV v u ∧ oc.data = .cell (some u) := by
  obtain ⟨ho, ⟨u, r, o, e, hd⟩, _⟩ := hok c _ hc
  rw [ho] at e
  cases e
  exact ⟨ho, u, r, hd⟩
theorem un_of_lock (u : Un fs [] (upd H c (.frz oc x)) H' h h') (hc : H c = none) (ho : h.get? c = some oc) (hok : HOk P w H' h') : Un fs [] H (del H' c) h h' := by
  have at_ : h'.get? c = some oc := (hok c _ (u.frzs c oc x upd_same)).1
  have nh : ∀ b, H b = none → b ≠ c → upd H c (.frz oc x) b = none := fun b n ne => by rw [upd_ne ne]; exact n
  have sh : ∀ b o, H b = some o → b ≠ c := fun b o e => ne_of_none e hc
  refine ⟨fun b o q n hb hx => ?_, fun b o q n hb hx => ?_, fun b o q n hx => ?_, fun b o q hx => u.there b o q hx, fun b xs q => ?_, fun b o y q => ?_, fun b ps q => ?_⟩
  · by_cases ne : b = c
    · rw [ne, ho] at q
      cases q
      rw [ne]
      exact at_
    · exact u.keep b o q (nh b n ne) hb hx
  · by_cases ne : b = c
    · rw [ne, ho] at q
      cases q
      rw [ne]
      exact ⟨oc.slots, at_⟩
    · exact u.slot b o q (nh b n ne) hb hx
  · by_cases ne : b = c
    · rw [ne]
      exact del_same
    · exact del_none (u.free b o q (nh b n ne) hx)
  · rw [del_ne (sh b _ q)]
    exact u.tups b xs (by rw [upd_ne (sh b _ q)]; exact q)
  · rw [del_ne (sh b _ q)]
    exact u.frzs b o y (by rw [upd_ne (sh b _ q)]; exact q)
  · obtain ⟨more, e⟩ := u.tbls b ps (by rw [upd_ne (sh b _ q)]; exact q)
    exact ⟨more, by rw [del_ne (sh b _ q)]; exact e⟩
theorem un_of_del (u : Un fs [] (del H c) H' h h') (hc : H c = some (.frz oc x)) : Un fs [] H (upd H' c (.frz oc x)) h h' := by
  have ne : ∀ b, H b = none → b ≠ c := fun b n z => by rw [z, hc] at n; cases n
  have nt : ∀ b o, H b = some o → (∀ ob y, o ≠ .frz ob y) → b ≠ c := fun b o e n => ne_of e hc (n _ _)
  refine ⟨fun b o q n hb hx => u.keep b o q (del_none n) hb hx, fun b o q n hb hx => u.slot b o q (del_none n) hb hx, fun b o q n hx => by rw [upd_ne (ne b n)]; exact u.free b o q (del_none n) hx, fun b o q hx => u.there b o q hx, fun b xs q => ?_, fun b o y q => ?_, fun b ps q => ?_⟩
  · have n := nt b _ q (fun ob y z => by cases z)
    rw [upd_ne n]
    exact u.tups b xs (by rw [del_ne n]; exact q)
  · by_cases n : b = c
    · subst n
      rw [hc] at q
      rw [upd_same, q]
    · rw [upd_ne n]
      exact u.frzs b o y (by rw [del_ne n]; exact q)
  · have n := nt b _ q (fun ob y z => by cases z)
    obtain ⟨more, e⟩ := u.tbls b ps (by rw [del_ne n]; exact q)
    exact ⟨more, by rw [upd_ne n]; exact e⟩
theorem env0_del (e0 : Env0 P w K mg base A outer s H) (hc : H c = some (.frz oc x)) : Env0 P w K mg base A outer s (del H c) :=
  ⟨e0.frames, e0.mod, fun b o e => ⟨(e0.bs b o e).1, del_none (e0.bs b o e).2⟩, e0.bsz, e0.funs, fun b hb => del_none (e0.frf b hb), hok_del e0.hok hc, e0.bare⟩
theorem env0_lock (e0 : Env0 P w K mg base A outer s H) (hc : H c = none) (nb : base.get? c = none) (nf : c ∉ frs outer) (ho : s.heap.get? c = some oc) (hv : ∃ u, RelV v u ∧ oc.data = .cell (some u)) : Env0 P w K mg base A outer s (upd H c (.frz oc (CellV c v))) :=
  ⟨e0.frames, e0.mod, fun b o e => ⟨(e0.bs b o e).1, by rw [upd_ne (fun z => by rw [z, nb] at e; cases e)]; exact (e0.bs b o e).2⟩, e0.bsz, e0.funs, fun b hb => by rw [upd_ne (fun z => nf (by rw [← z]; exact hb))]; exact e0.frf b hb, hok_lock e0.hok hc ho hv, e0.bare⟩
theorem same_lock {o : HO} (hc : H c = none) (s : Same (upd H c o) H') : Same H (del H' c) := fun b u e => by
  have n := ne_of_none e hc
  rw [del_ne n]
  exact s b u (by rw [upd_ne n]; exact e)
theorem same_del {o : HO} (hc : H c = some o) (s : Same (del H c) H') : Same H (upd H' c o) := fun b u e => by
  by_cases n : b = c
  · subst n
    rw [hc] at e
    rw [upd_same, e]
  · rw [upd_ne n]
    exact s b u (by rw [del_ne n]; exact e)
theorem same_del1 {o : HO} (hc : H c = some o) (s : Same H H') : Same (del H c) (del H' c) := fun b u e => by
  by_cases n : b = c
  · rw [n, del_same] at e
    cases e
  · rw [del_ne n] at e ⊢
    exact s b u e
end
/-! ### the lambda's object -/
structure LF where
  qual : Str
  params : Arguments
  body : Expr
  scope : Scope
  cl : List (Str × Addr)
  c : Addr
abbrev LF.nf (F : LF) : NdefX.NF := ⟨"<lambda>", F.qual, F.params, [], F.scope, F.cl, F.c⟩
def LamO (f : Addr) (F : LF) : HO := .ext fun h => ∃ pm ctv, h.get? f = some (PySem.W.kla_obj "<lambda>" F.qual F.params F.body F.scope F.cl pm F.c ctv)
/-- the one name x that it captures lies in the cell at cp -/
def OneCell (cl : List (Str × Addr)) (x : Str) (cp : Addr) : Prop := cl.lookup x = some cp ∧ ∀ y a, cl.lookup y = some a → y = x ∧ a = cp
/-- what is asked of the heap where it is called -/
def LamH (H : Hp) (f : Addr) (F : LF) (x : Str) (cp : Addr) (oc : Obj) (v : V) : Prop :=
  H f = some (LamO f F) ∧ H F.c = some (LamX.CodeO F.c F.qual) ∧ OneCell F.cl x cp ∧ H cp = some (.frz oc (CellV cp v))
theorem LamH.same {H H' : Hp} {f : Addr} {F : LF} {x : Str} {cp : Addr} {oc : Obj} {v : V} (h : LamH H f F x cp oc v) (s : Same H H') : LamH H' f F x cp oc v := ⟨s _ _ h.1, s _ _ h.2.1, h.2.2.1, s _ _ h.2.2.2⟩
section
variable {X : Cx} {pins : List (Addr × Obj)} {σ : L2.St} {H : Hp} {s : Shared}
theorem inv_lam {F : LF} {o : Obj} {t' : Nat} {pm ctv : Value} (I : Inv X pins σ H s) (ho : o = PySem.W.kla_obj "<lambda>" F.qual F.params F.body F.scope F.cl pm F.c ctv) :
    Inv X pins σ (upd H s.heap.objs.size (LamO s.heap.objs.size F)) { s with heap := s.heap.push o, toks := t' } := by
  subst ho
  refine I.laid (a := s.heap.objs.size) (fun b u e => Heap.get?_push_of_some _ e) (Nat.le_refl _) ?_
  have e := Heap.get?_push_size s.heap (o := PySem.W.kla_obj "<lambda>" F.qual F.params F.body F.scope F.cl pm F.c ctv) rfl
  exact ⟨⟨pm, ctv, e⟩, ⟨_, e⟩, fun h1 h2 ⟨p, t, z⟩ st => ⟨p, t, st _ z⟩⟩
/-- the lambda is made -/
theorem lam_make3 {T : List (Addr × Str)} {c P : Addr} {params : Arguments} {body : Expr} {scope : Scope} {pos : Pos} {E : Value → Shared → Prop} {Q : Value → Shared → Prop} (I : Inv X pins σ H s) (TB : LamX.TabB X.base X.mg c P) (hcode : X.env.code = .ref c)
    (hm : (P, X.env.qual ++ "<lambda>") ∈ T) (hu : ∀ p ∈ T, p.1 = P → p.2 = X.env.qual ++ "<lambda>") (hT : LamX.Tabs T H) (hdef : defaultsOf params X.env = ([], [])) (hfree : ∀ y ∈ scope.names, y.2 = .free → ∃ c, X.env.cells.lookup y.1 = some c)
    (h : ∀ (f c' : Addr) (H1 : Hp) (s' : Shared), Inv X pins σ H1 s' → LamX.ExtN H H1 → (∀ b, H1 b = none → H b = none) → LamX.Tabs T H1 → H f = none → H1 f = some (LamO f ⟨X.env.qual ++ "<lambda>", params, body, scope, cloFrom X.env.cells scope.names [], c'⟩) →
      H1 c' = some (LamX.CodeO c' (X.env.qual ++ "<lambda>")) → Q (.ref f) s') :
    wpAny (model X.prog X.w) X.A (eval (.Lambda params body scope pos) X.env) Q E s := by
  obtain ⟨ps, hP, ht, ha⟩ := hT _ hm
  refine PySem.W.kla_eval hdef ?_
  have bP : s.heap.BuiltinsAt X.mg P := TB.bm.keeps I.bk
  have hP' : s.heap.get? P = some { cls := .none, data := .fields ps } := I.hok P _ hP
  cases hc : codeAmong pos ps.toList with
  | none =>
    refine PySem.W.kla_makeFunction (mg := X.mg) (c := c) (P := P) (ps := ps) (closure_ok hfree) I.ok.glob (I.mod.glob.keeps I.bk) hcode (TB.code.keeps I.bk) hP' ht hc TB.gP bP fun c' ctv h' tk hx hge hlt hrec htb => ?_
    obtain ⟨c2, oc, vs, t, e2, hoc, hd, hv⟩ := hrec
    cases e2
    have nC : H c' = none := I.hok.fresh hge
    have I1 := LamX.inv_table (t' := tk) (more := #[rawInt pos.line, rawInt pos.col, .ref c']) (h' := h') I hP (fun b o hb e => hx b o hb e) htb hge ⟨oc, vs, t, hoc, hd, hv⟩
    have hE : LamX.ExtN H (upd (upd H P (.tbl (ps ++ #[rawInt pos.line, rawInt pos.col, .ref c']))) c' (LamX.CodeO c' (X.env.qual ++ "<lambda>"))) := fun b o e n => by
      rw [upd_ne (ne_of_none e nC), upd_ne (fun z => n ps (Option.some.inj (e.symm.trans (by rw [z]; exact hP))))]
      exact e
    have eL : (ps ++ #[rawInt pos.line, rawInt pos.col, .ref c']).toList = ps.toList ++ [rawInt pos.line, rawInt pos.col, .ref c'] := by simp
    have T1 : LamX.Tabs T (upd (upd H P (.tbl (ps ++ #[rawInt pos.line, rawInt pos.col, .ref c']))) c' (LamX.CodeO c' (X.env.qual ++ "<lambda>"))) := fun p hp => by
      by_cases hb : p.1 = P
      · rw [hu p hp hb, hb]
        refine ⟨_, by rw [upd_ne (ne_of_none hP nC), upd_same], by rw [eL]; exact PySem.TriplesOk_snoc _ _ _ _ ht, fun p' cv hcv => ?_⟩
        rw [eL] at hcv
        rcases LamX.among_app _ ht hcv with z | z
        · obtain ⟨c0, e1, e2⟩ := ha p' cv z
          exact ⟨c0, e1, hE _ _ e2 LamX.codeO_ne⟩
        · exact ⟨c', z, upd_same⟩
      · obtain ⟨ps', a1, a2, a3⟩ := hT p hp
        refine ⟨ps', by rw [upd_ne (ne_of_none a1 nC), upd_ne hb]; exact a1, a2, fun p' cv hcv => ?_⟩
        obtain ⟨c0, e1, e2⟩ := a3 p' cv hcv
        exact ⟨c0, e1, hE _ _ e2 LamX.codeO_ne⟩
    have nF := I1.hok.fresh (Nat.le_refl _)
    have I2 := inv_lam (F := ⟨X.env.qual ++ "<lambda>", params, body, scope, cloFrom X.env.cells scope.names [], c'⟩) (t' := tk) (pm := (X.mg "__name__").getD .none) (ctv := ctv) I1 rfl
    refine h h'.objs.size c' _ _ I2 (fun b o e n => ?_) (fun b e => NdefX.upd_none (NdefX.upd_none (NdefX.upd_none e))) (T1.ext fun b o e => ?_) (I.hok.fresh (Nat.le_trans hge (Nat.le_of_lt hlt))) upd_same ?_
    · have e1 := hE b o e n
      exact (upd_ne (ne_of_none e1 nF)).trans e1
    · exact (upd_ne (ne_of_none e nF)).trans e
    · exact (upd_ne (Nat.ne_of_lt hlt)).trans upd_same
  | some cv =>
    obtain ⟨c', e, hco⟩ := ha pos cv hc
    subst e
    refine PySem.W.kla_makeFunctionHit (mg := X.mg) (c := c) (P := P) (ps := ps) (closure_ok hfree) I.ok.glob (I.mod.glob.keeps I.bk) hcode (TB.code.keeps I.bk) hP' ht hc bP fun ctv h' tk hx hsz => ?_
    have I1 : Inv X pins σ H { s with heap := h', toks := tk } := I.kept hx
    have nF : H h'.objs.size = none := I1.hok.fresh (Nat.le_refl _)
    have I2 := inv_lam (F := ⟨X.env.qual ++ "<lambda>", params, body, scope, cloFrom X.env.cells scope.names [], c'⟩) (t' := tk) (pm := (X.mg "__name__").getD .none) (ctv := ctv) I1 rfl
    refine h h'.objs.size c' _ _ I2 (fun b o e n => ?_) (fun b e => NdefX.upd_none e) (hT.ext fun b o e => ?_) nF upd_same ?_
    · exact (upd_ne (ne_of_none e nF)).trans e
    · exact (upd_ne (ne_of_none e nF)).trans e
    · exact (upd_ne (ne_of_none hco nF)).trans hco
end
/-! ### what it promises where it is called -/
/-- a function that stands in the heap keeps the promise sp -/
structure LOk (P : Program) (w : World) (K : PySem.W.Frag) (mg : Str → Option Value) (base : Heap) (k n : Nat) (f : Addr) (sp : Sp) : Prop where
  len : ∀ vs H Q E, sp vs H Q E → vs.length = n
  run : ∀ (A : Around) (outer : List Env) (s : Shared) (H : Hp) (us : List Value) (vs : List V) (Q : VK), Room k A → Env0 P w K mg base A outer s H → Vals vs us → sp vs H Q E0 → codeAny (model P w) A (.call (.ref f) ⟨us, []⟩) (CR CX0 outer P w H s Q E0) s
section
variable {P : Program} {w : World} {K : PySem.W.Frag} {mg : Str → Option Value} {base : Heap} {N ps : List Str} {F : LF} {f cp : Addr} {k : Nat} {x : Str} {sp : V → Sp}
/-- the lambda's promise: where its object, its code object and its cell stand -/
def spLam (f : Addr) (F : LF) (x : Str) (sp : V → Sp) : Sp := fun vs H Q E => ∃ cp oc v, LamH H f F x cp oc v ∧ sp v vs (del H cp) (fun r H' => Q r (upd H' cp (.frz oc (CellV cp v)))) E
theorem lok_of (S : NdefX.NScope N ps [x] F.scope) (hb : ∀ (pm ctv : Value) (us : List Value), us.length = ps.length → bindArgs (PySem.W.kla_fn "<lambda>" F.qual F.params F.body F.scope F.cl pm (.ref F.c) ctv) ⟨us, []⟩ = pure (ps.zip us)) (len : ∀ v vs H Q E, sp v vs H Q E → vs.length = ps.length)
    (hbody : ∀ (A : Around) (outer : List Env) (s : Shared) (H : Hp) (v : V) (vs : List V) (Q : VK) (E : XK), Room k (A.deeper (NdefX.envF F.nf f s.heap.objs.size)) → sp v vs H Q E → ∃ t, PE (NdefX.ncx CX0 P w K mg base N F.nf f A outer s H E) F.body t ∧ t (NdefX.startF N vs [some v]) H Q) :
    LOk P w K mg base (k + 1) ps.length f (spLam f F x sp) := by
  refine ⟨fun vs H Q E h => ?_, fun A outer s H us vs Q hr e0 r h => ?_⟩
  · obtain ⟨_, _, v, _, h⟩ := h
    exact len v _ _ _ _ h
  obtain ⟨cp, oc, v, ⟨hf, hc, oneC, hcp⟩, hsp⟩ := h
  have hl := len v _ _ _ _ hsp
  have lim : s.heap.NoLimit := e0.mod.nolimit.keeps fun b o e => (e0.bs b o e).1
  obtain ⟨⟨pm, ctv, ho⟩, _, _⟩ := e0.hok f _ hf
  obtain ⟨hoc, hdat⟩ := lock_data e0.hok hcp
  refine PySem.W.kla_callFunE hr.depth ho rfl S.co S.gen rfl (NdefX.codeO_at e0.hok hc) ?_
  rw [hb pm ctv us (by rw [← r.length]; exact hl)]
  refine wpAny_pure (wpAny_newFunctionEnv S.nocell (fun ⟨n, _⟩ hy => S.par n (List.of_mem_zip hy).1) (fun h₁ hns hsb => ⟨lim.fresh _ hsb, ?_⟩) S.kind)
  show codeAny _ _ (.expr F.body (NdefX.envF F.nf f s.heap.objs.size)) _ _
  have kp : ∀ b o, s.heap.get? b = some o → h₁.get? b = some o := fun b o e => hsb.extBut b o (Nat.ne_of_lt (Heap.lt_size e)) (Heap.get?_push_of_some _ e)
  have e1 : Env0 P w K mg base A outer s (del H cp) := env0_del e0 hcp
  obtain ⟨u0, r0, d0⟩ := hdat
  have C : NdefX.CellsAt F.nf.cl [x] [some v] s.heap (del H cp) := by
    refine ⟨rfl, fun y c e => ?_, fun y z c e1 e2 => (oneC.2 y c e1).1.trans (oneC.2 z c e2).1.symm, fun i y e => ?_⟩
    · obtain ⟨_, rfl⟩ := oneC.2 y c e
      exact ⟨del_same, some u0, oc, hoc, d0⟩
    · match i, e with
      | 0, e =>
        cases e
        refine ⟨cp, oneC.1, fun v' ev => ?_⟩
        cases ev
        exact ⟨u0, r0, oc, hoc, d0⟩
  obtain ⟨t, ht, hq⟩ := hbody A outer s (del H cp) v vs _ E0 (hr.deeper _) hsp
  have I : Inv (NdefX.ncx CX0 P w K mg base N F.nf f A outer s (del H cp) E0) [] (NdefX.startF N vs [some v]) (del H cp) { s with heap := h₁, toks := s.toks + (ps.zip us).length } := NdefX.inv_startN (F := F.nf) S hr.hd e1 hl r C hns kp
  refine PySem.W.kla_codeExpr (wpAny_mono (ht.run [] _ _ _ _ I hq) (fun u s' hs => ?_) fun e s' hs => hs)
  obtain ⟨y, H', J', rv, q⟩ := hs
  have nf : cp ∉ frs outer := fun z => by
    have := e0.frf cp z
    rw [hcp] at this
    cases this
  have un : Un (frs outer) [] (del H cp) H' s.heap s'.heap := J'.base
  have h1 : H' cp = none := un.free cp oc hoc del_same (by simp)
  have h2 : s'.heap.get? cp = some oc := un.keep cp oc hoc del_same nf (by simp)
  exact ⟨y, upd H' cp (.frz oc (CellV cp v)), J'.os, J'.bare, un_of_del un hcp, hok_lock J'.hok h1 h2 ⟨u0, r0, d0⟩, rv, q⟩
end
/-- a(..), a name that holds a function -/
def tCallV (i : Nat) (sp : Addr → Sp) (t : TA) : TE := fun σ H Q => ∃ f, σ[i]? = some (some (.ref f)) ∧ (∃ o, H f = some o ∧ ∃ F, o = LamO f F) ∧ t σ H fun vs H1 => (∃ F, H1 f = some (LamO f F)) ∧ sp f vs H1 Q E0
section
variable {X : Cx} {k n i : Nat} {x : Str} {sp : Addr → Sp} {t : TA} {e : Expr} {es : List Expr} {p pos : Pos}
theorem lamAt_of {pins : List (Addr × Obj)} {σ : L2.St} {H : Hp} {s : Shared} {f : Addr} {F : LF} (I : Inv X pins σ H s) (e : H f = some (LamO f F)) : PySem.W.FnAt f s.heap := by
  obtain ⟨⟨pm, ctv, ho⟩, _, _⟩ := I.hok f _ e
  exact ⟨_, _, _, _, ho⟩
theorem pe_callV (Fn : ∀ f, LOk X.prog X.w X.K X.mg X.base k n f (sp f)) (hr : Room k X.A) (ha : PA X (e :: es) t) (hN : X.N[i]? = some x := by rfl) (hv : Vis X.env.scope x := by first | exact Or.inl rfl | exact Or.inr (Or.inl rfl) | exact Or.inr (Or.inr rfl))
    (hd : (x == ("__debug__" : Str)) = false := by decide) (hcd : (x == ("__classdict__" : Str)) = false := by decide)
    (he : starEach (e :: es) X.env = (false, eval e X.env) :: starEach es X.env := by rfl) (hpl : (backTo pos (starEach es X.env)).any (·.1) = false := by rfl) :
    PE X (.Call (.Name x p) (e :: es) [] pos) (tCallV i sp t) := by
  refine ⟨fun pins s σ H Q I h => ?_⟩
  obtain ⟨f, hs, ⟨o, hf, F, eo⟩, ht⟩ := h
  subst eo
  refine wpAny_Call_Name_kw (thn ((pe_var (pos := p) hN hv hd hcd).run pins s σ H (fun v H1 => v = .ref f ∧ H1 = H) I ⟨.ref f, hs, rfl, rfl⟩) fun u s1 ⟨v, H1, I1, r1, q1⟩ => ?_)
  obtain ⟨ev, eH⟩ := q1
  subst ev
  rw [eH] at I1
  obtain rfl : u = Value.ref f := r1
  refine PySem.W.callWith_F (first := []) (lamAt_of I1 hf) (thn (ha.run pos pins s1 σ H _ I1 ht) fun us s2 ⟨vs, H2, I2, r, ⟨F2, h1⟩, q⟩ => ⟨lamAt_of I2 h1, ?_⟩) he hpl
  show wpAny _ _ (call (.ref f) us) _ _ _
  refine wpAny_call (codeAny_mono ((Fn f).run X.A X.stack s2 H2 us vs Q hr I2.env0 r q) fun r s' hq => ?_)
  cases r with
  | error e => exact (show False from hq).elim
  | ok fl =>
    cases fl with
    | ret u => exact I2.after hq
    | next => exact False.elim hq
    | brk => exact False.elim hq
    | cont => exact False.elim hq
end
/-! ### g(e, lambda ..) -/
/-- the lambda's words -/
def tLamTo (T : List (Addr × Str)) (mk : List (Str × Addr) → Addr → LF) (q : Str) (i : Nat) (y0 : Str) (sp : Sp) (te : TE) : TE := fun σ H Q => te σ H fun v1 H1 => LamX.Tabs T H1 ∧ ∃ v, σ[i]? = some (some v) ∧
  ∀ f c' cp oc cl H2, LamX.ExtN H1 H2 → (∀ b, H2 b = none → H1 b = none) → LamX.Tabs T H2 → H1 f = none → LamH (upd H2 cp (.frz oc (CellV cp v))) f (mk cl c') y0 cp oc v → H2 cp = none →
    sp [v1, .ref f] (upd H2 cp (.frz oc (CellV cp v))) (fun r H' => Q r (del H' cp)) E0
section
variable {X : Cx} {k : Nat} {x y0 : Str} {ps : List Str} {sp : Sp} {e : Expr} {te : TE} {p pos lpos : Pos} {params : Arguments} {body : Expr} {scope : Scope} {T : List (Addr × Str)} {c P : Addr} {i : Nat}
theorem pe_lamTo (cal : Cal X.prog X.w X.K X.mg X.base k x ps sp) (hr : Room k X.A) (he : PE X e te) (TB : LamX.TabB X.base X.mg c P) (hcode : X.env.code = .ref c) (hm : (P, X.env.qual ++ "<lambda>") ∈ T) (hu : ∀ p ∈ T, p.1 = P → p.2 = X.env.qual ++ "<lambda>")
    (hy : (y0, NameKind.free) ∈ scope.names) (ho : ∀ y ∈ scope.names, y.2 = .free → y.1 = y0) (hce : X.env.scope.names.lookup y0 = some .cell) (hfn : X.fn y0 = true) (hN : X.N[i]? = some y0) (hdef : defaultsOf params X.env = ([], [])) (hg : Gl X x := by rfl) (hdb : (x == ("__debug__" : Str)) = false := by decide)
    (hst : starEach [e, .Lambda params body scope lpos] X.env = (false, eval e X.env) :: starEach [.Lambda params body scope lpos] X.env := by rfl) (hpl : (backTo pos (starEach [.Lambda params body scope lpos] X.env)).any (·.1) = false := by rfl)
    (hst2 : starEach [.Lambda params body scope lpos] X.env = (false, eval (.Lambda params body scope lpos) X.env) :: starEach [] X.env := by rfl) :
    PE X (.Call (.Name x p) [e, .Lambda params body scope lpos] [] pos) (tLamTo T (fun cl c' => ⟨X.env.qual ++ "<lambda>", params, body, scope, cl, c'⟩) (X.env.qual ++ "<lambda>") i y0 sp te) := by
  refine ⟨fun pins s σ H Q I h => ?_⟩
  obtain ⟨g, fd, F, kp, b, mx⟩ := cal
  have hfree : ∀ y ∈ scope.names, y.2 = .free → ∃ c, X.env.cells.lookup y.1 = some c := fun y hy e => by
    rw [ho y hy e]
    exact I.ok.has _ (.inl hce)
  refine wpAny_Call_Name_kw (ld_glob I hg mx ?_ hdb)
  refine PySem.W.callWith_K (h₀ := X.base) I.ok.mod.kin kp ?_ hst hpl
  rw [hst]
  show wpAny _ _ (spliced ((false, eval e X.env) :: backTo pos (starEach [.Lambda params body scope lpos] X.env))) _ _ s
  refine Calls.spliced_cons (thn (he.run pins s σ H _ I h) fun u1 s1 ⟨v1, H1, I1, r1, hT, v, hs, q⟩ => ?_)
  rw [hst2]
  refine Calls.spliced_cons (lam_make3 I1 TB hcode hm hu hT hdef hfree fun f c' H2 s2 I2 eN nn T2 hf1 hf2 hc2 => ?_)
  refine Calls.spliced_nil ⟨I2.kIn, ?_⟩
  obtain ⟨cp, hcp⟩ := I.ok.has y0 (.inl hce)
  have ncp : H2 cp = none := I2.freeC y0 cp hcp
  have oneC : OneCell (cloFrom X.env.cells scope.names []) y0 cp := by
    refine ⟨NdefX.clo_has hfree hy hcp, fun y a e => ?_⟩
    have e1 := NdefX.clo_cm hfree e
    rcases cloFrom_mem (PySem.mem_of_lookup e) with hm | ⟨h1, _⟩
    · cases hm
    · have e2 := ho _ h1 rfl
      simp only at e2
      subst e2
      rw [hcp] at e1
      exact ⟨rfl, (Option.some.inj e1).symm⟩
  obtain ⟨m, hn, hl⟩ := I2.loc
  obtain ⟨u, ru, lk⟩ := hl i y0 v hN hs (.inr (.inl hce))
  obtain ⟨oc, hoc, hd⟩ : ∃ oc, s2.heap.get? cp = some oc ∧ oc.data = .cell (some u) := by
    rcases lk with ⟨z, _⟩ | ⟨_, a', ha', oc, h1, h2⟩
    · have z' : X.env.scope.names.lookup y0 = some .local := z
      rw [hce] at z'
      cases z'
    · rw [hcp] at ha'
      cases ha'
      exact ⟨oc, h1, h2⟩
  have hge := I.ok.cab y0 cp hfn hcp
  have nb : X.base.get? cp = none := by
    cases e : X.base.get? cp with
    | none => rfl
    | some o => exact absurd (Nat.lt_of_lt_of_le (Heap.lt_size e) (Nat.le_trans I.ok.bsz hge)) (Nat.lt_irrefl _)
  have nf : cp ∉ frs X.stack := fun z => by
    rcases List.mem_cons.mp (I2.stkSub cp z) with e | hb
    · exact I2.cne y0 cp hcp e
    · obtain ⟨_, o, ho, _⟩ := I.ok.funs.mem hb
      exact absurd (Nat.lt_of_lt_of_le (Heap.lt_size ho) hge) (Nat.lt_irrefl _)
  have e0 := env0_lock (v := v) I2.env0 ncp nb nf hoc ⟨u, ru, hd⟩
  have nfc : f ≠ cp := ne_of_none hf2 ncp
  have ncc : c' ≠ cp := ne_of_none hc2 ncp
  have q2 := q f c' cp oc _ H2 eN nn T2 hf1 ⟨by rw [upd_ne nfc]; exact hf2, by show upd H2 cp _ c' = _; rw [upd_ne ncc]; exact hc2, oneC, upd_same⟩ ncp
  have r2 : Vals [v1, .ref f] [u1, .ref f] := .cons r1 (.cons rfl .nil)
  have bb := b s2 [u1, .ref f] I2.kIn (by rw [List.append_nil]; exact (r2.length.symm.trans (F.len _ _ _ _ q2)))
  rw [List.append_nil] at bb
  refine wpAny_call (codeAny_mono (F.run X.A X.stack s2 _ ⟨[u1, .ref f], []⟩ [u1, .ref f] [v1, .ref f] _ E0 hr e0 bb r2 q2) fun r s' hq => ?_)
  cases r with
  | error e => exact (show False from hq).elim
  | ok fl =>
    cases fl with
    | ret u =>
      obtain ⟨y, H', os, bare, un, hok, rv, q3⟩ := hq
      have un2 := un_of_lock un ncp hoc hok
      have hok2 : HOk X.prog X.w (del H' cp) s'.heap := hok_del hok (un.frzs cp oc _ upd_same)
      exact I2.after ⟨y, del H' cp, os, bare, un2, hok2, rv, q3⟩
    | next => exact False.elim hq
    | brk => exact False.elim hq
    | cont => exact False.elim hq
end
/-! ### a def whose code object is known -/
section
variable {P : Program} {w : World} {K : PySem.W.Frag} {mg : Str → Option Value} {base : Heap}
theorem fun_okc {x qual : Str} {st : Stmt} {f c : Addr} {fd : FuncData} {N ps : List Str} {k : Nat} {sp : Sp} (F : Fun K x qual st f fd) (code : fd.code = .ref c) (S : FnScope N ps (defScope st)) (len : ∀ vs H Q E, sp vs H Q E → vs.length = ps.length)
    (hbody : ∀ (A : Around) (outer : List Env) (s : Shared) (H : Hp) (vs : List V) (Q : VK) (E : XK), Room k (A.deeper (envOfC qual (defScope st) s.heap.objs.size f (.ref c))) → sp vs H Q E →
      ∃ t, PSs (cxOf CX0 P w K mg base N qual (defScope st) f (.ref c) A outer s H E).nox (defBody st) t ∧ t { nx := fun _ H' => Q .non H', rt := Q } (start N vs) H) : FnOk P w K mg base CX0 (k + 1) f fd ps sp := by
  obtain ⟨oc, od, kV, doc, pm, an, cdv, ct, osl, efd, lk, hcd⟩ := F.ex
  subst efd
  have ec : cdv = .ref c := code
  subst ec
  refine fn_of lk hcd S len fun A outer s H vs Q E hr hsp => ?_
  obtain ⟨t, h, q⟩ := hbody A outer s H vs Q E hr hsp
  exact ⟨t, h.nox, q⟩
end
end Ur
/-! UrMn: min and max of a list of tuples of whole numbers, with and without default=; walks within walks. -/
namespace Ur
open PySem PySem.Spec PyProof.Rows L2
/-- the items are tuples of whole numbers -/
def TupsI (H : Hp) (xs : List V) (ks : List (List Int)) : Prop := Paired (fun x k => ∃ t, x = V.ref t ∧ H t = some (.tup (k.map V.int))) xs ks
theorem paired_get {α β : Type} {F : α → β → Prop} : ∀ {xs : List α} {ys : List β} {i : Nat} {x : α}, Paired F xs ys → xs[i]? = some x → ∃ y, ys[i]? = some y ∧ F x y
  | _, _, _, _, .nil, e => by simp at e
  | _, _, 0, _, .cons r _, e => by simp at e; subst e; exact ⟨_, rfl, r⟩
  | _, _, i + 1, x, .cons _ t, e => by
    obtain ⟨u, h1, h2⟩ := paired_get (i := i) (x := x) t (by simpa using e)
    exact ⟨u, by simpa using h1, h2⟩
theorem map_get {α β : Type} {f : α → β} {l : List α} {i : Nat} {y : β} (h : (l.map f)[i]? = some y) : ∃ a, l[i]? = some a ∧ y = f a := by
  rw [List.getElem?_map] at h
  cases e : l[i]? with
  | none => rw [e] at h; cases h
  | some a => rw [e] at h; exact ⟨a, rfl, (Option.some.inj h).symm⟩
theorem holds_uniq {α : Type} [DecidableEq α] [PySem.W.Datum α] {h : Heap} {v : Value} {x y : α} (a : PySem.W.Holds h v x) (b : PySem.W.Holds h v y) : x = y := by
  obtain ⟨as, ra⟩ := a
  obtain ⟨bs, rb⟩ := b
  have e : PySem.W.Datum.toD x = PySem.W.Datum.toD y := (Reads.unique ra _ _ rb).1
  have e1 := PySem.W.Datum.eqv x y
  rw [← e, PySem.W.Datum.eqv x x] at e1
  exact of_decide_eq_true (e1.symm.trans (decide_eq_true rfl))
theorem hold_ints {h : Heap} : ∀ {k : List Int} {its : List Value}, Vals (k.map V.int) its → PySem.W.HoldAll h its k
  | [], [], _ => PySem.W.HoldAll.nil
  | [], _ :: _, r => nomatch r
  | _ :: _, [], r => nomatch r
  | i :: k, v :: its, r => by
    cases r with
    | cons r rs =>
      obtain ⟨t, rfl⟩ := r
      exact PySem.W.HoldAll.cons (PySem.W.holds_int i t) (hold_ints rs)
theorem hold_tups {P : Program} {w : World} {H : Hp} {h : Heap} (ok : HOk P w H h) : ∀ {xs : List V} {ks : List (List Int)} {its : List Value}, TupsI H xs ks → Vals xs its → PySem.W.HoldAll h its (ks.map PySem.W.Tup.mk)
  | [], [], [], _, _ => PySem.W.HoldAll.nil
  | [], _ :: _, _, t, _ => nomatch t
  | _ :: _, [], _, t, _ => nomatch t
  | [], _, _ :: _, _, r => nomatch r
  | _ :: _, _, [], _, r => nomatch r
  | x :: xs, k :: ks, v :: its, t, r => by
    cases t with
    | cons t ts =>
      cases r with
      | cons r rs =>
        obtain ⟨a, rfl, ha⟩ := t
        obtain rfl : v = Value.ref a := r
        obtain ⟨_, its2, r2, p⟩ := ok a _ ha
        exact PySem.W.HoldAll.cons (PySem.W.holds_tup p (by rw [List.toList_toArray]; exact hold_ints r2)) (hold_tups ok ts rs)
/-- the order of tuples of whole numbers -/
abbrev ltL (a b : List Int) : Bool := PySem.W.listLt a b
theorem ltL_irrefl : ∀ a : List Int, ltL a a = false
  | [] => rfl
  | x :: xs => by
    show (if x = x then PySem.W.listLt xs xs else PySem.W.DatumOrd.lt x x) = false
    rw [if_pos rfl]
    exact ltL_irrefl xs
theorem ltL_cons {x y : Int} {xs ys : List Int} : ltL (x :: xs) (y :: ys) = true ↔ x < y ∨ x = y ∧ ltL xs ys = true := by
  show (if x = y then PySem.W.listLt xs ys else decide (x < y)) = true ↔ _
  by_cases e : x = y
  · rw [if_pos e]
    constructor
    · exact fun h => .inr ⟨e, h⟩
    · rintro (h | ⟨_, h⟩)
      · omega
      · exact h
  · rw [if_neg e, decide_eq_true_eq]
    constructor
    · exact .inl
    · rintro (h | ⟨h, _⟩)
      · exact h
      · exact absurd h e
theorem ltL_trans : ∀ {a b c : List Int}, ltL a b = true → ltL b c = true → ltL a c = true
  | [], [], _, h, _ => by cases h
  | _ :: _, [], _, h, _ => by cases h
  | _, _ :: _, [], _, h => by cases h
  | [], _ :: _, _ :: _, _, _ => rfl
  | x :: xs, y :: ys, z :: zs, h, g => by
    rw [ltL_cons] at h g ⊢
    rcases h with h | ⟨rfl, h⟩
    · rcases g with g | ⟨rfl, _⟩
      · exact .inl (by omega)
      · exact .inl h
    · rcases g with g | ⟨rfl, g⟩
      · exact .inl g
      · exact .inr ⟨rfl, ltL_trans h g⟩
theorem ltL_total : ∀ {a b : List Int}, ltL a b = false → ltL b a = false → a = b
  | [], [], _, _ => rfl
  | [], _ :: _, h, _ => by cases h
  | _ :: _, [], _, h => by cases h
  | x :: xs, y :: ys, h, g => by
    have h' : ¬ (x < y ∨ x = y ∧ ltL xs ys = true) := fun z => by rw [ltL_cons.mpr z] at h; cases h
    have g' : ¬ (y < x ∨ y = x ∧ ltL ys xs = true) := fun z => by rw [ltL_cons.mpr z] at g; cases g
    have e : x = y := by omega
    subst e
    have e2 := ltL_total (Bool.eq_false_iff.mpr fun z => h' (.inr ⟨rfl, z⟩)) (Bool.eq_false_iff.mpr fun z => g' (.inr ⟨rfl, z⟩))
    rw [e2]
theorem minOf_spec (y : List Int) : ∀ (ys : List (List Int)), (PySem.W.minOf (PySem.W.Tup.mk y) (ys.map PySem.W.Tup.mk)).items ∈ y :: ys ∧ ∀ z ∈ y :: ys, ltL z (PySem.W.minOf (PySem.W.Tup.mk y) (ys.map PySem.W.Tup.mk)).items = false := by
  intro ys
  induction ys generalizing y with
  | nil =>
    refine ⟨List.mem_cons_self, fun z hz => ?_⟩
    obtain rfl := List.mem_singleton.mp hz
    exact ltL_irrefl _
  | cons z ys ih =>
    have step : PySem.W.minOf (PySem.W.Tup.mk y) ((z :: ys).map PySem.W.Tup.mk) = PySem.W.minOf (if ltL z y = true then PySem.W.Tup.mk z else PySem.W.Tup.mk y) (ys.map PySem.W.Tup.mk) := rfl
    rw [step]
    by_cases c : ltL z y = true
    · rw [if_pos c]
      obtain ⟨h1, h2⟩ := ih z
      refine ⟨List.mem_cons_of_mem _ h1, fun x hx => ?_⟩
      rcases List.mem_cons.mp hx with rfl | hx
      · refine Bool.eq_false_iff.mpr fun e => ?_
        have := h2 z List.mem_cons_self
        rw [ltL_trans c e] at this
        cases this
      · exact h2 x hx
    · rw [if_neg c]
      obtain ⟨h1, h2⟩ := ih y
      refine ⟨?_, fun x hx => ?_⟩
      · rcases List.mem_cons.mp h1 with e | h1
        · rw [e]
          exact List.mem_cons_self
        · exact List.mem_cons_of_mem _ (List.mem_cons_of_mem _ h1)
      · rcases List.mem_cons.mp hx with rfl | hx
        · exact h2 x List.mem_cons_self
        · rcases List.mem_cons.mp hx with rfl | hx
          · have c' : ltL x y = false := Bool.eq_false_iff.mpr c
            have h3 := h2 y List.mem_cons_self
            refine Bool.eq_false_iff.mpr fun e => ?_
            by_cases c2 : ltL y x = true
            · rw [ltL_trans c2 e] at h3
              cases h3
            · have := ltL_total c' (Bool.eq_false_iff.mpr c2)
              rw [this, h3] at e
              cases e
          · exact h2 x (List.mem_cons_of_mem _ hx)
/-- the least of the tuples: x, the one with the numbers k -/
def LeastT (xs : List V) (ks : List (List Int)) (x : V) (k : List Int) : Prop := (∃ i : Nat, xs[i]? = some x ∧ ks[i]? = some k) ∧ ∀ z ∈ ks, ltL z k = false
section
variable {X : Cx}
def rMinTD (K : PySem.W.Frag) : List V → List V → Hp → VK → Prop := fun vs zs H Q => ∃ (a : Addr) (xs : List V) (ks : List (List Int)) (d : V), vs = [V.ref a] ∧ zs = [d] ∧ SqL K H a xs ∧ TupsI H xs ks ∧ (xs = [] → Q d H) ∧ ∀ x k, LeastT xs ks x k → Q x H
theorem cr_minTD (hc : X.calm = true) (hu : X.A.units + 64 < cLine) : CallRK X (.builtin "min") [Str.ofString "default"] (rMinTD X.K) := by
  intro pins s σ H vs zs us ws Q I r rz h
  obtain ⟨a, xs, ks, d, rfl, rfl, hs, ht, q0, q⟩ := h
  obtain ⟨its, rv, hl, _⟩ := I.list hs
  obtain rfl := Vals.ref1 r
  obtain ⟨w1, rfl, e1⟩ := vals1 rz
  have HA := hold_tups I.hok ht rv
  have lk : its.length = ks.length := by
    have := HA.length
    rw [List.length_map] at this
    exact this
  refine PySem.W.min_list_datum_default (xs := ks.map PySem.W.Tup.mk) (I.ok.hd hc) hl.isList (by rw [List.toList_toArray]; exact HA) (by show X.A.units + 1 + 1 < cLine; omega) (fun e h' tk hk => ?_) fun y ys i v h' tk e hi hy hk => ?_
  · have e2 : ks = [] := List.map_eq_nil_iff.mp e
    have e3 : xs = [] := by
      have := rv.length
      rw [lk, e2] at this
      exact List.eq_nil_of_length_eq_zero this
    exact ⟨d, H, I.kept hk, e1, q0 e3⟩
  · have hi' : its[i]? = some v := by simpa using hi
    obtain ⟨z, hz, hvz⟩ := HA.at hi'
    have hvz' := hvz.keeps hk
    have em := holds_uniq hvz' hy
    rw [List.getElem?_map] at hz
    cases ek : ks[i]? with
    | none => rw [ek] at hz; cases hz
    | some k =>
      rw [ek] at hz
      obtain rfl : PySem.W.Tup.mk k = z := Option.some.inj hz
      obtain ⟨x, hx, rx⟩ : ∃ x, xs[i]? = some x ∧ RelV x v := by
        have hl : i < xs.length := by rw [rv.length]; exact (List.getElem?_eq_some_iff.mp hi').1
        obtain ⟨u, hu1, hu2⟩ := rv.get (List.getElem?_eq_getElem hl)
        rw [hi'] at hu1
        cases hu1
        exact ⟨_, List.getElem?_eq_getElem hl, hu2⟩
      refine ⟨x, H, I.kept hk, rx, q x k ⟨⟨i, hx, ek⟩, ?_⟩⟩
      cases ks with
      | nil => cases e
      | cons k0 ks0 =>
        rw [List.map_cons] at e
        injection e with e1 e2
        subst e1 e2
        have sp := (minOf_spec k0 ks0).2
        rw [← em] at sp
        exact sp
def rMinT (K : PySem.W.Frag) : List V → Hp → VK → Prop := fun vs H Q => ∃ (a : Addr) (xs : List V) (ks : List (List Int)), vs = [V.ref a] ∧ SqL K H a xs ∧ TupsI H xs ks ∧ 0 < ks.length ∧ ∀ x k, LeastT xs ks x k → Q x H
theorem cr_minT (hc : X.calm = true) (hu : X.A.units + 64 < cLine) : CallR X (.builtin "min") (rMinT X.K) := by
  intro pins s σ H vs us Q I r h
  obtain ⟨a, xs, ks, rfl, hs, ht, ne, q⟩ := h
  obtain ⟨its, rv, hl, _⟩ := I.list hs
  obtain rfl := Vals.ref1 r
  have HA := hold_tups I.hok ht rv
  cases ks with
  | nil => cases ne
  | cons k0 ks0 =>
    refine PySem.W.min_list_datum (x := PySem.W.Tup.mk k0) (xs := ks0.map PySem.W.Tup.mk) (I.ok.hd hc) hl.isList (by rw [List.toList_toArray]; exact HA) (by show X.A.units + 1 + 1 < cLine; omega) fun i v h' tk hi hy hk => ?_
    have hi' : its[i]? = some v := by simpa using hi
    obtain ⟨z, hz, hvz⟩ := HA.at hi'
    have em := holds_uniq (hvz.keeps hk) hy
    rw [List.getElem?_map] at hz
    cases ek : (k0 :: ks0)[i]? with
    | none => rw [ek] at hz; cases hz
    | some k =>
      rw [ek] at hz
      obtain rfl : PySem.W.Tup.mk k = z := Option.some.inj hz
      obtain ⟨x, hx, rx⟩ : ∃ x, xs[i]? = some x ∧ RelV x v := by
        have hl : i < xs.length := by rw [rv.length]; exact (List.getElem?_eq_some_iff.mp hi').1
        obtain ⟨u, hu1, hu2⟩ := rv.get (List.getElem?_eq_getElem hl)
        rw [hi'] at hu1
        cases hu1
        exact ⟨_, List.getElem?_eq_getElem hl, hu2⟩
      refine ⟨x, H, I.kept hk, rx, q x k ⟨⟨i, hx, ek⟩, ?_⟩⟩
      have sp := (minOf_spec k0 ks0).2
      rw [← em] at sp
      exact sp
end
/-! ### walks of any kind, within any reading -/
section
variable {J : It} {n : Nat} {G : Hp → Prop} {Y : Nat → Hp → V → Hp → Prop}
theorem gen_it (w : Walk J n G Y) {B : (Hp → Prop) → V → Hp → Prop} {Qd : Hp → Prop} {H0 : Hp} (Pv : Nat → Hp → Prop) (h0 : Pv 0 H0) (hG : ∀ i H, i ≤ n → Pv i H → G H)
    (hs : ∀ i x H H', i < n → Pv i H → Y i H x H' → B (Pv (i + 1)) x H') (hd : ∀ H, Pv n H → Qd H) :
    ∃ W : Nat → Nat → Hp → Prop, (∃ m, W 0 m H0) ∧ ∀ i m H, W i m H → (J.stop i H ∧ Qd H) ∨ (J.go i H ∧ ∃ Nx : Hp → Prop, (∀ H', Nx H' → ∃ m', m' < m ∧ W (i + 1) m' H') ∧ ∀ x H', J.yld i H x H' → B Nx x H') := by
  refine ⟨fun i m H => m = n - i ∧ i ≤ n ∧ Pv i H, ⟨n, by simp, Nat.zero_le _, h0⟩, ?_⟩
  rintro i m H ⟨rfl, hi, p⟩
  have q := hG i H hi p
  by_cases hlt : i < n
  · refine .inr ⟨w.goes i H hlt q, Pv (i + 1), fun H' p' => ⟨n - (i + 1), by omega, rfl, hlt, p'⟩, fun x H' y => hs i x H H' hlt p (w.yields i H x H' hlt q y)⟩
  · have e : i = n := by omega
    subst e
    exact .inl ⟨w.stops H q, hd H p⟩
end
theorem walk_range0 {n : Nat} : Walk (Itr 0 n) n (fun _ => True) (YFn fun i => .int (i : Nat)) := by
  have h := walk_range (lo := 0) (n := n)
  simp only [Int.zero_add] at h
  exact h
/-- while, by an invariant that bears its own measure -/
theorem while_ex {c : TT} {tb : TS} {D : Ends} {σ : L2.St} {H : Hp} (Pv : Nat → L2.St → Hp → Prop) (m0 : Nat) (h0 : Pv m0 σ H)
    (hs : ∀ m σ H, Pv m σ H → c σ H fun b H1 => if b = true then tb { D with nx := fun σ' H' => ∃ m', m' < m ∧ Pv m' σ' H', ct := fun σ' H' => ∃ m', m' < m ∧ Pv m' σ' H', bk := D.nx } σ H1 else D.nx σ H1)
    (mono : ∀ σ H Q Q', (∀ b H1, Q b H1 → Q' b H1) → c σ H Q → c σ H Q') : tWhile c tb D σ H := by
  refine ⟨Pv, ⟨m0, h0⟩, ?_⟩
  intro m σ H p
  refine mono σ H _ _ (fun b H1 q => ?_) (hs m σ H p)
  cases b with
  | true => exact ⟨_, fun σ' H' h => h, q⟩
  | false => exact q
end Ur
/-! HA: histories: _block, and the lambda that calls it. -/
namespace Ur
open PySem PySem.Spec PyProof.Rows L2
/-- the numbers of a list of painters -/
def nQ (qs : List Quad) (i : Nat) : Str := match qs[i]? with | some x => x.1 | none => ""
def dQ (qs : List Quad) (i : Nat) : Int := match qs[i]? with | some x => x.2.1 | none => 0
def pQ (qs : List Quad) (i : Nat) : Int := match qs[i]? with | some x => x.2.2.1 | none => 0
def sQ (qs : List Quad) (i : Nat) : Int := match qs[i]? with | some x => x.2.2.2 | none => 0
theorem q_at {qs : List Quad} {i : Nat} {x : Quad} (h : qs[i]? = some x) : nQ qs i = x.1 ∧ dQ qs i = x.2.1 ∧ pQ qs i = x.2.2.1 ∧ sQ qs i = x.2.2.2 := by
  unfold nQ dQ pQ sQ
  rw [h]
  exact ⟨rfl, rfl, rfl, rfl⟩
/-- posts of an endless fence -/
def fSP (qs : List Quad) : SPt := fun i n j m => pQ qs i + n * sQ qs i = pQ qs j + m * sQ qs j
theorem fSP_sy (qs : List Quad) : ∀ i n j m k l, fSP qs i n j m → fSP qs i n k l → fSP qs j m k l := fun i n j m k l h g => h.symm.trans g
theorem two_of {C : Addr} {H : Hp} {x z : Pt} (h : PtAt C H x) (g : PtAt C H z) : Two C H x.a z.a x.nm x.d x.p x.s z.nm z.d z.p z.s := ⟨h.1, g.1, h.2, g.2⟩
/-- the first block of a pair -/
def PairB (d : Nat → Int) (SP : SPt) (i j : Nat) (cnt : Option Int) (r : Option Int) : Prop := Least (PBlk d SP i j cnt) r ∧ ∀ n, r = some n → n ≤ 10 ^ 70
theorem parts_at {L : List Pt} {i : Nat} {x : Pt} (h : L[i]? = some x) : (partsOf L)[i]? = some (x.nm, x.d, x.p, x.s) := by
  unfold partsOf
  rw [List.getElem?_map, h]
  rfl
theorem refs_ix {L : List Pt} {i : Nat} {x : Pt} (h : L[i]? = some x) : (refsOf L)[i]? = some (V.ref x.a) := by
  unfold refsOf
  rw [List.getElem?_map, h]
  rfl
theorem no_self {qs : List Quad} {i : Nat} {x : Quad} (h : qs[i]? = some x) (ns : x.2.2.2 ≠ 0) {cnt : Option Int} {n : Int} : ¬ PBlk (dQ qs) (fSP qs) i i cnt n := by
  rintro ⟨m, m0, e, _, o⟩
  have e : pQ qs i + n * sQ qs i = pQ qs i + m * sQ qs i := e
  have e2 : n * sQ qs i = m * sQ qs i := by omega
  have e3 : n = m := Int.eq_of_mul_eq_mul_right (by rw [(q_at h).2.2.2]; exact ns) e2
  omega
abbrev s__block : Stmt := (topS 40)
abbrev N_sc__block : List Str := ["painters", "place", "other", "count"]
abbrev P__block : List Str := ["painters", "place", "other", "count"]
theorem sc__block : FnScope N_sc__block P__block (defScope s__block) := ⟨rfl, rfl, rfl, by decide +kernel, rfl, by decide +kernel, by decide +kernel⟩
def spBlock (C : Addr) : Sp := fun vs H Q _ => ∃ (t : Addr) (L : List Pt) (i j : Nat) (cnt : Option Int), vs = [.ref t, .int (i : Int), .int (j : Int), optV cnt] ∧ H t = some (.tup (refsOf L)) ∧ Crew C H L ∧ i < L.length ∧ j < L.length ∧ (∀ c, cnt = some c → 0 ≤ c ∧ c ≤ 10 ^ 80) ∧
  ∀ r H', PairB (dQ (partsOf L)) (fSP (partsOf L)) i j cnt r → Same H H' → Q (optV r) H'
section
variable {P : Program} {w : World} {K : PySem.W.Frag} {mg : Str → Option Value} {base : Heap} {C : Addr}
theorem ok_block (D : Dfn K mg "_block" s__block P__block) (B : Blt mg) (CFB : FBC P w K mg base C) : Cal P w K mg base 8 "_block" P__block (spBlock C) := by
  refine D.cal sc__block (fun vs H Q E h => ?_) fun f cdv A outer s H vs Q E hr h => ?_
  · obtain ⟨t, L, i, j, cnt, rfl, _⟩ := h
    rfl
  obtain ⟨t, L, i, j, cnt, rfl, ht, cr, hi, hj, hc, q⟩ := h
  obtain ⟨x, hx⟩ : ∃ x, L[i]? = some x := ⟨_, List.getElem?_eq_getElem hi⟩
  obtain ⟨z, hz⟩ : ∃ z, L[j]? = some z := ⟨_, List.getElem?_eq_getElem hj⟩
  have ax := cr.at_ x (List.mem_of_getElem? hx)
  have az := cr.at_ z (List.mem_of_getElem? hz)
  refine ⟨_, (pss_cons (ps_if (pt_cmpR op_eq (pv 1) (pv 2) (nomark _)) (pss_one (ps_ret pe_non)) pss_nil) (pss_one (ps_ret (pe_fbCE CFB (hr.mono (by decide)) (pa_cons (pe_ix (show IxR _ (rIxT K) from ix_tup) (pv 0) (pv 1) (fun _ _ => rfl)) (pa_cons (pe_ix (show IxR _ (rIxT K) from ix_tup) (pv 0) (pv 2) (fun _ _ => rfl)) pa_nil)) (pk_cons (pv 3) (pk_cons (pe_cmpR op_lt (pv 2) (pv 1) (nomark _)) pk_nil)))))), ?_⟩
  refine ⟨_, rfl, _, rfl, rfl, _, rfl, ?_⟩
  by_cases e : i = j
  · subst e
    refine iteDT rfl (q none H ⟨fun n _ => no_self (parts_at hx) ax.2.sn, fun n z => by cases z⟩ (Same.refl _))
  · refine iteDF (fun z => e (by have := V.int.inj z; omega)) ?_
    refine ⟨_, rfl, _, rfl, t, _, _, _, rfl, rfl, SqT.of ht, atI_nat (refs_ix hx), _, rfl, _, rfl, t, _, _, _, rfl, rfl, SqT.of ht, atI_nat (refs_ix hz), _, rfl, _, rfl, _, rfl, _, _, rfl, rfl, rfl, rfl, ?_⟩
    refine ⟨x.a, z.a, x.nm, x.d, x.p, x.s, z.nm, z.d, z.p, z.s, cnt, decide ((j : Int) < (i : Int)), rfl, two_of ax az, hc, fun r H' le bd sm => q r H' ⟨?_, fun n en => bd n en⟩ sm⟩
    obtain ⟨_, d1, d2, d3⟩ := q_at (parts_at hx)
    obtain ⟨_, d4, d5, d6⟩ := q_at (parts_at hz)
    refine le.congr fun n n0 => ?_
    unfold Blk PBlk fSP
    rw [d1, d2, d3, d4, d5, d6]
    constructor
    · rintro ⟨m, m0, e, pj, o⟩
      exact ⟨m, m0, e, pj, o.imp id fun q => ⟨q.2, by have := of_decide_eq_true q.1; omega⟩⟩
    · rintro ⟨m, m0, e, pj, o⟩
      exact ⟨m, m0, e, pj, o.imp id fun q => ⟨decide_eq_true (by omega), q.1⟩⟩
end
/-! ### the lambda -/
abbrev s__rows_of : Stmt := (topS 39)
abbrev N_sc__rows_of : List Str := ["fence", "painters"]
abbrev P__rows_of : List Str := ["fence"]
theorem sc__rows_of : FnScope N_sc__rows_of P__rows_of (defScope s__rows_of) := ⟨rfl, rfl, rfl, by decide +kernel, rfl, by decide +kernel, by decide +kernel⟩
def lamP : Expr → Arguments
  | .Lambda p _ _ _ => p
  | _ => default
def lamB : Expr → Expr
  | .Lambda _ b _ _ => b
  | e => e
def lamS : Expr → Scope
  | .Lambda _ _ s _ => s
  | _ => { kind := .function, names := [], isGenerator := false, isCoroutine := false }
def argLast : Expr → Expr
  | .Call _ es _ _ => es.getLast?.getD (.Constant .none 0 ⟨0, 0, 0, 0⟩)
  | e => e
def retE : List Stmt → Expr
  | [_, .Return (some e) _] => argLast e
  | _ => .Constant .none 0 ⟨0, 0, 0, 0⟩
/-- the lambda of _rows_of -/
abbrev rLam : Expr := retE (defBody s__rows_of)
def isRL (F : LF) : Prop := F.params = lamP rLam ∧ F.body = lamB rLam ∧ F.scope = lamS rLam
abbrev N_rl : List Str := ["place", "other", "count", "painters"]
abbrev P_rl : List Str := ["place", "other", "count"]
theorem rl_scope : NdefX.NScope N_rl P_rl ["painters"] (lamS rLam) := NdefX.nscope_by (by decide +kernel)
/-- block(place, other, count), by the lambda that stands at f -/
def spBlk (C f : Addr) : Sp := fun vs H Q _ => ∃ (F : LF) (cp : Addr) (oc : Obj) (t : Addr) (L : List Pt) (i j : Nat) (cnt : Option Int), isRL F ∧ LamH H f F "painters" cp oc (.ref t) ∧ vs = [.int (i : Int), .int (j : Int), optV cnt] ∧ H t = some (.tup (refsOf L)) ∧ Crew C H L ∧ i < L.length ∧ j < L.length ∧
  (∀ c, cnt = some c → 0 ≤ c ∧ c ≤ 10 ^ 80) ∧ ∀ r H', PairB (dQ (partsOf L)) (fSP (partsOf L)) i j cnt r → Same H H' → Q (optV r) H'
theorem Crew.del {C c : Addr} {H : Hp} {L : List Pt} {oc : Obj} {x : HO} (h : Crew C H L) (hc : H c = some (.frz oc x)) : Crew C (del H c) L :=
  ⟨fun y hy => let ⟨⟨dx, e⟩, z⟩ := h.at_ y hy; ⟨⟨dx, by rw [del_ne (ne_of e hc (by intro z; cases z))]; exact e⟩, z⟩, h.nd, h.few⟩
def spRL (C : Addr) : V → Sp := fun v vs H Q _ => ∃ (t : Addr) (L : List Pt) (i j : Nat) (cnt : Option Int), v = .ref t ∧ vs = [.int (i : Int), .int (j : Int), optV cnt] ∧ H t = some (.tup (refsOf L)) ∧ Crew C H L ∧ i < L.length ∧ j < L.length ∧
  (∀ c, cnt = some c → 0 ≤ c ∧ c ≤ 10 ^ 80) ∧ ∀ r H', PairB (dQ (partsOf L)) (fSP (partsOf L)) i j cnt r → Same H H' → Q (optV r) H'
section
variable {P : Program} {w : World} {K : PySem.W.Frag} {mg : Str → Option Value} {base : Heap} {C : Addr}
theorem ok_rl (CBk : Cal P w K mg base 8 "_block" P__block (spBlock C)) (f : Addr) : LOk P w K mg base 10 3 f (spBlk C f) := by
  have one : ∀ F : LF, isRL F → LOk P w K mg base 10 3 f (spLam f F "painters" (spRL C)) := by
    rintro ⟨q, pa, b, sc, cl, c⟩ ⟨e1, e2, e3⟩
    simp only at e1 e2 e3
    subst e1 e2 e3
    refine lok_of (N := N_rl) (ps := P_rl) (k := 9) rl_scope (fun pm ctv us hl => match us, hl with | [_, _, _], _ => rfl) (fun v vs H Q E h => ?_) fun A outer s H v vs Q E hr h => ?_
    · obtain ⟨_, _, _, _, _, _, rfl, _⟩ := h
      rfl
    obtain ⟨t, L, i, j, cnt, rfl, rfl, ht, cr, hi, hj, hc, q⟩ := h
    refine ⟨_, show PE _ (lamB rLam) _ from pe_cal CBk (hr.mono (by decide)) (pa_cons (pv 3) (pa_cons (pv 0) (pa_cons (pv 1) (pa_cons (pv 2) pa_nil)))), ?_⟩
    exact ⟨_, rfl, _, rfl, _, rfl, _, rfl, t, L, i, j, cnt, rfl, ht, cr, hi, hj, hc, q⟩
  refine ⟨fun vs H Q E h => ?_, fun A outer s H us vs Q hr e0 r h => ?_⟩
  · obtain ⟨_, _, _, _, _, _, _, _, _, _, rfl, _⟩ := h
    rfl
  obtain ⟨F, cp, oc, t, L, i, j, cnt, rl, lh, rfl, ht, cr, hi, hj, hc, q⟩ := h
  have hcp := lh.2.2.2
  refine (one F rl).run A outer s H us _ Q hr e0 r ⟨cp, oc, .ref t, lh, t, L, i, j, cnt, rfl, rfl, ?_, cr.del hcp, hi, hj, hc, fun r H' pb sm => q r _ pb (same_del hcp sm)⟩
  rw [del_ne (ne_of ht hcp (by intro z; cases z))]
  exact ht
end
end Ur
/-! HB: histories: _earliest_block. -/
namespace Ur
open PySem PySem.Spec PyProof.Rows L2
/-- the numbers of first blocks, by rows -/
def Rm (Rs : List (List (Option Int))) (i j : Nat) : Option Int := match Rs[i]? with | some r => (match r[j]? with | some x => x | none => none) | none => none
theorem Rm_at {Rs : List (List (Option Int))} {i j : Nat} {r : List (Option Int)} {x : Option Int} (h : Rs[i]? = some r) (g : r[j]? = some x) : Rm Rs i j = x := by
  unfold Rm
  rw [h]
  show (match r[j]? with | some x => x | none => none) = x
  rw [g]
structure MatAt (N : Nat) (H : Hp) (as : List Addr) (Rs : List (List (Option Int))) : Prop where
  al : as.length = N
  rl : Rs.length = N
  nd : as.Nodup
  row : ∀ (i : Nat) (a : Addr) (r : List (Option Int)), as[i]? = some a → Rs[i]? = some r → H a = some (.lst (r.map optV)) ∧ r.length = N
theorem MatAt.same {N : Nat} {H H' : Hp} {as : List Addr} {Rs : List (List (Option Int))} (h : MatAt N H as Rs) (s : Same H H') : MatAt N H' as Rs := ⟨h.al, h.rl, h.nd, fun i a r e1 e2 => ⟨s _ _ (h.row i a r e1 e2).1, (h.row i a r e1 e2).2⟩⟩
/-- the dict tells who is known to stop -/
def Known (kvs : List (Key × V)) (N : Nat) (Cn : Nat → Option Int) : Prop := ∀ i, i < N → (valV kvs (Sum.inl (i : Int) : Key)).isSome = (Cn i).isSome
/-- the entries of a part of the pairs -/
structure Ent (d : Nat → Int) (Cn : Nat → Option Int) (Rs : List (List (Option Int))) (S : Nat → Nat → Prop) (ks : List (List Int)) : Prop where
  snd : ∀ e ∈ ks, ∃ (k l : Nat) (x : Int), S k l ∧ Cn k = none ∧ Rm Rs k l = some x ∧ e = [d k + x, (k : Int), x, (l : Int)]
  cpl : ∀ (k l : Nat) (x : Int), S k l → Cn k = none → Rm Rs k l = some x → [d k + x, (k : Int), x, (l : Int)] ∈ ks
theorem Ent.imp {d : Nat → Int} {Cn : Nat → Option Int} {Rs : List (List (Option Int))} {S S' : Nat → Nat → Prop} {ks : List (List Int)} (h : Ent d Cn Rs S ks) (f : ∀ k l, S k l → S' k l) (g : ∀ k l, S' k l → S k l ∨ Cn k ≠ none ∨ Rm Rs k l = none) : Ent d Cn Rs S' ks :=
  ⟨fun e he => let ⟨k, l, x, a, b⟩ := h.snd e he; ⟨k, l, x, f k l a, b⟩, fun k l x s c e => by
    rcases g k l s with z | z | z
    · exact h.cpl k l x z c e
    · exact absurd c z
    · rw [z] at e
      cases e⟩
theorem Ent.snoc {d : Nat → Int} {Cn : Nat → Option Int} {Rs : List (List (Option Int))} {S S' : Nat → Nat → Prop} {ks : List (List Int)} {i j : Nat} {c : Int} (h : Ent d Cn Rs S ks) (ni : Cn i = none) (e : Rm Rs i j = some c) (s : S' i j) (f : ∀ k l, S k l → S' k l) (g : ∀ k l, S' k l → S k l ∨ k = i ∧ l = j) : Ent d Cn Rs S' (ks ++ [[d i + c, (i : Int), c, (j : Int)]]) :=
  ⟨fun z hz => by
    rcases List.mem_append.mp hz with hz | hz
    · obtain ⟨k, l, x, a, b⟩ := h.snd z hz
      exact ⟨k, l, x, f k l a, b⟩
    · obtain rfl := List.mem_singleton.mp hz
      exact ⟨i, j, c, s, ni, e, rfl⟩, fun k l x sk nk ek => by
    rcases g k l sk with z | ⟨rfl, rfl⟩
    · exact List.mem_append_left _ (h.cpl k l x z nk ek)
    · rw [e] at ek
      obtain rfl := Option.some.inj ek
      exact List.mem_append_right _ List.mem_cons_self⟩
theorem TupsI.same {H H' : Hp} {xs : List V} {ks : List (List Int)} (h : TupsI H xs ks) (s : Same H H') : TupsI H' xs ks := Paired.mapP h fun x k ⟨t, e, ht⟩ => ⟨t, e, s _ _ ht⟩
theorem paired_snoc {α β : Type} {F : α → β → Prop} : ∀ {xs : List α} {ys : List β} {x : α} {y : β}, Paired F xs ys → F x y → Paired F (xs ++ [x]) (ys ++ [y])
  | _, _, _, _, .nil, h => .cons h .nil
  | _, _, _, _, .cons r t, h => .cons r (paired_snoc t h)
theorem TupsI.updL {H : Hp} {D : Addr} {xs ys zs : List V} {ks : List (List Int)} (h : TupsI H xs ks) (hD : H D = some (.lst ys)) : TupsI (upd H D (.lst zs)) xs ks := Paired.mapP h fun x k ⟨t, e, ht⟩ => ⟨t, e, by rw [upd_ne (ne_of ht hD (by intro z; cases z))]; exact ht⟩
abbrev s__earliest_block : Stmt := (topS 5)
abbrev N_sc__earliest_block : List Str := ["painters", "blocks", "stopped", "found", "place", "row", "other", "count"]
abbrev P__earliest_block : List Str := ["painters", "blocks", "stopped"]
theorem sc__earliest_block : FnScope N_sc__earliest_block P__earliest_block (defScope s__earliest_block) := ⟨rfl, rfl, rfl, by decide +kernel, rfl, by decide +kernel, by decide +kernel⟩
/-- what the first block of all is -/
def FirstB (N : Nat) (d : Nat → Int) (Cn : Nat → Option Int) (R : Nat → Nat → Option Int) (v : V) (H : Hp) : Prop :=
  (v = .non ∧ ∀ k l, k < N → l < N → Cn k = none → R k l = none) ∨ ∃ (r : Addr) (i j : Nat) (c : Int), v = .ref r ∧ H r = some (.tup [.int (d i + c), .int (i : Int), .int c, .int (j : Int)]) ∧ i < N ∧ j < N ∧ Cn i = none ∧ R i j = some c ∧
    ∀ k l x, k < N → l < N → Cn k = none → R k l = some x → ¬ KLt (kOf d k x) (kOf d i c)
def spEB (C : Addr) : Sp := fun vs H Q _ => ∃ (t bl sd : Addr) (L : List Pt) (as : List Addr) (Rs : List (List (Option Int))) (kvs : List (Key × V)) (Cn : Nat → Option Int), vs = [.ref t, .ref bl, .ref sd] ∧ H t = some (.tup (refsOf L)) ∧ Crew C H L ∧ H bl = some (.lst (as.map V.ref)) ∧ MatAt L.length H as Rs ∧
  H sd = some (.dK kvs) ∧ Known kvs L.length Cn ∧ ∀ v H', Same H H' → FirstB L.length (dQ (partsOf L)) Cn (Rm Rs) v H' → Q v H'
section
variable {P : Program} {w : World} {K : PySem.W.Frag} {mg : Str → Option Value} {base : Heap} {C : Addr}
set_option maxHeartbeats 16000000 in
theorem ok_eb (D : Dfn K mg "_earliest_block" s__earliest_block P__earliest_block) (B : Blt mg) (hEn : mg "enumerate" = none) (T : PTxt K mg C) (hDay : PropS P w K mg base C "day" 1 (getSp C "_day")) : Cal P w K mg base 3 "_earliest_block" P__earliest_block (spEB C) := by
  refine D.cal sc__earliest_block (fun vs H Q E h => ?_) fun f cdv A outer s H vs Q E hr h => ?_
  · obtain ⟨t, bl, sd, _, _, _, _, _, rfl, _⟩ := h
    rfl
  obtain ⟨t, bl, sd, L, as, Rs, kvs, Cn, rfl, ht, cr, hbl, M, hsd, kn, q⟩ := h
  have hu := hu_of hr
  have hu64 := hr.units
  have few := cr.few
  refine ⟨_, (pss_cons (ps_setLc2 (i := 3) (own := [("place", 4), ("row", 5), ("other", 6), ("count", 7)]) (vs1 := [6, 7]) (g := gTup K 2 (gCons (gName 4) (gCons (gName 5) gNil))) (g1 := gTup K 2 (gCons (gName 6) (gCons (gName 7) gNil))) rfl sc__earliest_block.nd rfl rfl (sw_true rfl rfl rfl (by decide +kernel)) (pi_enum rfl hEn (pa_cons (pv 1) pa_nil)) (blkOk_by (N := N_sc__earliest_block) (sc := defScope s__earliest_block) (by decide +kernel)) (by decide) (fun _ _ _ _ _ => pg_tup rfl (pgs_cons (pg_name (i := 4) sc__earliest_block.nd rfl (Or.inl rfl)) (pgs_cons (pg_name (i := 5) sc__earliest_block.nd rfl (Or.inl rfl)) pgs_nil))) (fun _ _ _ _ _ => pts_one (pt_cmp (pc_dnotin hu (pv 4) (pv 2)))) (fun _ _ _ _ _ => (show PI _ _ _ (iEnum K (tCons (tVar 5) tNil)) from pi_enum rfl hEn (pa_cons (pv 5) pa_nil))) (fun _ _ _ _ _ => pg_tup rfl (pgs_cons (pg_name (i := 6) sc__earliest_block.nd rfl (Or.inl rfl)) (pgs_cons (pg_name (i := 7) sc__earliest_block.nd rfl (Or.inl rfl)) pgs_nil))) (fun _ _ _ _ _ => pts_one (pt_cmpR op_notN (pv 7) pe_non (nomark _))) (fun _ _ _ _ _ => pe_tup (pa_cons (pe_op op_add (pe_prS (pe_ix (show IxR _ (rIxT K) from ix_tup) (pv 0) (pv 4) (fun _ _ => rfl)) T.cl hDay (hr.mono (by decide))) (pv 7)) (pa_cons (pv 4) (pa_cons (pv 7) (pa_cons (pv 6) pa_nil)))))) (pss_one (ps_ret (pe_callBK (cr_minTD rfl hu64) rfl B.min_ (by decide +kernel) (pa_cons (pv 3) pa_nil) (pk_cons pe_non pk_nil))))), ?_⟩
  have al : (as.map V.ref).length = L.length := by rw [List.length_map, M.al]
  refine ⟨_, rfl, bl, _, rfl, SqL.of hbl, fun D nD => ?_⟩
  refine gen_it walk_enum (fun i H1 => ∃ (xs : List V) (ks : List (List Int)), H1 D = some (.lst xs) ∧ TupsI H1 xs ks ∧ Ent (dQ (partsOf L)) Cn Rs (fun k l => k < i ∧ l < L.length) ks ∧ xs.length ≤ 40 * i ∧ Same H H1) ⟨[], [], upd_same, .nil, ⟨(fun e h => nomatch h), fun k l x s => by omega⟩, Nat.zero_le _, same_new nD _⟩ (fun i H1 _ ⟨_, _, _, _, _, _, s1⟩ => SqL.of (s1 _ _ hbl)) ?_ ?_
  · rintro i v H1 H2 hi ⟨xs, ks, hD1, tu, en, lx, s1⟩ ⟨T0, y1, y2, rfl, hT, rfl, e1, e2⟩
    obtain rfl := Option.some.inj e1
    obtain ⟨a, ha, rfl⟩ := map_get e2
    have hiN : i < L.length := by rw [← al]; exact hi
    obtain ⟨r, hR⟩ : ∃ r, Rs[i]? = some r := ⟨_, List.getElem?_eq_getElem (by rw [M.rl]; exact hiN)⟩
    obtain ⟨x, hx⟩ : ∃ x, L[i]? = some x := ⟨_, List.getElem?_eq_getElem hiN⟩
    obtain ⟨hrow, rlen⟩ := M.row i a r ha hR
    have sT := same_new hT (.tup [V.int (i : Int), V.ref a])
    have s2 := s1.trans sT
    have hD2 := sT _ _ hD1
    refine ⟨T0, _, rfl, .inl (.inl upd_same), rfl, _, _, rfl, _, _, rfl, rfl, ?_⟩
    refine ⟨rfl, _, rfl, _, rfl, sd, _, rfl, DGet.k (k := (Sum.inl (i : Int) : Key)) (s2 _ _ hsd), _, rfl, ?_⟩
    have kni := kn i hiN
    cases ec : Cn i with
    | some c =>
      rw [ec] at kni
      cases ev : valV kvs (Sum.inl (i : Int) : Key) with
      | none => rw [ev] at kni; cases kni
      | some z =>
        refine iteF ?_
        refine ⟨xs, ks, hD2, tu.same sT, en.imp (fun k l h => ⟨by omega, h.2⟩) (fun k l h => ?_), by omega, s2⟩
        by_cases e : k = i
        · exact .inr (.inl (by rw [e, ec]; intro z; cases z))
        · exact .inl ⟨by omega, h.2⟩
    | none =>
      rw [ec] at kni
      cases ev : valV kvs (Sum.inl (i : Int) : Key) with
      | some z => rw [ev] at kni; cases kni
      | none =>
        refine iteT ?_
        have hrow2 := s2 _ _ hrow
        have rl : (r.map optV).length = L.length := by rw [List.length_map, rlen]
        refine ⟨_, rfl, a, _, rfl, SqL.of hrow2, ?_⟩
        refine gen_it walk_enum (fun j H3 => ∃ (xs : List V) (ks : List (List Int)), H3 D = some (.lst xs) ∧ TupsI H3 xs ks ∧ Ent (dQ (partsOf L)) Cn Rs (fun k l => (k < i ∧ l < L.length) ∨ k = i ∧ l < j) ks ∧ xs.length ≤ 40 * i + j ∧ Same H H3) ⟨xs, ks, hD2, tu.same sT, en.imp (fun k l h => .inl h) (fun k l h => by
          rcases h with h | h
          · exact .inl h
          · omega), by omega, s2⟩ (fun j H3 _ ⟨_, _, _, _, _, _, s3⟩ => SqL.of (s3 _ _ hrow)) ?_ ?_
        · rintro j v H3 H4 hj ⟨xs, ks, hD3, tu, en, lx, s3⟩ ⟨T1, z1, z2, rfl, hT1, rfl, e3, e4⟩
          obtain rfl := Option.some.inj e3
          obtain ⟨ro, hro, rfl⟩ := map_get e4
          have hjN : j < L.length := by rw [← rl]; exact hj
          have eR := Rm_at hR hro
          have sT1 := same_new hT1 (.tup [V.int (j : Int), optV ro])
          have s4 := s3.trans sT1
          refine ⟨T1, _, rfl, .inl (.inl upd_same), rfl, _, _, rfl, _, _, rfl, rfl, ?_⟩
          refine ⟨rfl, _, rfl, rfl, _, rfl, ?_⟩
          cases ro with
          | none =>
            refine iteNS rfl ?_
            refine ⟨xs, ks, sT1 _ _ hD3, tu.same sT1, en.imp (fun k l h => h.imp id fun h => ⟨h.1, by omega⟩) (fun k l h => ?_), by omega, s4⟩
            rcases h with h | h
            · exact .inl (.inl h)
            · by_cases e : l = j
              · exact .inr (.inr (by rw [h.1, e]; exact eR))
              · exact .inl (.inr ⟨h.1, by omega⟩)
          | some c =>
            refine iteNN (fun z => by cases z) ?_
            have ax := (cr.at_ x (List.mem_of_getElem? hx)).same s4
            obtain ⟨dx, edx⟩ := id ax.1
            refine ⟨_, rfl, _, rfl, t, _, _, _, rfl, rfl, SqT.of (s4 _ _ ht), atI_nat (refs_ix hx), x.a, dx, _, rfl, edx, x.a, dx, _, _, rfl, edx, pfs_day _ _ _ _, _, rfl, _, _, rfl, rfl, _, rfl, _, rfl, _, rfl, (by show 4 ≤ sizeLine; decide), fun t4 ht4 => ?_⟩
            have sT4 := same_new ht4 (.tup [V.int (x.d + c), V.int (i : Int), V.int c, V.int (j : Int)])
            have hD5 := sT4 _ _ (sT1 _ _ hD3)
            have ed := (q_at (parts_at hx)).2.1
            have en2 := en.snoc (S' := fun k l => (k < i ∧ l < L.length) ∨ k = i ∧ l < j + 1) ec eR (.inr ⟨rfl, by omega⟩) (fun k l h => h.imp id fun h => ⟨h.1, by omega⟩) (fun k l h => by
              rcases h with h | h
              · exact .inl (.inl h)
              · by_cases e : l = j
                · exact .inr ⟨h.1, e⟩
                · exact .inl (.inr ⟨h.1, by omega⟩))
            refine ⟨xs, hD5, Nat.lt_of_le_of_lt (show xs.length ≤ 1640 by omega) (by decide), xs ++ [.ref t4], _, upd_same, paired_snoc ((tu.same (sT1.trans sT4)).updL hD5) ⟨t4, rfl, ?_⟩, en2, by rw [List.length_append]; show xs.length + 1 ≤ _; omega, sameAt (s4.trans sT4) nD⟩
            rw [upd_ne (ne_of upd_same hD5 (by intro z; cases z)), upd_same, ed]
            rfl
        · rintro H3 ⟨xs, ks, hD3, tu, en, lx, s3⟩
          rw [rl] at en lx
          refine ⟨xs, ks, hD3, tu, en.imp (fun k l h => ?_) (fun k l h => ?_), by omega, s3⟩
          · rcases h with h | h
            · exact ⟨by omega, h.2⟩
            · exact ⟨by omega, h.2⟩
          · by_cases e : k = i
            · exact .inl (.inr ⟨e, h.2⟩)
            · exact .inl (.inl ⟨by omega, h.2⟩)
  · rintro H1 ⟨xs, ks, hD1, tu, en, lx, s1⟩
    rw [al] at en
    refine ⟨_, rfl, D, xs, ks, .non, rfl, rfl, SqL.of hD1, tu, fun e => q _ _ s1 (.inl ⟨rfl, fun k l hk hl nk => ?_⟩), fun v k lt => ?_⟩
    · subst e
      cases tu
      cases er : Rm Rs k l with
      | none => rfl
      | some x => exact nomatch en.cpl k l x ⟨hk, hl⟩ nk er
    · obtain ⟨⟨n, hx, hk⟩, least⟩ := lt
      obtain ⟨k2, hk2, t4, rfl, ht4⟩ := paired_get tu hx
      rw [hk] at hk2
      obtain rfl := Option.some.inj hk2
      obtain ⟨i, j, c, ⟨hi, hj⟩, ni, er, rfl⟩ := en.snd k (List.mem_of_getElem? hk)
      refine q _ _ s1 (.inr ⟨t4, i, j, c, rfl, ht4, hi, hj, ni, er, fun k l x hk hl nk ek z => ?_⟩)
      have lf := least _ (en.cpl k l x ⟨hk, hl⟩ nk ek)
      have : ltL [dQ (partsOf L) k + x, (k : Int), x, (l : Int)] [dQ (partsOf L) i + c, (i : Int), c, (j : Int)] = true := by
        rw [ltL_cons]
        rcases z with z | ⟨z1, z2⟩
        · exact .inl z
        · refine .inr ⟨z1, ?_⟩
          rw [ltL_cons]
          exact .inl (by have : k < i := z2; omega)
      rw [this] at lf
      cases lf
end
end Ur
/-! HC: histories: _find_stopped. -/
namespace Ur
open PySem PySem.Spec PyProof.Rows L2
theorem ixN_at {n j : Nat} (hj : j < n) : ixN n (j : Int) = some j := by
  unfold ixN
  rw [if_pos (by omega), if_pos (by omega)]
  simp
theorem Rm_set {Rs : List (List (Option Int))} {o p : Nat} {r : List (Option Int)} {v : Option Int} (h : Rs[o]? = some r) (hp : p < r.length) (i l : Nat) : Rm (Rs.set o (r.set p v)) i l = if i = o ∧ l = p then v else Rm Rs i l := by
  have ho : o < Rs.length := (List.getElem?_eq_some_iff.mp h).1
  by_cases e : i = o
  · subst e
    have e1 : (Rs.set i (r.set p v))[i]? = some (r.set p v) := by rw [List.getElem?_set_self ho]
    by_cases e2 : l = p
    · subst e2
      rw [if_pos ⟨rfl, rfl⟩]
      exact Rm_at e1 (by rw [List.getElem?_set_self hp])
    · rw [if_neg (fun z => e2 z.2)]
      unfold Rm
      rw [e1, h]
      show (match (r.set p v)[l]? with | some x => x | none => none) = (match r[l]? with | some x => x | none => none)
      rw [List.getElem?_set_ne (fun z => e2 z.symm)]
  · rw [if_neg (fun z => e z.1)]
    unfold Rm
    rw [List.getElem?_set_ne (fun z => e z.symm)]
theorem MatAt.set {N : Nat} {H : Hp} {as : List Addr} {Rs : List (List (Option Int))} {o p : Nat} {a : Addr} {r : List (Option Int)} {v : Option Int} (h : MatAt N H as Rs) (ha : as[o]? = some a) (hr : Rs[o]? = some r) : MatAt N (upd H a (.lst ((r.map optV).set p (optV v)))) as (Rs.set o (r.set p v)) := by
  have ho : o < Rs.length := (List.getElem?_eq_some_iff.mp hr).1
  refine ⟨h.al, by rw [List.length_set]; exact h.rl, h.nd, fun i b x e1 e2 => ?_⟩
  by_cases e : i = o
  · subst e
    rw [ha] at e1
    obtain rfl := Option.some.inj e1
    rw [List.getElem?_set_self ho] at e2
    obtain rfl := Option.some.inj e2
    rw [upd_same, List.map_set]
    exact ⟨rfl, by rw [List.length_set]; exact (h.row i a r ha hr).2⟩
  · rw [List.getElem?_set_ne (fun z => e z.symm)] at e2
    have ne : b ≠ a := fun z => by
      subst z
      have h1 := (List.getElem?_eq_some_iff.mp e1)
      have h2 := (List.getElem?_eq_some_iff.mp ha)
      exact e ((List.getElem_inj h.nd).mp (h1.2.trans h2.2.symm))
    rw [upd_ne ne]
    exact h.row i b x e1 e2
/-- the dict of those who stop: their counts, their blockers -/
def StopD (H : Hp) (kvs : List (Key × V)) (N : Nat) (Cn : Nat → Option Int) (Bn : Nat → Nat) : Prop := ∀ i, i < N → (Cn i = none ∧ valV kvs (Sum.inl (i : Int) : Key) = none) ∨ ∃ c a, Cn i = some c ∧ valV kvs (Sum.inl (i : Int) : Key) = some (.ref a) ∧ H a = some (.tup [.int c, .int (Bn i : Int)])
theorem StopD.known {H : Hp} {kvs : List (Key × V)} {N : Nat} {Cn : Nat → Option Int} {Bn : Nat → Nat} (h : StopD H kvs N Cn Bn) : Known kvs N Cn := fun i hi => by
  rcases h i hi with ⟨e1, e2⟩ | ⟨c, a, e1, e2, _⟩
  · rw [e1, e2]
    rfl
  · rw [e1, e2]
    rfl
theorem StopD.same {H H' : Hp} {kvs : List (Key × V)} {N : Nat} {Cn : Nat → Option Int} {Bn : Nat → Nat} (h : StopD H kvs N Cn Bn) (s : Same H H') : StopD H' kvs N Cn Bn := fun i hi => (h i hi).imp id fun ⟨c, a, e1, e2, e3⟩ => ⟨c, a, e1, e2, s _ _ e3⟩
theorem StopD.upd {H : Hp} {kvs : List (Key × V)} {N : Nat} {Cn : Nat → Option Int} {Bn : Nat → Nat} {b : Addr} {o o' : HO} (h : StopD H kvs N Cn Bn) (hb : H b = some o) (nt : ∀ xs, o ≠ .tup xs) : StopD (upd H b o') kvs N Cn Bn := fun i hi => (h i hi).imp id fun ⟨c, a, e1, e2, e3⟩ => ⟨c, a, e1, e2, by rw [upd_ne (ne_of e3 hb (fun z => nt _ z.symm))]; exact e3⟩
theorem StopD.put {H : Hp} {kvs : List (Key × V)} {N : Nat} {Cn : Nat → Option Int} {Bn : Nat → Nat} {i j : Nat} {c : Int} {a : Addr} (h : StopD H kvs N Cn Bn) (ha : H a = some (.tup [.int c, .int (j : Int)])) : StopD H (putK kvs (Sum.inl (i : Int)) (.ref a)) N (putC Cn i c) (putB Bn i j) := fun k hk => by
  rw [valV_put]
  by_cases e : k = i
  · subst e
    rw [putC_at, putB_at, if_pos rfl]
    exact .inr ⟨c, a, rfl, rfl, ha⟩
  · rw [putC_ne e, putB_ne e, if_neg (fun z => e (by have := Sum.inl.inj z; omega))]
    exact h k hk
/-- the counts and the blockers of a history, within bounds -/
structure HistC (N : Nat) (d : Nat → Int) (SP : SPt) (Cn : Nat → Option Int) (Bn : Nat → Nat) : Prop where
  is : IsHist N d SP Cn
  bl : Blkr N SP Cn Bn
  bd : ∀ i c, i < N → Cn i = some c → 0 ≤ c ∧ c ≤ 10 ^ 70
/-- what the function block stands on: the heap, its address, the tuple of painters, the painters, the posts -/
abbrev GBl := Hp → Addr → Addr → List Pt → SPt → Prop
def spBk (Gp : GBl) (C f : Addr) : Sp := fun vs H Q _ => ∃ (t : Addr) (L : List Pt) (SP : SPt) (i j : Nat) (cnt : Option Int), Gp H f t L SP ∧ vs = [.int (i : Int), .int (j : Int), optV cnt] ∧ H t = some (.tup (refsOf L)) ∧ Crew C H L ∧ i < L.length ∧ j < L.length ∧ (∀ c, cnt = some c → 0 ≤ c ∧ c ≤ 10 ^ 80) ∧
  ∀ r H', PairB (dQ (partsOf L)) SP i j cnt r → Same H H' → Q (optV r) H'
structure GOk (Gp : GBl) : Prop where
  same : ∀ H H' f t L SP, Same H H' → Gp H f t L SP → Gp H' f t L SP
  lam : ∀ H f t L SP, Gp H f t L SP → ∃ F, H f = some (LamO f F)
abbrev s__find_stopped : Stmt := (topS 4)
abbrev N_sc__find_stopped : List Str := ["painters", "block", "places", "blocks", "two", "one", "stopped", "found", "_", "place", "count", "blocker", "other"]
abbrev P__find_stopped : List Str := ["painters", "block"]
theorem sc__find_stopped : FnScope N_sc__find_stopped P__find_stopped (defScope s__find_stopped) := ⟨rfl, rfl, rfl, by decide +kernel, rfl, by decide +kernel, by decide +kernel⟩
def stE : Stmt → Expr
  | .Assign _ e _ => e
  | _ => .Constant .none 0 ⟨0, 0, 0, 0⟩
def lcSc : Expr → Scope
  | .ListComp _ _ s _ => s
  | _ => { kind := .function, names := [], isGenerator := false, isCoroutine := false }
def nth1 : List Stmt → Stmt
  | _ :: s :: _ => s
  | _ => .Pass ⟨0, 0, 0, 0⟩
abbrev fsSc : Scope := lcSc (stE (nth1 (defBody s__find_stopped)))
def spFS (Gp : GBl) (C : Addr) : Sp := fun vs H Q _ => ∃ (t f : Addr) (L : List Pt) (SP : SPt), vs = [.ref t, .ref f] ∧ H t = some (.tup (refsOf L)) ∧ Crew C H L ∧ Gp H f t L SP ∧
  ∀ sd kvs Cn Bn H', H' sd = some (.dK kvs) → StopD H' kvs L.length Cn Bn → HistC L.length (dQ (partsOf L)) SP Cn Bn → Same H H' → Q (.ref sd) H'
theorem crew_d0 {C : Addr} {H : Hp} {L : List Pt} (cr : Crew C H L) {i : Nat} (hi : i < L.length) : 0 ≤ dQ (partsOf L) i := by
  have hx := List.getElem?_eq_getElem hi
  rw [(q_at (parts_at hx)).2.1]
  exact (cr.at_ _ (List.getElem_mem hi)).2.d0
section
variable {P : Program} {w : World} {K : PySem.W.Frag} {mg : Str → Option Value} {base : Heap} {C : Addr} {Gp : GBl}
set_option maxHeartbeats 16000000 in
theorem ok_fs (hG : GOk Gp) (FnB : ∀ f, LOk P w K mg base 10 3 f (spBk Gp C f)) (D : Dfn K mg "_find_stopped" s__find_stopped P__find_stopped) (B : Blt mg) (CEB : Cal P w K mg base 3 "_earliest_block" P__earliest_block (spEB C)) : Cal P w K mg base 11 "_find_stopped" P__find_stopped (spFS Gp C) := by
  refine D.cal sc__find_stopped (fun vs H Q E h => ?_) fun f cdv A outer s H vs Q E hr h => ?_
  · obtain ⟨t, f, _, _, rfl, _⟩ := h
    rfl
  obtain ⟨t, f, L, SP, rfl, ht, cr, gp, q⟩ := h
  have hu := hu_of hr
  have few := cr.few
  refine ⟨_, (pss_cons (ps_set (i := 2) sc__find_stopped.nd rfl (Or.inr rfl) (pe_rng rfl B.range_ (pa_cons (pe_callB call_len_seq rfl B.len_ PySem.boot_len (pa_cons (pv 0) pa_nil)) pa_nil))) (pss_cons (ps_setLc (i := 3) (own := [("one", 5)]) (g := gName 5) (tt := tYes) rfl sc__find_stopped.nd rfl rfl (sw_true rfl rfl rfl (by decide +kernel)) (pi_rngV (pv 2)) (blkOk_by (N := N_sc__find_stopped) (sc := defScope s__find_stopped) (by decide +kernel)) (fun _ _ _ _ _ => pg_name (i := 5) sc__find_stopped.nd rfl (Or.inr rfl)) (fun _ _ _ _ _ => pts_nil) (fun _ _ _ _ _ => pe_lc (own := [("two", 4)]) (g := gName 4) (tt := tYes) rfl sc__find_stopped.nd (pi_rngV (pv 2)) (blkOk_by (N := N_sc__find_stopped) (sc := relS fsSc (defScope s__find_stopped)) (by decide +kernel)) (fun _ _ _ _ _ => pg_name (i := 4) sc__find_stopped.nd rfl (Or.inl rfl)) (fun _ _ _ _ _ => pts_nil) (fun _ _ _ _ _ => pe_callV (i := 1) FnB (hr.mono (by decide)) (pa_cons (pv 5) (pa_cons (pv 4) (pa_cons pe_non pa_nil)))))) (pss_cons (ps_set (i := 6) sc__find_stopped.nd rfl (Or.inl rfl) pe_dnewK) (pss_one (ps_while PassesOwn.never (pt_val pe_bl) (pss_cons (ps_set (i := 7) sc__find_stopped.nd rfl (Or.inl rfl) (pe_cal CEB (hr.mono (by decide)) (pa_cons (pv 0) (pa_cons (pv 3) (pa_cons (pv 6) pa_nil))))) (pss_cons (ps_if (pt_cmpR op_isN (pv 7) pe_non (nomark _)) (pss_one (ps_ret (pv 6))) pss_nil) (pss_cons (ps_asg (pv 7) (pg_tup rfl (pgs_cons (pg_name (i := 8) sc__find_stopped.nd rfl (Or.inl rfl)) (pgs_cons (pg_name (i := 9) sc__find_stopped.nd rfl (Or.inl rfl)) (pgs_cons (pg_name (i := 10) sc__find_stopped.nd rfl (Or.inl rfl)) (pgs_cons (pg_name (i := 11) sc__find_stopped.nd rfl (Or.inl rfl)) pgs_nil)))))) (pss_cons (ps_dput hu (pv 6) (pv 9) (pe_tup (pa_cons (pv 10) (pa_cons (pv 11) pa_nil))) rfl) (pss_one (ps_for PassesOwn.never rfl (pi_rngV (pv 2)) (pg_name (i := 12) sc__find_stopped.nd rfl (Or.inl rfl)) (pss_one (ps_if (pt_cmp (pc_dnotin hu (pv 12) (pv 6))) (pss_one (ps_asg (pe_callV (i := 1) FnB (hr.mono (by decide)) (pa_cons (pv 12) (pa_cons (pv 9) (pa_cons (pv 10) pa_nil)))) (pg_sub (pe_ix ix_list (pv 3) (pv 12) (fun _ _ => rfl)) (pv 9) set_list))) pss_nil))))))))))))), ?_⟩
  have rlen : (refsOf L).length = L.length := by unfold refsOf; rw [List.length_map]
  refine ⟨_, rfl, t, _, rfl, .inr (SqT.of ht), _, rfl, by omega, by omega, fun r nr => ?_⟩
  rw [rlen]
  have s0 := same_new nr (RngO 0 (L.length : Int) r)
  have toN : ((L.length : Int) - 0).toNat = L.length := by omega
  have call : ∀ (H1 : Hp) (i j : Nat) (cnt : Option Int) (Q1 : VK), Same H H1 → i < L.length → j < L.length → (∀ c, cnt = some c → 0 ≤ c ∧ c ≤ 10 ^ 80) → (∀ r H2, PairB (dQ (partsOf L)) SP i j cnt r → Same H1 H2 → Q1 (optV r) H2) → spBk Gp C f [.int (i : Int), .int (j : Int), optV cnt] H1 Q1 E0 :=
    fun H1 i j cnt Q1 s1 hi hj hc k => ⟨t, L, SP, i, j, cnt, hG.same _ _ _ _ _ _ s1 gp, rfl, s1 _ _ ht, cr.same s1, hi, hj, hc, k⟩
  have lamF : ∀ H1, Same H H1 → ∃ F, H1 f = some (LamO f F) := fun H1 s1 => hG.lam _ _ _ _ _ (hG.same _ _ _ _ _ _ s1 gp)
  have snone : ∀ {H1 H2 : Hp} {a : Addr}, Same H1 H2 → H2 a = none → H1 a = none := fun {H1 H2 a} s n => by
    cases e : H1 a with
    | none => rfl
    | some o => rw [s _ _ e] at n; cases n
  refine ⟨_, rfl, r, 0, (L.length : Int), rfl, upd_same, ⟨by omega, by omega, by omega, by omega⟩, fun bl nbl => ?_⟩
  rw [toN]
  have nbl0 : H bl = none := snone s0 nbl
  refine gen_it walk_range0 (fun i H1 => ∃ (as : List Addr) (Rs : List (List (Option Int))), H1 bl = some (.lst (as.map V.ref)) ∧ H1 r = some (RngO 0 (L.length : Int) r) ∧ as.length = i ∧ Rs.length = i ∧ as.Nodup ∧ bl ∉ as ∧ (∀ a ∈ as, H a = none) ∧
    (∀ (k : Nat) (a : Addr) (x : List (Option Int)), as[k]? = some a → Rs[k]? = some x → H1 a = some (.lst (x.map optV)) ∧ x.length = L.length ∧ ∀ (j : Nat) (y : Option Int), x[j]? = some y → PairB (dQ (partsOf L)) SP k j none y) ∧ Same H H1) ⟨[], [], upd_same, by rw [upd_ne (ne_of_none upd_same nbl)]; exact upd_same, rfl, rfl, List.nodup_nil, List.not_mem_nil, (fun a h => nomatch h), fun k a x e => by simp at e, sameAt s0 nbl0⟩ (fun _ _ _ _ => trivial) ?_ ?_
  · rintro i v H1 H2 hi ⟨as, Rs, hbl, hr1, al, Rl, nd, nb, new, rows, s1⟩ ⟨rfl, rfl⟩
    refine ⟨rfl, _, rfl, r, 0, (L.length : Int), rfl, hr1, ⟨by omega, by omega, by omega, by omega⟩, fun D nD => ?_⟩
    rw [toN]
    refine gen_it walk_range0 (fun j H3 => ∃ xs : List (Option Int), H3 D = some (.lst (xs.map optV)) ∧ xs.length = j ∧ (∀ (j' : Nat) (y : Option Int), xs[j']? = some y → PairB (dQ (partsOf L)) SP i j' none y) ∧ Same H2 H3) ⟨[], upd_same, rfl, fun j' y e => by simp at e, same_new nD _⟩ (fun _ _ _ _ => trivial) ?_ ?_
    · rintro j v H3 H4 hj ⟨xs, hD3, lx, hp, s3⟩ ⟨rfl, rfl⟩
      have s4 := s1.trans s3
      refine ⟨rfl, f, rfl, ⟨_, (lamF _ s4).choose_spec, _, rfl⟩, _, rfl, _, rfl, lamF _ s4, call _ i j none _ s4 hi hj (fun c z => by cases z) fun rr H5 pb s5 => ?_⟩
      refine ⟨xs.map optV, s5 _ _ hD3, by rw [List.length_map]; exact Nat.lt_of_le_of_lt (show xs.length ≤ 40 by omega) (by decide), xs ++ [rr], by rw [upd_same, List.map_append]; rfl, by rw [List.length_append, lx]; rfl, fun j' y e => ?_, sameAt (s3.trans s5) nD⟩
      by_cases c : j' < xs.length
      · rw [List.getElem?_append_left c] at e
        exact hp j' y e
      · rw [List.getElem?_append_right (by omega)] at e
        have e0 : j' - xs.length = 0 := by
          cases q : j' - xs.length with
          | zero => rfl
          | succ n => rw [q] at e; simp at e
        rw [e0] at e
        obtain rfl := Option.some.inj e
        have : j' = j := by omega
        subst this
        exact pb
    · rintro H3 ⟨xs, hD3, lx, hp, s3⟩
      have s4 := s1.trans s3
      have nDb : bl ≠ D := ne_of_none hbl nD
      have nDa : ∀ a ∈ as, a ≠ D := fun a ha => by
        obtain ⟨k, hk⟩ := List.mem_iff_getElem?.mp ha
        obtain ⟨x, hx⟩ : ∃ x, Rs[k]? = some x := ⟨_, List.getElem?_eq_getElem (by have := (List.getElem?_eq_some_iff.mp hk).1; omega)⟩
        exact ne_of_none (rows k a x hk hx).1 nD
      have hbl3 := s3 _ _ hbl
      refine ⟨as.map V.ref, hbl3, by rw [List.length_map]; exact Nat.lt_of_le_of_lt (show as.length ≤ 40 by omega) (by decide), as ++ [D], Rs ++ [xs], by rw [upd_same, List.map_append]; rfl, by rw [upd_ne (ne_of (s3 _ _ hr1) hbl3 (by intro z; unfold RngO at z; cases z))]; exact s3 _ _ hr1, by rw [List.length_append, al]; rfl, by rw [List.length_append, Rl]; rfl, ?_, ?_, ?_, ?_, sameAt s4 nbl0⟩
      · rw [List.nodup_append]
        exact ⟨nd, by simp, fun a ha b hb => by rw [List.mem_singleton.mp hb]; exact nDa a ha⟩
      · intro z
        rcases List.mem_append.mp z with z | z
        · exact nb z
        · exact nDb (List.mem_singleton.mp z)
      · intro a ha
        rcases List.mem_append.mp ha with ha | ha
        · exact new a ha
        · rw [List.mem_singleton.mp ha]
          exact snone s1 nD
      · intro k a x e1 e2
        by_cases c : k < i
        · rw [List.getElem?_append_left (by omega)] at e1 e2
          obtain ⟨g1, g2, g3⟩ := rows k a x e1 e2
          exact ⟨by rw [upd_ne (fun z => nb (by rw [← z]; exact List.mem_of_getElem? e1))]; exact s3 _ _ g1, g2, g3⟩
        · rw [List.getElem?_append_right (by omega)] at e1 e2
          have e0 : k - as.length = 0 := by
            cases q : k - as.length with
            | zero => rfl
            | succ n => rw [q] at e1; simp at e1
          rw [e0] at e1
          rw [show k - Rs.length = 0 by omega] at e2
          obtain rfl := Option.some.inj e1
          obtain rfl := Option.some.inj e2
          have : k = i := by omega
          subst this
          exact ⟨by rw [upd_ne nDb.symm]; exact hD3, lx, hp⟩
  · rintro H1 ⟨as, Rs, hbl, hr1, al, Rl, nd, nb, new, rows, s1⟩
    have M1 : MatAt L.length H1 as Rs := ⟨al, Rl, nd, fun i a x e1 e2 => ⟨(rows i a x e1 e2).1, (rows i a x e1 e2).2.1⟩⟩
    have pair0 : ∀ i j, i < L.length → j < L.length → PairB (dQ (partsOf L)) SP i j none (Rm Rs i j) := fun i j hi hj => by
      have e2 : Rs[i]? = some Rs[i] := List.getElem?_eq_getElem (by omega)
      obtain ⟨g1, g2, g3⟩ := rows i as[i] Rs[i] (List.getElem?_eq_getElem (by omega)) e2
      have e3 : (Rs[i])[j]? = some (Rs[i])[j] := List.getElem?_eq_getElem (by omega)
      rw [Rm_at e2 e3]
      exact g3 j _ e3
    refine fun sd nsd => ?_
    have nsd0 : H sd = none := snone s1 nsd
    have s2 := same_new nsd (.dK [])
    refine while_ex (fun m σ H2 => ∃ (kvs : List (Key × V)) (Cn : Nat → Option Int) (Bn : Nat → Nat) (Rs : List (List (Option Int))) (Kk : Int × Nat) (o4 o5 o7 o8 o9 o10 o11 o12 : Option V), σ = [some (.ref t), some (.ref f), some (.ref r), some (.ref bl), o4, o5, some (.ref sd), o7, o8, o9, o10, o11, o12] ∧ m = openN L.length Cn ∧ kvs.length + m ≤ L.length ∧
      H2 sd = some (.dK kvs) ∧ StopD H2 kvs L.length Cn Bn ∧ H2 bl = some (.lst (as.map V.ref)) ∧ H2 r = some (RngO 0 (L.length : Int) r) ∧ MatAt L.length H2 as Rs ∧ PairsOk L.length (dQ (partsOf L)) SP Cn (Rm Rs) ∧ (∀ i j x, i < L.length → j < L.length → Rm Rs i j = some x → x ≤ 10 ^ 70) ∧ Part L.length (dQ (partsOf L)) SP Cn Bn Kk ∧
      (∀ i c, i < L.length → Cn i = some c → 0 ≤ c ∧ c ≤ 10 ^ 70) ∧ Same H H2) (openN L.length fun _ => none) ⟨[], fun _ => none, fun _ => 0, Rs, (0, 0), _, _, _, _, _, _, _, _, rfl, rfl, ?_, upd_same, fun i hi => .inl ⟨rfl, rfl⟩, s2 _ _ hbl, s2 _ _ hr1, M1.same s2, fun i j hi hj _ => (pair0 i j hi hj).1, ?_, ?_, (fun i c _ z => by cases z), sameAt s1 nsd0⟩ ?_ (fun σ H Q Q' k h => h.elim fun b hb => ⟨b, hb.1, k _ _ hb.2⟩)
    · have le : openN L.length (fun _ => none) ≤ L.length := by
        unfold openN
        exact Nat.le_trans (List.length_filter_le _ _) (Nat.le_of_eq List.length_range)
      show 0 + openN L.length (fun _ => none) ≤ L.length
      omega
    · exact fun i j x hi hj e => (pair0 i j hi hj).2 x e
    · refine Part.start fun i n hi n0 z => ?_
      have := crew_d0 cr hi
      unfold KLt at z
      simp only [kOf] at z
      omega
    rintro m σ H2 ⟨kvs, Cn, Bn, Rs, Kk, o4, o5, o7, o8, o9, o10, o11, o12, rfl, rfl, lk, hsd, st, hbl2, hr2, M2, po, bd, pt, cb, sH2⟩
    refine ⟨true, rfl, ?_⟩
    refine ⟨_, rfl, _, rfl, _, rfl, t, bl, sd, L, as, Rs, kvs, Cn, rfl, sH2 _ _ ht, cr.same sH2, hbl2, M2, hsd, st.known, fun v H3 s3 fb => ?_⟩
    refine ⟨_, rfl, rfl, _, rfl, ?_⟩
    rcases fb with ⟨rfl, no⟩ | ⟨rr, i, j, c, rfl, htup, hi, hj, ni, er, least⟩
    · refine iteDT rfl ⟨_, rfl, ?_⟩
      obtain ⟨h1, h2⟩ := pt.end_ po fun k l hk hl nk => no k l hk hl nk
      exact q sd kvs Cn Bn H3 (s3 _ _ hsd) (st.same s3) ⟨h1, h2, cb⟩ (sH2.trans s3)
    refine iteDF (fun z => by cases z) ?_
    refine ⟨_, rfl, rr, _, rfl, .inl (.inl htup), rfl, _, _, rfl, _, _, rfl, _, _, rfl, _, _, rfl, rfl, ?_⟩
    obtain ⟨c0, pb⟩ := po.block hi hj ni er
    have c1 := bd i j c hi hj er
    have pt2 := pt.next po hi hj ni er least
    have sH3 := sH2.trans s3
    have op := openN_put (c := c) hi ni
    refine ⟨_, rfl, _, rfl, by show 2 ≤ sizeLine; decide, fun tp ntp => ?_⟩
    have sT := same_new ntp (.tup [V.int c, V.int (j : Int)])
    have sd4 := sT _ _ (s3 _ _ hsd)
    refine ⟨_, rfl, _, rfl, sd, _, rfl, DPut.k (k := (Sum.inl (i : Int) : Key)) sd4 (Nat.lt_of_le_of_lt (show kvs.length ≤ 40 by omega) (by decide)), ?_⟩
    have vn : valV kvs (Sum.inl (i : Int) : Key) = none := by
      rcases st i hi with ⟨_, e⟩ | ⟨c', _, e, _⟩
      · exact e
      · rw [ni] at e
        cases e
    have lput : (putK kvs (Sum.inl (i : Int) : Key) (.ref tp)).length = kvs.length + 1 := by
      rw [putK_new _ vn, List.length_append]
      rfl
    have kp : ∀ (b : Addr) (o : HO), H2 b = some o → (∀ z, o ≠ .dK z) → upd (upd H3 tp (.tup [V.int c, V.int (j : Int)])) sd (.dK (putK kvs (Sum.inl (i : Int)) (.ref tp))) b = some o := fun b o e n => by
      have e2 := sT _ _ (s3 _ _ e)
      rw [upd_ne (ne_of e2 sd4 (n _))]
      exact e2
    have kS : Same H (upd (upd H3 tp (.tup [V.int c, V.int (j : Int)])) sd (.dK (putK kvs (Sum.inl (i : Int)) (.ref tp)))) := sameAt (sH3.trans sT) nsd0
    have st2 : StopD (upd (upd H3 tp (.tup [V.int c, V.int (j : Int)])) sd (.dK (putK kvs (Sum.inl (i : Int)) (.ref tp)))) (putK kvs (Sum.inl (i : Int)) (.ref tp)) L.length (putC Cn i c) (putB Bn i j) := (((st.same s3).same sT).put (i := i) upd_same).upd sd4 (fun xs z => by cases z)
    have M5 : MatAt L.length (upd (upd H3 tp (.tup [V.int c, V.int (j : Int)])) sd (.dK (putK kvs (Sum.inl (i : Int)) (.ref tp)))) as Rs := ⟨M2.al, M2.rl, M2.nd, fun k a x e1 e2 => ⟨kp _ _ (M2.row k a x e1 e2).1 (fun z e => by cases e), (M2.row k a x e1 e2).2⟩⟩
    refine ⟨_, rfl, r, 0, (L.length : Int), rfl, kp _ _ hr2 (fun z e => by unfold RngO at e; cases e), ⟨by omega, by omega, by omega, by omega⟩, ?_⟩
    rw [toN]
    refine for_it walk_range0 (fun k σ H5 => ∃ (Rs' : List (List (Option Int))) (o12 : Option V), σ = [some (.ref t), some (.ref f), some (.ref r), some (.ref bl), o4, o5, some (.ref sd), some (.ref rr), some (.int (dQ (partsOf L) i + c)), some (.int (i : Int)), some (.int c), some (.int (j : Int)), o12] ∧
      H5 sd = some (.dK (putK kvs (Sum.inl (i : Int)) (.ref tp))) ∧ StopD H5 (putK kvs (Sum.inl (i : Int)) (.ref tp)) L.length (putC Cn i c) (putB Bn i j) ∧ H5 bl = some (.lst (as.map V.ref)) ∧ H5 r = some (RngO 0 (L.length : Int) r) ∧ MatAt L.length H5 as Rs' ∧
      (∀ a l, a < L.length → l < L.length → (l ≠ i ∨ k ≤ a) → Rm Rs' a l = Rm Rs a l) ∧ (∀ a, a < k → a < L.length → putC Cn i c a = none → PairB (dQ (partsOf L)) SP a i (some c) (Rm Rs' a i)) ∧ (∀ i j x, i < L.length → j < L.length → Rm Rs' i j = some x → x ≤ 10 ^ 70) ∧ Same H H5)
      ⟨Rs, o12, rfl, upd_same, st2, kp _ _ hbl2 (fun z e => by cases e), kp _ _ hr2 (fun z e => by unfold RngO at e; cases e), M5, fun a l _ _ _ => rfl, (fun a ha => absurd ha (Nat.not_lt_zero a)), bd, kS⟩ (fun _ _ _ _ _ => trivial) ?_ ?_
    · rintro k v σ H5 H6 hk ⟨Rs', o12, rfl, hsd5, st5, hbl5, hr5, M5, same5, new5, bd5, sH5⟩ ⟨rfl, rfl⟩
      refine ⟨_, rfl, _, rfl, sd, _, rfl, DGet.k (k := (Sum.inl (k : Int) : Key)) hsd5, _, rfl, ?_⟩
      rcases st5 k hk with ⟨ek, ev⟩ | ⟨c', a', ek, ev, _⟩
      · rw [ev]
        refine iteT ?_
        obtain ⟨a, ha⟩ : ∃ a, as[k]? = some a := ⟨_, List.getElem?_eq_getElem (by rw [M5.al]; exact hk)⟩
        obtain ⟨row, hrow⟩ : ∃ x, Rs'[k]? = some x := ⟨_, List.getElem?_eq_getElem (by rw [M5.rl]; exact hk)⟩
        refine ⟨f, rfl, ⟨_, (lamF _ sH5).choose_spec, _, rfl⟩, _, rfl, _, rfl, _, rfl, lamF _ sH5, call _ k i (some c) _ sH5 hk hi (fun x z => by cases z; omega) fun rr2 H7 pb s7 => ?_⟩
        obtain ⟨m1, m2⟩ := (M5.same s7).row k a row ha hrow
        refine ⟨_, rfl, _, rfl, bl, _, _, _, rfl, rfl, SqL.of (s7 _ _ hbl5), atI_nat (show (as.map V.ref)[k]? = some (V.ref a) by rw [List.getElem?_map, ha]; rfl), _, rfl, a, _, _, i, rfl, rfl, m1, ixN_at (by rw [List.length_map, m2]; exact hi), ?_⟩
        have nab : bl ≠ a := fun z => nb (by rw [z]; exact List.mem_of_getElem? ha)
        have rm := Rm_set (v := rr2) hrow (show i < row.length by rw [m2]; exact hi)
        refine ⟨Rs'.set k (row.set i rr2), _, rfl, ?_, (st5.same s7).upd m1 (fun xs z => by cases z), ?_, ?_, (M5.same s7).set ha hrow, fun x l hx hl o => ?_, fun x hx hxN nx => ?_, fun x l y hx hl e => ?_, sameAt (sH5.trans s7) (new a (List.mem_of_getElem? ha))⟩
        · rw [upd_ne (ne_of (s7 _ _ hsd5) m1 (by intro z; cases z))]
          exact s7 _ _ hsd5
        · rw [upd_ne nab]
          exact s7 _ _ hbl5
        · rw [upd_ne (ne_of (s7 _ _ hr5) m1 (by intro z; unfold RngO at z; cases z))]
          exact s7 _ _ hr5
        · rw [rm, if_neg (by omega)]
          exact same5 x l hx hl (by omega)
        · rw [rm]
          by_cases e : x = k
          · subst e
            rw [if_pos ⟨rfl, rfl⟩]
            exact pb
          · rw [if_neg (fun z => e z.1)]
            exact new5 x (by omega) hxN nx
        · rw [rm] at e
          by_cases c : x = k ∧ l = i
          · rw [if_pos c] at e
            exact pb.2 y e
          · rw [if_neg c] at e
            exact bd5 x l y hx hl e
      · rw [ev]
        refine iteF ?_
        exact ⟨Rs', _, rfl, hsd5, st5, hbl5, hr5, M5, fun x l hx hl o => same5 x l hx hl (by omega), fun x hx hxN nx => by
          by_cases e : x = k
          · rw [e, ek] at nx
            cases nx
          · exact new5 x (by omega) hxN nx, bd5, sH5⟩
    · rintro σ H5 ⟨Rs', o12, rfl, hsd5, st5, hbl5, hr5, M5, same5, new5, bd5, sH5⟩
      refine ⟨openN L.length (putC Cn i c), op, _, putC Cn i c, putB Bn i j, Rs', _, o4, o5, _, _, _, _, _, o12, rfl, rfl, by rw [lput]; omega, hsd5, st5, hbl5, hr5, M5, po.put hi (fun k l hk hl nk nl => same5 k l hk hl (.inl nl)) (fun k hk nk => (new5 k hk hk nk).1), bd5, pt2, fun x y hx e => ?_, sH5⟩
      by_cases e2 : x = i
      · rw [e2, putC_at] at e
        obtain rfl := Option.some.inj e
        exact ⟨c0, c1⟩
      · rw [putC_ne e2] at e
        exact cb x y hx e
end
end Ur
/-! UrZ: defs that may raise, called; own errors with one field, made and raised. -/
namespace Ur
open PySem PySem.Spec PyProof.Rows L2
/-- a name of the module that can be called and may raise -/
def CalX (P : Program) (w : World) (K : PySem.W.Frag) (mg : Str → Option Value) (base : Heap) (k : Nat) (x : Str) (ps : List Str) (sp : Sp) : Prop :=
  ∃ (f : Addr) (fd : FuncData), FnOk P w K mg base (L2.CX P w) k f fd ps sp ∧ PySem.W.keepIn K (.ref f) = true ∧ Binds K fd ps [] ∧ mg x = some (.ref f)
def MethX (P : Program) (w : World) (K : PySem.W.Frag) (mg : Str → Option Value) (base : Heap) (C : Addr) (m : Str) (k : Nat) (ps : List Str) (sp : Sp) : Prop := ∃ f fd, Meth K C m f ∧ FnOk P w K mg base (L2.CX P w) k f fd ps sp ∧ Binds K fd ps []
section
variable {P : Program} {w : World} {K : PySem.W.Frag} {mg : Str → Option Value} {base : Heap} {k : Nat} {x : Str} {ps : List Str} {sp : Sp} {st : Stmt}
theorem Dfn.calX {N : List Str} (D : Dfn K mg x st ps) (S : FnScope N ps (defScope st)) (len : ∀ vs H Q E, sp vs H Q E → vs.length = ps.length)
    (hbody : ∀ (f : Addr) (cdv : Value) (A : Around) (out : List Env) (s : Shared) (H : Hp) (vs : List V) (Q : VK) (E : XK), Room k (A.deeper (envOfC x (defScope st) s.heap.objs.size f cdv)) → sp vs H Q E →
      ∃ t, PSs (cxOf (L2.CX P w) P w K mg base N x (defScope st) f cdv A out s H E) (defBody st) t ∧ t { nx := fun _ H' => Q .non H', rt := Q } (start N vs) H) : CalX P w K mg base (k + 1) x ps sp := by
  obtain ⟨f, fd, F, b, m⟩ := D
  exact ⟨f, fd, F.okX S len (hbody f), F.kp, b, m⟩
end
section
variable {X : Cx} {k : Nat} {x m : Str} {ps : List Str} {sp : Sp} {o e : Expr} {es : List Expr} {t : TA} {ta : TE} {p pos apos : Pos} {E : XK} {C : Addr} {pl : Sem Bool}
theorem pe_calX (c : CalX X.prog X.w X.K X.mg X.base k x ps sp) (hr : Room k X.A) (hx : Passes (L2.CX X.prog X.w) X E) (ha : PA X (e :: es) t) (hg : Gl X x := by rfl) (hdb : (x == ("__debug__" : Str)) = false := by decide)
    (he : starEach (e :: es) X.env = (false, eval e X.env) :: starEach es X.env := by rfl) (hpl : (backTo pos (starEach es X.env)).any (·.1) = false := by rfl) :
    PE X (.Call (.Name x p) (e :: es) [] pos) (tCall sp [] E t) := by
  obtain ⟨f, fd, F, kp, b, mm⟩ := c
  exact pe_call F hr hg mm kp b .nil hx ha (hdb := hdb) (he := he) (hpl := hpl)
theorem pe_meX (he : PE X o ta) (c : Cls X.K C) (hm : MethX X.prog X.w X.K X.mg X.base C m k ps sp) (hr : Room k X.A) (hx : Passes (L2.CX X.prog X.w) X E) (ha : PA X (e :: es) t)
    (hst : starEach (e :: es) X.env = (false, eval e X.env) :: starEach es X.env := by rfl) (hpl : (backTo pos (starEach es X.env)).any (·.1) = false := by rfl)
    (ht : eval (.Call (.Attribute o m apos) (e :: es) [] pos) X.env = (do let ov ← eval o X.env; standAt apos.atName; let (f, first) ← holding [ov] (getMethod ov m pl); callWith pos f first (backTo pos (starEach (e :: es) X.env)) (backToKw pos (keywordEach [] X.env))) := by rfl) :
    PE X (.Call (.Attribute o m apos) (e :: es) [] pos) (tMeth C m sp [] E ta t) := by
  obtain ⟨f, fd, h1, F, b⟩ := hm
  exact pe_meth he c h1 F hr b .nil hx ha hst hpl ht
/-- what a callee lets out leaves the def too -/
theorem passD (hs : X.stack = X.env :: X.outer) (hf : X.env.frame = some X.env.locals) (hex : X.ex = []) {E₁ : Value → Shared → Prop}
    (hx : X.xe = fun e s' => wpAny (model X.prog X.w) X.A (leaving X.env e) (fun _ s'' => L2.CX X.prog X.w X.outer X.H_0 X.s_0 E e s'') E₁ s') : Passes (L2.CX X.prog X.w) X E :=
  passes_call (takes_of hs hf hex hx) fun _ _ _ _ h => h
end
/-! ### own errors with one field -/
/-- self.f = v, nothing else -/
def spXI (C : Addr) (f : Str) : Sp := fun vs H Q _ => ∃ (a : Addr) (v : V), vs = [.ref a, v] ∧ H a = some (exo a C none) ∧ ∀ dx, H dx = none → dx ≠ a → Q .non (upd (upd H dx (exd dx [(f, v)])) a (exo a C (some dx)))
/-- what the written part says of such a class: its place C, the field's name f -/
structure ErrK (K : PySem.W.Frag) (C : Addr) (f : Str) : Prop where
  o : OexC K C
  no : PySem.W.findIn K (.ref C) f = some none
  x : XfC K C
  c : ExcC K C
/-- the class at C of the name x can be made with one value -/
def ErrOk (P : Program) (w : World) (K : PySem.W.Frag) (mg : Str → Option Value) (base : Heap) (C : Addr) (x f : Str) : Prop :=
  mg x = some (.ref C) ∧ ErrK K C f ∧ ∃ (fI : Addr) (fd : FuncData) (ps : List Str), PySem.W.findIn K (.ref C) "__init__" = some (some (.ref fI)) ∧ PySem.W.typeIn K (.ref fI) = some (.type "function") ∧ FnOk P w K mg base (L2.CX P w) 1 fI fd ps (spXI C f) ∧ Binds K fd ps []
section
variable {X : Cx} {x f : Str} {C : Addr} {e : Expr} {es : List Expr} {t : TA} {p pos : Pos}
theorem pmk_err (h : ErrOk X.prog X.w X.K X.mg X.base C x f) (hr : Room 2 X.A) (ha : PA X (e :: es) t) (hg : Gl X x := by rfl)
    (hdb : (x == ("__debug__" : Str)) = false := by decide) (he : starEach (e :: es) X.env = (false, eval e X.env) :: starEach es X.env := by rfl) (hpl : (backTo pos (starEach es X.env)).any (·.1) = false := by rfl) :
    PMk X (.Call (.Name x p) (e :: es) [] pos) (tMkO C (spXI C f) [] t) := by
  obtain ⟨m, ek, fI, fd, ps, h1, h2, F, b⟩ := h
  exact pmk_oex ek.o h1 h2 F hr b .nil passL hg m ha hdb he hpl
end
theorem Un.swap {H : Hp} {a dx : Addr} {o1 o2 o3 u : HO} (ha : H a = none) (n : dx ≠ a) : upd (del (upd (upd (upd H a o1) dx o2) a o3) a) dx u = upd H dx u := by
  funext b
  by_cases hb : b = dx
  · rw [hb, upd_same, upd_same]
  · rw [upd_ne hb, upd_ne hb]
    by_cases hc : b = a
    · rw [hc, del_same, ha]
    · rw [del_ne hc, upd_ne hc, upd_ne hb, upd_ne hc]
/-- the reading of X(v) behind its value -/
theorem err_made {C : Addr} {f : Str} {v : V} {H : Hp} {Q : XK} (h : ∀ dx, H dx = none → Q (.ref C) (some dx) (upd H dx (.xd [(f, v)]))) :
    ([v] : List V).length ≤ 1000 ∧ ∀ a, H a = none → spXI C f (.ref a :: ([v] ++ [])) (upd H a (exo a C none))
      (fun u H2 => u = .non ∧ ∃ (d : Addr) (fs : List (Str × V)), H2 a = some (exo a C (some d)) ∧ H2 d = some (exd d fs) ∧ H d = none ∧ Q (.ref C) (some d) (upd (del H2 a) d (.xd fs))) (fun _ _ _ => False) := by
  refine ⟨by show 1 ≤ 1000; decide, fun a ha => ⟨a, v, rfl, upd_same, fun dx hd n => ⟨rfl, dx, [(f, v)], upd_same, ?_, ?_, ?_⟩⟩⟩
  · rw [upd_ne n, upd_same]
  · rw [upd_ne n] at hd
    exact hd
  · rw [upd_ne n] at hd
    rw [Un.swap ha n]
    exact h dx hd
/-- E of a def that lets this error out, its value v, from the heap H -/
def Lets (E : XK) (C : Addr) (f : Str) (v : V) (H : Hp) : Prop := ∀ dx, H dx = none → E (.ref C) (some dx) (upd H dx (.xd [(f, v)]))
end Ur
/-! UrT: defs that make lambdas: their code object is known; what stays while tables grow. -/
namespace Ur
open PySem PySem.Spec PyProof.Rows L2
section
variable {P : Program} {w : World} {K : PySem.W.Frag} {mg : Str → Option Value} {base : Heap} {k : Nat} {f : Addr} {fd : FuncData} {ps : List Str} {sp : Sp} {x qual : Str} {st : Stmt}
/-- as runG, for a def whose code object stands at c -/
theorem runGc {N : List Str} {c : Addr} (F : Fun K x qual st f fd) (code : fd.code = .ref c) (S : FnScope N ps (defScope st)) (len : ∀ vs H Q E, sp vs H Q E → vs.length = ps.length)
    (hbody : ∀ (A : Around) (out : List Env) (s : Shared) (H : Hp) (vs : List V) (Q : VK) (E : XK), Still A → Room k (A.deeper (envOfC qual (defScope st) s.heap.objs.size f (.ref c))) → sp vs H Q E → ∃ t, PSs (cxOf CX0 P w K mg base N qual (defScope st) f (.ref c) A out s H E).nox (defBody st) t ∧ t { nx := fun _ H' => Q .non H', rt := Q } (start N vs) H) :
    FnG P w K mg base (k + 1) f fd ps sp := by
  obtain ⟨oc, od, kV, doc, pm, an, cdv, ct, osl, efd, lk, hcd⟩ := F.ex
  subst efd
  have ec : cdv = .ref c := code
  subst ec
  constructor
  · exact len
  intro A out s H args us vs Q E still room e0 hb rel ask
  have old : ∀ b o, base.get? b = some o → s.heap.get? b = some o := fun b o e => (e0.bs b o e).1
  have kin : K.In s.heap := e0.mod.kin.keeps old
  have kinds : ∀ y ∈ ps.zip us, (defScope st).names.lookup y.1 = some .local ∨ ((defScope st).names.lookup y.1 = some .cell ∧ ((cellsFrom (s.heap.objs.size + 1) (defScope st).names []).lookup y.1).isSome = true) := by
    intro y hy
    cases S.par y.1 (List.of_mem_zip (a := y.1) (b := y.2) hy).1 with
    | inl h => exact Or.inl h
    | inr h => exact Or.inr ⟨h, PySem.W.cellsFrom_some _ _ _ (Or.inl h)⟩
  refine codeAny_call_function room.depth (kin _ _ lk) rfl S.co S.gen rfl (PySem.W.codeRec_of kin hcd) (hb _ _ _ _ (wpAny_newFunctionEnv_cells S.kind kinds fun env he s1 made => ?_))
  subst he
  refine ⟨(e0.mod.nolimit.keeps old).keeps made.toInCall.keep, codeAny_func ?_⟩
  obtain ⟨t, ht0, hq⟩ := hbody A out s H vs Q E still (room.deeper _) ask
  have J : Inv (cxOf CX0 P w K mg base N qual (defScope st) f (.ref c) A out s H E) [] (start N vs) H s1 := inv_start S room.hd e0 (len _ _ _ _ ask) rel made
  refine wpAny_mono (ht0.nox.run [] s1 (start N vs) H _ J hq) ?_ (fun _ _ z => z)
  intro fl s2 done
  match fl, done with
  | .ret u, ⟨v, σ', H', J', rv, q⟩ => exact ⟨v, H', J'.os, J'.bare, J'.base, J'.hok, rv, q⟩
  | .next, ⟨σ', H', J', q⟩ => exact ⟨V.non, H', J'.os, J'.bare, J'.base, J'.hok, rfl, q⟩
  | .brk, ⟨_, _, _, q⟩ => exact q.elim
  | .cont, ⟨_, _, _, q⟩ => exact q.elim
/-- a def of the text, where it stands, with its code object -/
def DfnT (K : PySem.W.Frag) (mg : Str → Option Value) (x : Str) (st : Stmt) (ps : List Str) (c : Addr) : Prop :=
  ∃ (f : Addr) (fd : FuncData), Fun K x x st f fd ∧ Binds K fd ps [] ∧ mg x = some (.ref f) ∧ fd.code = .ref c
theorem DfnT.calG {N : List Str} {c : Addr} (D : DfnT K mg x st ps c) (S : FnScope N ps (defScope st)) (len : ∀ vs H Q E, sp vs H Q E → vs.length = ps.length)
    (hbody : ∀ (f : Addr) (A : Around) (out : List Env) (s : Shared) (H : Hp) (vs : List V) (Q : VK) (E : XK), Still A → Room k (A.deeper (envOfC x (defScope st) s.heap.objs.size f (.ref c))) → sp vs H Q E → ∃ t, PSs (cxOf CX0 P w K mg base N x (defScope st) f (.ref c) A out s H E).nox (defBody st) t ∧ t { nx := fun _ H' => Q .non H', rt := Q } (start N vs) H) :
    CalG P w K mg base (k + 1) x ps sp := by
  obtain ⟨f, fd, F, b, m, code⟩ := D
  exact ⟨f, fd, runGc F code S len (hbody f), F.kp, b, m⟩
end
/-! ### what stays while tables grow -/
/-- all stands as it stood, but what is at p, and the tables -/
def KeepN (p : Addr) (H H' : Hp) : Prop := ∀ b o, H b = some o → b ≠ p → (∀ ps, o ≠ .tbl ps) → H' b = some o
theorem KeepN.refl {p : Addr} {H : Hp} : KeepN p H H := fun _ _ h _ _ => h
theorem KeepN.trans {p : Addr} {H H1 H2 : Hp} (a : KeepN p H H1) (b : KeepN p H1 H2) : KeepN p H H2 := fun c o h n t => b c o (a c o h n t) n t
theorem KeepN.of {p : Addr} {H H' : Hp} (k : Keep p H H') : KeepN p H H' := fun b o h n _ => k b o h n
theorem KeepN.same {p : Addr} {H H' : Hp} (s : Same H H') : KeepN p H H' := fun b o h _ _ => s b o h
theorem KeepN.ext {p : Addr} {H H' : Hp} (e : LamX.ExtN H H') : KeepN p H H' := fun b o h _ t => e b o h t
theorem KeepN.new {p a : Addr} {H H' : Hp} {o : HO} (k : KeepN p H H') (h : H' a = none) : KeepN p H (upd H' a o) := k.trans (KeepN.same (same_new h o))
theorem DqN.keepN {H H' : Hp} {np : Addr} {kk : List (Key × V)} (k : KeepN np H H') (hn : H np = some (.dK kk)) : ∀ {n : Nat} {v : V} {d : PyData}, DqN H np n v d → DqN H' np n v d
  | 0, _, _, h => h
  | n + 1, v, d, h => by
    rcases h with h | ⟨a, xs, ds, e, ha, ns, ps, ed⟩ | ⟨a, xs, ds, e, ha, ps, ed⟩ | ⟨a, kvs, es, e, na, ha, ps, ed⟩
    · exact .inl h
    · exact .inr (.inl ⟨a, xs, ds, e, k _ _ ha (ne_of ha hn (by intro z; cases z)) (fun _ z => by cases z), ns, Paired.map2 (fun _ _ => DqN.keepN k hn) ps, ed⟩)
    · exact .inr (.inr (.inl ⟨a, xs, ds, e, k _ _ ha (ne_of ha hn (by intro z; cases z)) (fun _ z => by cases z), Paired.map2 (fun _ _ => DqN.keepN k hn) ps, ed⟩))
    · exact .inr (.inr (.inr ⟨a, kvs, es, e, na, k _ _ ha na (fun _ z => by cases z), Paired.map2 (fun _ _ q => ⟨q.1, DqN.keepN k hn q.2⟩) ps, ed⟩))
theorem DqN.any {H : Hp} {np : Addr} {n : Nat} {v : V} {d : PyData} (h : DqN H np n v d) : Any H v d := ⟨np, n, h⟩
theorem Any.same {H H' : Hp} {v : V} {d : PyData} (s : Same H H') (h : Any H v d) : Any H' v d := let ⟨np, n, h⟩ := h; ⟨np, n, h.same s⟩
theorem tabs_keep {T : List (Addr × Str)} {p : Addr} {H H' : Hp} {kk : List (Key × V)} (k : Keep p H H') (hp : H p = some (.dK kk)) (t : LamX.Tabs T H) : LamX.Tabs T H' := by
  intro q hq
  obtain ⟨ps, h1, h2, h3⟩ := t q hq
  refine ⟨ps, k _ _ h1 (ne_of h1 hp (by intro z; cases z)), h2, fun pos cv hc => ?_⟩
  obtain ⟨c, e1, e2⟩ := h3 pos cv hc
  refine ⟨c, e1, k _ _ e2 (ne_of e2 hp (by intro z; unfold LamX.CodeO at z; cases z))⟩
theorem tabs_same {T : List (Addr × Str)} {H H' : Hp} (s : Same H H') (t : LamX.Tabs T H) : LamX.Tabs T H' := t.ext s
end Ur
/-! HD: histories: rows_by, _rows_of. -/
namespace Ur
open PySem PySem.Spec PyProof.Rows L2
/-- a row of a history -/
structure Rw where
  nm : Str
  cnt : Option Int
  stop : Option (Int × Int × Str)
def StopAt (H : Hp) (v : V) : Option (Int × Int × Str) → Prop
  | none => v = .non
  | some (d, p, b) => ∃ t, v = .ref t ∧ H t = some (.tup [.int d, .int p, .str b])
def RwAt (H : Hp) (a : Addr) (r : Rw) : Prop := ∃ v, H a = some (.tup [.str r.nm, optV r.cnt, v]) ∧ StopAt H v r.stop
theorem StopAt.keep {H H' : Hp} {v : V} : ∀ {s : Option (Int × Int × Str)}, StopAt H v s → (∀ b xs, H b = some (.tup xs) → H' b = some (.tup xs)) → StopAt H' v s
  | none, h, _ => h
  | some (_, _, _), ⟨t, e, h⟩, k => ⟨t, e, k _ _ h⟩
theorem RwAt.keep {H H' : Hp} {a : Addr} {r : Rw} (h : RwAt H a r) (k : ∀ b xs, H b = some (.tup xs) → H' b = some (.tup xs)) : RwAt H' a r := let ⟨v, e, s⟩ := h; ⟨v, k _ _ e, s.keep k⟩
/-- rows -/
abbrev RowsAt (H : Hp) (as : List Addr) (rs : List Rw) : Prop := Paired (fun a r => RwAt H a r) as rs
theorem RowsAt.keep {H H' : Hp} {as : List Addr} {rs : List Rw} (h : RowsAt H as rs) (k : ∀ b xs, H b = some (.tup xs) → H' b = some (.tup xs)) : RowsAt H' as rs := Paired.mapP h fun _ _ q => q.keep k
theorem RowsAt.same {H H' : Hp} {as : List Addr} {rs : List Rw} (h : RowsAt H as rs) (s : Same H H') : RowsAt H' as rs := h.keep fun b xs e => s _ _ e
theorem RowsAt.updL {H : Hp} {D : Addr} {as : List Addr} {rs : List Rw} {ys : List V} {o : HO} (h : RowsAt H as rs) (hD : H D = some (.lst ys)) : RowsAt (upd H D o) as rs := h.keep fun b xs e => by rw [upd_ne (ne_of e hD (by intro z; cases z))]; exact e
/-- the row of a painter in a history -/
def rowQ (qs : List Quad) (Cn : Nat → Option Int) (Bn : Nat → Nat) (i : Nat) : Rw := ⟨nQ qs i, Cn i, match Cn i with | none => none | some c => some (dQ qs i + c, pQ qs i + c * sQ qs i, nQ qs (Bn i))⟩
def HistR (qs : List Quad) (SP : SPt) (rs : List Rw) : Prop := ∃ Cn Bn, HistC qs.length (dQ qs) SP Cn Bn ∧ rs = (List.range qs.length).map (rowQ qs Cn Bn)
/-- there is one history only -/
theorem histR_uniq {qs : List Quad} {SP : SPt} {rs rs' : List Rw} (d0 : ∀ i, i < qs.length → 0 ≤ dQ qs i) (sy : ∀ i n j m k l, SP i n j m → SP i n k l → SP j m k l) (h : HistR qs SP rs) (h' : HistR qs SP rs') : rs = rs' := by
  obtain ⟨Cn, Bn, hc, rfl⟩ := h
  obtain ⟨Cn', Bn', hc', rfl⟩ := h'
  refine List.map_congr_left fun i hi => ?_
  have hi := List.mem_range.mp hi
  have e := hist_uniq d0 hc.is hc'.is hi
  have is' : IsHist qs.length (dQ qs) SP Cn' := hc'.is
  unfold rowQ
  rw [← e]
  cases ec : Cn i with
  | none => rfl
  | some c =>
    have b' : Blkr qs.length SP Cn Bn' := fun k x hk ek => by
      have ek' : Cn' k = some x := by rw [← hist_uniq d0 hc.is hc'.is hk]; exact ek
      obtain ⟨h1, m, m0, h2, h3⟩ := hc'.bl k x hk ek'
      exact ⟨h1, m, m0, h2, fun y ey => h3 y (by rw [← hist_uniq d0 hc.is hc'.is h1]; exact ey)⟩
    have eb := blkr_uniq hc.is sy hc.bl b' hi ec
    show (⟨_, _, some (_, _, nQ qs (Bn i))⟩ : Rw) = ⟨_, _, some (_, _, nQ qs (Bn' i))⟩
    rw [eb]
theorem parts_len (L : List Pt) : (partsOf L).length = L.length := by unfold partsOf; rw [List.length_map]
abbrev s_rows_by : Stmt := (topS 3)
abbrev N_sc_rows_by : List Str := ["painters", "block", "stopped", "rows", "place", "painter", "count", "blocker", "stop"]
abbrev P_rows_by : List Str := ["painters", "block"]
theorem sc_rows_by : FnScope N_sc_rows_by P_rows_by (defScope s_rows_by) := ⟨rfl, rfl, rfl, by decide +kernel, rfl, by decide +kernel, by decide +kernel⟩
def spRB (Gp : GBl) (C : Addr) : Sp := fun vs H Q _ => ∃ (t f : Addr) (L : List Pt) (SP : SPt), vs = [.ref t, .ref f] ∧ H t = some (.tup (refsOf L)) ∧ Crew C H L ∧ Gp H f t L SP ∧
  ∀ Ta as rs H', H' Ta = some (.tup (as.map V.ref)) → RowsAt H' as rs → HistR (partsOf L) SP rs → Same H H' → Q (.ref Ta) H'
section
variable {P : Program} {w : World} {K : PySem.W.Frag} {mg : Str → Option Value} {base : Heap} {C : Addr} {Gp : GBl}
set_option maxHeartbeats 16000000 in
theorem ok_rb (D : Dfn K mg "rows_by" s_rows_by P_rows_by) (B : Blt mg) (hEn : mg "enumerate" = none) (nb_tuple : mg "tuple" = none) (T : PTxt K mg C) (hName : PropS P w K mg base C "name" 1 (getSp C "_name")) (hDay : PropS P w K mg base C "day" 1 (getSp C "_day")) (hPost : PropS P w K mg base C "post" 1 (getSp C "_post")) (hStride : PropS P w K mg base C "stride" 1 (getSp C "_stride"))
    (CFS : Cal P w K mg base 11 "_find_stopped" P__find_stopped (spFS Gp C)) : Cal P w K mg base 12 "rows_by" P_rows_by (spRB Gp C) := by
  refine D.cal sc_rows_by (fun vs H Q E h => ?_) fun f cdv A outer s H vs Q E hr h => ?_
  · obtain ⟨t, f, _, _, rfl, _⟩ := h
    rfl
  obtain ⟨t, f, L, SP, rfl, ht, cr, gp, q⟩ := h
  have hu := hu_of hr
  have few := cr.few
  have rlen : (refsOf L).length = L.length := by unfold refsOf; rw [List.length_map]
  refine ⟨_, (pss_cons (ps_set (i := 2) sc_rows_by.nd rfl (Or.inl rfl) (pe_cal CFS (hr.mono (by decide)) (pa_cons (pv 0) (pa_cons (pv 1) pa_nil)))) (pss_cons (ps_set (i := 3) sc_rows_by.nd rfl (Or.inl rfl) (pe_lst pa_nil)) (pss_cons (ps_for PassesOwn.never rfl (pi_enumT rfl hEn (pa_cons (pv 0) pa_nil)) (pg_tup rfl (pgs_cons (pg_name (i := 4) sc_rows_by.nd rfl (Or.inl rfl)) (pgs_cons (pg_name (i := 5) sc_rows_by.nd rfl (Or.inl rfl)) pgs_nil))) (pss_one (ps_if (pt_cmp (pc_din hu (pv 4) (pv 2))) (pss_cons (ps_asg (pe_dget hu (pv 2) (pv 4) (fun _ _ => rfl)) (pg_tup rfl (pgs_cons (pg_name (i := 6) sc_rows_by.nd rfl (Or.inl rfl)) (pgs_cons (pg_name (i := 7) sc_rows_by.nd rfl (Or.inl rfl)) pgs_nil)))) (pss_cons (ps_set (i := 8) sc_rows_by.nd rfl (Or.inl rfl) (pe_tup (pa_cons (pe_op op_add (pe_prS (pv 5) T.cl hDay (hr.mono (by decide))) (pv 6)) (pa_cons (pe_op op_add (pe_prS (pv 5) T.cl hPost (hr.mono (by decide))) (pe_op op_mulW (pv 6) (pe_prS (pv 5) T.cl hStride (hr.mono (by decide))))) (pa_cons (pe_prS (pe_ix ix_tup (pv 0) (pv 7) (fun _ _ => rfl)) T.cl hName (hr.mono (by decide))) pa_nil))))) (pss_one (ps_expr (pe_bm PySem.F.plainAttrs_list PySem.F.slot_list_append PySem.F.type_list_append mt_append (pv 3) (pa_cons (pe_tup (pa_cons (pe_prS (pv 5) T.cl hName (hr.mono (by decide))) (pa_cons (pv 6) (pa_cons (pv 8) pa_nil)))) pa_nil)))))) (pss_one (ps_expr (pe_bm PySem.F.plainAttrs_list PySem.F.slot_list_append PySem.F.type_list_append mt_append (pv 3) (pa_cons (pe_tup (pa_cons (pe_prS (pv 5) T.cl hName (hr.mono (by decide))) (pa_cons pe_non (pa_cons pe_non pa_nil)))) pa_nil))))))) (pss_one (ps_ret (pe_callTy call_tuple_of rfl nb_tuple (by decide +kernel) (pa_cons (pv 3) pa_nil))))))), ?_⟩
  refine ⟨_, rfl, _, rfl, t, f, L, SP, rfl, ht, cr, gp, fun sd kvs Cn Bn H1 hsd st hc s1 => ?_⟩
  refine ⟨by show 0 ≤ sizeLine; decide, fun R nR => ?_⟩
  have nR0 : H R = none := by
    cases e : H R with
    | none => rfl
    | some o => rw [s1 _ _ e] at nR; cases nR
  have sR := same_new nR (.lst [])
  refine ⟨_, rfl, t, _, rfl, SqT.of (sR _ _ (s1 _ _ ht)), ?_⟩
  refine for_it walk_enumT (fun i σ H2 => ∃ (as : List Addr) (o4 o5 o6 o7 o8 : Option V), σ = [some (.ref t), some (.ref f), some (.ref sd), some (.ref R), o4, o5, o6, o7, o8] ∧ H2 R = some (.lst (as.map V.ref)) ∧ as.length = i ∧ RowsAt H2 as ((List.range i).map (rowQ (partsOf L) Cn Bn)) ∧ H2 sd = some (.dK kvs) ∧ StopD H2 kvs L.length Cn Bn ∧ Same H H2)
    ⟨[], _, _, _, _, _, rfl, upd_same, rfl, .nil, sR _ _ hsd, st.same sR, sameAt s1 nR0⟩ (fun i σ H2 _ h => by obtain ⟨_, _, _, _, _, _, _, _, _, _, _, _, h⟩ := h; exact SqT.of (h _ _ ht)) ?_ ?_
  · rintro i v σ H2 H3 hi ⟨as, o4, o5, o6, o7, o8, rfl, hR, al, rows, hsd2, st2, s2⟩ ⟨T0, y1, y2, rfl, hT, rfl, e1, e2⟩
    obtain rfl := Option.some.inj e1
    obtain ⟨x, hx, rfl⟩ := refs_at e2
    have hiL : i < L.length := (List.getElem?_eq_some_iff.mp hx).1
    have sT := same_new hT (.tup [V.int (i : Int), V.ref x.a])
    have s3 := s2.trans sT
    have ax := (cr.at_ x (List.mem_of_getElem? hx)).same s3
    obtain ⟨dx, ex⟩ := id ax.1
    have pk := ax.2
    obtain ⟨qn, qd, qp, qst⟩ := q_at (parts_at hx)
    refine ⟨T0, _, rfl, .inl (.inl upd_same), rfl, _, _, rfl, _, _, rfl, rfl, ?_⟩
    refine ⟨_, rfl, _, rfl, sd, _, rfl, DGet.k (k := (Sum.inl (i : Int) : Key)) (sT _ _ hsd2), _, rfl, ?_⟩
    rcases st2 i hiL with ⟨ec, ev⟩ | ⟨c, a, ec, ev, ha⟩
    · rw [ev]
      refine iteF ?_
      refine ⟨_, rfl, .inl ⟨rfl, _, SqL.of (sT _ _ hR)⟩, _, rfl, x.a, dx, _, rfl, ex, x.a, dx, _, _, rfl, ex, pfs_name _ _ _ _, by show 3 ≤ sizeLine; decide, fun t3 ht3 => ?_⟩
      have s4 := same_new ht3 (.tup [.str x.nm, .non, .non])
      have hR4 := s4 _ _ (sT _ _ hR)
      refine ⟨R, _, _, rfl, rfl, hR4, by rw [List.length_map, al]; exact Nat.lt_of_le_of_lt (show i ≤ 40 by omega) (by decide), as ++ [t3], _, _, _, _, _, rfl, by rw [upd_same, List.map_append]; rfl, by rw [List.length_append, al]; rfl, ?_, ?_, ((st2.same sT).same s4).upd hR4 (fun xs z => by cases z), sameAt (s3.trans s4) nR0⟩
      · rw [List.range_succ, List.map_append]
        refine paired_snoc (((RowsAt.same rows sT).same s4).updL hR4) ⟨.non, ?_, ?_⟩
        · rw [upd_ne (ne_of upd_same hR4 (by intro z; cases z)), upd_same]
          unfold rowQ
          rw [ec, qn]
          rfl
        · unfold rowQ
          rw [ec]
          rfl
      · rw [upd_ne (ne_of (s4 _ _ (sT _ _ hsd2)) hR4 (by intro z; cases z))]
        exact s4 _ _ (sT _ _ hsd2)
    · rw [ev]
      refine iteT ?_
      have ec0 := hc.bd i c hiL ec
      have hb := (hc.bl i c hiL ec).1
      obtain ⟨z, hz⟩ : ∃ z, L[Bn i]? = some z := ⟨_, List.getElem?_eq_getElem hb⟩
      have az := (cr.at_ z (List.mem_of_getElem? hz)).same s3
      obtain ⟨dz, ez⟩ := id az.1
      have ev2 : DGet (upd H2 T0 (.tup [V.int (i : Int), V.ref x.a])) sd (.int (i : Int)) (some (.ref a)) := by
        have g := DGet.k (k := (Sum.inl (i : Int) : Key)) (sT _ _ hsd2)
        rw [ev] at g
        exact g
      refine ⟨_, rfl, _, rfl, sd, _, rfl, ev2, a, _, rfl, .inl (.inl (sT _ _ ha)), rfl, _, _, rfl, _, _, rfl, rfl, ?_⟩
      have mb := pk.s0
      have mb1 := pk.s1
      refine ⟨_, rfl, x.a, dx, _, rfl, ex, x.a, dx, _, _, rfl, ex, pfs_day _ _ _ _, _, rfl, _, _, rfl, rfl, ?_⟩
      refine ⟨_, rfl, x.a, dx, _, rfl, ex, x.a, dx, _, _, rfl, ex, pfs_post _ _ _ _, _, rfl, _, rfl, x.a, dx, _, rfl, ex, x.a, dx, _, _, rfl, ex, pfs_stride _ _ _ _, _, _, rfl, rfl, wide_mul (a := 240) (b := 64) (by omega) (by omega) (by decide) (by decide) (by decide), _, _, rfl, rfl, ?_⟩
      refine ⟨_, rfl, _, rfl, t, _, _, _, rfl, rfl, SqT.of (s3 _ _ ht), atI_nat (refs_ix hz), z.a, dz, _, rfl, ez, z.a, dz, _, _, rfl, ez, pfs_name _ _ _ _, by show 3 ≤ sizeLine; decide, fun ts hts => ?_⟩
      have s4 := same_new hts (.tup [.int (x.d + c), .int (x.p + c * x.s), .str z.nm])
      have ex4 := s4 _ _ ex
      refine ⟨_, rfl, .inl ⟨rfl, _, SqL.of (s4 _ _ (sT _ _ hR))⟩, _, rfl, x.a, dx, _, rfl, ex4, x.a, dx, _, _, rfl, ex4, pfs_name _ _ _ _, _, rfl, _, rfl, by show 3 ≤ sizeLine; decide, fun t3 ht3 => ?_⟩
      have s5 := same_new ht3 (.tup [.str x.nm, .int c, .ref ts])
      have hR5 := s5 _ _ (s4 _ _ (sT _ _ hR))
      obtain ⟨zn, _, _, _⟩ := q_at (parts_at hz)
      refine ⟨R, _, _, rfl, rfl, hR5, by rw [List.length_map, al]; exact Nat.lt_of_le_of_lt (show i ≤ 40 by omega) (by decide), as ++ [t3], _, _, _, _, _, rfl, by rw [upd_same, List.map_append]; rfl, by rw [List.length_append, al]; rfl, ?_, ?_, (((st2.same sT).same s4).same s5).upd hR5 (fun xs z => by cases z), sameAt ((s3.trans s4).trans s5) nR0⟩
      · rw [List.range_succ, List.map_append]
        refine paired_snoc ((((RowsAt.same rows sT).same s4).same s5).updL hR5) ⟨.ref ts, ?_, ?_⟩
        · rw [upd_ne (ne_of upd_same hR5 (by intro z; cases z)), upd_same]
          unfold rowQ
          rw [ec, qn]
          rfl
        · unfold rowQ
          rw [ec]
          show StopAt _ _ (some (_, _, _))
          rw [qd, qp, qst, zn]
          refine ⟨ts, rfl, ?_⟩
          have h5 := s5 _ _ (upd_same (H := upd H2 T0 (.tup [V.int (i : Int), V.ref x.a])) (a := ts) (o := .tup [.int (x.d + c), .int (x.p + c * x.s), .str z.nm]))
          rw [upd_ne (ne_of h5 hR5 (by intro z; cases z))]
          exact h5
      · rw [upd_ne (ne_of (s5 _ _ (s4 _ _ (sT _ _ hsd2))) hR5 (by intro z; cases z))]
        exact s5 _ _ (s4 _ _ (sT _ _ hsd2))
  · rintro σ H2 ⟨as, o4, o5, o6, o7, o8, rfl, hR, al, rows, hsd2, st2, s2⟩
    rw [rlen] at rows
    refine ⟨_, rfl, R, _, rfl, .inl ⟨SqL.of hR, fun Ta nTa => ?_⟩⟩
    have sTa := same_new nTa (.tup (as.map V.ref))
    refine q Ta as _ _ upd_same (RowsAt.same rows sTa) ⟨Cn, Bn, ?_, by rw [parts_len]⟩ (s2.trans sTa)
    rw [parts_len]
    exact hc
end
/-! ### of a fence -/
def GpF : GBl := fun H f t L SP => SP = fSP (partsOf L) ∧ ∃ (F : LF) (cp : Addr) (oc : Obj), isRL F ∧ LamH H f F "painters" cp oc (.ref t)
theorem gpF : GOk GpF := ⟨fun H H' f t L SP s ⟨e, F, cp, oc, r, l⟩ => ⟨e, F, cp, oc, r, l.same s⟩, fun H f t L SP ⟨_, F, cp, oc, r, l⟩ => ⟨F, l.1⟩⟩
theorem bk_of {P : Program} {w : World} {K : PySem.W.Frag} {mg : Str → Option Value} {base : Heap} {C f : Addr} (h : LOk P w K mg base 10 3 f (spBlk C f)) : LOk P w K mg base 10 3 f (spBk GpF C f) := by
  have key : ∀ vs H Q E, spBk GpF C f vs H Q E → spBlk C f vs H Q E := fun vs H Q E ⟨t, L, SP, i, j, cnt, ⟨e, F, cp, oc, r, l⟩, ev, ht, cr, hi, hj, hc, q⟩ => ⟨F, cp, oc, t, L, i, j, cnt, r, l, ev, ht, cr, hi, hj, hc, by subst e; exact q⟩
  exact ⟨fun vs H Q E z => h.len vs H Q E (key vs H Q E z), fun A outer s H us vs Q hr e0 r z => h.run A outer s H us vs Q hr e0 r (key vs H Q E0 z)⟩
def qRw : Str := (envOfC "_rows_of" (defScope s__rows_of) 0 0 .none).qual ++ "<lambda>"
def spRO (T : List (Addr × Str)) (C CF : Addr) : Sp := fun vs H Q _ => ∃ (f : Addr) (L : List Pt), vs = [.ref f] ∧ FcAt C CF H f L ∧ LamX.Tabs T H ∧
  ∀ Ta as rs H', H' Ta = some (.tup (as.map V.ref)) → RowsAt H' as rs → HistR (partsOf L) (fSP (partsOf L)) rs → LamX.ExtN H H' → LamX.Tabs T H' → Q (.ref Ta) H'
theorem tabs_del {T : List (Addr × Str)} {H : Hp} {c : Addr} {oc : Obj} {x : HO} (h : LamX.Tabs T H) (hc : H c = some (.frz oc x)) : LamX.Tabs T (del H c) := by
  intro p hp
  obtain ⟨ps, h1, h2, h3⟩ := h p hp
  refine ⟨ps, by rw [del_ne (ne_of h1 hc (by intro z; cases z))]; exact h1, h2, fun pos cv hcv => ?_⟩
  obtain ⟨c', e1, e2⟩ := h3 pos cv hcv
  exact ⟨c', e1, by rw [del_ne (ne_of e2 hc (by intro z; unfold LamX.CodeO at z; cases z))]; exact e2⟩
section
variable {P : Program} {w : World} {K : PySem.W.Frag} {mg : Str → Option Value} {base : Heap} {C CF : Addr}
theorem ok_ro {c0 P0 : Addr} {T : List (Addr × Str)} (FnB : ∀ f, LOk P w K mg base 10 3 f (spBlk C f)) (D : DfnT K mg "_rows_of" s__rows_of P__rows_of c0) (TB : LamX.TabB base mg c0 P0) (hmT' : (P0, qRw) ∈ T) (huT' : ∀ p ∈ T, p.1 = P0 → p.2 = qRw) (U : FTxt K mg CF) (hPs : PropS P w K mg base CF "painters" 1 (getSp CF "_painters"))
    (CRB : Cal P w K mg base 12 "rows_by" P_rows_by (spRB GpF C)) : Cal P w K mg base 13 "_rows_of" P__rows_of (spRO T C CF) := by
  obtain ⟨f0, fd, F, b, m, code⟩ := D
  refine ⟨f0, fd, fun_okc F code sc__rows_of (fun vs H Q E h => ?_) (fun A outer s H vs Q E hr h => ?_), F.kp, b, m⟩
  · obtain ⟨f, L, rfl, _⟩ := h
    rfl
  obtain ⟨f, L, rfl, hf, tb, q⟩ := h
  obtain ⟨dx, t, d, h1, h2, h3⟩ := hf.ex
  have hmT : (P0, (envOfC "_rows_of" (defScope s__rows_of) s.heap.objs.size f0 (.ref c0)).qual ++ "<lambda>") ∈ T := hmT'
  have huT : ∀ p ∈ T, p.1 = P0 → p.2 = (envOfC "_rows_of" (defScope s__rows_of) s.heap.objs.size f0 (.ref c0)).qual ++ "<lambda>" := huT'
  refine ⟨_, (pss_cons (ps_set (i := 1) sc__rows_of.nd rfl (Or.inr rfl) (pe_prS (pv 0) U.cl hPs (hr.mono (by decide)))) (pss_one (ps_ret (pe_lamTo (y0 := "painters") (i := 1) CRB (hr.mono (by decide)) (pv 1) TB rfl hmT huT (by decide +kernel) (by decide +kernel) rfl rfl rfl rfl)))), ?_⟩
  refine ⟨_, rfl, f, dx, _, rfl, h1, f, dx, _, _, rfl, h1, ffs_p _ _, ?_⟩
  refine ⟨_, rfl, tb, _, rfl, fun g c' cp oc cl H2 eN nn tb2 ng lh ncp => ?_⟩
  have t2 : H2 t = some (.tup (refsOf L)) := eN _ _ h2 (fun ps z => by cases z)
  have sl : Same H2 (upd H2 cp (.frz oc (CellV cp (.ref t)))) := same_new ncp _
  have cr2 : Crew C H2 L := ⟨fun x hx => let ⟨⟨dx, e⟩, z⟩ := hf.crew.at_ x hx; ⟨⟨dx, eN _ _ e (fun ps z => by cases z)⟩, z⟩, hf.crew.nd, hf.crew.few⟩
  refine ⟨t, g, L, fSP (partsOf L), rfl, sl _ _ t2, cr2.same sl, ⟨rfl, _, cp, oc, ⟨rfl, rfl, rfl⟩, lh⟩, fun Ta as rs H3 hTa rows hist s3 => ?_⟩
  have hcp := s3 _ _ (upd_same (H := H2) (a := cp) (o := .frz oc (CellV cp (.ref t))))
  have dn : ∀ b xs, H3 b = some (.tup xs) → del H3 cp b = some (.tup xs) := fun b xs e => by rw [del_ne (ne_of e hcp (by intro z; cases z))]; exact e
  refine q Ta as rs _ (dn _ _ hTa) (RowsAt.keep rows dn) hist (fun b o e n => same_lock ncp s3 _ _ (eN b o e n)) (tabs_del (tabs_same (sl.trans s3) tb2) hcp)
end
end Ur
/-! HE: History.__init__, history, rows. -/
namespace Ur
open PySem PySem.Spec PyProof.Rows L2
def hfs (f t b s : Addr) : List (Str × V) := [("_fence", .ref f), ("_rows", .ref t), ("_by_name", .ref b), ("_stopped", .ref s)]
/-- the rows by their names -/
def bkv (as : List Addr) (rs : List Rw) : List (Key × V) := (as.zip rs).map fun p => (Sum.inr p.2.nm, V.ref p.1)
def stpR (rs : List Rw) (i : Nat) : Bool := match rs[i]? with | some r => r.stop.isSome | none => false
def dayR (rs : List Rw) (i : Nat) : Int := match rs[i]? with | some r => (match r.stop with | some s => s.1 | none => 0) | none => 0
/-- the places of those who stop, by days, then by the list -/
def StopOrd (rs : List Rw) (ps : List Nat) : Prop := ps.Perm ((List.range rs.length).filter (stpR rs)) ∧ ps.Pairwise fun i j => ¬ (dayR rs j < dayR rs i ∨ dayR rs j = dayR rs i ∧ j < i)
/-- what the class of histories must have -/
structure HTxt (K : PySem.W.Frag) (mg : Str → Option Value) (CH : Addr) : Prop where
  cl : Cls K CH
  nF : NoAttr K CH "_fence"
  nR : NoAttr K CH "_rows"
  nB : NoAttr K CH "_by_name"
  nS : NoAttr K CH "_stopped"
  mgH : mg "History" = some (.ref CH)
/-- a History stands at h -/
structure HsAt (C CF CH : Addr) (H : Hp) (h : Addr) (L : List Pt) (rs : List Rw) : Prop where
  ex : ∃ (dx f Ta b so : Addr) (as : List Addr) (ps : List Nat), H h = some (.ins CH dx (hfs f Ta b so)) ∧ FcAt C CF H f L ∧ H Ta = some (.tup (as.map V.ref)) ∧ RowsAt H as rs ∧ H b = some (.dK (bkv as rs)) ∧ H so = some (.lst (ps.map fun i => V.ref (as[i]?.getD 0))) ∧ StopOrd rs ps
theorem HsAt.same {C CF CH : Addr} {H H' : Hp} {h : Addr} {L : List Pt} {rs : List Rw} (x : HsAt C CF CH H h L rs) (s : Same H H') : HsAt C CF CH H' h L rs :=
  let ⟨dx, f, Ta, b, so, as, ps, h1, h2, h3, h4, h5, h6, h7⟩ := x.ex
  ⟨⟨dx, f, Ta, b, so, as, ps, s _ _ h1, h2.same s, s _ _ h3, h4.same s, s _ _ h5, s _ _ h6, h7⟩⟩
theorem histR_len {qs : List Quad} {SP : SPt} {rs : List Rw} (h : HistR qs SP rs) : rs.length = qs.length := by
  obtain ⟨_, _, _, rfl⟩ := h
  rw [List.length_map, List.length_range]
theorem histR_nm {L : List Pt} {SP : SPt} {rs : List Rw} (h : HistR (partsOf L) SP rs) : rs.map Rw.nm = L.map Pt.nm := by
  obtain ⟨_, _, _, rfl⟩ := h
  rw [parts_len, List.map_map]
  refine List.ext_getElem (by rw [List.length_map, List.length_map, List.length_range]) fun i h1 h2 => ?_
  have hi : i < L.length := by rw [List.length_map] at h2; exact h2
  rw [List.getElem_map, List.getElem_map, List.getElem_range]
  exact (q_at (parts_at (List.getElem?_eq_getElem hi))).1
theorem bkv_none {as : List Addr} {rs : List Rw} {nm : Str} (h : ∀ r ∈ rs, r.nm ≠ nm) : valV (bkv as rs) (Sum.inr nm : Key) = none := by
  induction as generalizing rs with
  | nil => rfl
  | cons a as ih =>
    cases rs with
    | nil => rfl
    | cons r rs =>
      show valV ((Sum.inr r.nm, V.ref a) :: bkv as rs) _ = none
      rw [valV_neg (fun e => h r List.mem_cons_self (Sum.inr.inj e))]
      exact ih fun x hx => h x (List.mem_cons_of_mem _ hx)
theorem paired_len {α β : Type} {F : α → β → Prop} {xs : List α} {ys : List β} (h : Paired F xs ys) : xs.length = ys.length := Paired.length h
theorem paired_map {α β : Type} {F : α → β → Prop} {g : α → β} {xs : List α} {ys : List β} (h : Paired F xs ys) (k : ∀ x y, F x y → g x = y) : xs.map g = ys := by
  induction h with
  | nil => rfl
  | cons f _ ih => rw [List.map_cons, k _ _ f, ih]
theorem paired_at {α β : Type} {F : α → β → Prop} : ∀ {xs : List α} {ys : List β} {i : Nat} {x : α} {y : β}, Paired F xs ys → xs[i]? = some x → ys[i]? = some y → F x y := fun {xs ys i x y} h e1 e2 => by
  obtain ⟨z, e3, f⟩ := paired_get h e1
  rw [e2] at e3
  obtain rfl := Option.some.inj e3
  exact f
abbrev s_History_init : Stmt := (inClass (topS 37) 0)
abbrev N_sc_History_init : List Str := ["self", "fence", "row", "order", "place", "_"]
abbrev P_History_init : List Str := ["self", "fence"]
theorem sc_History_init : FnScope N_sc_History_init P_History_init (defScope s_History_init) := ⟨rfl, rfl, rfl, by decide +kernel, rfl, by decide +kernel, by decide +kernel⟩
def spHInit (T : List (Addr × Str)) (C CF CH : Addr) : Sp := fun vs H Q _ => ∃ (x dx f : Addr) (L : List Pt), vs = [.ref x, .ref f] ∧ H x = some (.ins CH dx []) ∧ FcAt C CF H f L ∧ LamX.Tabs T H ∧
  ∀ H' rs, HsAt C CF CH H' x L rs → HistR (partsOf L) (fSP (partsOf L)) rs → KeepN x H H' → LamX.Tabs T H' → Q .non H'
theorem FcAt.keepN {C CF : Addr} {H H' : Hp} {f x : Addr} {L : List Pt} (h : FcAt C CF H f L) (k : KeepN x H H') (hx : ∃ CH dx fs, H x = some (.ins CH dx fs) ∧ CH ≠ C ∧ CH ≠ CF) : FcAt C CF H' f L := by
  obtain ⟨CH, dx', fs, hx, n1, n2⟩ := hx
  obtain ⟨dx, t, d, h1, h2, h3⟩ := h.ex
  have ni : ∀ b D dy gs, H b = some (.ins D dy gs) → D ≠ CH → b ≠ x := fun b D dy gs e n z => by
    rw [z, hx] at e
    have := HO.ins.inj (Option.some.inj e)
    exact n this.1.symm
  refine ⟨⟨dx, t, d, k _ _ h1 (ni _ _ _ _ h1 (fun z => n2 z.symm)) (fun ps z => by cases z), k _ _ h2 (ne_of h2 hx (by intro z; cases z)) (fun ps z => by cases z), k _ _ h3 (ne_of h3 hx (by intro z; cases z)) (fun ps z => by cases z)⟩, fun y hy => ?_, h.crew.nd, h.crew.few⟩
  obtain ⟨⟨dy, e⟩, z⟩ := h.crew.at_ y hy
  exact ⟨⟨dy, k _ _ e (ni _ _ _ _ e (fun z => n1 z.symm)) (fun ps z => by cases z)⟩, z⟩
def kH (H : Hp) (x : V) : Int × Int := match x with | .ref t => (match H t with | some (.tup [.int i, .int j]) => (i, j) | _ => (0, 0)) | _ => (0, 0)
theorem kH_at {H : Hp} {t : Addr} {i j : Int} (h : H t = some (.tup [.int i, .int j])) : kH H (.ref t) = (i, j) := by
  show (match H t with | some (.tup [.int i, .int j]) => (i, j) | _ => ((0, 0) : Int × Int)) = _
  rw [h]
theorem range_filter_succ {f : Nat → Bool} {i : Nat} : (List.range (i + 1)).filter f = (List.range i).filter f ++ (if f i = true then [i] else []) := by
  rw [List.range_succ, List.filter_append]
  congr 1
  rw [List.filter_cons]
  split <;> rfl
theorem bkv_snoc {as : List Addr} {rs : List Rw} {a : Addr} {r : Rw} (h : as.length = rs.length) : bkv (as ++ [a]) (rs ++ [r]) = bkv as rs ++ [(Sum.inr r.nm, V.ref a)] := by
  unfold bkv
  rw [List.zip_append h, List.map_append]
  rfl
section
variable {P : Program} {w : World} {K : PySem.W.Frag} {mg : Str → Option Value} {base : Heap} {C CF CH f : Addr} {fd : FuncData}
set_option maxHeartbeats 16000000 in
theorem ok_hinit {T : List (Addr × Str)} (F : Fun K "__init__" "History.__init__" s_History_init f fd) (hEn : mg "enumerate" = none) (nb_sorted : mg "sorted" = none) (U : HTxt K mg CH) (nC : CH ≠ C) (nCF : CH ≠ CF) (CRO : Cal P w K mg base 13 "_rows_of" P__rows_of (spRO T C CF)) : FnOk P w K mg base CX0 14 f fd P_History_init (spHInit T C CF CH) := by
  refine F.ok sc_History_init (fun vs H Q E h => ?_) (fun cdv A outer s H vs Q E hr h => ?_)
  · obtain ⟨x, dx, f, L, rfl, _⟩ := h
    rfl
  obtain ⟨x, dx, g, L, rfl, hx, hf, tb, q⟩ := h
  refine ⟨_, (pss_cons (ps_fld (pv 0) (pv 1) rfl) (pss_cons (ps_fld (pv 0) (pe_cal CRO (hr.mono (by decide)) (pa_cons (pv 1) pa_nil)) rfl) (pss_cons (ps_fld (pv 0) (pe_dc (own := [("row", 2)]) (g := gName 2) (tt := tYes) rfl sc_History_init.nd (pi_tup (pe_fld (pv 0) rfl)) (blkOk_by (N := N_sc_History_init) (sc := defScope s_History_init) (by decide +kernel)) (fun _ _ _ _ _ => pg_name (i := 2) sc_History_init.nd rfl (Or.inl rfl)) (fun _ _ _ _ _ => pts_nil) (fun _ _ _ _ _ => pe_ix (show IxR _ (rIxT K) from ix_tup) (pv 2) pe_int (fun _ _ => rfl)) (fun _ _ _ _ _ => pv 2)) rfl) (pss_cons (ps_set (i := 3) sc_History_init.nd rfl (Or.inl rfl) (pe_callB cr_sortedPO rfl nb_sorted (by decide +kernel) (pa_cons (pe_lc (own := [("place", 4), ("row", 2)]) (g := gTup K 2 (gCons (gName 4) (gCons (gName 2) gNil))) rfl sc_History_init.nd (pi_enumT rfl hEn (pa_cons (pe_fld (pv 0) rfl) pa_nil)) (blkOk_by (N := N_sc_History_init) (sc := defScope s_History_init) (by decide +kernel)) (fun _ _ _ _ _ => pg_tup rfl (pgs_cons (pg_name (i := 4) sc_History_init.nd rfl (Or.inl rfl)) (pgs_cons (pg_name (i := 2) sc_History_init.nd rfl (Or.inl rfl)) pgs_nil))) (fun _ _ _ _ _ => pts_one (pt_cmpR op_notN (pe_ix (show IxR _ (rIxT K) from ix_tup) (pv 2) pe_int (fun _ _ => rfl)) pe_non (nomark _))) (fun _ _ _ _ _ => pe_tup (pa_cons (pe_ix (show IxR _ (rIxT K) from ix_tup) (pe_ix (show IxR _ (rIxT K) from ix_tup) (pv 2) pe_int (fun _ _ => rfl)) pe_int (fun _ _ => rfl)) (pa_cons (pv 4) pa_nil)))) pa_nil))) (pss_one (ps_fld (pv 0) (pe_lc (own := [("_", 5), ("place", 4)]) (g := gTup K 2 (gCons (gName 5) (gCons (gName 4) gNil))) (tt := tYes) rfl sc_History_init.nd (pi_list (pv 3)) (blkOk_by (N := N_sc_History_init) (sc := defScope s_History_init) (by decide +kernel)) (fun _ _ _ _ _ => pg_tup rfl (pgs_cons (pg_name (i := 5) sc_History_init.nd rfl (Or.inl rfl)) (pgs_cons (pg_name (i := 4) sc_History_init.nd rfl (Or.inl rfl)) pgs_nil))) (fun _ _ _ _ _ => pts_nil) (fun _ _ _ _ _ => pe_ix (show IxR _ (rIxT K) from ix_tup) (show PE _ _ (tFld K (tVar 0) "_rows") from pe_fld (pv 0) rfl) (pv 4) (fun _ _ => rfl))) rfl)))))), ?_⟩
  have KN : ∀ {H1 : Hp}, KeepN x H H1 → FcAt C CF H1 g L := fun k => hf.keepN k ⟨CH, dx, _, hx, nC, nCF⟩
  -- self._fence = fence
  refine ⟨_, rfl, _, rfl, x, CH, dx, [], rfl, hx, U.cl, U.nF, (by show 0 < 1000; decide), ?_⟩
  have k1 : KeepN x H (upd H x (.ins CH dx (putF "_fence" (.ref g) []))) := KeepN.of Keep.at_
  have tb1 : LamX.Tabs T (upd H x (.ins CH dx (putF "_fence" (.ref g) []))) := fun p hp => by
    obtain ⟨ps, h1, h2, h3⟩ := tb p hp
    refine ⟨ps, by rw [upd_ne (ne_of h1 hx (by intro z; cases z))]; exact h1, h2, fun pos cv hcv => ?_⟩
    obtain ⟨c', e1, e2⟩ := h3 pos cv hcv
    exact ⟨c', e1, by rw [upd_ne (ne_of e2 hx (by intro z; unfold LamX.CodeO at z; cases z))]; exact e2⟩
  -- self._rows = _rows_of(fence)
  refine ⟨_, rfl, g, L, rfl, KN k1, tb1, fun Ta as rs H2 hTa rows hist eN tb2 => ?_⟩
  have few := hf.crew.few
  have rl : rs.length = L.length := by rw [histR_len hist, parts_len]
  have al : as.length = L.length := (paired_len rows).trans rl
  have hx2 := eN _ _ upd_same (fun ps z => by cases z)
  have k2 : KeepN x H H2 := k1.trans (KeepN.ext eN)
  refine ⟨_, rfl, x, CH, dx, _, rfl, hx2, U.cl, U.nR, (by show 1 < 1000; decide), ?_⟩
  obtain ⟨H3, e3⟩ : ∃ H3, H3 = upd H2 x (.ins CH dx (putF "_rows" (.ref Ta) (putF "_fence" (.ref g) []))) := ⟨_, rfl⟩
  rw [← e3]
  have hx3 : H3 x = some (.ins CH dx [("_fence", .ref g), ("_rows", .ref Ta)]) := by rw [e3]; exact upd_same
  have kx : ∀ (b : Addr) (o : HO), H2 b = some o → b ≠ x → H3 b = some o := fun b o e n => by rw [e3, upd_ne n]; exact e
  have hTa3 := kx _ _ hTa (ne_of hTa hx2 (by intro z; cases z))
  have rows3 : RowsAt H3 as rs := rows.keep fun b xs e => kx _ _ e (ne_of e hx2 (by intro z; cases z))
  have k3 : KeepN x H H3 := fun b o e n t => kx _ _ (k2 b o e n t) n
  have tb3 : LamX.Tabs T H3 := fun p hp => by
    obtain ⟨ps, h1, h2, h3⟩ := tb2 p hp
    refine ⟨ps, kx _ _ h1 (ne_of h1 hx2 (by intro z; cases z)), h2, fun pos cv hcv => ?_⟩
    obtain ⟨c', e1, e2⟩ := h3 pos cv hcv
    exact ⟨c', e1, kx _ _ e2 (ne_of e2 hx2 (by intro z; unfold LamX.CodeO at z; cases z))⟩
  have alen : (as.map V.ref).length = L.length := by rw [List.length_map, al]
  have row_get : ∀ {i : Nat} {v : V}, (as.map V.ref)[i]? = some v → ∃ a r, v = V.ref a ∧ as[i]? = some a ∧ rs[i]? = some r ∧ ∀ H', Same H3 H' → RwAt H' a r := fun {i v} e => by
    obtain ⟨a, ha, rfl⟩ := map_get e
    obtain ⟨r, hr2, f⟩ := paired_get rows3 ha
    exact ⟨a, r, rfl, ha, hr2, fun H' s => RwAt.keep f fun b xs e => s _ _ e⟩
  have nds : (rs.map Rw.nm).Nodup := by rw [histR_nm hist]; exact hf.crew.nd
  -- self._by_name
  refine ⟨_, rfl, x, CH, dx, _, _, rfl, hx3, U.cl, U.nR, rfl, Ta, rfl, ⟨_, .inl (.inl hTa3)⟩, fun b nb => ?_⟩
  refine gen_it walk_tup (fun i H4 => H4 b = some (.dK (bkv (as.take i) (rs.take i))) ∧ Same H3 H4) ⟨upd_same, same_new nb _⟩ (fun i H4 _ h => .inl (.inl (h.2 _ _ hTa3))) ?_ ?_
  · rintro i v H4 H5 hi ⟨hb, s4⟩ ⟨rfl, e⟩
    obtain ⟨a, r, rfl, ha, hr2, rw_⟩ := row_get e
    obtain ⟨v2, hrow, _⟩ := rw_ _ s4
    have hi2 : i < L.length := by rw [← alen]; exact hi
    refine ⟨rfl, _, rfl, a, _, _, _, rfl, rfl, SqT.of hrow, atI_nat (j := 0) rfl, _, rfl, _, Sum.inr r.nm, rfl, hb, ?_, ?_, ?_⟩
    · unfold bkv
      rw [List.length_map, List.length_zip, List.length_take, List.length_take]
      exact Nat.lt_of_le_of_lt (show min (min i as.length) (min i rs.length) ≤ 40 by omega) (by decide)
    · have nm_new : ∀ z ∈ rs.take i, z.nm ≠ r.nm := fun z hz e => by
        obtain ⟨j, hj⟩ := List.mem_iff_getElem?.mp hz
        have hji : j < i := by
          have := (List.getElem?_eq_some_iff.mp hj).1
          rw [List.length_take] at this
          omega
        rw [List.getElem?_take_of_lt hji] at hj
        have e1 : (rs.map Rw.nm)[j]? = some r.nm := by rw [List.getElem?_map, hj]; exact congrArg some e
        have e2 : (rs.map Rw.nm)[i]? = some r.nm := by rw [List.getElem?_map, hr2]; rfl
        have h1 := List.getElem?_eq_some_iff.mp e1
        have h2 := List.getElem?_eq_some_iff.mp e2
        have := (List.getElem_inj nds).mp (h1.2.trans h2.2.symm)
        omega
      rw [upd_same, putK_new _ (bkv_none nm_new), take_snoc ha, take_snoc hr2, bkv_snoc (by rw [List.length_take, List.length_take]; omega)]
    · exact sameAt s4 nb
  rintro H4 ⟨hb4, s4⟩
  rw [alen, show as.take L.length = as by rw [← al]; exact List.take_length, show rs.take L.length = rs by rw [← rl]; exact List.take_length] at hb4
  have hx4 := s4 _ _ hx3
  refine ⟨_, rfl, x, CH, dx, _, rfl, hx4, U.cl, U.nB, (by show 2 < 1000; decide), ?_⟩
  obtain ⟨H5, e5⟩ : ∃ H5, H5 = upd H4 x (.ins CH dx (putF "_by_name" (.ref b) [("_fence", .ref g), ("_rows", .ref Ta)])) := ⟨_, rfl⟩
  rw [← e5]
  have hx5 : H5 x = some (.ins CH dx [("_fence", .ref g), ("_rows", .ref Ta), ("_by_name", .ref b)]) := by rw [e5]; exact upd_same
  have kx5 : ∀ (c : Addr) (o : HO), H4 c = some o → c ≠ x → H5 c = some o := fun c o e n => by rw [e5, upd_ne n]; exact e
  have hTa5 := kx5 _ _ (s4 _ _ hTa3) (ne_of (s4 _ _ hTa3) hx4 (by intro z; cases z))
  have hb5 := kx5 _ _ hb4 (ne_of hb4 hx4 (by intro z; cases z))
  have rows5 : RowsAt H5 as rs := RowsAt.keep (RowsAt.same rows3 s4) fun c xs e => kx5 _ _ e (ne_of e hx4 (by intro z; cases z))
  have k5 : KeepN x H H5 := fun c o e n t => kx5 _ _ (s4 _ _ (k3 c o e n t)) n
  have tb5 : LamX.Tabs T H5 := fun p hp => by
    obtain ⟨ps, h1, h2, h3⟩ := tabs_same s4 tb3 p hp
    refine ⟨ps, kx5 _ _ h1 (ne_of h1 hx4 (by intro z; cases z)), h2, fun pos cv hcv => ?_⟩
    obtain ⟨c', e1, e2⟩ := h3 pos cv hcv
    exact ⟨c', e1, kx5 _ _ e2 (ne_of e2 hx4 (by intro z; unfold LamX.CodeO at z; cases z))⟩
  -- order
  refine ⟨_, rfl, x, CH, dx, _, _, rfl, hx5, U.cl, U.nR, rfl, Ta, _, rfl, SqT.of hTa5, fun D nD => ?_⟩
  refine gen_it walk_enumT (fun i H6 => ∃ (xs : List V) (zs : List Nat), H6 D = some (.lst xs) ∧ zs = (List.range i).filter (stpR rs) ∧ Paired (fun x z => ∃ t, x = V.ref t ∧ H6 t = some (.tup [.int (dayR rs z), .int (z : Int)])) xs zs ∧ Same H5 H6) ⟨[], [], upd_same, rfl, .nil, same_new nD _⟩ (fun i H6 _ ⟨_, _, _, _, _, s6⟩ => SqT.of (s6 _ _ hTa5)) ?_ ?_
  · rintro i v H6 H7 hi ⟨xs, zs, hD, rfl, pr, s6⟩ ⟨T0, y1, y2, rfl, hT, rfl, e1, e2⟩
    obtain rfl := Option.some.inj e1
    obtain ⟨a, ha, rfl⟩ := map_get e2
    obtain ⟨r, hr2, f5⟩ := paired_get rows5 ha
    have sT := same_new hT (.tup [V.int (i : Int), V.ref a])
    have s7 := s6.trans sT
    have hi2 : i < L.length := by rw [← alen]; exact hi
    have lx : xs.length ≤ 40 := by
      rw [paired_len pr]
      have := List.length_filter_le (stpR rs) (List.range i)
      rw [List.length_range] at this
      omega
    obtain ⟨v2, hrow, stp⟩ := RwAt.keep f5 fun b xs e => s7 _ _ e
    have pr7 := Paired.mapP pr fun x z ⟨t, e, h⟩ => (⟨t, e, sT _ _ h⟩ : ∃ t, x = V.ref t ∧ (upd H6 T0 (.tup [V.int (i : Int), V.ref a])) t = some (HO.tup [V.int (dayR rs z), V.int (z : Int)]))
    have hD7 := sT _ _ hD
    have est : stpR rs i = r.stop.isSome := by unfold stpR; rw [hr2]
    have edy : dayR rs i = (match r.stop with | some s => s.1 | none => 0) := by unfold dayR; rw [hr2]
    refine ⟨T0, _, rfl, .inl (.inl upd_same), rfl, _, _, rfl, _, _, rfl, rfl, ?_⟩
    refine ⟨rfl, _, rfl, a, _, _, _, rfl, rfl, SqT.of hrow, atI_nat (j := 2) rfl, rfl, _, rfl, ?_⟩
    cases es : r.stop with
    | none =>
      rw [es] at stp est
      obtain rfl : v2 = .non := stp
      refine iteNS rfl ?_
      refine ⟨xs, _, hD7, ?_, pr7, s7⟩
      rw [range_filter_succ, est]
      simp
    | some q3 =>
      obtain ⟨d3, p3, b3⟩ := q3
      rw [es] at stp est edy
      obtain ⟨t3, rfl, ht3⟩ := stp
      refine iteNN (fun z => by cases z) ?_
      refine ⟨_, rfl, a, _, _, _, rfl, rfl, SqT.of hrow, atI_nat (j := 2) rfl, t3, _, _, _, rfl, rfl, SqT.of ht3, atI_nat (j := 0) rfl, _, rfl, by show 2 ≤ sizeLine; decide, fun t4 ht4 => ?_⟩
      have s8 := same_new ht4 (.tup [.int d3, .int (i : Int)])
      have hD8 := s8 _ _ hD7
      refine ⟨xs, hD8, Nat.lt_of_le_of_lt lx (by decide), xs ++ [.ref t4], _, upd_same, rfl, ?_, sameAt (s7.trans s8) nD⟩
      rw [range_filter_succ, est]
      refine paired_snoc (Paired.mapP pr7 fun x z ⟨t, e, h⟩ => ⟨t, e, ?_⟩) ⟨t4, rfl, ?_⟩
      · rw [upd_ne (ne_of (s8 _ _ h) hD8 (by intro z; cases z))]
        exact s8 _ _ h
      · rw [upd_ne (ne_of upd_same hD8 (by intro z; cases z)), upd_same, edy]
  rintro H6 ⟨xs, zs, hD6, ez, pr6, s6⟩
  rw [alen, ← rl] at ez
  have kat : ∀ {x : V} {z : Nat}, (∃ t, x = V.ref t ∧ H6 t = some (.tup [.int (dayR rs z), .int (z : Int)])) → kH H6 x = (dayR rs z, (z : Int)) := fun ⟨t, e, h⟩ => by rw [e]; exact kH_at h
  have each : ∀ y ∈ xs, ∃ z, ∃ t, y = V.ref t ∧ H6 t = some (.tup [.int (dayR rs z), .int (z : Int)]) := fun y hy => by
    obtain ⟨i, hi⟩ := List.mem_iff_getElem?.mp hy
    obtain ⟨z, _, t, e, h⟩ := paired_get pr6 hi
    exact ⟨z, t, e, h⟩
  refine ⟨D, xs, kH H6, rfl, SqL.of hD6, fun y hy => ?_, fun ys O srt stb nO => ?_⟩
  · obtain ⟨z, t, e, h⟩ := each y hy
    exact ⟨t, e, by rw [e, kH_at h]; exact h⟩
  have pm := stb.perm
  have sO := same_new nO (.lst ys)
  have hTa7 := sO _ _ (s6 _ _ hTa5)
  have hx7 := sO _ _ (s6 _ _ hx5)
  have xsz : xs.map (fun y => (kH H6 y).2.toNat) = zs := paired_map pr6 fun x z f => by rw [kat f]; exact Int.toNat_natCast z
  have zmem : ∀ y ∈ ys, ∃ z, z < rs.length ∧ kH H6 y = (dayR rs z, (z : Int)) ∧ ∃ t, y = V.ref t ∧ H6 t = some (.tup [.int (dayR rs z), .int (z : Int)]) := fun y hy => by
    obtain ⟨i, hi⟩ := List.mem_iff_getElem?.mp (pm.mem_iff.mp hy)
    obtain ⟨z, hz, f⟩ := paired_get pr6 hi
    have : z ∈ zs := List.mem_of_getElem? hz
    rw [ez] at this
    exact ⟨z, List.mem_range.mp (List.mem_filter.mp this).1, kat f, f⟩
  have ylen : ys.length ≤ 40 := by
    rw [pm.length_eq, paired_len pr6, ez]
    have := List.length_filter_le (stpR rs) (List.range rs.length)
    rw [List.length_range] at this
    omega
  -- self._stopped
  refine ⟨_, rfl, O, rfl, ⟨_, SqL.of upd_same⟩, fun S nS => ?_⟩
  refine gen_it walk_list (fun i H8 => H8 S = some (.lst ((ys.take i).map fun y => V.ref (as[(kH H6 y).2.toNat]?.getD 0))) ∧ Same (upd H6 O (.lst ys)) H8) ⟨upd_same, same_new nS _⟩ (fun i H8 _ h => SqL.of (h.2 _ _ upd_same)) ?_ ?_
  · rintro i y H8 H9 hi ⟨hS, s8⟩ ⟨rfl, e⟩
    obtain ⟨z, hz, kz, t, rfl, ht⟩ := zmem y (List.mem_of_getElem? e)
    have ht8 := s8 _ _ (sO _ _ ht)
    obtain ⟨a, ha⟩ : ∃ a, as[z]? = some a := ⟨_, List.getElem?_eq_getElem (by omega)⟩
    refine ⟨t, _, rfl, .inl (.inl ht8), rfl, _, _, rfl, _, _, rfl, rfl, ?_⟩
    refine ⟨rfl, _, rfl, x, CH, dx, _, _, rfl, s8 _ _ hx7, U.cl, U.nR, rfl, _, rfl, Ta, _, _, _, rfl, rfl, SqT.of (s8 _ _ hTa7), atI_nat (show (as.map V.ref)[z]? = some (V.ref a) by rw [List.getElem?_map, ha]; rfl), _, hS, ?_, ?_, sameAt s8 nS⟩
    · rw [List.length_map, List.length_take]
      exact Nat.lt_of_le_of_lt (show min i ys.length ≤ 40 by omega) (by decide)
    · rw [upd_same, take_snoc e, List.map_append]
      show _ = some (HO.lst (_ ++ [V.ref (as[(kH H6 (.ref t)).2.toNat]?.getD 0)]))
      rw [kz]
      show _ = some (HO.lst (_ ++ [V.ref (as[((z : Int)).toNat]?.getD 0)]))
      rw [Int.toNat_natCast, ha]
      rfl
  rintro H8 ⟨hS, s8⟩
  rw [List.take_length] at hS
  have s58 := (s6.trans sO).trans s8
  have hx8 := s58 _ _ hx5
  refine ⟨_, rfl, x, CH, dx, _, rfl, hx8, U.cl, U.nS, (by show 3 < 1000; decide), ?_⟩
  obtain ⟨H9, e9⟩ : ∃ H9, H9 = upd H8 x (.ins CH dx (putF "_stopped" (.ref S) [("_fence", .ref g), ("_rows", .ref Ta), ("_by_name", .ref b)])) := ⟨_, rfl⟩
  rw [← e9]
  have kx9 : ∀ (c : Addr) (o : HO), H8 c = some o → c ≠ x → H9 c = some o := fun c o e n => by rw [e9, upd_ne n]; exact e
  have k9 : KeepN x H H9 := fun c o e n t => kx9 _ _ (s58 _ _ (k5 c o e n t)) n
  refine q H9 rs ⟨⟨dx, g, Ta, b, S, as, ys.map (fun y => (kH H6 y).2.toNat), by rw [e9]; exact upd_same, KN k9, kx9 _ _ (s58 _ _ hTa5) (ne_of (s58 _ _ hTa5) hx8 (by intro z; cases z)), RowsAt.keep (RowsAt.same rows5 s58) (fun c xs e => kx9 _ _ e (ne_of e hx8 (by intro z; cases z))), kx9 _ _ (s58 _ _ hb5) (ne_of (s58 _ _ hb5) hx8 (by intro z; cases z)), ?_, ?_, ?_⟩⟩ hist k9 ?_
  · rw [List.map_map]
    exact kx9 _ _ hS (ne_of hS hx8 (by intro z; cases z))
  · rw [← ez, ← xsz]
    exact pm.map _
  · refine List.pairwise_map.mpr (List.Pairwise.imp_of_mem (fun {a b} ha hb h z => ?_) srt)
    obtain ⟨za, _, ka, _⟩ := zmem a ha
    obtain ⟨zb, _, kb, _⟩ := zmem b hb
    rw [ka, kb] at z
    have : SrtO.lexB (kH H6 b) (kH H6 a) = true := by
      rw [ka, kb, SrtO.lexB_iff]
      simp only [Int.toNat_natCast] at z
      rcases z with z | z
      · exact .inl z
      · exact .inr ⟨z.1, by show (zb : Int) < za; omega⟩
    have h' : SrtO.lexB (kH H6 b) (kH H6 a) = false := h
    rw [this] at h'
    cases h'
  · intro p hp
    obtain ⟨ps, h1, h2, h3⟩ := tabs_same s58 tb5 p hp
    refine ⟨ps, kx9 _ _ h1 (ne_of h1 hx8 (by intro z; cases z)), h2, fun pos cv hcv => ?_⟩
    obtain ⟨c', e1, e2⟩ := h3 pos cv hcv
    exact ⟨c', e1, kx9 _ _ e2 (ne_of e2 hx8 (by intro z; unfold LamX.CodeO at z; cases z))⟩
end
/-! ### History(..), history(..), .rows -/
def MkH (P : Program) (w : World) (K : PySem.W.Frag) (mg : Str → Option Value) (base : Heap) (T : List (Addr × Str)) (C CF CH : Addr) : Prop := ∃ f fd, Mk K CH f ∧ FnOk P w K mg base CX0 14 f fd P_History_init (spHInit T C CF CH) ∧ Binds K fd P_History_init []
section
variable {X : Cx} {T : List (Addr × Str)} {C CF CH : Addr} {e : Expr} {es : List Expr} {pos p : Pos} {t : TA}
theorem pe_mkH (hp : MkH X.prog X.w X.K X.mg X.base T C CF CH) (U : HTxt X.K X.mg CH) (hr : Room 15 X.A) (ha : PA X (e :: es) t) (hg : Gl X "History" := by rfl)
    (he : starEach (e :: es) X.env = (false, eval e X.env) :: starEach es X.env := by rfl) (hpl : (backTo pos (starEach es X.env)).any (·.1) = false := by rfl) : PE X (.Call (.Name "History" p) (e :: es) [] pos) (tMake CH (spHInit T C CF CH) [] E0 t) := by
  obtain ⟨f, fd, M, F, b⟩ := hp
  exact pe_make M F hr hg U.mgH b .nil pass0 ha (he := he) (hpl := hpl)
end
/-- how a History is asked for -/
theorem ask_hist {T : List (Addr × Str)} {C CF CH : Addr} {H : Hp} {x dx f : Addr} {L : List Pt} {Q : VK} {E : XK} (nx : H x = none) (nd : H dx = none) (nex : dx ≠ x) (hf : FcAt C CF H f L) (tb : LamX.Tabs T H)
    (q : ∀ H' rs, HsAt C CF CH H' x L rs → HistR (partsOf L) (fSP (partsOf L)) rs → LamX.ExtN H H' → LamX.Tabs T H' → Q .non H') : spHInit T C CF CH [.ref x, .ref f] (upd (upd H dx (.own x)) x (.ins CH dx [])) Q E := by
  have s1 : Same H (upd (upd H dx (.own x)) x (.ins CH dx [])) := fun b o e => by rw [upd_ne (ne_of_none e nx), upd_ne (ne_of_none e nd)]; exact e
  refine ⟨x, dx, f, L, rfl, upd_same, hf.same s1, tabs_same s1 tb, fun H' rs h1 h2 k tb' => q H' rs h1 h2 (fun b o e n => k b o (s1 b o e) (ne_of_none e nx) n) tb'⟩
abbrev s_History_rows : Stmt := (inClass (topS 37) 2)
abbrev N_sc_History_rows : List Str := ["self"]
abbrev P_History_rows : List Str := ["self"]
theorem sc_History_rows : FnScope N_sc_History_rows P_History_rows (defScope s_History_rows) := ⟨rfl, rfl, rfl, by decide +kernel, rfl, by decide +kernel, by decide +kernel⟩
section
variable {P : Program} {w : World} {K : PySem.W.Frag} {mg : Str → Option Value} {base : Heap} {CH f : Addr} {fd : FuncData}
theorem ok_get_rows (F : Fun K "rows" "History.rows" s_History_rows f fd) (U : HTxt K mg CH) : FnOk P w K mg base CX0 1 f fd ["self"] (getSp CH "_rows") := by
  refine F.ok sc_History_rows (fun vs H Q E h => ?_) (fun cdv A outer s H vs Q E hr h => ?_)
  · obtain ⟨_, _, _, _, rfl, _⟩ := h
    rfl
  obtain ⟨a, dx, fs, v, rfl, ha, hv, q⟩ := h
  refine ⟨_, (pss_one (ps_ret (pe_fld (pv 0) rfl))), ?_⟩
  exact ⟨_, rfl, a, CH, dx, fs, v, rfl, ha, U.cl, U.nR, hv, q⟩
end
end Ur
/-! KI: the law's own inverse, greatest divisor, common numbers. -/
namespace Ur
open PySem PySem.Spec PyProof.Rows L2
end Ur
/-! HG: the law's own first block of a pair. -/
namespace Ur
open PySem PySem.Spec PyProof.Rows L2
end Ur
/-! HH: the law's own pairs, and the next stop of a painter. -/
namespace Ur
open PySem PySem.Spec PyProof.Rows L2
theorem natAbs_le {x b : Int} (h0 : -b ≤ x) (h1 : x ≤ b) : (x.natAbs : Int) ≤ b := by omega
section
variable {K : PySem.W.Frag}
theorem Team.ix {H : Hp} {ts : List Addr} {qs : List Quad} (h : Team H ts qs) {i : Nat} (hi : i < qs.length) : ∃ t q, ts[i]? = some t ∧ qs[i]? = some q ∧ H t = some (.tup (quadV q)) ∧ QuadOk q ∧ (ts.map V.ref)[i]? = some (V.ref t) := by
  have hi1 : i < ts.length := by rw [h.len]; exact hi
  have e1 : ts[i]? = some ts[i] := List.getElem?_eq_getElem hi1
  have e2 : qs[i]? = some qs[i] := List.getElem?_eq_getElem hi
  exact ⟨_, _, e1, e2, h.at_ i _ _ e1 e2, h.ok _ (List.getElem_mem hi), by rw [List.getElem?_map, e1]; rfl⟩
theorem same_sql {H H' : Hp} {F : Addr} {xs : List V} (s : Same H H') (h : SqL K H F xs) : SqL K H' F xs := by
  rcases h with (h | ⟨o, h⟩) | h
  · exact .inl (.inl (s _ _ h))
  · exact .inl (.inr ⟨o, s _ _ h⟩)
  · exact .inr h
end
theorem blk_pblk {qs : List Quad} {a b : Nat} {x y : Quad} {cnt : Option Int} (h1 : qs[a]? = some x) (h2 : qs[b]? = some y) {n : Int} : Blk x.2.2.1 x.2.1 x.2.2.2 y.2.2.1 y.2.1 y.2.2.2 cnt (decide (b < a)) n ↔ PBlk (dQ qs) (fSP qs) a b cnt n := by
  obtain ⟨_, d1, d2, d3⟩ := q_at h1
  obtain ⟨_, d4, d5, d6⟩ := q_at h2
  unfold Blk PBlk fSP
  rw [d1, d2, d3, d4, d5, d6]
  constructor
  · rintro ⟨m, m0, e, pj, o⟩
    exact ⟨m, m0, e, pj, o.imp id fun q => ⟨q.2, of_decide_eq_true q.1⟩⟩
  · rintro ⟨m, m0, e, pj, o⟩
    exact ⟨m, m0, e, pj, o.imp id fun q => ⟨decide_eq_true q.2, q.1⟩⟩
end Ur
/-! UrFl: [x for x in xs if x is not None], as one step. -/
namespace Ur
open PySem PySem.Spec PyProof.Rows L2
def keepV (v : V) : Bool := !decide (v = .non)
/-- the new list of those that are not None -/
def tFilt (i : Nat) : TE := fun σ H Q => ∃ (a : Addr) (xs : List V), σ[i]? = some (some (.ref a)) ∧ H a = some (.lst xs) ∧ xs.length < sizeLine ∧ ∀ D, H D = none → Q (.ref D) (upd H D (.lst (xs.filter keepV)))
theorem filter_take_succ {xs : List V} {i : Nat} {v : V} (h : xs[i]? = some v) : (xs.take (i + 1)).filter keepV = (xs.take i).filter keepV ++ (if keepV v = true then [v] else []) := by
  rw [List.take_add_one, h, List.filter_append]
  congr 1
  show [v].filter keepV = _
  rw [List.filter_cons]
  split <;> rfl
section
variable {X : Cx} {x l : Str} {i j : Nat} {elt tg : Expr} {ifs : List Expr} {scope : Scope} {pos p3 : Pos} {tt : TT}
theorem pe_filt (htt : ∀ σ H Q v, σ[j]? = some (some v) → Q (keepV v) H → tt σ H Q) (hc : X.calm = true) (nd : X.N.Nodup) (hl : PE X (.Name l p3) (tVar i)) (hj : X.N[j]? = some x) (ok : BlkOk X.N X.env.scope scope [(x, j)])
    (hg : ∀ (s : Shared) (H : Hp) (C : Addr) (cl : List (Str × Addr)) (fp : List Addr), PG (X.blk s H scope (compEnvC scope cl C X.env) fp) tg (gName j)) (ht : ∀ (s : Shared) (H : Hp) (C : Addr) (cl : List (Str × Addr)) (fp : List Addr), PTs (X.blk s H scope (compEnvC scope cl C X.env) fp) ifs tt)
    (he : ∀ (s : Shared) (H : Hp) (C : Addr) (cl : List (Str × Addr)) (fp : List Addr), PE (X.blk s H scope (compEnvC scope cl C X.env) fp) elt (tVar j)) :
    PE X (.ListComp elt [⟨tg, .Name l p3, ifs, 0⟩] scope pos) (tFilt i) := by
  refine ⟨fun pins s σ H Q I h => ?_⟩
  have h0 := pe_lc (own := [(x, j)]) (g := gName j) (tt := tt) (te := tVar j) (pos := pos) hc nd (pi_list hl) ok hg ht he
  refine h0.run pins s σ H Q I ?_
  obtain ⟨a, xs, hs, ha, lx, q⟩ := h
  have jl : j < σ.length := by rw [I.len]; exact (List.getElem?_eq_some_iff.mp hj).1
  refine ⟨_, hs, a, rfl, ⟨xs, SqL.of ha⟩, fun D nD => ?_⟩
  have nDa : a ≠ D := ne_of_none ha nD
  refine gen_it walk_list (fun k H1 => H1 = upd H D (.lst ((xs.take k).filter keepV))) rfl (fun k H1 _ e => by rw [e]; exact SqL.of (by rw [upd_ne nDa]; exact ha)) ?_ ?_
  · rintro k v H1 H2 hk rfl ⟨rfl, e⟩
    have ew : wipe σ ([(x, j)].map (·.2)) = σ.set j none := rfl
    rw [ew]
    have at_ : ((σ.set j none).set j (some v))[j]? = some (some v) := List.getElem?_set_self (by rw [List.length_set]; exact jl)
    refine ⟨?_, htt _ _ _ v at_ ?_⟩
    · show ((σ.set j none).set j (some v)).set j none = σ.set j none
      rw [List.set_set, List.set_set]
    · cases ek : keepV v with
      | true =>
        refine iteT ⟨v, at_, _, upd_same, Nat.lt_of_le_of_lt (Nat.le_trans (List.length_filter_le _ _) (List.length_take_le _ _)) (Nat.lt_trans hk lx), ?_⟩
        rw [upd_upd, filter_take_succ e, if_pos ek]
      | false =>
        refine iteF ?_
        rw [filter_take_succ e, if_neg (by rw [ek]; exact Bool.false_ne_true), List.append_nil]
  · rintro H1 rfl
    rw [List.take_length]
    exact q D nD
end
/-- the items of a list that are not None are tuples, each with its numbers -/
theorem filt_tups {H : Hp} : ∀ {xs : List V}, (∀ v ∈ xs, v = .non ∨ ∃ (t : Addr) (k : List Int), v = .ref t ∧ H t = some (.tup (k.map V.int))) → ∃ ks : List (List Int), TupsI H (xs.filter keepV) ks ∧ (∀ k ∈ ks, ∃ t, V.ref t ∈ xs ∧ H t = some (.tup (k.map V.int))) ∧ ∀ t, V.ref t ∈ xs → ∃ k ∈ ks, H t = some (.tup (k.map V.int))
  | [], _ => ⟨[], .nil, (fun k h => nomatch h), fun t h => nomatch h⟩
  | v :: xs, h => by
    obtain ⟨ks, h1, h2, h3⟩ := filt_tups fun u hu => h u (List.mem_cons_of_mem _ hu)
    rcases h v List.mem_cons_self with rfl | ⟨t, k, rfl, ht⟩
    · refine ⟨ks, h1, fun k hk => let ⟨t, a, b⟩ := h2 k hk; ⟨t, List.mem_cons_of_mem _ a, b⟩, fun t ht => ?_⟩
      rcases List.mem_cons.mp ht with e | ht
      · cases e
      · exact h3 t ht
    · refine ⟨k :: ks, .cons ⟨t, rfl, ht⟩ h1, fun z hz => ?_, fun u hu => ?_⟩
      · rcases List.mem_cons.mp hz with rfl | hz
        · exact ⟨t, List.mem_cons_self, ht⟩
        · obtain ⟨u, a, b⟩ := h2 z hz
          exact ⟨u, List.mem_cons_of_mem _ a, b⟩
      · rcases List.mem_cons.mp hu with e | hu
        · cases e
          exact ⟨k, List.mem_cons_self, ht⟩
        · obtain ⟨z, a, b⟩ := h3 u hu
          exact ⟨z, List.mem_cons_of_mem _ a, b⟩
/-! ### tuples of whole numbers as data -/
def tupData (k : List Int) : PyData := .tuple (k.map .int)
theorem ints_lay : ∀ k : List Int, PyData.canLayAll0 (k.map .int) = true
  | [] => by simp [PyData.canLayAll0]
  | i :: k => by simp [PyData.canLayAll0, PyData.canLay0, ints_lay k]
theorem ints_depth : ∀ k : List Int, PyData.depthAll (k.map .int) = 0
  | [] => by simp [PyData.depthAll]
  | i :: k => by simp [PyData.depthAll, PyData.depth, ints_depth k]
theorem tups_lay : ∀ ks : List (List Int), PyData.canLayAll0 (ks.map tupData) = true
  | [] => by simp [PyData.canLayAll0]
  | k :: ks => by simp [PyData.canLayAll0, tupData, PyData.canLay0, ints_lay k, tups_lay ks]
theorem tups_depth : ∀ ks : List (List Int), PyData.depthAll (ks.map tupData) ≤ 1
  | [] => by simp [PyData.depthAll]
  | k :: ks => by
    have h1 := tups_depth ks
    have h2 := ints_depth k
    simp only [List.map_cons, PyData.depthAll, tupData, PyData.depth]
    omega
theorem tups_shaped (ks : List (List Int)) : SeqAt.shaped (.list (ks.map tupData)) = true := by
  have h1 := tups_depth ks
  have h2 : PyData.depth (.list (ks.map tupData)) ≤ 64 := by
    simp only [PyData.depth]
    omega
  show (PyData.canLay0 (.list (ks.map tupData)) && decide (PyData.depth (.list (ks.map tupData)) ≤ 64)) = true
  rw [Bool.and_eq_true]
  exact ⟨by simp only [PyData.canLay0]; exact tups_lay ks, decide_eq_true h2⟩
theorem tups_eqv_nil (ks : List (List Int)) : PyData.eqv (.list (ks.map tupData)) (.list []) = ks.isEmpty := by
  cases ks with
  | nil => simp [PyData.eqv, PyData.eqvAll]
  | cons k ks => simp [PyData.eqv, PyData.eqvAll]
theorem dp_ints {K : PySem.W.Frag} {H : Hp} : ∀ k : List Int, DpAll K H (k.map V.int) (k.map .int)
  | [] => .nil
  | i :: k => .cons (.int i) (dp_ints k)
theorem dp_tups {K : PySem.W.Frag} {H : Hp} : ∀ {xs : List V} {ks : List (List Int)}, TupsI H xs ks → DpAll K H xs (ks.map tupData)
  | _, _, .nil => .nil
  | _, _, .cons ⟨t, e, ht⟩ r => by
    subst e
    exact .cons (.tup (SqT.of ht) (dp_ints _)) (dp_tups r)
end Ur
/-! HI: the law's own history. -/
namespace Ur
open PySem PySem.Spec PyProof.Rows L2
end Ur
/-! UrSh: what can be shown, with short leaves; a call of what an expression gives. -/
namespace Ur
open PySem PySem.Spec PyProof.Rows L2
/-! ### what can be shown, with short leaves -/
structure ShB (d : PyData) (n k : Nat) : Prop where
  sh : d.showable = true
  nd : d.hasDict = false
  dp : d.depth ≤ k
  lv : d.leavesShort 110 = true
  wt : d.weight ≤ n
structure ShBAll (ds : List PyData) (n k : Nat) : Prop where
  sh : PyData.showableAll ds = true
  nd : PyData.hasDictAll ds = false
  dp : PyData.depthAll ds ≤ k
  lv : PyData.leavesShortAll 110 ds = true
  wt : PyData.weightAll ds ≤ n
theorem ShB.mono {d : PyData} {n k m j : Nat} (s : ShB d n k) (h1 : n ≤ m) (h2 : k ≤ j) : ShB d m j := ⟨s.sh, s.nd, Nat.le_trans s.dp h2, s.lv, Nat.le_trans s.wt h1⟩
theorem ShB.int {i : Int} {b : Nat} (h : i.natAbs < 2 ^ b) (h0 : 0 < b) (h1 : b ≤ 105) : ShB (.int i) b 0 := by
  have z := PySem.Flt.log2_lt_of h0 h
  refine ⟨decide_eq_true (by omega), rfl, Nat.le_refl _, decide_eq_true ?_, ?_⟩
  · have e : PyData.shown (.int i) = Str.ofString (toString i) := by simp only [PyData.shown]
    rw [e, PySem.ofString_length]
    exact Nat.le_trans (PySem.int_text_length_le (k := b) h0 z) (by omega)
  · show (if i == 0 then 0 else i.natAbs.log2 + 1) ≤ b
    split <;> omega
theorem ShB.str {x : Str} (h : ∀ c ∈ x.cps.toList, c < 16 ^ 8) : ShB (.str x) x.length 0 := ⟨rfl, rfl, Nat.le_refl _, List.all_eq_true.mpr fun c hc => decide_eq_true (h c hc), Nat.le_refl _⟩
theorem ShB.non : ShB .none 0 0 := ⟨rfl, rfl, Nat.le_refl _, rfl, Nat.le_refl _⟩
theorem ShBAll.nil : ShBAll [] 0 0 := ⟨rfl, rfl, Nat.le_refl _, rfl, Nat.le_refl _⟩
theorem ShBAll.cons {d : PyData} {ds : List PyData} {n k m j : Nat} (a : ShB d n k) (b : ShBAll ds m j) : ShBAll (d :: ds) (n + 1 + m) (max k j) := by
  refine ⟨?_, ?_, ?_, ?_, ?_⟩
  · show (d.showable && PyData.showableAll ds) = true
    rw [a.sh, b.sh]; rfl
  · show (d.hasDict || PyData.hasDictAll ds) = false
    rw [a.nd, b.nd]; rfl
  · show max d.depth (PyData.depthAll ds) ≤ max k j
    have := a.dp; have := b.dp; omega
  · show (d.leavesShort 110 && PyData.leavesShortAll 110 ds) = true
    rw [a.lv, b.lv]; rfl
  · show d.weight + 1 + PyData.weightAll ds ≤ n + 1 + m
    have := a.wt; have := b.wt; omega
theorem ShBAll.lst {ds : List PyData} {n k : Nat} (a : ShBAll ds n k) : ShB (.list ds) n (k + 1) := ⟨a.sh, a.nd, Nat.succ_le_succ a.dp, a.lv, a.wt⟩
theorem ShBAll.tup {ds : List PyData} {n k : Nat} (a : ShBAll ds n k) : ShB (.tuple ds) n (k + 1) := ⟨a.sh, a.nd, Nat.succ_le_succ a.dp, a.lv, a.wt⟩
theorem ShBAll.all {ds : List PyData} {n k : Nat} (h : ∀ d ∈ ds, ShB d n k) : ShBAll ds ((n + 1) * ds.length) k := by
  induction ds with
  | nil => exact ⟨rfl, rfl, Nat.zero_le _, rfl, Nat.le_refl _⟩
  | cons d r ih =>
    have a := h d List.mem_cons_self
    have b := ih fun x hx => h x (List.mem_cons_of_mem _ hx)
    have c := ShBAll.cons a b
    refine ⟨c.sh, c.nd, by have := c.dp; omega, c.lv, Nat.le_trans c.wt ?_⟩
    rw [List.length_cons, Nat.mul_succ]
    omega
/-- it can be shown -/
structure Fit (d : PyData) : Prop where
  sh : d.showable = true
  nd : d.hasDict = false
  dp : d.depth ≤ 64
  sz : d.shown.length ≤ sizeLine
theorem ShB.fit {d : PyData} {n k : Nat} (s : ShB d n k) (h : n ≤ 100000) (h2 : k ≤ 64) : Fit d := by
  refine ⟨s.sh, s.nd, Nat.le_trans s.dp h2, ?_⟩
  have z := PyData.shown_le 110 (by decide) d s.lv
  have w : (110 + 2) * d.weight ≤ 112 * 100000 := Nat.mul_le_mul_left _ (Nat.le_trans s.wt h)
  have e : sizeLine = 16777216 := by decide
  omega
def rReprT (K : PySem.W.Frag) : List V → Hp → VK → Prop := fun xs H Q => ∃ (x : V) (d : PyData), xs = [x] ∧ Dp K H x d ∧ Fit d ∧ ∀ z : Str, z = d.shown → Q (.str z) H
theorem call_reprT {X : Cx} (hs : Still X.A) (hu : X.A.units + 66 < cLine) : CallR X (.builtin "repr") (rReprT X.K) := by
  intro pins s σ H xs us Q I r h
  obtain ⟨x, d, rfl, hd, f, q⟩ := h
  exact call_reprD hs hu pins s σ H [x] us Q I r ⟨x, d, rfl, hd, f.sh, f.nd, f.dp, f.sz, q _ rfl⟩
theorem ShB.int10 {i : Int} {k : Nat} (h : i.natAbs < 10 ^ k) (h0 : 0 < k) (h1 : k ≤ 105) : ShB (.int i) 400 0 := by
  have lt : i.natAbs < 2 ^ 400 := Nat.lt_of_lt_of_le h (Nat.le_trans (Nat.pow_le_pow_right (by decide) h1) (by decide))
  have z := PySem.Flt.log2_lt_of (show 0 < 400 by decide) lt
  refine ⟨decide_eq_true (by omega), rfl, Nat.le_refl _, decide_eq_true ?_, ?_⟩
  · have e : PyData.shown (.int i) = Str.ofString (toString i) := by simp only [PyData.shown]
    rw [e, PySem.ofString_length]
    exact Nat.le_trans (PySem.int_text_length_le10 h0 h) (by omega)
  · show (if i == 0 then 0 else i.natAbs.log2 + 1) ≤ 400
    split <;> omega
/-! ### a call of what an expression gives -/
/-- the def at f keeps the promise sp -/
def FunAt (P : Program) (w : World) (K : PySem.W.Frag) (mg : Str → Option Value) (base : Heap) (k : Nat) (f : Addr) (sp : Sp) : Prop := ∃ fd ps, FnOk P w K mg base CX0 k f fd ps sp ∧ PySem.W.keepIn K (.ref f) = true ∧ Binds K fd ps []
def tCallE (P : Program) (w : World) (K : PySem.W.Frag) (mg : Str → Option Value) (base : Heap) (k : Nat) (te : TE) (t : TA) : TE := fun σ H Q => te σ H fun v H1 => ∃ (f : Addr) (sp : Sp), v = .ref f ∧ FunAt P w K mg base k f sp ∧ t σ H1 fun vs H2 => sp vs H2 Q E0
section
variable {X : Cx} {k : Nat} {fe e : Expr} {es : List Expr} {te : TE} {t : TA} {pos : Pos}
theorem pe_callE (hf : PE X fe te) (hr : Room k X.A) (ha : PA X (e :: es) t) (hc : eval (.Call fe (e :: es) [] pos) X.env = (do callWith pos (← eval fe X.env) [] (backTo pos (starEach (e :: es) X.env)) (backToKw pos (keywordEach [] X.env))) := by rfl)
    (he : starEach (e :: es) X.env = (false, eval e X.env) :: starEach es X.env := by rfl) (hpl : (backTo pos (starEach es X.env)).any (·.1) = false := by rfl) :
    PE X (.Call fe (e :: es) [] pos) (tCallE X.prog X.w X.K X.mg X.base k te t) := by
  refine ⟨fun pins s σ H Q I h => ?_⟩
  refine Call_ (thn (hf.run pins s σ H _ I h) fun u s1 ⟨v, H1, I1, r1, q1⟩ => ?_) hc
  obtain ⟨f, sp, ev, ⟨fd, ps, F, kp, b⟩, q⟩ := q1
  subst ev
  obtain rfl : u = Value.ref f := r1
  refine PySem.W.callWith_K (first := []) (h₀ := X.base) I1.ok.mod.kin kp (thn (ha.run pos pins s1 σ H1 _ I1 q) fun us s2 ⟨vs, H2, I2, r2, q2⟩ => ⟨I2.kIn, ?_⟩) he hpl
  exact run_fn F hr b .nil pass0 I2 r2 (by rw [List.append_nil]; exact q2)
end
end Ur
/-! HJ: rows of histories as data that can be shown. -/
namespace Ur
open PySem PySem.Spec PyProof.Rows L2
def optDt : Option Int → PyData
  | none => .none
  | some i => .int i
def stopD : Option (Int × Int × Str) → PyData
  | none => .none
  | some (d, p, b) => .tuple [.int d, .int p, .str b]
def rwD (r : Rw) : PyData := .tuple [.str r.nm, optDt r.cnt, stopD r.stop]
theorem dp_opt {K : PySem.W.Frag} {H : Hp} : ∀ o : Option Int, Dp K H (optV o) (optDt o)
  | none => .non
  | some i => .int i
theorem dp_stop {K : PySem.W.Frag} {H : Hp} {v : V} : ∀ {s : Option (Int × Int × Str)}, StopAt H v s → Dp K H v (stopD s)
  | none, h => by
    obtain rfl : v = .non := h
    exact .non
  | some (d, p, b), h => by
    obtain ⟨t, rfl, ht⟩ := h
    exact .tup (SqT.of ht) (.cons (.int d) (.cons (.int p) (.cons (.str b) .nil)))
theorem dp_row {K : PySem.W.Frag} {H : Hp} {a : Addr} {r : Rw} (h : RwAt H a r) : Dp K H (.ref a) (rwD r) := by
  obtain ⟨v, e, s⟩ := h
  exact .tup (SqT.of e) (.cons (.str _) (.cons (dp_opt _) (.cons (dp_stop s) .nil)))
theorem dp_rows {K : PySem.W.Frag} {H : Hp} : ∀ {as : List Addr} {rs : List Rw}, RowsAt H as rs → DpAll K H (as.map V.ref) (rs.map rwD)
  | _, _, .nil => .nil
  | _, _, .cons h t => .cons (dp_row h) (dp_rows t)
/-- the numbers and the names of a row are short -/
structure RwB (r : Rw) : Prop where
  nm : NameOk r.nm
  ct : ∀ c, r.cnt = some c → c.natAbs < 10 ^ 90
  st : ∀ d p b, r.stop = some (d, p, b) → d.natAbs < 10 ^ 90 ∧ p.natAbs < 10 ^ 90 ∧ NameOk b
theorem name_shortR {z : Str} (h : NameOk z) : ∀ c ∈ z.cps.toList, c < 16 ^ 8 := fun c hc => by
  have := h.2.2 c hc
  have e : (16 : Nat) ^ 8 = 4294967296 := by decide
  omega
theorem rw_sh {r : Rw} (h : RwB r) : ShB (rwD r) 1700 2 := by
  have a := (ShB.str (name_shortR h.nm)).mono h.nm.2.1 (Nat.le_refl 0)
  have b : ShB (optDt r.cnt) 400 0 := by
    cases e : r.cnt with
    | none => exact ShB.non.mono (Nat.zero_le _) (Nat.le_refl 0)
    | some c => exact ShB.int10 (h.ct c e) (by decide) (by decide)
  have c : ShB (stopD r.stop) 811 1 := by
    cases e : r.stop with
    | none => exact ShB.non.mono (Nat.zero_le _) (Nat.zero_le _)
    | some q =>
      obtain ⟨d, p, z⟩ := q
      obtain ⟨h1, h2, h3⟩ := h.st d p z e
      have z1 := (ShB.str (name_shortR h3)).mono h3.2.1 (Nat.le_refl 0)
      exact (ShBAll.cons (ShB.int10 h1 (by decide) (by decide)) (ShBAll.cons (ShB.int10 h2 (by decide) (by decide)) (ShBAll.cons z1 ShBAll.nil))).tup.mono (by decide) (by decide)
  exact (ShBAll.cons a (ShBAll.cons b (ShBAll.cons c ShBAll.nil))).tup.mono (by decide) (by decide)
theorem rows_sh {rs : List Rw} (h : ∀ r ∈ rs, RwB r) (few : rs.length ≤ 40) : Fit (.tuple (rs.map rwD)) := by
  have a : ShBAll (rs.map rwD) (1701 * (rs.map rwD).length) 2 := ShBAll.all fun d hd => by
    obtain ⟨r, hr, rfl⟩ := List.mem_map.mp hd
    exact rw_sh (h r hr)
  refine a.tup.fit ?_ (by decide)
  rw [List.length_map]
  omega
theorem rows_b {qs : List Quad} {SP : SPt} {rs : List Rw} (ok : ∀ q ∈ qs, QuadOk q) (h : HistR qs SP rs) : ∀ r ∈ rs, RwB r := by
  obtain ⟨Cn, Bn, hc, rfl⟩ := h
  intro r hr
  obtain ⟨i, hi, rfl⟩ := List.mem_map.mp hr
  have hi := List.mem_range.mp hi
  have e1 : qs[i]? = some qs[i] := List.getElem?_eq_getElem hi
  have k : QuadOk qs[i] := ok _ (List.getElem_mem hi)
  obtain ⟨qn, qd, qp, qst⟩ := q_at e1
  have k1 := k.d0
  have k2 := k.d1
  have k3 := k.p0
  have k4 := k.p1
  have k5 := k.s0
  have k6 := k.s1
  refine ⟨by show NameOk (nQ qs i); rw [qn]; exact k.nm, fun c ec => ?_, fun d p b e => ?_⟩
  · have := hc.bd i c hi ec
    omega
  · have e : (match Cn i with | none => none | some c => some (dQ qs i + c, pQ qs i + c * sQ qs i, nQ qs (Bn i))) = some (d, p, b) := e
    cases ec : Cn i with
    | none => rw [ec] at e; cases e
    | some c =>
      rw [ec] at e
      have e := Option.some.inj e
      have hb := (hc.bl i c hi ec).1
      have kb : QuadOk qs[Bn i] := ok _ (List.getElem_mem hb)
      have e2 : qs[Bn i]? = some qs[Bn i] := List.getElem?_eq_getElem hb
      have cb := hc.bd i c hi ec
      have mb := mul_bd (a := c) (b := sQ qs i) (A := 10 ^ 70) (B := 10 ^ 18) cb.1 cb.2 (by rw [qst]; exact k5) (by rw [qst]; exact k6) (by decide)
      injection e with e3 e4
      injection e4 with e4 e5
      refine ⟨?_, ?_, ?_⟩
      · rw [← e3, qd]
        omega
      · rw [← e4, qp]
        omega
      · rw [← e5, (q_at e2).1]
        exact kb.nm
end Ur
/-! FE: the laws' own fence, made of rows at once. -/
namespace Ur
open PySem PySem.Spec PyProof.Rows L2
abbrev s__law_fence : Stmt := (topS 70)
abbrev N_sc__law_fence : List Str := ["_law_painters", "_law_fence_here", "_law_name", "_law_start", "_law_post", "_law_stride"]
abbrev P__law_fence : List Str := ["_law_painters"]
theorem sc__law_fence : FnScope N_sc__law_fence P__law_fence (defScope s__law_fence) := ⟨rfl, rfl, rfl, by decide +kernel, rfl, by decide +kernel, by decide +kernel⟩
def spFence (K : PySem.W.Frag) (C CF : Addr) : Sp := fun vs H Q _ => ∃ (F : Addr) (ts : List Addr) (qs : List Quad), vs = [.ref F] ∧ SqL K H F (ts.map V.ref) ∧ Team H ts qs ∧ ∀ g L H', FcAt C CF H' g L → partsOf L = qs → Same H H' → Q (.ref g) H'
section
variable {P : Program} {w : World} {K : PySem.W.Frag} {mg : Str → Option Value} {base : Heap} {C CF : Addr}
theorem ok_fence (D : Dfn K mg "_law_fence" s__law_fence P__law_fence) (T : PTxt K mg C) (U : FTxt K mg CF) (hMk0 : MkP P w K mg base C) (hMk : MkF P w K mg base C CF) (hFAdd : OwnR P w K mg base CF "__add__" 5 P_Fence_add (spFAdd C CF)) (hAT : AddTwo K CF C) :
    Cal P w K mg base 6 "_law_fence" P__law_fence (spFence K C CF) := by
  obtain ⟨fI, MF, FI⟩ := hMk
  refine D.cal sc__law_fence (fun vs H Q E h => ?_) fun f cdv A outer s H vs Q E hr h => ?_
  · obtain ⟨F, ts, qs, rfl, _⟩ := h
    rfl
  obtain ⟨F, ts, qs, rfl, hF, tm, q⟩ := h
  have sqF : ∀ {H' : Hp}, Same H H' → SqL K H' F (ts.map V.ref) := fun s => by
    rcases hF with (h | ⟨o, h⟩) | h
    · exact .inl (.inl (s _ _ h))
    · exact .inl (.inr ⟨o, s _ _ h⟩)
    · exact .inr h
  refine ⟨_, (pss_cons (ps_set (i := 1) sc__law_fence.nd rfl (Or.inl rfl) (pe_makeR0 MF FI (hr.mono (by decide)) rfl U.mgF pass0)) (pss_cons (ps_for PassesOwn.never rfl (pi_list (pv 0)) (pg_tup rfl (pgs_cons (pg_name (i := 2) sc__law_fence.nd rfl (Or.inl rfl)) (pgs_cons (pg_name (i := 3) sc__law_fence.nd rfl (Or.inl rfl)) (pgs_cons (pg_name (i := 4) sc__law_fence.nd rfl (Or.inl rfl)) (pgs_cons (pg_name (i := 5) sc__law_fence.nd rfl (Or.inl rfl)) pgs_nil))))) (pss_one (ps_set (i := 1) sc__law_fence.nd rfl (Or.inl rfl) (pe_op (op_addTwo hFAdd hAT (hr.mono (by decide))) (pv 1) (pe_mkP hMk0 T (hr.mono (by decide)) (pa_cons (pv 2) (pa_cons (pv 3) (pa_cons (pv 4) (pa_cons (pv 5) pa_nil))))))))) (pss_one (ps_ret (pv 1))))), ?_⟩
  refine fun x dx nx nd ne => ask_fence (L := []) nx nd ⟨(fun x h => nomatch h), List.nodup_nil, Nat.zero_le _⟩ fun H1 f1 s1 => ⟨rfl, ?_⟩
  refine ⟨_, rfl, F, rfl, ⟨_, sqF s1⟩, for_list (K := K) (a := F) (xs := ts.map V.ref) (fun i σ' H' => ∃ (g : Addr) (L : List Pt) (o2 o3 o4 o5 : Option V), σ' = [some (.ref F), some (.ref g), o2, o3, o4, o5] ∧ FcAt C CF H' g L ∧ partsOf L = qs.take i ∧ Same H H') ⟨x, [], none, none, none, none, rfl, f1, rfl, s1⟩ (fun i σ' H' _ h => by obtain ⟨_, _, _, _, _, _, _, _, _, h⟩ := h; exact sqF h) ?_ ?_⟩
  · rintro i v σ' H' e ⟨g, L, o2, o3, o4, o5, rfl, hg, eL, sm⟩
    obtain ⟨t, qd, rfl, e1, e2, ht, ok⟩ := tm.get e
    obtain ⟨dg, tg, d, g1, g2, g3⟩ := hg.ex
    obtain ⟨nm, d0, p0, st⟩ := qd
    have ok' : PartOk nm d0 p0 st := ok
    refine ⟨t, _, rfl, SqT.of (sm _ _ ht), rfl, _, _, rfl, _, _, rfl, _, _, rfl, _, _, rfl, rfl, ?_⟩
    refine ⟨_, rfl, _, rfl, _, rfl, _, rfl, _, rfl, fun y dy ny ndy ney => ⟨y, dy, nm, d0, p0, st, rfl, upd_same, ok', fun H7 hx7 kp7 => ⟨rfl, ?_⟩⟩⟩
    have s2 : Same H' H7 := Same.made ny ndy kp7
    obtain ⟨cr, eL2⟩ := crew_snoc (x := ⟨y, nm, d0, p0, st⟩) (hg.same s2).crew eL e2 ⟨dy, hx7⟩ rfl tm.ok tm.nd tm.few
    refine ⟨g, dg, _, y, dy, _, rfl, rfl, s2 _ _ g1, hx7, g, L, ⟨y, nm, d0, p0, st⟩, rfl, hg.same s2, cr, fun g' H3 hg' s3 => ⟨⟨g', rfl⟩, ?_⟩⟩
    exact ⟨g', _, _, _, _, _, rfl, hg', eL2, (sm.trans s2).trans s3⟩
  · rintro σ' H' ⟨g, L, o2, o3, o4, o5, rfl, hg, eL, sm⟩
    have hl : (ts.map V.ref).length = qs.length := by rw [List.length_map, tm.len]
    rw [hl, List.take_length] at eL
    exact ⟨_, rfl, q g L H' hg eL sm⟩
end
end Ur
/-! HK: rows of painters in another order (_law_shuffled). -/
namespace Ur
open PySem PySem.Spec PyProof.Rows L2
/-- pairs: a row's place and its numbers -/
abbrev Pr := Addr × Quad
def PrAt (H : Hp) (z : Pr) : Prop := H z.1 = some (.tup (quadV z.2))
theorem prs_team {H : Hp} {ts : List Addr} {qs : List Quad} (tm : Team H ts qs) : (ts.zip qs).map (·.1) = ts ∧ (ts.zip qs).map (·.2) = qs ∧ ∀ z ∈ ts.zip qs, PrAt H z := by
  have hl := tm.len
  refine ⟨List.map_fst_zip (by omega), List.map_snd_zip (by omega), fun z hz => ?_⟩
  obtain ⟨i, hi, e⟩ := List.getElem_of_mem hz
  rw [List.length_zip] at hi
  rw [List.getElem_zip] at e
  subst e
  exact tm.at_ i _ _ (List.getElem?_eq_getElem (by omega)) (List.getElem?_eq_getElem (by omega))
theorem team_prs {H : Hp} {zs : List Pr} (h : ∀ z ∈ zs, PrAt H z) (ok : ∀ q ∈ zs.map (·.2), QuadOk q) (nd : ((zs.map (·.2)).map (·.1)).Nodup) (few : zs.length ≤ 40) : Team H (zs.map (·.1)) (zs.map (·.2)) := by
  refine ⟨by rw [List.length_map, List.length_map], fun j t q a b => ?_, ok, nd, by rw [List.length_map]; exact few⟩
  rw [List.getElem?_map] at a b
  cases e : zs[j]? with
  | none => rw [e] at a; cases a
  | some z =>
    rw [e] at a b
    obtain rfl := Option.some.inj a
    obtain rfl := Option.some.inj b
    exact h z (List.mem_of_getElem? e)
def prD (z : Pr) : PyData := .tuple [.str z.2.1, .int z.2.2.1, .int z.2.2.2.1, .int z.2.2.2.2]
theorem name_strOk {z : Str} (h : NameOk z) : PyData.strOk z = true := arr_all fun c hc => decide_eq_true (by have := h.2.2 c hc; omega)
theorem prs_lay : ∀ zs : List Pr, (∀ z ∈ zs, NameOk z.2.1) → PyData.canLayAll0 (zs.map prD) = true
  | [], _ => by simp [PyData.canLayAll0]
  | k :: ks, h => by simp [PyData.canLayAll0, prD, PyData.canLay0, prs_lay ks fun z hz => h z (List.mem_cons_of_mem _ hz), name_strOk (h k List.mem_cons_self)]
theorem prs_depth : ∀ zs : List Pr, PyData.depthAll (zs.map prD) ≤ 1
  | [] => by simp [PyData.depthAll]
  | k :: ks => by
    have h1 := prs_depth ks
    simp only [List.map_cons, PyData.depthAll, prD, PyData.depth]
    omega
theorem prs_shaped (zs : List Pr) (ok : ∀ z ∈ zs, NameOk z.2.1) : SeqAt.shaped (.list (zs.map prD)) = true := by
  have h1 := prs_depth zs
  have h2 : PyData.depth (.list (zs.map prD)) ≤ 64 := by
    simp only [PyData.depth]
    omega
  show (PyData.canLay0 (.list (zs.map prD)) && decide (PyData.depth (.list (zs.map prD)) ≤ 64)) = true
  rw [Bool.and_eq_true]
  exact ⟨by simp only [PyData.canLay0]; exact prs_lay zs ok, decide_eq_true h2⟩
theorem prs_eqv_nil (zs : List Pr) : PyData.eqv (.list (zs.map prD)) (.list []) = zs.isEmpty := by
  cases zs with
  | nil => simp [PyData.eqv, PyData.eqvAll]
  | cons k ks => simp [PyData.eqv, PyData.eqvAll]
theorem dp_prs {K : PySem.W.Frag} {H : Hp} : ∀ {zs : List Pr}, (∀ z ∈ zs, PrAt H z) → DpAll K H (zs.map fun z => V.ref z.1) (zs.map prD)
  | [], _ => .nil
  | z :: zs, h => .cons (.tup (SqT.of (h z List.mem_cons_self)) (.cons (.str _) (.cons (.int _) (.cons (.int _) (.cons (.int _) .nil))))) (dp_prs fun y hy => h y (List.mem_cons_of_mem _ hy))
theorem take_out {α : Type} : ∀ (xs : List α) (k : Nat) (h : k < xs.length), (xs[k] :: xs.eraseIdx k).Perm xs
  | [], _, h => absurd h (Nat.not_lt_zero _)
  | x :: xs, 0, _ => List.Perm.refl _
  | x :: xs, k + 1, h => by
    have h2 : k < xs.length := by rw [List.length_cons] at h; omega
    show (xs[k] :: x :: xs.eraseIdx k).Perm (x :: xs)
    exact (List.Perm.swap x _ _).trans ((take_out xs k h2).cons x)
theorem map_out {α β : Type} (f : α → β) : ∀ (xs : List α) (k : Nat), (xs.map f).eraseIdx k = (xs.eraseIdx k).map f
  | [], _ => rfl
  | x :: xs, 0 => rfl
  | x :: xs, k + 1 => by
    show f x :: (xs.map f).eraseIdx k = f x :: (xs.eraseIdx k).map f
    rw [map_out f xs k]
theorem sq_index {v : Int} {n : Nat} (h0 : 0 ≤ v) (h1 : v < (n : Int)) : seqIndex? v n = some v.toNat := by
  have e : (if v < 0 then v + (n : Int) else v) = v := if_neg (by omega)
  unfold seqIndex?
  simp only [e]
  rw [decide_eq_true h0, decide_eq_true h1]
  rfl
theorem PrAt.keep {H H' : Hp} {p : Addr} {kvs : List (Key × V)} {z : Pr} (h : PrAt H z) (k : Keep p H H') (hp : H p = some (.dK kvs)) : PrAt H' z := k _ _ h (ne_of h hp (by intro e; cases e))
abbrev s__law_shuffled : Stmt := (topS 72)
abbrev N_sc__law_shuffled : List Str := ["_law_pen_here", "_law_items", "_law_rest", "_law_found"]
abbrev P__law_shuffled : List Str := ["_law_pen_here", "_law_items"]
theorem sc__law_shuffled : FnScope N_sc__law_shuffled P__law_shuffled (defScope s__law_shuffled) := ⟨rfl, rfl, rfl, by decide +kernel, rfl, by decide +kernel, by decide +kernel⟩
def spShuf (K : PySem.W.Frag) : Sp := fun vs H Q _ => ∃ (p l F : Addr) (ts : List Addr) (qs : List Quad) (n : Nat), vs = [.ref p, .ref F] ∧ Pen H p l n ∧ n + 500 ≤ 2 ^ 39 ∧ SqL K H F (ts.map V.ref) ∧ Team H ts qs ∧
  ∀ R ts' qs' H', H' R = some (.lst (ts'.map V.ref)) → qs'.Perm qs → Team H' ts' qs' → Pen H' p l (n + 480) → Keep p H H' → Q (.ref R) H'
section
variable {P : Program} {w : World} {K : PySem.W.Frag} {mg : Str → Option Value} {base : Heap}
set_option maxHeartbeats 16000000 in
theorem ok_shuf (D : Dfn K mg "_law_shuffled" s__law_shuffled P__law_shuffled) (B : Blt mg) (CD : Cal P w K mg base 12 "_law_draw" P__law_draw spDr) : Cal P w K mg base 13 "_law_shuffled" P__law_shuffled (spShuf K) := by
  refine D.cal sc__law_shuffled (fun vs H Q E h => ?_) fun f cdv A outer s H vs Q E hr h => ?_
  · obtain ⟨p, l, F, ts, qs, n, rfl, _⟩ := h
    rfl
  obtain ⟨p, l, F, ts, qs, n, rfl, Pn, hn, hF, tm, q⟩ := h
  obtain ⟨kvs, hp⟩ := Pn.dk
  obtain ⟨e1, e2, hz⟩ := prs_team tm
  obtain ⟨Z, eZ⟩ : ∃ Z : List Pr, Z = ts.zip qs := ⟨_, rfl⟩
  rw [← eZ] at e1 e2 hz
  have zl : Z.length ≤ 40 := by rw [← List.length_map (f := (·.2)), e2]; exact tm.few
  have er : ts.map V.ref = Z.map fun z => V.ref z.1 := by rw [← e1, List.map_map]; rfl
  refine ⟨_, (pss_cons (ps_par (i := 2) (j := 3) rfl sc__law_shuffled.nd rfl rfl (by decide) rfl rfl (pa_cons (pe_callTy call_list_of rfl B.list_ (by decide +kernel) (pa_cons (pv 1) pa_nil)) (pa_cons (pe_lst pa_nil) pa_nil)) (by rfl)) (pss_cons (ps_while PassesOwn.never (pt_cmpR (op_neD hr.units) (pv 2) (pe_lst pa_nil) (nomark _)) (pss_one (ps_expr (pe_bm PySem.F.plainAttrs_list PySem.F.slot_list_append PySem.F.type_list_append mt_append (pv 3) (pa_cons (pe_bm PySem.F.plainAttrs_list PySem.F.slot_list_pop PySem.F.type_list_pop mt_popAt (pv 2) (pa_cons (pe_cal CD (hr.mono (by decide)) (pa_cons (pv 0) (pa_cons (pe_callB call_len_seq rfl B.len_ PySem.boot_len (pa_cons (pv 2) pa_nil)) pa_nil))) pa_nil)) pa_nil))))) (pss_one (ps_ret (pv 3))))), ?_⟩
  refine ⟨_, rfl, F, _, rfl, .inl hF, fun Rl nR => ⟨by show 0 ≤ sizeLine; decide, fun Fl nF => ⟨_, _, rfl, ?_⟩⟩⟩
  have zok : ∀ z ∈ Z, NameOk z.2.1 := fun z hz => (tm.ok z.2 (by rw [← e2]; exact List.mem_map_of_mem hz)).nm
  have nRp := Pn.ne nR
  have nRl := Pn.nl nR
  have P1 := Pn.new (o := .lst (ts.map V.ref)) nR
  have nFp := P1.ne nF
  have nFl := P1.nl nF
  have k1 : Keep p H (upd H Rl (.lst (ts.map V.ref))) := Keep.refl.new nR
  have k2 := k1.new (o := .lst []) nF
  have nRF : Rl ≠ Fl := ne_of_none upd_same nF
  have nF0 : H Fl = none := k1.none_of nF nFp
  refine while_ex (fun m σ H1 => ∃ zs ys : List Pr, m = zs.length ∧ σ = [some (.ref p), some (.ref F), some (.ref Rl), some (.ref Fl)] ∧ H1 Rl = some (.lst (zs.map fun z => V.ref z.1)) ∧ H1 Fl = some (.lst (ys.map fun z => V.ref z.1)) ∧ (zs ++ ys).Perm Z ∧ Pen H1 p l (n + 12 * ys.length) ∧ Keep p H H1) Z.length ⟨Z, [], rfl, rfl, by rw [upd_ne nRF, upd_same, er], upd_same, by rw [List.append_nil], (P1.new nF).le (by omega), k2⟩ ?_ (fun σ H Q Q' k h => ?_)
  · rintro m σ H1 ⟨zs, ys, rfl, rfl, hR1, hF1, pm, Pi, ki⟩
    have mem : ∀ z ∈ zs ++ ys, z ∈ Z := fun z hz => pm.mem_iff.mp hz
    have len := pm.length_eq
    rw [List.length_append] at len
    have at1 : ∀ z ∈ zs ++ ys, PrAt H1 z := fun z h => (hz z (mem z h)).keep ki hp
    have zok1 : ∀ z ∈ zs, NameOk z.2.1 := fun z h => zok z (mem z (List.mem_append_left _ h))
    refine ⟨_, rfl, by show 0 ≤ sizeLine; decide, fun D nD => ?_⟩
    have kD := ki.new (o := .lst []) nD
    have PD := Pi.new (o := .lst []) nD
    have wD := same_new nD (.lst [])
    have hRD := wD _ _ hR1
    have hFD := wD _ _ hF1
    refine ⟨.list (zs.map prD), .list [], .lst (SqL.of hRD) (dp_prs fun z h => wD _ _ (at1 z (List.mem_append_left _ h))), .lst (SqL.of upd_same) .nil, prs_shaped zs zok1, prs_shaped [] (fun z h => nomatch h), _, rfl, ?_⟩
    rw [prs_eqv_nil]
    cases ez : zs with
    | nil =>
      subst ez
      refine iteF ?_
      rw [List.nil_append] at pm at1
      refine ⟨_, rfl, ?_⟩
      have pq : (ys.map (·.2)).Perm qs := by rw [← e2]; exact pm.map _
      have tm' : Team (upd H1 D (.lst [])) (ys.map (·.1)) (ys.map (·.2)) := team_prs (fun z h => wD _ _ (at1 z h)) (fun q h => tm.ok q (pq.mem_iff.mp h)) ((pq.map (·.1)).nodup_iff.mpr tm.nd) (by rw [pm.length_eq]; exact zl)
      exact q Fl (ys.map (·.1)) (ys.map (·.2)) _ (by rw [hFD, List.map_map]; rfl) pq tm' (PD.le (by omega)) kD
    | cons z0 zr =>
      refine iteT ?_
      rw [← ez]
      have zl1 : 1 ≤ zs.length := by rw [ez, List.length_cons]; omega
      obtain ⟨H2, eH2⟩ : ∃ H2, H2 = upd H1 D (.lst []) := ⟨_, rfl⟩
      rw [← eH2] at kD PD hRD hFD ⊢
      refine ⟨_, rfl, .inl ⟨rfl, _, SqL.of hFD⟩, _, rfl, .inl ⟨rfl, _, SqL.of hRD⟩, _, rfl, _, rfl, Rl, _, rfl, .inl (SqL.of hRD), p, l, _, _, rfl, PD, by omega, by rw [List.length_map]; omega, by rw [List.length_map]; omega, fun v H3 v0 v1 P3 k3 => ?_⟩
      rw [List.length_map] at v1
      have hvl : v.toNat < zs.length := by omega
      obtain ⟨kv2, hp2⟩ := PD.dk
      have nRp2 : Rl ≠ p := ne_of hRD hp2 (by intro z; cases z)
      have nFp2 : Fl ≠ p := ne_of hFD hp2 (by intro z; cases z)
      have hR3 := k3 _ _ hRD nRp2
      have hF3 := k3 _ _ hFD nFp2
      refine ⟨Rl, _, v, v.toNat, .ref zs[v.toNat].1, rfl, rfl, hR3, by omega, by omega, by rw [List.length_map]; exact sq_index v0 v1, by rw [List.getElem?_map, List.getElem?_eq_getElem hvl]; rfl, ?_⟩
      have hF4 : upd H3 Rl (.lst ((zs.map fun z => V.ref z.1).eraseIdx v.toNat)) Fl = some (.lst (ys.map fun z => V.ref z.1)) := by rw [upd_ne nRF.symm]; exact hF3
      refine ⟨Fl, _, _, rfl, rfl, hF4, by rw [List.length_map]; exact small1000 (by omega), ?_⟩
      have er2 : (zs.eraseIdx v.toNat).length < zs.length := by have := (take_out zs v.toNat hvl).length_eq; rw [List.length_cons] at this; omega
      refine ⟨(zs.eraseIdx v.toNat).length, by omega, zs.eraseIdx v.toNat, ys ++ [zs[v.toNat]], rfl, rfl, ?_, ?_, ?_, ?_, ?_⟩
      · rw [upd_ne nRF, upd_same, map_out]
      · rw [upd_same, List.map_append]
        rfl
      · refine List.Perm.trans ?_ pm
        rw [← List.append_assoc]
        refine List.perm_append_comm.trans ?_
        show (zs[v.toNat] :: (zs.eraseIdx v.toNat ++ ys)).Perm _
        exact (take_out zs v.toNat hvl).append_right ys
      · rw [List.length_append, show ([zs[v.toNat]] : List Pr).length = 1 from rfl]
        exact ((P3.upd nRp2 nRl).upd nFp2 nFl).le (by show _ ≤ n + 12 * (ys.length + 1); omega)
      · exact ((kD.trans k3).at_new nR).at_new nF0
  · obtain ⟨v, ev, z, h⟩ := h
    exact ⟨v, ev, z, fun D2 nD2 => let ⟨d, e, p1, p2, p3, p4, b, eb, q⟩ := h D2 nD2; ⟨d, e, p1, p2, p3, p4, b, eb, k _ _ q⟩⟩
end
end Ur
/-! HQ: what the laws of histories share. -/
namespace Ur
open PySem PySem.Spec PyProof.Rows L2
def spLaw (K : PySem.W.Frag) (T : List (Addr × Str)) : Sp := fun vs H Q _ => ∃ (a : Addr) (ns : List Int), vs = [.ref a] ∧ SqL K H a (ns.map V.int) ∧ ns.length ≤ 63 ∧ LamX.Tabs T H ∧ ∀ H', Q (.bl true) H'
theorem Pen.extN {H H' : Hp} {p l : Addr} {n : Nat} (P : Pen H p l n) (e : LamX.ExtN H H') : Pen H' p l n := by
  obtain ⟨cs, b, r, h1, h2, z⟩ := P.ex
  exact ⟨cs, b, r, e _ _ h1 (fun _ z => by cases z), e _ _ h2 (fun _ z => by cases z), z⟩
theorem Team.extN {H H' : Hp} {ts : List Addr} {qs : List Quad} (h : Team H ts qs) (e : LamX.ExtN H H') : Team H' ts qs := ⟨h.len, fun j t q a b => e _ _ (h.at_ j t q a b) (fun _ z => by cases z), h.ok, h.nd, h.few⟩
theorem Crew.extN {C : Addr} {H H' : Hp} {L : List Pt} (h : Crew C H L) (e : LamX.ExtN H H') : Crew C H' L := ⟨fun x hx => let ⟨⟨dx, a⟩, z⟩ := h.at_ x hx; ⟨⟨dx, e _ _ a (fun _ z => by cases z)⟩, z⟩, h.nd, h.few⟩
theorem FcAt.extN {C CF : Addr} {H H' : Hp} {f : Addr} {L : List Pt} (h : FcAt C CF H f L) (e : LamX.ExtN H H') : FcAt C CF H' f L :=
  let ⟨dx, t, d, h1, h2, h3⟩ := h.ex
  ⟨⟨dx, t, d, e _ _ h1 (fun _ z => by cases z), e _ _ h2 (fun _ z => by cases z), e _ _ h3 (fun _ z => by cases z)⟩, h.crew.extN e⟩
theorem team_d0 {H : Hp} {ts : List Addr} {qs : List Quad} (tm : Team H ts qs) : ∀ i, i < qs.length → 0 ≤ dQ qs i := fun i hi => by
  obtain ⟨t, qd, _, e, _, ok, _⟩ := tm.ix hi
  rw [(q_at e).2.1]
  exact ok.d0
theorem new_at {H : Hp} {a : Addr} {o : HO} (_ : Same H (upd H a o)) : upd H a o a = some o := upd_same
theorem nma : NameOk "a" := ⟨by decide, by decide, by unfold LetOk; decide⟩
theorem nmb : NameOk "b" := ⟨by decide, by decide, by unfold LetOk; decide⟩
theorem nmc : NameOk "c" := ⟨by decide, by decide, by unfold LetOk; decide⟩
theorem nt_tup {ys : List V} : ∀ ps, HO.tup ys ≠ .tbl ps := fun _ z => by cases z
theorem nt_lst {ys : List V} : ∀ ps, HO.lst ys ≠ .tbl ps := fun _ z => by cases z
theorem tabs_upd {T : List (Addr × Str)} {H : Hp} {F : Addr} {xs : List V} {o : HO} (h : LamX.Tabs T H) (hF : H F = some (.lst xs)) : LamX.Tabs T (upd H F o) := by
  intro p hp
  obtain ⟨ps, h1, h2, h3⟩ := h p hp
  refine ⟨ps, by rw [upd_ne (ne_of h1 hF (by intro z; cases z))]; exact h1, h2, fun pos cv hcv => ?_⟩
  obtain ⟨c', e1, e2⟩ := h3 pos cv hcv
  exact ⟨c', e1, by rw [upd_ne (ne_of e2 hF (by intro z; unfold LamX.CodeO at z; cases z))]; exact e2⟩
/-- the first one goes on, all others stop at their start -/
theorem hist0 {N : Nat} {d : Nat → Int} {SP : SPt} (n0 : ∀ n cnt, ¬ PBlk d SP 0 0 cnt n) (h : ∀ i, i < N → i ≠ 0 → ∃ m, 0 ≤ m ∧ SP i 0 0 m ∧ (d 0 + m < d i ∨ d 0 + m = d i)) : HistC N d SP (fun i => if i = 0 then none else some 0) (fun _ => 0) := by
  refine ⟨fun i hi => ?_, fun i c hi e => ?_, fun i c hi e => ?_⟩
  · by_cases e : i = 0
    · subst e
      rintro n _ ⟨j, hj, b⟩
      by_cases e : j = 0
      · subst e
        exact n0 _ _ b
      · obtain ⟨m, m0, _, l, _⟩ := b
        have := l 0 (by show (if j = 0 then none else some 0) = some 0; rw [if_neg e])
        omega
    · show Least _ (if i = 0 then none else some 0)
      rw [if_neg e]
      obtain ⟨m, m0, sp, o⟩ := h i hi e
      refine ⟨Int.le_refl 0, ⟨0, by omega, m, m0, sp, (fun c z => by cases z), ?_⟩, fun n h0 h1 => absurd h1 (by omega)⟩
      rcases o with o | o
      · exact .inl (by omega)
      · exact .inr ⟨by omega, by omega⟩
  · by_cases e0 : i = 0
    · subst e0
      cases e
    · have e : (if i = 0 then none else some 0) = some c := e
      rw [if_neg e0] at e
      obtain rfl := Option.some.inj e
      obtain ⟨m, m0, sp, _⟩ := h i hi e0
      exact ⟨by omega, m, m0, sp, fun c z => by cases z⟩
  · have e : (if i = 0 then none else some 0) = some c := e
    by_cases e0 : i = 0
    · rw [if_pos e0] at e
      cases e
    · rw [if_neg e0] at e
      obtain rfl := Option.some.inj e
      decide
theorem not_self {qs : List Quad} {x : Quad} (h : qs[0]? = some x) (ns : x.2.2.2 ≠ 0) : ∀ n cnt, ¬ PBlk (dQ qs) (fSP qs) 0 0 cnt n := fun _ _ => no_self h ns
theorem inV_strs (z : Str) : ∀ ss : List Str, inV (.str z) (ss.map V.str) = decide (z ∈ ss)
  | [] => by simp [inV]
  | s :: ss => by
    have ih := inV_strs z ss
    unfold inV at ih ⊢
    rw [List.map_cons, List.any_cons, ih]
    by_cases e : s = z
    · subst e
      simp [eqV]
    · have e2 : ¬ z = s := fun q => e q.symm
      simp [eqV, e, e2]
end Ur
/-! UrU: the law's own call, where defs make lambdas: their tables are tracked. -/
namespace Ur
open PySem PySem.Spec PyProof.Rows L2
theorem law_callGT {P : Program} {w : World} {K : PySem.W.Frag} {mg mb : Str → Option Value} {k : Nat} {fa a : Addr} {ct : List (Addr × Addr)} {fd : FuncData} {x : Str} {sp : Sp} {s1 : Shared} {vs : List Value} {ns : List Int}
    (kin : K.In s1.heap) (hns : s1.heap.Ns mainGlobals mg) (hb : s1.heap.Ns builtinsNs mb) (hbb : ∀ x : Str, x ≠ "__name__" → mb x = bootBuiltins x) (hlim : s1.heap.NoLimit) (hg : s1.gens = #[])
    (tabs : ∀ q ∈ ct, s1.heap.get? q.2 = some (PySem.W.tabObj #[]) ∧ K.lookup q.2 = none ∧ PySem.W.CodeHd s1.heap q.1 q.2)
    (hbm : ∃ (bm : Addr) (ob : Obj), mg "__builtins__" = some (.ref bm) ∧ bm ≠ builtinsNs ∧ s1.heap.get? bm = some ob ∧ ob.cls = .type "module" ∧ ob.dict = some builtinsNs ∧ ob.data = .plain)
    (ha : s1.heap.get? a = some { cls := .type "list", data := .seq vs.toArray }) (hi : IntsAre vs ns) (hl : ns.length ≤ sizeLine) (hr : Room k callerA)
    (F : ∀ base : Heap, K.In base → base.Ns mainGlobals mg → (∀ q ∈ ct, LamX.TabB base mg q.1 q.2) → FnG P w K mg base k fa fd [x] sp) (hbind : ∀ (s : Shared) (u : Value), BindsTo s fd ⟨[u], []⟩ [(x, u)])
    (hsp : ∀ H : Hp, (∀ q ∈ ct, H q.2 = some (.tbl #[])) → SqL K H a (ns.map V.int) → sp [.ref a] H (fun v _ => v = .bl true) fun _ _ _ => False) :
    codeAny (model P w) callerA (.call (.ref fa) ⟨[.ref a], []⟩) (fun r s' => r = .ok (.ret (.bool true)) ∧ OldK s1.heap s'.heap ∧ s'.os = s1.os ∧ AllBare s'.gens) s1 := by
  have rv : Vals (ns.map V.int) vs := vals_ints hi
  have lenV : vs.length = ns.length := hi.length
  let ob : Obj := { cls := .type "list", data := .seq vs.toArray }
  let tb : Addr → Prop := fun b => b ∈ ct.map (·.2)
  have tbAt : ∀ b, tb b → s1.heap.get? b = some (PySem.W.tabObj #[]) ∧ K.lookup b = none := by
    intro b h
    obtain ⟨q, hq, rfl⟩ := List.mem_map.mp h
    exact ⟨(tabs q hq).1, (tabs q hq).2.1⟩
  have tbOf : ∀ q ∈ ct, tb q.2 := fun q hq => List.mem_map.mpr ⟨q, hq, rfl⟩
  have aNo : ¬ tb a := by
    intro h
    have z := (tbAt a h).1
    rw [ha] at z
    cases congrArg Obj.data (Option.some.inj z)
  -- the abstract heap: the script, where it is none of the module's own objects, and the tables
  obtain ⟨H, hH, hS, hT, hN⟩ : ∃ H : Hp, (∀ b u, H b = some u → (b = a ∧ u = .frz ob (.lst (ns.map V.int)) ∧ K.lookup a = none) ∨ (tb b ∧ u = .tbl #[])) ∧ SqL K H a (ns.map V.int) ∧ (∀ b, tb b → H b = some (.tbl #[])) ∧ True := by
    classical
    cases hk : K.lookup a with
    | some o =>
      have e : s1.heap.get? a = some o := kin a o hk
      have e2 : o = ob := Option.some.inj (e.symm.trans ha)
      refine ⟨fun b => if tb b then some (.tbl #[]) else none, fun b u z => ?_, Or.inr ⟨o, vs.toArray, 0, hk, by rw [e2], by rw [e2], by rw [e2], ?_, ?_⟩, fun b h => if_pos h, trivial⟩
      · by_cases h : tb b
        · have z : (if tb b then some (HO.tbl #[]) else none) = some u := z
          rw [if_pos h] at z
          exact Or.inr ⟨h, (Option.some.inj z).symm⟩
        · have z : (if tb b then some (HO.tbl #[]) else none) = some u := z
          rw [if_neg h] at z
          cases z
      · rw [List.size_toArray, lenV]; exact hl
      · simpa using rv
    | none =>
      refine ⟨fun b => if b = a then some (.frz ob (.lst (ns.map V.int))) else if tb b then some (.tbl #[]) else none, fun b u z => ?_, Or.inl (Or.inr ⟨ob, if_pos rfl⟩), fun b h => ?_, trivial⟩
      · have z : (if b = a then some (HO.frz ob (.lst (ns.map V.int))) else if tb b then some (HO.tbl #[]) else none) = some u := z
        by_cases hba : b = a
        · rw [if_pos hba] at z
          exact Or.inl ⟨hba, (Option.some.inj z).symm, rfl⟩
        · rw [if_neg hba] at z
          by_cases h : tb b
          · rw [if_pos h] at z
            exact Or.inr ⟨h, (Option.some.inj z).symm⟩
          · rw [if_neg h] at z
            cases z
      · have nb : b ≠ a := fun e => aNo (e ▸ h)
        show (if b = a then _ else if tb b then _ else _) = _
        rw [if_neg nb, if_pos h]
  have hok : HOk P w H s1.heap := by
    intro b u z
    rcases hH b u z with ⟨rfl, rfl, _⟩ | ⟨h, rfl⟩
    · exact ⟨ha, by rw [List.length_map]; exact hl, vs, _, rv, ha⟩
    · exact (tbAt b h).1
  -- what is neither the script nor a table is not tracked
  have free : ∀ {b : Addr} {o : Obj}, s1.heap.get? b = some o → (b = a → o = ob → K.lookup a ≠ none) → o ≠ PySem.W.tabObj #[] → H b = none := by
    intro b o e n nt
    cases z : H b with
    | none => rfl
    | some u =>
      rcases hH b u z with ⟨h1, _, h3⟩ | ⟨h, _⟩
      · subst h1
        exact absurd h3 (n rfl (Option.some.inj (e.symm.trans ha)))
      · exact absurd (Option.some.inj (e.symm.trans (tbAt b h).1)) nt
  have nsB : ∀ {b : Addr} {m : Str → Option Value}, s1.heap.Ns b m → (hidT s1.heap H).Ns b m := by
    intro b m ⟨o, es, ep, e, d, r⟩
    refine ⟨o, es, ep, hidT_get e (free e (fun _ z => ?_) fun z => ?_), d, r⟩
    · rw [z] at d
      cases d
    · rw [z] at d
      cases d
  have kinB : K.In (hidT s1.heap H) := by
    intro b o e
    have g := kin b o e
    refine hidT_get g ?_
    cases z : H b with
    | none => rfl
    | some u =>
      rcases hH b u z with ⟨h1, _, h3⟩ | ⟨h, _⟩
      · subst h1
        rw [e] at h3
        cases h3
      · have := (tbAt b h).2
        rw [e] at this
        cases this
  have modB : Mod K mg (hidT s1.heap H) := by
    obtain ⟨mc, l1, l2⟩ := hlim
    exact ⟨kinB, nsB hns, ⟨mb, nsB hb, hbb⟩, ⟨mc, nsB l1, l2⟩⟩
  have TB : ∀ q ∈ ct, LamX.TabB (hidT s1.heap H) mg q.1 q.2 := by
    intro q hq
    obtain ⟨t1, t2, t3⟩ := tabs q hq
    refine ⟨?_, ?_, ?_⟩
    · obtain ⟨o, us, file, tf, flags, tg, inF, text, tt, e1, r1, r2, r3, r⟩ := t3
      refine ⟨o, us, file, tf, flags, tg, inF, text, tt, hidT_get e1 (free e1 (fun _ z => ?_) fun z => ?_), r1, r2, r3, r⟩
      · rw [z] at r2
        cases r2
      · rw [z] at r2
        have := Data.fields.inj r2
        rw [← this] at r3
        simp at r3
    · obtain ⟨bm, o, b1, b2, b3, b4, b5, b6⟩ := hbm
      refine ⟨bm, o, b1, b2, ?_, ?_, hidT_get b3 (free b3 (fun _ z => ?_) fun z => ?_), b4, b5, b6⟩
      · rintro rfl
        obtain ⟨o2, es, ep, e, hd, _⟩ := hns
        rw [e] at b3
        cases b3
        rw [hd] at b6
        cases b6
      · rintro rfl
        rw [t1] at b3
        cases b3
        cases b6
      · rw [z] at b6
        cases b6
      · rw [z] at b6
        cases b6
    · intro z
      obtain ⟨o2, es, ep, e, hd, _⟩ := hns
      rw [z, t1] at e
      cases e
      cases hd
  have none_in : ∀ b : Addr, b ∉ ([] : List Addr) := fun b z => nomatch z
  have e0 : Env0 P w K mg (hidT s1.heap H) callerA [] s1 H := ⟨rfl, modB, fun b o e => of_hidT e, Nat.le_of_eq (hidT_size _ _), trivial, fun b z => absurd z (none_in b), hok, .of_eq hg⟩
  refine codeAny_mono ((F _ kinB (nsB hns) TB).go callerA [] s1 H ⟨[.ref a], []⟩ [.ref a] [.ref a] _ _ rfl hr e0 (hbind s1 (.ref a)) (.cons rfl .nil) (hsp H (fun q hq => hT _ (tbOf q hq)) hS)) ?_
  intro r s2 h
  match r, h with
  | .error _, h => exact False.elim h
  | .ok .next, h => exact False.elim h
  | .ok .brk, h => exact False.elim h
  | .ok .cont, h => exact False.elim h
  | .ok (.ret u), h =>
    obtain ⟨v, H2, os, bare, un, hok2, rv2, q⟩ := h
    have q : v = .bl true := q
    subst q
    obtain rfl : u = Value.bool true := rv2
    have grown : ∀ b, tb b → ∃ more : Array Value, s2.heap.get? b = some (PySem.W.tabObj more) := by
      intro b h
      obtain ⟨more, z⟩ := un.tbls b #[] (hT b h)
      exact ⟨_, hok2 b _ z⟩
    have same : ∀ b o, ¬ tb b → s1.heap.get? b = some o → s2.heap.get? b = some o := by
      intro b o nt e
      cases z : H b with
      | none => exact un.keep b o e z (none_in b) (none_in b)
      | some u =>
        rcases hH b u z with ⟨rfl, rfl, _⟩ | ⟨h, _⟩
        · have z2 := un.frzs b ob _ z
          have e2 := (hok2 b _ z2).1
          rw [ha] at e
          rw [← Option.some.inj e]
          exact e2
        · exact absurd h nt
    refine ⟨rfl, ⟨fun b o e => ?_, fun b o e => ?_⟩, os, bare⟩
    · by_cases hb : tb b
      · obtain ⟨q, hq, rfl⟩ := List.mem_map.mp hb
        obtain ⟨t1, t2, t3⟩ := tabs q hq
        obtain ⟨more, g⟩ := grown q.2 hb
        rw [t1] at e
        obtain rfl := Option.some.inj e
        exact Or.inr (Or.inl ⟨(t3.tab t1).isCodeTable, rfl, #[], more, rfl, by rw [Array.empty_append]; exact g⟩)
      · exact Or.inl (same b o hb e)
    · by_cases hb : tb b
      · obtain ⟨more, g⟩ := grown b hb
        exact ⟨_, g⟩
      · exact ⟨o, same b o hb e⟩
/-- the end of a law whose defs make lambdas: xs the names of these defs -/
theorem walk_ofGT {l : PySem.W.OpenLaw} {n k : Nat} {q : Program} {loose : List Str} {XP : (Str → Option Value) → Heap → Prop} {YP : World → Heap → Prop} {d : DefRec} {K : Params → PySem.W.Frag} {x : Str} {xs : List Str}
    (hn : l.most = some n) (hn2 : n ≤ sizeLine) (hdf : d.params.defaults = []) (hr : Room k callerA) (hrec : ∀ y ∈ xs, ((recsOf q).find? fun e => e.name == y).isSome = true) (hY : ∀ (w : World) (h : Heap), YP w h → (K w.params).In h)
    (F : ∀ (w : World) (mg : Str → Option Value) (fa : Addr) (h : Heap), (K w.params).In h → h.Ns mainGlobals mg → mg d.name = some (.ref fa) →
      ∃ (fd : FuncData) (ct : List (Addr × Addr)) (sp : Sp), (∀ (s : Shared) (u : Value), BindsTo s fd ⟨[u], []⟩ [(x, u)]) ∧ (∀ q ∈ ct, (K w.params).lookup q.2 = none ∧ ∃ y ∈ xs, PySem.W.tabIn (K w.params) y = some q) ∧
        (∀ (H : Hp) (a : Addr) (ns : List Int), ns.length ≤ n → (∀ q ∈ ct, H q.2 = some (.tbl #[])) → SqL (K w.params) H a (ns.map V.int) → sp [.ref a] H (fun v _ => v = .bl true) fun _ _ _ => False) ∧
        ∀ base : Heap, (K w.params).In base → base.Ns mainGlobals mg → (∀ q ∈ ct, LamX.TabB base mg q.1 q.2) → FnG l.prog w (K w.params) mg base k fa fd [x] sp) :
    PySem.W.WalkO q loose XP YP l.row.toRowW d [] (fun f vs => PySem.call f vs) := by
  refine Att.attach_call hn hdf ?_
  intro w s0 s1 mg mb fa o pm cd doc a vs ns G Y ho hd hcd hmg hobj hints hlen hg
  have kin := hY w _ Y
  obtain ⟨fd, ct, sp, hb, hct, hsp, hF⟩ := F w mg fa _ kin G.T.g hmg
  refine law_callGT kin G.T.g G.T.b G.T.builtins G.T.nolimit hg (fun t ht => ?_) G.T.bmain hobj hints (Nat.le_trans hlen hn2) hr hF hb fun H hT hS => hsp H a ns hlen hT hS
  obtain ⟨no, y, hy, tin⟩ := hct t ht
  obtain ⟨dr, hdr⟩ := Option.isSome_iff_exists.mp (hrec y hy)
  obtain ⟨c1, c2⟩ := PySem.W.tab_of (c := t.1) (P := t.2) G.T kin hdr tin
  exact ⟨c2, no, c1⟩
end Ur
/-! UrSo: sorted(xs) of tuples of any kinds, all alike: the new list stands for the sorted data. -/
namespace Ur
open PySem PySem.Spec PyProof.Rows L2
section
variable {β : Type} {F : V → β → Prop}
theorem each_fwd : ∀ {xs : List V} {us : List Value} {bs : List β}, Vals xs us → Paired F xs bs → PySem.W.EachIs (fun u b => ∃ x, RelV x u ∧ F x b) us bs
  | _, _, _, .nil, .nil => .nil
  | _, _, _, .cons r rs, .cons p ps => .cons ⟨_, r, p⟩ (each_fwd rs ps)
theorem each_bwd : ∀ {us : List Value} {bs : List β}, PySem.W.EachIs (fun u b => ∃ x, RelV x u ∧ F x b) us bs → ∃ ys, Vals ys us ∧ Paired F ys bs
  | _, _, .nil => ⟨[], .nil, .nil⟩
  | _, _, .cons ⟨x, r, p⟩ t => by
    obtain ⟨ys, a, b⟩ := each_bwd t
    exact ⟨x :: ys, .cons r a, .cons p b⟩
theorem each_imp {R S : Value → β → Prop} (h : ∀ u b, R u b → S u b) : ∀ {us : List Value} {bs : List β}, PySem.W.EachIs R us bs → PySem.W.EachIs S us bs
  | _, _, .nil => .nil
  | _, _, .cons p t => .cons (h _ _ p) (each_imp h t)
end
/-- bs in the order of the data that they are -/
abbrev sortD {β : Type} (enc : β → PyData) (bs : List β) : List β := bs.mergeSort (PySem.W.dataLe false enc)
theorem sortD_len {β : Type} (enc : β → PyData) (bs : List β) : (sortD enc bs).length = bs.length := List.length_mergeSort ..
theorem sortD_mem {β : Type} {enc : β → PyData} {bs : List β} {b : β} : b ∈ sortD enc bs ↔ b ∈ bs := List.mem_mergeSort
/-- sorted(xs): every item x of xs stands for some b as F says -/
def rSortD {β : Type} (K : PySem.W.Frag) (enc : β → PyData) : List V → Hp → VK → Prop := fun vs H Q => ∃ (a : Addr) (xs : List V) (bs : List β) (F : V → β → Prop), vs = [V.ref a] ∧ SqL K H a xs ∧ Paired F xs bs ∧
  (∀ x b, F x b → Dp K H x (enc b)) ∧ (∀ b c : β, PySem.W.alike (enc b) (enc c) = true) ∧ (∀ b, ∃ x r, enc b = .tuple (x :: r)) ∧ (∀ b, (enc b).depth ≤ 8) ∧
  ∀ ys p, Paired F ys (sortD enc bs) → H p = none → Q (.ref p) (upd H p (.lst ys))
theorem cr_sortD {X : Cx} {β : Type} {enc : β → PyData} (hu : X.A.units + 64 < cLine) : CallR X (.builtin "sorted") (rSortD X.K enc) := by
  intro pins s σ H vs us Q I r h
  obtain ⟨a, xs, bs, F, rfl, hs, hp, hd, hal, ht, hdp, q⟩ := h
  obtain ⟨its, rv, hl, hz⟩ := I.list hs
  obtain rfl := Vals.ref1 r
  have e := each_fwd rv hp
  have ln : its.length = bs.length := e.length
  refine PySem.W.sorted_data (enc := enc) (R := fun u b => ∃ x, RelV x u ∧ F x b) hl.isList e (each_imp (fun u b ⟨x, rx, fx⟩ => Dp.reads I _ _ _ (hd x b fx) rx) e) (PySem.W.AllAlike.of hal) (PySem.W.Sortable.tuples ht)
    (by rw [← ln, ← rv.length]; exact hz) (fun b _ => by have := hdp b; show X.A.units + 1 + 1 + _ < cLine; omega) fun out lo eo => ?_
  obtain ⟨ys, ry, py⟩ := each_bwd eo
  obtain ⟨n, hn⟩ := PyProof.Rows.sortedAll_at s.heap its out.toArray
  refine ⟨.ref (s.heap.objs.size + 1), upd H (s.heap.objs.size + 1) (.lst ys), I.laid (t' := s.toks) (fun b o e => PyProof.Rows.sortedAll_old e) (Nat.le_succ _) ⟨?_, out, n, ry, hn⟩, rfl, q ys _ py (I.hok.fresh (Nat.le_succ _))⟩
  rw [ry.length, lo, ← ln, ← rv.length]
  exact hz
end Ur
/-! IC: all who come to a post, by their days: the comings as data, sorted. -/
namespace Ur
open PySem PySem.Spec PyProof.Rows L2
/-- a coming: its day, the painter's place, its name, the word -/
abbrev Cm := Int × Int × Str × Str
def wordFor (n : Int) : Option Int → Str
  | none => "paints"
  | some k => if n < k then "paints" else if n = k then "stops" else "gone"
def stpF (p s q : Int) : Option Int := if (q - p).fmod s = 0 ∧ 0 ≤ (q - p).fdiv s then some ((q - p).fdiv s) else none
theorem steps_uniq {p s q : Int} {r r' : Option Int} (h : StepsTo p s q r) (h' : StepsTo p s q r') : r = r' := by
  cases r with
  | none =>
    cases r' with
    | none => rfl
    | some j => exact (h j).mpr ((h' j).mp rfl)
  | some j => exact ((h' j).mpr ((h j).mp rfl)).symm
theorem stpF_is {p s q : Int} {r : Option Int} (hs : s ≠ 0) (h : StepsTo p s q r) : r = stpF p s q := steps_uniq h (steps_to_spec hs)
def cntR (rs : List Rw) (i : Nat) : Option Int := match rs[i]? with
  | some r => r.cnt
  | none => none
def cmOf (qs : List Quad) (rs : List Rw) (q : Int) (i : Nat) : Option Cm := (stpF (pQ qs i) (sQ qs i) q).map fun n => (dQ qs i + n, (i : Int), nQ qs i, wordFor n (cntR rs i))
def cms (qs : List Quad) (rs : List Rw) (q : Int) (k : Nat) : List Cm := (List.range k).filterMap (cmOf qs rs q)
theorem cms_none {qs : List Quad} {rs : List Rw} {q : Int} {k : Nat} (h : cmOf qs rs q k = none) : cms qs rs q (k + 1) = cms qs rs q k := by
  unfold cms
  rw [List.range_succ, List.filterMap_append, List.filterMap_cons_none h, List.filterMap_nil, List.append_nil]
theorem cms_some {qs : List Quad} {rs : List Rw} {q : Int} {k : Nat} {e : Cm} (h : cmOf qs rs q k = some e) : cms qs rs q (k + 1) = cms qs rs q k ++ [e] := by
  unfold cms
  rw [List.range_succ, List.filterMap_append, List.filterMap_cons_some h, List.filterMap_nil]
theorem cms_len (qs : List Quad) (rs : List Rw) (q : Int) (k : Nat) : (cms qs rs q k).length ≤ k := by
  have := List.length_filterMap_le (cmOf qs rs q) (List.range k)
  rw [List.length_range] at this
  exact this
/-- the comings as tuples -/
def cmV (e : Cm) : List V := [.int e.1, .int e.2.1, .str e.2.2.1, .str e.2.2.2]
abbrev CmsAt (H : Hp) (as : List Addr) (es : List Cm) : Prop := Paired (fun a e => H a = some (.tup (cmV e))) as es
/-- the comings as data, and sorted -/
def cmD (e : Cm) : PyData := .tuple [.int e.1, .int e.2.1, .str e.2.2.1, .str e.2.2.2]
abbrev cmsS (qs : List Quad) (rs : List Rw) (q : Int) (k : Nat) : List Cm := sortD cmD (cms qs rs q k)
abbrev CmV (H : Hp) (v : V) (e : Cm) : Prop := ∃ a, v = V.ref a ∧ H a = some (.tup (cmV e))
theorem cmD_like (e f : Cm) : PySem.W.alike (cmD e) (cmD f) = true := by
  unfold cmD
  simp only [PySem.W.alike, PySem.W.alikeAll, Bool.and_self]
theorem cmD_dp {K : PySem.W.Frag} {H : Hp} {v : V} {e : Cm} (h : CmV H v e) : Dp K H v (cmD e) := by
  obtain ⟨a, rfl, ha⟩ := h
  exact .tup (SqT.of ha) (.cons (.int _) (.cons (.int _) (.cons (.str _) (.cons (.str _) .nil))))
theorem cmD_depth (e : Cm) : (cmD e).depth ≤ 8 := by
  unfold cmD
  simp only [PyData.depth, PyData.depthAll]
  decide
theorem cms_val {H : Hp} : ∀ {as : List Addr} {es : List Cm}, CmsAt H as es → Paired (CmV H) (as.map V.ref) es
  | _, _, .nil => .nil
  | _, _, .cons h t => .cons ⟨_, rfl, h⟩ (cms_val t)
theorem cms_ad {H : Hp} : ∀ {ys : List V} {es : List Cm}, Paired (CmV H) ys es → ∃ bs : List Addr, ys = bs.map V.ref ∧ CmsAt H bs es
  | _, _, .nil => ⟨[], rfl, .nil⟩
  | _, _, .cons ⟨a, e, h⟩ t => by
    obtain ⟨bs, e2, c⟩ := cms_ad t
    exact ⟨a :: bs, by rw [e, e2]; rfl, .cons h c⟩
theorem rows_ixC {H : Hp} {as : List Addr} {rs : List Rw} (h : RowsAt H as rs) : as.length = rs.length ∧ ∀ (j : Nat) (r : Rw), rs[j]? = some r → ∃ a, as[j]? = some a ∧ RwAt H a r := by
  induction h with
  | nil => exact ⟨rfl, fun j r e => by simp at e⟩
  | cons x t ih =>
    refine ⟨congrArg (· + 1) ih.1, fun j r e => ?_⟩
    cases j with
    | zero => obtain rfl := Option.some.inj e; exact ⟨_, rfl, x⟩
    | succ j => exact ih.2 j r e
theorem paired_ix {α β : Type} {R : α → β → Prop} {as : List α} {bs : List β} (h : Paired R as bs) : ∀ {i : Nat} {a : α}, as[i]? = some a → ∃ b, bs[i]? = some b ∧ R a b := by
  induction h with
  | nil => intro i a e; simp at e
  | cons x t ih =>
    intro i a e
    cases i with
    | zero => obtain rfl := Option.some.inj e; exact ⟨_, rfl, x⟩
    | succ i => exact ih e
end Ur
/-! HX: a crosses b twice: the numbers of _law_crossed. -/
namespace Ur
open PySem PySem.Spec PyProof.Rows L2
theorem gauss {k n m : Int} (h : k ∣ n * m) (g : Int.gcd k m = 1) : k ∣ n := by
  have := Int.dvd_mul_gcd_iff_dvd_mul.mpr h
  rw [g] at this
  simpa using this
structure Crs (one two turns more day late : Int) : Prop where
  o0 : 2 ≤ one
  o1 : one ≤ 10 ^ 9 + 7
  t0 : 4 ≤ two
  t1 : two ≤ 10 ^ 6 + 4
  g : Int.gcd one two = 1
  u0 : 2 ≤ turns
  u1 : turns ≤ 6
  m0 : 1 ≤ more
  m1 : more < one
  d0 : 0 ≤ day
  d1 : day ≤ 10 ^ 16
  l0 : day + turns * one ≤ late
  l1 : late ≤ day + turns * one + 9
def aQ (one base late : Int) : Quad := ("a", late, base + one, one)
def bQ (one two turns base day : Int) : Quad := ("b", day, base + turns * (one * two), 0 - two)
def cntC (one turns more : Int) : Int := (turns - 2) * one + more
def haltC (one two turns more base : Int) : Int := base + turns * (one * two) - cntC one turns more * two
def cQ (one two turns more base : Int) : Quad := ("c", 0, haltC one two turns more base, 0 - 10 ^ 17)
def crs3 (one two turns more base day late : Int) : List Quad := [aQ one base late, bQ one two turns base day, cQ one two turns more base]
def crs2 (one two turns base day late : Int) : List Quad := [aQ one base late, bQ one two turns base day]
section
variable {one two turns more base day late : Int}
/-- where a and b meet -/
theorem crs_ab (h : Crs one two turns more day late) {n m : Int} (e : base + one + n * one = base + turns * (one * two) + m * (0 - two)) : ∃ k, 1 + n = two * k ∧ m = turns * one - one * k := by
  have e1 : (1 + n) * one = two * (turns * one - m) := by
    have a1 : (1 + n) * one = one + n * one := by rw [Int.add_mul, Int.one_mul]
    have a2 : two * (turns * one - m) = turns * (one * two) - m * two := by
      rw [Int.mul_sub, Int.mul_comm two m, Int.mul_comm two (turns * one), Int.mul_assoc]
    have a3 : m * (0 - two) = 0 - m * two := by rw [Int.mul_sub, Int.mul_zero]
    omega
  have d1 : two ∣ (1 + n) * one := ⟨_, e1⟩
  have d2 : two ∣ 1 + n := gauss d1 (by rw [Int.gcd_comm]; exact h.g)
  obtain ⟨k, hk⟩ := d2
  refine ⟨k, hk, ?_⟩
  rw [hk, Int.mul_assoc] at e1
  have t0 := h.t0
  have e2 : k * one = turns * one - m := Int.eq_of_mul_eq_mul_left (by omega) e1
  rw [Int.mul_comm one k]
  omega
/-- what is left of b's way behind its stop -/
theorem crs_left : turns * (one * two) - cntC one turns more * two = two * (2 * one - more) := by
  unfold cntC
  rw [Int.add_mul, Int.sub_mul, Int.sub_mul, Int.mul_sub, Int.mul_assoc turns one two, Int.mul_comm two more, ← Int.mul_assoc two 2 one, Int.mul_comm two 2, Int.mul_assoc 2 two one, Int.mul_comm two one, Int.mul_assoc 2 one two]
  omega
theorem crs_small (h : Crs one two turns more day late) : 0 ≤ two * (2 * one - more) ∧ two * (2 * one - more) < 10 ^ 17 := by
  have := h.o0
  have := h.o1
  have := h.t0
  have := h.t1
  have := h.m0
  have := h.m1
  have mb := mul_bd (a := two) (b := 2 * one - more) (A := 10 ^ 6 + 4) (B := 2 * 10 ^ 9 + 14) (by omega) (by omega) (by omega) (by omega) (by decide)
  have p := Int.mul_nonneg (show 0 ≤ two by omega) (show 0 ≤ 2 * one - more by omega)
  omega
/-- a never comes to a post of c -/
theorem crs_ac (h : Crs one two turns more day late) {n m : Int} (n0 : 0 ≤ n) (m0 : 0 ≤ m) (e : base + one + n * one = haltC one two turns more base + m * (0 - 10 ^ 17)) : False := by
  have sm := crs_small h
  have lf := crs_left (one := one) (two := two) (turns := turns) (more := more)
  unfold haltC at e
  have a1 : (1 + n) * one = one + n * one := by rw [Int.add_mul, Int.one_mul]
  have o0 := h.o0
  have p := Int.mul_nonneg n0 (show 0 ≤ one by omega)
  have m00 : m = 0 := by omega
  subst m00
  have e1 : (1 + n) * one = two * (2 * one - more) := by omega
  have d1 : one ∣ two * (2 * one - more) := ⟨1 + n, by rw [← e1, Int.mul_comm]⟩
  have d2 : one ∣ 2 * one - more := gauss (by rw [Int.mul_comm]; exact d1) h.g
  have d3 : one ∣ more := by
    have := Int.dvd_sub (Int.dvd_mul_left 2 one) d2
    rwa [show 2 * one - (2 * one - more) = more by omega] at this
  have := Int.le_of_dvd (by have := h.m0; omega) d3
  have := h.m1
  omega
/-- where b comes to a post of c -/
theorem crs_bc (h : Crs one two turns more day late) {n m : Int} (m0 : 0 ≤ m) (e : base + turns * (one * two) + n * (0 - two) = haltC one two turns more base + m * (0 - 10 ^ 17)) : cntC one turns more ≤ n := by
  unfold haltC at e
  have a3 : n * (0 - two) = 0 - n * two := by rw [Int.mul_sub, Int.mul_zero]
  have t0 := h.t0
  have le : cntC one turns more * two ≤ n * two := by omega
  exact Int.le_of_mul_le_mul_right le (by omega)
theorem crs_cnt (h : Crs one two turns more day late) : 1 ≤ cntC one turns more ∧ cntC one turns more < turns * one ∧ cntC one turns more = turns * one - 2 * one + more := by
  have := h.o0
  have := h.m0
  have := h.m1
  have p := Int.mul_nonneg (show 0 ≤ turns - 2 by have := h.u0; omega) (show 0 ≤ one by omega)
  have e : (turns - 2) * one = turns * one - 2 * one := Int.sub_mul ..
  unfold cntC
  omega
def crsC3 (one two turns more : Int) : Nat → Option Int := fun i => if i = 0 then some (2 * two - 1) else if i = 1 then some (cntC one turns more) else none
def crsB3 : Nat → Nat := fun i => if i = 0 then 1 else if i = 1 then 2 else 0
theorem crs_meet2 (h : Crs one two turns more day late) : base + one + (2 * two - 1) * one = base + turns * (one * two) + (turns * one - 2 * one) * (0 - two) := by
  have a1 : (2 * two - 1) * one = 2 * (one * two) - one := by rw [Int.sub_mul, Int.one_mul, Int.mul_assoc, Int.mul_comm two one]
  have a2 : (turns * one - 2 * one) * (0 - two) = 2 * (one * two) - turns * (one * two) := by
    rw [Int.mul_sub, Int.mul_zero, Int.sub_mul, Int.mul_assoc, Int.mul_assoc]
    omega
  omega
theorem crs_meet1 (h : Crs one two turns more day late) : base + one + (two - 1) * one = base + turns * (one * two) + (turns * one - one) * (0 - two) := by
  have a1 : (two - 1) * one = one * two - one := by rw [Int.sub_mul, Int.one_mul, Int.mul_comm two one]
  have a2 : (turns * one - one) * (0 - two) = one * two - turns * (one * two) := by
    rw [Int.mul_sub, Int.mul_zero, Int.sub_mul, Int.mul_assoc]
    omega
  omega
theorem crs_halt : base + turns * (one * two) + cntC one turns more * (0 - two) = haltC one two turns more base + 0 * (0 - 10 ^ 17) := by
  unfold haltC
  rw [Int.mul_sub, Int.mul_zero, Int.zero_mul]
  omega
theorem crs_self3 (h : Crs one two turns more day late) : ∀ i, i < 3 → ∀ n cnt, ¬ PBlk (dQ (crs3 one two turns more base day late)) (fSP (crs3 one two turns more base day late)) i i cnt n := fun i hi n cnt => by
  have o0 := h.o0
  have t0 := h.t0
  have e : i = 0 ∨ i = 1 ∨ i = 2 := by omega
  rcases e with rfl | rfl | rfl
  · exact no_self (x := aQ one base late) rfl (by show one ≠ 0; omega)
  · exact no_self (x := bQ one two turns base day) rfl (by show 0 - two ≠ 0; omega)
  · exact no_self (x := cQ one two turns more base) rfl (by show (0 : Int) - 10 ^ 17 ≠ 0; decide)
theorem crs_self2 (h : Crs one two turns more day late) : ∀ i, i < 2 → ∀ n cnt, ¬ PBlk (dQ (crs2 one two turns base day late)) (fSP (crs2 one two turns base day late)) i i cnt n := fun i hi n cnt => by
  have o0 := h.o0
  have t0 := h.t0
  have e : i = 0 ∨ i = 1 := by omega
  rcases e with rfl | rfl
  · exact no_self (x := aQ one base late) rfl (by show one ≠ 0; omega)
  · exact no_self (x := bQ one two turns base day) rfl (by show 0 - two ≠ 0; omega)
theorem crs_h3 (h : Crs one two turns more day late) : HistC 3 (dQ (crs3 one two turns more base day late)) (fSP (crs3 one two turns more base day late)) (crsC3 one two turns more) crsB3 := by
  have o0 := h.o0
  have t0 := h.t0
  have u0 := h.u0
  have m0 := h.m0
  have m1 := h.m1
  have l0 := h.l0
  have d0 := h.d0
  have self := crs_self3 (base := base) h
  obtain ⟨c0, c1, c2⟩ := crs_cnt h
  have tp := Int.mul_nonneg (show 0 ≤ turns - 2 by omega) (show 0 ≤ one by omega)
  rw [Int.sub_mul] at tp
  have s01 : ∀ n m, fSP (crs3 one two turns more base day late) 0 n 1 m ↔ base + one + n * one = base + turns * (one * two) + m * (0 - two) := fun n m => Iff.rfl
  have s02 : ∀ n m, fSP (crs3 one two turns more base day late) 0 n 2 m ↔ base + one + n * one = haltC one two turns more base + m * (0 - 10 ^ 17) := fun n m => Iff.rfl
  have s10 : ∀ n m, fSP (crs3 one two turns more base day late) 1 n 0 m ↔ base + turns * (one * two) + n * (0 - two) = base + one + m * one := fun n m => Iff.rfl
  have s12 : ∀ n m, fSP (crs3 one two turns more base day late) 1 n 2 m ↔ base + turns * (one * two) + n * (0 - two) = haltC one two turns more base + m * (0 - 10 ^ 17) := fun n m => Iff.rfl
  have s20 : ∀ n m, fSP (crs3 one two turns more base day late) 2 n 0 m ↔ haltC one two turns more base + n * (0 - 10 ^ 17) = base + one + m * one := fun n m => Iff.rfl
  have s21 : ∀ n m, fSP (crs3 one two turns more base day late) 2 n 1 m ↔ haltC one two turns more base + n * (0 - 10 ^ 17) = base + turns * (one * two) + m * (0 - two) := fun n m => Iff.rfl
  have dd0 : dQ (crs3 one two turns more base day late) 0 = late := rfl
  have dd1 : dQ (crs3 one two turns more base day late) 1 = day := rfl
  have dd2 : dQ (crs3 one two turns more base day late) 2 = 0 := rfl
  have k0 : crsC3 one two turns more 0 = some (2 * two - 1) := rfl
  have k1 : crsC3 one two turns more 1 = some (cntC one turns more) := rfl
  have k2 : crsC3 one two turns more 2 = none := rfl
  have three : ∀ i, i < 3 → i = 0 ∨ i = 1 ∨ i = 2 := fun i hi => by omega
  refine ⟨fun i hi => ?_, fun i c hi e => ?_, fun i c hi e => ?_⟩
  · rcases three i hi with rfl | rfl | rfl
    · rw [k0]
      refine ⟨by omega, ⟨1, by decide, turns * one - 2 * one, by omega, (s01 _ _).mpr (crs_meet2 h), fun c z => by rw [k1] at z; obtain rfl := Option.some.inj z; omega, .inl (by rw [dd0, dd1]; omega)⟩, fun n h0 h1 b => ?_⟩
      obtain ⟨j, hj, pb⟩ := b
      rcases three j hj with rfl | rfl | rfl
      · exact self 0 (by decide) _ _ pb
      · obtain ⟨m, mm, sp, lt, _⟩ := pb
        obtain ⟨k, e1, e2⟩ := crs_ab h ((s01 n m).mp sp)
        have lt := lt _ k1
        have kk : one * 1 < one * k := by omega
        have k2 : 1 < k := Int.lt_of_mul_lt_mul_left kk (by omega)
        have := Int.mul_le_mul_of_nonneg_left (show 2 ≤ k by omega) (show 0 ≤ two by omega)
        omega
      · obtain ⟨m, mm, sp, _, _⟩ := pb
        exact crs_ac h h0 mm ((s02 n m).mp sp)
    · rw [k1]
      refine ⟨by omega, ⟨2, by decide, 0, by decide, (s12 _ _).mpr crs_halt, (fun c z => by rw [k2] at z; cases z), .inl (by rw [dd1, dd2]; omega)⟩, fun n h0 h1 b => ?_⟩
      obtain ⟨j, hj, pb⟩ := b
      rcases three j hj with rfl | rfl | rfl
      · obtain ⟨m, mm, sp, lt, o⟩ := pb
        rw [dd0, dd1] at o
        omega
      · exact self 1 (by decide) _ _ pb
      · obtain ⟨m, mm, sp, _, _⟩ := pb
        have := crs_bc h mm ((s12 n m).mp sp)
        omega
    · rw [k2]
      rintro n h0 ⟨j, hj, pb⟩
      rcases three j hj with rfl | rfl | rfl
      · obtain ⟨m, mm, sp, _, _⟩ := pb
        exact crs_ac h mm h0 ((s20 n m).mp sp).symm
      · obtain ⟨m, mm, sp, lt, _⟩ := pb
        have lt := lt _ k1
        have := crs_bc h h0 ((s21 n m).mp sp).symm
        omega
      · exact self 2 (by decide) _ _ pb
  · rcases three i hi with rfl | rfl | rfl
    · rw [k0] at e
      obtain rfl := Option.some.inj e
      exact ⟨by decide, turns * one - 2 * one, by omega, (s01 _ _).mpr (crs_meet2 h), fun c z => by rw [show crsB3 0 = 1 from rfl, k1] at z; obtain rfl := Option.some.inj z; omega⟩
    · rw [k1] at e
      obtain rfl := Option.some.inj e
      exact ⟨by decide, 0, by decide, (s12 _ _).mpr crs_halt, fun c z => by rw [show crsB3 1 = 2 from rfl, k2] at z; cases z⟩
    · rw [k2] at e
      cases e
  · have o1 := h.o1
    have t1 := h.t1
    have u1 := h.u1
    have mb := mul_bd (a := turns) (b := one) (A := 6) (B := 10 ^ 10) (by omega) (by omega) (by omega) (by omega) (by decide)
    rcases three i hi with rfl | rfl | rfl
    · rw [k0] at e
      obtain rfl := Option.some.inj e
      omega
    · rw [k1] at e
      obtain rfl := Option.some.inj e
      omega
    · rw [k2] at e
      cases e
def crsC2 (two : Int) : Nat → Option Int := fun i => if i = 0 then some (two - 1) else none
theorem crs_h2 (h : Crs one two turns more day late) : HistC 2 (dQ (crs2 one two turns base day late)) (fSP (crs2 one two turns base day late)) (crsC2 two) (fun _ => 1) := by
  have o0 := h.o0
  have t0 := h.t0
  have u0 := h.u0
  have l0 := h.l0
  have d0 := h.d0
  have self := crs_self2 (base := base) h
  have tp := Int.mul_nonneg (show 0 ≤ turns - 1 by omega) (show 0 ≤ one by omega)
  rw [Int.sub_mul, Int.one_mul] at tp
  have s01 : ∀ n m, fSP (crs2 one two turns base day late) 0 n 1 m ↔ base + one + n * one = base + turns * (one * two) + m * (0 - two) := fun n m => Iff.rfl
  have s10 : ∀ n m, fSP (crs2 one two turns base day late) 1 n 0 m ↔ base + turns * (one * two) + n * (0 - two) = base + one + m * one := fun n m => Iff.rfl
  have dd0 : dQ (crs2 one two turns base day late) 0 = late := rfl
  have dd1 : dQ (crs2 one two turns base day late) 1 = day := rfl
  have k0 : crsC2 two 0 = some (two - 1) := rfl
  have k1 : crsC2 two 1 = none := rfl
  have pos : ∀ {n k : Int}, 0 ≤ n → 1 + n = two * k → 1 ≤ k := fun {n k} n0 e => by
    have a : two * 0 < two * k := by omega
    have := Int.lt_of_mul_lt_mul_left a (by omega)
    omega
  have duo : ∀ i, i < 2 → i = 0 ∨ i = 1 := fun i hi => by omega
  refine ⟨fun i hi => ?_, fun i c hi e => ?_, fun i c hi e => ?_⟩
  · rcases duo i hi with rfl | rfl
    · rw [k0]
      refine ⟨by omega, ⟨1, by decide, turns * one - one, by omega, (s01 _ _).mpr (crs_meet1 h), (fun c z => by rw [k1] at z; cases z), .inl (by rw [dd0, dd1]; omega)⟩, fun n h0 h1 b => ?_⟩
      obtain ⟨j, hj, pb⟩ := b
      rcases duo j hj with rfl | rfl
      · exact self 0 (by decide) _ _ pb
      · obtain ⟨m, mm, sp, lt, _⟩ := pb
        obtain ⟨k, e1, e2⟩ := crs_ab h ((s01 n m).mp sp)
        have := Int.mul_le_mul_of_nonneg_left (pos h0 e1) (show 0 ≤ two by omega)
        omega
    · rw [k1]
      rintro n h0 ⟨j, hj, pb⟩
      rcases duo j hj with rfl | rfl
      · obtain ⟨m, mm, sp, lt, o⟩ := pb
        rw [dd0, dd1] at o
        obtain ⟨k, e1, e2⟩ := crs_ab h ((s10 n m).mp sp).symm
        have := Int.mul_le_mul_of_nonneg_left (pos mm e1) (show 0 ≤ one by omega)
        omega
      · exact self 1 (by decide) _ _ pb
  · rcases duo i hi with rfl | rfl
    · rw [k0] at e
      obtain rfl := Option.some.inj e
      exact ⟨by decide, turns * one - one, by omega, (s01 _ _).mpr (crs_meet1 h), fun c z => by rw [k1] at z; cases z⟩
    · rw [k1] at e
      cases e
  · have t1 := h.t1
    rcases duo i hi with rfl | rfl
    · rw [k0] at e
      obtain rfl := Option.some.inj e
      omega
    · rw [k1] at e
      cases e
end
end Ur
/-! HY: _law_crossed; a history's row by its name. -/
namespace Ur
open PySem PySem.Spec PyProof.Rows L2
abbrev s_check_name : Stmt := (topS 25)
abbrev N_sc_check_name : List Str := ["fence", "value"]
abbrev P_check_name : List Str := ["fence", "value"]
theorem sc_check_name : FnScope N_sc_check_name P_check_name (defScope s_check_name) := ⟨rfl, rfl, rfl, by decide +kernel, rfl, by decide +kernel, by decide +kernel⟩
def spName (C CF : Addr) : Sp := fun vs H Q _ => ∃ (f : Addr) (L : List Pt) (x : Pt), vs = [.ref f, .str x.nm] ∧ FcAt C CF H f L ∧ x ∈ L ∧ ∀ H', Same H H' → Q .non H'
section
variable {P : Program} {w : World} {K : PySem.W.Frag} {mg : Str → Option Value} {base : Heap} {C CF CH : Addr}
theorem ok_check_name (D : Dfn K mg "check_name" s_check_name P_check_name) (hIn : OwnR P w K mg base CF "__contains__" 1 P_Fence_contains (spIn (InF K C CF))) : Cal P w K mg base 3 "check_name" P_check_name (spName C CF) := by
  refine D.cal sc_check_name (fun vs H Q E h => ?_) fun f cdv A outer s H vs Q E hr h => ?_
  · obtain ⟨f, L, x, rfl, _⟩ := h
    rfl
  obtain ⟨f, L, x, rfl, hf, hx, q⟩ := h
  obtain ⟨dx, t, dd, h1, h2, h3⟩ := hf.ex
  refine ⟨_, (pss_one (ps_if (pt_cmpR (op_notInO hIn (hr.mono (by decide))) (pv 1) (pv 0) (by rfl)) (pss_one ps_never) pss_nil)), ?_⟩
  refine ⟨_, rfl, _, rfl, f, dx, _, true, rfl, h1, ⟨L, _, hf, kin_str K H x.nm, ?_⟩, fun H' e => ⟨false, rfl, iteF ?_⟩⟩
  · exact (decide_eq_true (List.mem_map_of_mem hx)).symm
  exact q H' fun b o z => e b o z
end
abbrev s_History_getitem : Stmt := (inClass (topS 37) 7)
abbrev N_sc_History_getitem : List Str := ["self", "at"]
abbrev P_History_getitem : List Str := ["self", "at"]
theorem sc_History_getitem : FnScope N_sc_History_getitem P_History_getitem (defScope s_History_getitem) := ⟨rfl, rfl, rfl, by decide +kernel, rfl, by decide +kernel, by decide +kernel⟩
def spHGet (C CF CH : Addr) : Sp := fun vs H Q _ => ∃ (h : Addr) (L : List Pt) (rs : List Rw) (j : Nat) (r : Rw), vs = [.ref h, .str r.nm] ∧ HsAt C CF CH H h L rs ∧ rs.map Rw.nm = L.map Pt.nm ∧ (L.map Pt.nm).Nodup ∧ rs[j]? = some r ∧ ∀ a H', RwAt H' a r → Same H H' → Q (.ref a) H'
theorem bkv_at {as : List Addr} : ∀ {rs : List Rw} {j : Nat} {r : Rw} {a : Addr}, as.length = rs.length → (rs.map Rw.nm).Nodup → rs[j]? = some r → as[j]? = some a → valV (bkv as rs) (Sum.inr r.nm : Key) = some (.ref a) := by
  induction as with
  | nil => intro rs j r a _ _ _ e; simp at e
  | cons b as ih =>
    intro rs j r a hl nd e1 e2
    cases rs with
    | nil => simp at e1
    | cons s rs =>
      have nd2 := List.nodup_cons.mp nd
      cases j with
      | zero =>
        obtain rfl := Option.some.inj e1
        obtain rfl := Option.some.inj e2
        exact valV_pos (p := ((Sum.inr s.nm : Key), V.ref b)) rfl
      | succ j =>
        have e1 : rs[j]? = some r := e1
        have e2 : as[j]? = some a := e2
        have ne : s.nm ≠ r.nm := fun z => nd2.1 (by rw [z]; exact List.mem_map_of_mem (List.mem_of_getElem? e1))
        show valV ((Sum.inr s.nm, V.ref b) :: bkv as rs) _ = _
        rw [valV_neg (p := ((Sum.inr s.nm : Key), V.ref b)) (fun z => ne (Sum.inr.inj z))]
        exact ih (Nat.succ.inj hl) nd2.2 e1 e2
theorem rows_ix {H : Hp} {as : List Addr} {rs : List Rw} (h : RowsAt H as rs) : as.length = rs.length ∧ ∀ (j : Nat) (r : Rw), rs[j]? = some r → ∃ a, as[j]? = some a ∧ RwAt H a r := by
  induction h with
  | nil => exact ⟨rfl, fun j r e => by simp at e⟩
  | cons x t ih =>
    refine ⟨congrArg (· + 1) ih.1, fun j r e => ?_⟩
    cases j with
    | zero => obtain rfl := Option.some.inj e; exact ⟨_, rfl, x⟩
    | succ j => exact ih.2 j r e
section
variable {P : Program} {w : World} {K : PySem.W.Frag} {mg : Str → Option Value} {base : Heap} {C CF CH : Addr} {f : Addr} {fd : FuncData}
theorem ok_hget (F : Fun K "__getitem__" "History.__getitem__" s_History_getitem f fd) (UH : HTxt K mg CH) (CN : Cal P w K mg base 3 "check_name" P_check_name (spName C CF)) : FnOk P w K mg base CX0 5 f fd P_History_getitem (spHGet C CF CH) := by
  refine F.ok sc_History_getitem (fun vs H Q E h => ?_) (fun cdv A outer s H vs Q E hr h => ?_)
  · obtain ⟨h, L, rs, j, r, rfl, _⟩ := h
    rfl
  obtain ⟨h, L, rs, j, r, rfl, hh, en, nd, er, q⟩ := h
  have hu := hu_of hr
  obtain ⟨dx, fc, Ta, b, so, as, ps, h1, hf, hTa, rows, hb, _⟩ := hh.ex
  obtain ⟨x, hx, ex⟩ : ∃ x, x ∈ L ∧ x.nm = r.nm := by
    have : r.nm ∈ L.map Pt.nm := by rw [← en]; exact List.mem_map_of_mem (List.mem_of_getElem? er)
    obtain ⟨x, hx, e⟩ := List.mem_map.mp this
    exact ⟨x, hx, e⟩
  obtain ⟨al, ra⟩ := rows_ix rows
  obtain ⟨a, ea, rw_⟩ := ra j r er
  refine ⟨_, (pss_cons (ps_expr (pe_cal CN (hr.mono (by decide)) (pa_cons (pe_fld (pv 0) rfl) (pa_cons (pv 1) pa_nil)))) (pss_one (ps_ret (pe_dget hu (pe_fld (pv 0) rfl) (pv 1) (fun _ _ => rfl))))), ?_⟩
  refine ⟨_, rfl, h, CH, dx, _, _, rfl, h1, UH.cl, UH.nF, rfl, _, rfl, fc, L, x, by rw [ex]; rfl, hf, hx, fun H' s => ?_⟩
  have v := DGet.k (k := (Sum.inr r.nm : Key)) (s _ _ hb)
  rw [bkv_at al (by rw [en]; exact nd) er ea] at v
  exact ⟨_, rfl, h, CH, dx, _, _, rfl, s _ _ h1, UH.cl, UH.nB, rfl, _, rfl, b, _, rfl, v, q a H' (rw_.keep fun b xs e => s _ _ e) s⟩
end
end Ur
/-! KA: count_at, day_at. -/
namespace Ur
open PySem PySem.Spec PyProof.Rows L2
/-- divmod by any divisor but 0: a new tuple -/
theorem call_divmodX {X : Cx} : CallR X (.builtin "divmod") (fun xs H Q => ∃ i j, xs = [.int i, .int j] ∧ CDivX i j ∧ ∀ p, H p = none → Q (.ref p) (upd H p (.tup [.int (i.fdiv j), .int (i.fmod j)]))) := by
  intro pins s σ H xs us Q I r h
  obtain ⟨i, j, rfl, hc, q⟩ := h
  obtain ⟨u, w', rfl, ⟨t, rfl⟩, ⟨t', rfl⟩⟩ := vals2 r
  refine PyProof.Rows.divmod_int hc.1 ?_ (.inl (PyProof.noPylong_of_log2 hc.2))
  have free : H s.heap.objs.size = none := I.hok.fresh (Nat.le_refl _)
  refine ⟨.ref s.heap.objs.size, upd H s.heap.objs.size (.tup [.int (i.fdiv j), .int (i.fmod j)]), I.laid (fun b o e => Heap.get?_push_of_some _ e) (Nat.le_refl _) ⟨(by show 2 ≤ sizeLine; decide), [.int (i.fdiv j) s.toks, .int (i.fmod j) (s.toks + 1)], .cons ⟨_, rfl⟩ (.cons ⟨_, rfl⟩ .nil), ⟨_, Heap.get?_push_size s.heap rfl, rfl, 0, rfl⟩⟩, rfl, q _ free⟩
abbrev s_check_post : Stmt := (topS 21)
abbrev N_sc_check_post : List Str := ["value"]
abbrev P_check_post : List Str := ["value"]
theorem sc_check_post : FnScope N_sc_check_post P_check_post (defScope s_check_post) := ⟨rfl, rfl, rfl, by decide +kernel, rfl, by decide +kernel, by decide +kernel⟩
def spCkPost : Sp := fun vs H Q _ => ∃ c : Int, vs = [.int c] ∧ -(10 ^ 80) ≤ c ∧ c ≤ 10 ^ 80 ∧ Q .non H
section
variable {P : Program} {w : World} {K : PySem.W.Frag} {mg : Str → Option Value} {base : Heap} {C : Addr}
theorem ok_check_post (D : Dfn K mg "check_post" s_check_post P_check_post) {uM : Value} (hM : mg "MAX_ARGUMENT" = some uM) (rM : L2.RelV (.int (10 ^ 80)) uM) (CB : Cal P w K mg base 2 "is_between" P_is_between spBetween) : Cal P w K mg base 3 "check_post" P_check_post spCkPost := by
  refine D.cal sc_check_post (fun vs H Q E h => ?_) fun f cdv A outer s H vs Q E hr h => ?_
  · obtain ⟨c, rfl, _⟩ := h
    rfl
  obtain ⟨c, rfl, c0, c1, q⟩ := h
  refine ⟨_, (pss_one (ps_if (pt_not (pt_val (pe_cal CB (hr.mono (by decide)) (pa_cons (pv 0) (pa_cons (pe_un un_neg (pe_glob (v := .int (10 ^ 80)) rfl hM rM)) (pa_cons (pe_glob (v := .int (10 ^ 80)) rfl hM rM) pa_nil)))))) (pss_one ps_never) pss_nil)), ?_⟩
  exact ⟨_, rfl, _, rfl, c, _, _, rfl, _, rfl, iteNS ⟨c0, c1⟩ q⟩
end
abbrev s_Painter_count_at : Stmt := (inClass (topS 60) 10)
abbrev N_sc_Painter_count_at : List Str := ["self", "post", "count", "rest"]
abbrev P_Painter_count_at : List Str := ["self", "post"]
theorem sc_Painter_count_at : FnScope N_sc_Painter_count_at P_Painter_count_at (defScope s_Painter_count_at) := ⟨rfl, rfl, rfl, by decide +kernel, rfl, by decide +kernel, by decide +kernel⟩
def spCountAt (C : Addr) : Sp := fun vs H Q _ => ∃ (a : Addr) (nm : Str) (d p s c : Int), vs = [.ref a, .int c] ∧ PnAt C H a nm d p s ∧ s ≠ 0 ∧ s.natAbs < 2 ^ 200 ∧ -(10 ^ 80) ≤ c ∧ c ≤ 10 ^ 80 ∧ ∀ r H', StepsTo p s c r → Same H H' → Q (optV r) H'
section
variable {P : Program} {w : World} {K : PySem.W.Frag} {mg : Str → Option Value} {base : Heap} {C : Addr} {f : Addr} {fd : FuncData}
theorem ok_count_at (F : Fun K "count_at" "Painter.count_at" s_Painter_count_at f fd) (B : Blt mg) (T : PTxt K mg C) (CKP : Cal P w K mg base 3 "check_post" P_check_post spCkPost) : FnOk P w K mg base CX0 4 f fd P_Painter_count_at (spCountAt C) := by
  refine F.ok sc_Painter_count_at (fun vs H Q E h => ?_) (fun cdv A outer s H vs Q E hr h => ?_)
  · obtain ⟨a, nm, d, p, st, c, rfl, _⟩ := h
    rfl
  obtain ⟨a, nm, d, p, st, c, rfl, ⟨dx, ha⟩, hs, hs2, c0, c1, k⟩ := h
  have dv : CDivX (c - p) st := ⟨hs, Nat.lt_of_lt_of_le (PySem.Flt.log2_lt_of (by decide) hs2) (by decide)⟩
  have Z := steps_to_spec (p := p) (q := c) hs
  refine ⟨_, (pss_cons (ps_expr (pe_cal CKP (hr.mono (by decide)) (pa_cons (pv 1) pa_nil))) (pss_cons (ps_asg (pe_callB call_divmodX rfl B.divmod_ (by decide +kernel) (pa_cons (pe_op op_sub (pv 1) (pe_fld (pv 0) rfl)) (pa_cons (pe_fld (pv 0) rfl) pa_nil))) (pg_tup rfl (pgs_cons (pg_name (i := 2) sc_Painter_count_at.nd rfl (Or.inl rfl)) (pgs_cons (pg_name (i := 3) sc_Painter_count_at.nd rfl (Or.inl rfl)) pgs_nil)))) (pss_one (ps_ret (pe_ifExp (PW.pt (pw_and (pt_cmpR op_eq (pv 3) pe_int (nomark _)) (pw_and1 (pt_cmpR op_ge (pv 2) pe_int (nomark _))))) (pv 2) pe_non))))), ?_⟩
  refine ⟨_, rfl, c, rfl, c0, c1, ?_⟩
  refine ⟨_, rfl, _, rfl, a, C, dx, _, _, rfl, ha, T.cl, T.nP, pfs_post _ _ _ _, _, _, rfl, rfl, _, rfl, a, C, dx, _, _, rfl, ha, T.cl, T.nS, pfs_stride _ _ _ _, _, _, rfl, dv, fun t ht => ?_⟩
  refine ⟨t, _, rfl, SqT.of upd_same, rfl, _, _, rfl, _, _, rfl, rfl, ?_⟩
  have sm := same_new ht (.tup [.int ((c - p).fdiv st), .int ((c - p).fmod st)])
  refine ⟨_, rfl, rfl, _, rfl, ?_⟩
  by_cases e : (c - p).fmod st = 0
  · refine iteDT (by rw [e]) ?_
    refine ⟨_, rfl, _, _, rfl, rfl, _, rfl, ?_⟩
    by_cases e2 : 0 ≤ (c - p).fdiv st
    · refine iteDT e2 ?_
      rw [if_pos ⟨e, e2⟩] at Z
      exact ⟨_, rfl, k _ _ Z sm⟩
    · refine iteDF e2 ?_
      rw [if_neg fun z => e2 z.2] at Z
      exact k _ _ Z sm
  · refine iteDF (fun z => e (V.int.inj z)) ?_
    rw [if_neg fun z => e z.1] at Z
    exact iteF (k _ _ Z sm)
end
end Ur
/-! MA: who painted a post (painting, History.fence, day_of). -/
namespace Ur
open PySem PySem.Spec PyProof.Rows L2
theorem walk_zipP {K : PySem.W.Frag} {a b : Addr} {xs ys : List V} {n : Nat} (h1 : n = xs.length) (h2 : n = ys.length) : Walk (RZ.ItzT K a b) n (fun H => SqT K H a xs ∧ SqT K H b ys) (YPair (fun i => xs[i]?) (fun i => ys[i]?)) where
  goes := fun i H hi q => by
    obtain ⟨x, ex⟩ : ∃ x, xs[i]? = some x := ⟨_, List.getElem?_eq_getElem (by omega)⟩
    obtain ⟨y, ey⟩ : ∃ y, ys[i]? = some y := ⟨_, List.getElem?_eq_getElem (by omega)⟩
    exact ⟨xs, ys, x, y, q.1, q.2, ex, ey⟩
  stops := fun H q => ⟨xs, ys, q.1, q.2, .inl (Nat.le_of_eq h1.symm)⟩
  yields := fun i H v H' _ q y => by
    obtain ⟨T, x, z, e1, e2, e3, f1, f2⟩ := y
    exact ⟨T, x, z, e1, e2, e3, f1 _ q.1, f2 _ q.2⟩
abbrev s_History_fence : Stmt := (inClass (topS 37) 1)
abbrev N_sc_History_fence : List Str := ["self"]
abbrev P_History_fence : List Str := ["self"]
theorem sc_History_fence : FnScope N_sc_History_fence P_History_fence (defScope s_History_fence) := ⟨rfl, rfl, rfl, by decide +kernel, rfl, by decide +kernel, by decide +kernel⟩
section
variable {P : Program} {w : World} {K : PySem.W.Frag} {mg : Str → Option Value} {base : Heap} {CH f : Addr} {fd : FuncData}
theorem ok_get_fence (F : Fun K "fence" "History.fence" s_History_fence f fd) (U : HTxt K mg CH) : FnOk P w K mg base CX0 1 f fd ["self"] (getSp CH "_fence") := by
  refine F.ok sc_History_fence (fun vs H Q E h => ?_) (fun cdv A outer s H vs Q E hr h => ?_)
  · obtain ⟨_, _, _, _, rfl, _⟩ := h
    rfl
  obtain ⟨a, dx, fs, v, rfl, ha, hv, q⟩ := h
  refine ⟨_, (pss_one (ps_ret (pe_fld (pv 0) rfl))), ?_⟩
  exact ⟨_, rfl, a, CH, dx, fs, v, rfl, ha, U.cl, U.nF, hv, q⟩
end
/-- painter j paints the post q at its step n -/
def PntAt (qs : List Quad) (rs : List Rw) (q : Int) (j : Nat) (n : Int) : Prop := j < qs.length ∧ stpF (pQ qs j) (sQ qs j) q = some n ∧ ∀ c, cntR rs j = some c → n < c
abbrev s_painting : Stmt := (topS 38)
abbrev N_sc_painting : List Str := ["told", "post", "painter", "name", "count", "_", "number"]
abbrev P_painting : List Str := ["told", "post"]
theorem sc_painting : FnScope N_sc_painting P_painting (defScope s_painting) := ⟨rfl, rfl, rfl, by decide +kernel, rfl, by decide +kernel, by decide +kernel⟩
def spPntg (C CF CH : Addr) : Sp := fun vs H Q _ => ∃ (h : Addr) (L : List Pt) (rs : List Rw) (q : Int), vs = [.ref h, .int q] ∧ HsAt C CF CH H h L rs ∧ HistR (partsOf L) (fSP (partsOf L)) rs ∧ -(10 ^ 80) ≤ q ∧ q ≤ 10 ^ 80 ∧
  (∀ H', (∀ j n, ¬ PntAt (partsOf L) rs q j n) → Same H H' → Q .non H') ∧ ∀ j n u H', PntAt (partsOf L) rs q j n → (∀ i, i < j → ∀ m, ¬ PntAt (partsOf L) rs q i m) → H' u = some (.tup [.str (nQ (partsOf L) j), .int (dQ (partsOf L) j + n)]) → Same H H' → Q (.ref u) H'
section
variable {P : Program} {w : World} {K : PySem.W.Frag} {mg : Str → Option Value} {base : Heap} {C CF CH : Addr}
theorem ok_pntg (D : Dfn K mg "painting" s_painting P_painting) (B : Blt mg) (hZip : mg "zip" = none) (T : PTxt K mg C) (U : FTxt K mg CF) (UH : HTxt K mg CH) (hFe : PropS P w K mg base CH "fence" 1 (getSp CH "_fence")) (hRows : PropS P w K mg base CH "rows" 1 (getSp CH "_rows")) (hPs : PropS P w K mg base CF "painters" 1 (getSp CF "_painters"))
    (hDay : PropS P w K mg base C "day" 1 (getSp C "_day")) (hCA : MethS P w K mg base C "count_at" 4 P_Painter_count_at (spCountAt C)) : Cal P w K mg base 5 "painting" P_painting (spPntg C CF CH) := by
  refine D.cal sc_painting (fun vs H Q E h => ?_) fun f cdv A outer s H vs Q E hr h => ?_
  · obtain ⟨h, L, rs, q, rfl, _⟩ := h
    rfl
  obtain ⟨h, L, rs, po, rfl, hs1, hist, q0, q1, kn, ks⟩ := h
  refine ⟨_, (pss_cons (ps_for PassesOwn.never rfl (RZ.pi_zipA rfl hZip (pa_cons (pe_prS (pe_prS (pv 0) UH.cl hFe (hr.mono (by decide))) U.cl hPs (hr.mono (by decide))) (pa_cons (pe_prS (pv 0) UH.cl hRows (hr.mono (by decide))) pa_nil))) (pg_tup rfl (pgs_cons (pg_name (i := 2) sc_painting.nd rfl (Or.inl rfl)) (pgs_cons (pg_tup rfl (pgs_cons (pg_name (i := 3) sc_painting.nd rfl (Or.inl rfl)) (pgs_cons (pg_name (i := 4) sc_painting.nd rfl (Or.inl rfl)) (pgs_cons (pg_name (i := 5) sc_painting.nd rfl (Or.inl rfl)) pgs_nil)))) pgs_nil))) (pss_cons (ps_set (i := 6) sc_painting.nd rfl (Or.inl rfl) (pe_meS (pv 2) T.cl hCA (hr.mono (by decide)) (pa_cons (pv 1) pa_nil))) (pss_one (ps_if (PW.pt (pw_and (pt_cmpR op_notN (pv 6) pe_non (nomark _)) (pw_and1 (PW.pt (pw_or (pt_cmpR op_isN (pv 4) pe_non (nomark _)) (pw_or1 (pt_cmpR op_lt (pv 6) (pv 4) (nomark _)))))))) (pss_one (ps_ret (pe_tup (pa_cons (pv 3) (pa_cons (pe_op op_add (pe_prS (pv 2) T.cl hDay (hr.mono (by decide))) (pv 6)) pa_nil))))) pss_nil)))) (pss_one (ps_ret pe_non))), ?_⟩
  obtain ⟨dx, fc, Ta, bb, so, as, ps, hh, hfc, hTa, rows, _⟩ := id hs1.ex
  obtain ⟨dxf, t, d, g1, g2, g3⟩ := id hfc.ex
  have cr := hfc.crew
  have lr : rs.length = L.length := by rw [histR_len hist, parts_len]
  obtain ⟨al, ra⟩ := rows_ix rows
  have la : L.length = (as.map V.ref).length := by rw [List.length_map]; omega
  have lt : L.length = (refsOf L).length := by simp [refsOf]
  refine ⟨_, rfl, h, dx, _, rfl, hh, h, dx, _, _, rfl, hh, rfl, fc, dxf, _, rfl, g1, fc, dxf, _, _, rfl, g1, ffs_p _ _, _, rfl, h, dx, _, rfl, hh, h, dx, _, _, rfl, hh, rfl, t, Ta, _, _, rfl, .inr ⟨SqT.of g2, SqT.of hTa, ?_⟩⟩
  refine for_it (walk_zipP lt la) (fun i σ H3 => ∃ (o2 o3 o4 o5 o6 : Option V), σ = [some (.ref h), some (.int po), o2, o3, o4, o5, o6] ∧ (∀ j, j < i → ∀ n, ¬ PntAt (partsOf L) rs po j n) ∧ Same H H3)
    ⟨_, _, _, _, _, rfl, fun j hj => absurd hj (Nat.not_lt_zero j), Same.refl H⟩ (fun i σ H3 _ z => by obtain ⟨_, _, _, _, _, _, _, sm⟩ := z; exact ⟨SqT.of (sm _ _ g2), SqT.of (sm _ _ hTa)⟩) ?_ ?_
  · rintro i v σ H3 H4 hi ⟨o2, o3, o4, o5, o6, rfl, no, s3⟩ ⟨T0, y1, y2, rfl, hT, rfl, e1, e2⟩
    obtain ⟨x, hx, rfl⟩ := refs_at e1
    have hi : i < L.length := hi
    obtain ⟨r0, er⟩ : ∃ r, rs[i]? = some r := ⟨_, List.getElem?_eq_getElem (by omega)⟩
    obtain ⟨a, ea, vr, har, _⟩ := ra i _ er
    have e2 : (as.map V.ref)[i]? = some y2 := e2
    rw [List.getElem?_map, ea] at e2
    obtain rfl := Option.some.inj e2
    have sT := same_new hT (.tup [V.ref x.a, V.ref a])
    have s4 := s3.trans sT
    obtain ⟨⟨dxx, ex⟩, pk⟩ := (cr.at_ x (List.mem_of_getElem? hx)).same s4
    refine ⟨T0, _, rfl, SqT.of upd_same, rfl, _, _, rfl, _, _, rfl, a, _, rfl, SqT.of (s4 _ _ har), rfl, _, _, rfl, _, _, rfl, _, _, rfl, rfl, rfl, ?_⟩
    have b0 := pk.s0
    have b1 := pk.s1
    obtain ⟨qn, qd, qp, qst⟩ := q_at (parts_at hx)
    have ec : cntR rs i = r0.cnt := by unfold cntR; rw [er]
    have en : r0.nm = nQ (partsOf L) i := by
      have e := congrArg (fun z => z[i]?) (histR_nm hist)
      simp only [List.getElem?_map] at e
      rw [er, hx] at e
      exact (Option.some.inj e).trans qn.symm
    refine ⟨_, rfl, x.a, dxx, _, rfl, ex, rfl, _, rfl, x.a, x.nm, x.d, x.p, x.s, po, rfl, ⟨dxx, ex⟩, pk.sn, by omega, q0, q1, fun r H5 st s5 => ?_⟩
    have er2 : r = stpF (pQ (partsOf L) i) (sQ (partsOf L) i) po := by rw [qp, qst]; exact stpF_is pk.sn st
    have s45 := s4.trans s5
    have skip : (∀ n, ¬ PntAt (partsOf L) rs po i n) → ∀ j, j < i + 1 → ∀ n, ¬ PntAt (partsOf L) rs po j n := fun z j hj n => by
      by_cases c : j = i
      · rw [c]
        exact z n
      · exact no j (by omega) n
    refine ⟨_, rfl, rfl, _, rfl, ?_⟩
    cases r with
    | none =>
      refine iteNS rfl (iteF ?_)
      exact ⟨_, _, _, _, _, rfl, skip fun n z => (by have := z.2.1; rw [← er2] at this; cases this), s45⟩
    | some n =>
      refine iteNN (fun z => by cases z) ?_
      have got : (∀ c, r0.cnt = some c → n < c) → PntAt (partsOf L) rs po i n := fun z => ⟨by rw [parts_len]; exact hi, er2.symm, fun c e => z c (by rw [← ec]; exact e)⟩
      have ex5 := s5 _ _ ex
      have fin : PntAt (partsOf L) rs po i n → ∀ u, H5 u = none → Q (.ref u) (upd H5 u (.tup [.str r0.nm, .int (x.d + n)])) := fun z u nu => ks i n u _ z no (by rw [upd_same, en, qd]) (s45.trans (same_new nu _))
      refine ⟨_, rfl, rfl, _, rfl, ?_⟩
      cases c0 : r0.cnt with
      | none =>
        refine iteDT rfl (iteT ?_)
        exact ⟨_, rfl, _, rfl, x.a, dxx, _, rfl, ex5, x.a, dxx, _, _, rfl, ex5, pfs_day _ _ _ _, _, rfl, _, _, rfl, rfl, by show 2 ≤ sizeLine; decide, fun u nu => fin (got fun c e => by rw [c0] at e; cases e) u nu⟩
      | some k =>
        refine iteDF (fun z => by cases z) ⟨_, rfl, _, rfl, _, _, rfl, rfl, _, rfl, ?_⟩
        by_cases c1 : n < k
        · refine iteDT c1 ?_
          exact ⟨_, rfl, _, rfl, x.a, dxx, _, rfl, ex5, x.a, dxx, _, _, rfl, ex5, pfs_day _ _ _ _, _, rfl, _, _, rfl, rfl, by show 2 ≤ sizeLine; decide, fun u nu => fin (got fun c e => by rw [c0] at e; cases e; exact c1) u nu⟩
        · refine iteDF c1 ?_
          exact ⟨_, _, _, _, _, rfl, skip fun m z => (by
            have h1 := z.2.1
            rw [← er2] at h1
            obtain rfl := Option.some.inj h1
            exact c1 (z.2.2 k (by rw [ec]; exact c0))), s45⟩
  · rintro σ H3 ⟨o2, o3, o4, o5, o6, rfl, no, s3⟩
    have no' : ∀ j n, ¬ PntAt (partsOf L) rs po j n := fun j n z => no j (by have := z.1; rw [parts_len] at this; exact this) n z
    exact kn _ no' s3
end
end Ur
/-! PC: the painters of a fence with the numbers of their posts (painted_counts). -/
namespace Ur
open PySem PySem.Spec PyProof.Rows L2
/-- the painters of a fence with the numbers of their posts -/
abbrev PcAt (H : Hp) (bs : List Addr) (es : List (Addr × Option Int)) : Prop := Paired (fun b e => H b = some (.tup [.ref e.1, optV e.2])) bs es
def pcs (L : List Pt) (rs : List Rw) (n : Nat) : List (Addr × Option Int) := (List.range n).filterMap fun i => match L[i]? with | some x => some (x.a, cntR rs i) | none => none
theorem pcs_succ {L : List Pt} {rs : List Rw} {n : Nat} {x : Pt} (h : L[n]? = some x) : pcs L rs (n + 1) = pcs L rs n ++ [(x.a, cntR rs n)] := by
  unfold pcs
  rw [List.range_succ, List.filterMap_append, List.filterMap_cons, h]
  rfl
theorem pcs_get {L : List Pt} {rs : List Rw} : ∀ {n i : Nat}, n ≤ L.length → i < n → ∃ x, L[i]? = some x ∧ (pcs L rs n)[i]? = some (x.a, cntR rs i) ∧ (pcs L rs n).length = n
  | 0, i, _, h => absurd h (Nat.not_lt_zero i)
  | n + 1, i, hn, h => by
    obtain ⟨z, hz⟩ : ∃ z, L[n]? = some z := ⟨_, List.getElem?_eq_getElem (by omega)⟩
    have len : (pcs L rs n).length = n := by
      cases n with
      | zero => rfl
      | succ m => exact (pcs_get (i := 0) (by omega) (by omega)).choose_spec.2.2
    rw [pcs_succ hz]
    by_cases c : i = n
    · subst c
      exact ⟨z, hz, by rw [List.getElem?_append_right (by omega), len, Nat.sub_self]; rfl, by rw [List.length_append, len]; rfl⟩
    · obtain ⟨x, hx, e, _⟩ := pcs_get (L := L) (rs := rs) (n := n) (i := i) (by omega) (by omega)
      exact ⟨x, hx, by rw [List.getElem?_append_left (by omega)]; exact e, by rw [List.length_append, len]; rfl⟩
abbrev s_painted_counts : Stmt := (topS 43)
abbrev N_sc_painted_counts : List Str := ["fence", "rows", "painter", "row"]
abbrev P_painted_counts : List Str := ["fence"]
theorem sc_painted_counts : FnScope N_sc_painted_counts P_painted_counts (defScope s_painted_counts) := ⟨rfl, rfl, rfl, by decide +kernel, rfl, by decide +kernel, by decide +kernel⟩
def spPc (T : List (Addr × Str)) (C CF : Addr) : Sp := fun vs H Q _ => ∃ (f : Addr) (L : List Pt), vs = [.ref f] ∧ FcAt C CF H f L ∧ LamX.Tabs T H ∧
  ∀ (rs : List Rw) (D : Addr) (bs : List Addr) (H' : Hp), HistR (partsOf L) (fSP (partsOf L)) rs → H' D = some (.lst (bs.map V.ref)) → PcAt H' bs (pcs L rs L.length) → (∀ o, H D = some o → ∃ ps, o = .tbl ps) → LamX.ExtN H H' → LamX.Tabs T H' → Q (.ref D) H'
section
variable {P : Program} {w : World} {K : PySem.W.Frag} {mg : Str → Option Value} {base : Heap} {C CF CH : Addr}
theorem ok_pc {Tt : List (Addr × Str)} (D : Dfn K mg "painted_counts" s_painted_counts P_painted_counts) (hZip : mg "zip" = none) (U : FTxt K mg CF) (UH : HTxt K mg CH) (hMkH : MkH P w K mg base Tt C CF CH) (hRows : PropS P w K mg base CH "rows" 1 (getSp CH "_rows")) (hPs : PropS P w K mg base CF "painters" 1 (getSp CF "_painters")) : Cal P w K mg base 16 "painted_counts" P_painted_counts (spPc Tt C CF) := by
  refine D.cal sc_painted_counts (fun vs H Q E h => ?_) fun f cdv A outer s H vs Q E hr h => ?_
  · obtain ⟨f, L, rfl, _⟩ := h
    rfl
  obtain ⟨f, L, rfl, hf, tb, q⟩ := h
  refine ⟨_, (pss_cons (ps_set (i := 1) sc_painted_counts.nd rfl (Or.inl rfl) (pe_prS (pe_mkH hMkH UH (hr.mono (by decide)) (pa_cons (pv 0) pa_nil)) UH.cl hRows (hr.mono (by decide)))) (pss_one (ps_ret (pe_lc (own := [("painter", 2), ("row", 3)]) (g := gTup K 2 (gCons (gName 2) (gCons (gName 3) gNil))) (tt := tYes) rfl sc_painted_counts.nd (RZ.pi_zipA rfl hZip (pa_cons (pe_prS (pv 0) U.cl hPs (hr.mono (by decide))) (pa_cons (pv 1) pa_nil))) (blkOk_by (N := N_sc_painted_counts) (sc := defScope s_painted_counts) (by decide +kernel)) (fun _ _ _ _ _ => pg_tup rfl (pgs_cons (pg_name (i := 2) sc_painted_counts.nd rfl (Or.inl rfl)) (pgs_cons (pg_name (i := 3) sc_painted_counts.nd rfl (Or.inl rfl)) pgs_nil))) (fun _ _ _ _ _ => pts_nil) (fun _ _ _ _ _ => (pe_tup (pa_cons (pv 2) (pa_cons (pe_ix (show IxR _ (rIxT K) from ix_tup) (pv 3) pe_int (fun _ _ => rfl)) pa_nil)))))))), ?_⟩
  refine ⟨_, rfl, fun y dy ny ndy ney => ask_hist ny ndy ney hf tb fun H1 rs hs1 hist eN tb1 => ⟨rfl, ?_⟩⟩
  obtain ⟨dxh, fc, Ta, bb, so, as, ps, hh, hfc, hTa, rows, _⟩ := id hs1.ex
  refine ⟨y, dxh, _, rfl, hh, y, dxh, _, _, rfl, hh, rfl, ?_⟩
  have hf1 := hf.extN eN
  obtain ⟨dxf, t, d, g1, g2, g3⟩ := id hf1.ex
  have few := hf.crew.few
  have lr : rs.length = L.length := by rw [histR_len hist, parts_len]
  obtain ⟨al, ra⟩ := rows_ix rows
  have la : L.length = (as.map V.ref).length := by rw [List.length_map]; omega
  have lt : L.length = (refsOf L).length := by simp [refsOf]
  refine ⟨_, rfl, f, dxf, _, rfl, g1, f, dxf, _, _, rfl, g1, ffs_p _ _, _, rfl, t, Ta, _, _, rfl, .inr ⟨SqT.of g2, SqT.of hTa, fun M nM => ?_⟩⟩
  refine gen_it (walk_zipP lt la) (fun i H' => ∃ bs : List Addr, H' M = some (.lst (bs.map V.ref)) ∧ bs.length = i ∧ PcAt H' bs (pcs L rs i) ∧ Same H1 H') ⟨[], upd_same, rfl, .nil, same_new nM _⟩ (fun i H' _ z => by obtain ⟨_, _, _, _, sm⟩ := z; exact ⟨SqT.of (sm _ _ g2), SqT.of (sm _ _ hTa)⟩) ?_ ?_
  · rintro i v H3 H4 hi ⟨bs, hM, bl, pb, s3⟩ ⟨T0, y1, y2, rfl, hT, rfl, e1, e2⟩
    obtain ⟨x, hx, rfl⟩ := refs_at e1
    have hi : i < L.length := hi
    obtain ⟨r0, er⟩ : ∃ r, rs[i]? = some r := ⟨_, List.getElem?_eq_getElem (by omega)⟩
    obtain ⟨a, ea, vr, har, _⟩ := ra i _ er
    have e2 : (as.map V.ref)[i]? = some y2 := e2
    rw [List.getElem?_map, ea] at e2
    obtain rfl := Option.some.inj e2
    have sT := same_new hT (.tup [V.ref x.a, V.ref a])
    have s4 := s3.trans sT
    have hM4 := sT _ _ hM
    have ec : cntR rs i = r0.cnt := by unfold cntR; rw [er]
    refine ⟨T0, _, rfl, SqT.of upd_same, rfl, _, _, rfl, _, _, rfl, rfl, rfl, _, rfl, _, rfl, a, _, _, optV r0.cnt, rfl, rfl, SqT.of (s4 _ _ har), atI_nat (j := 1) rfl, by show 2 ≤ sizeLine; decide, fun u nu => ?_⟩
    have su := same_new nu (.tup [.ref x.a, optV r0.cnt])
    have hM5 := su _ _ hM4
    refine ⟨_, hM5, by rw [List.length_map, bl]; exact Nat.lt_of_le_of_lt (show i ≤ 40 by omega) (by decide), bs ++ [u], by rw [upd_same, List.map_append]; rfl, by rw [List.length_append, bl]; rfl, ?_, sameAt (s4.trans su) nM⟩
    have kp : ∀ (z : Addr) xs, upd (upd H3 T0 (.tup [V.ref x.a, V.ref a])) u (.tup [.ref x.a, optV r0.cnt]) z = some (.tup xs) → upd (upd (upd H3 T0 (.tup [V.ref x.a, V.ref a])) u (.tup [.ref x.a, optV r0.cnt])) M (.lst (bs.map V.ref ++ [.ref u])) z = some (.tup xs) := fun z xs e => by rw [upd_ne (ne_of e hM5 (by intro z; cases z))]; exact e
    rw [pcs_succ hx, ec]
    exact paired_snoc (Paired.mapP pb fun _ _ z => kp _ _ (su _ _ (sT _ _ z))) (kp _ _ upd_same)
  · rintro H3 ⟨bs, hM, bl, pb, s3⟩
    exact q rs M bs H3 hist hM pb (fun o e => Classical.byContradiction fun z => by have := eN M o e (fun ps hp => z ⟨ps, hp⟩); rw [nM] at this; cases this) (eN.trans (LamX.ExtN.of s3)) (tabs_same s3 tb1)
end
end Ur
/-! HS: what stays of a fence while the pen moves; lists of names as data. -/
namespace Ur
open PySem PySem.Spec PyProof.Rows L2
theorem penK_ne {l : Addr} {b r : Int} {L : List Pt} (h : kvOf L = penK l b r) : False := by
  have e : (penK l b r)[1]? = some ((Sum.inr "begun" : Key), V.int b) := rfl
  rw [← h] at e
  unfold kvOf at e
  rw [List.getElem?_map] at e
  cases z : L[1]? with
  | none => rw [z] at e; cases e
  | some x =>
    rw [z] at e
    have e2 := congrArg (fun o : Option (Key × V) => o.map Prod.snd) e
    have e3 : some (V.ref x.a) = some (V.int b) := e2
    cases Option.some.inj e3
theorem FcAt.keep {C CF p l : Addr} {H H' : Hp} {f : Addr} {L : List Pt} {n : Nat} (h : FcAt C CF H f L) (k : Keep p H H') (P : Pen H p l n) : FcAt C CF H' f L := by
  obtain ⟨dx, t, d, h1, h2, h3⟩ := h.ex
  obtain ⟨cs, b, r, hp, _⟩ := P.ex
  have nd : d ≠ p := by
    rintro rfl
    rw [h3] at hp
    exact penK_ne (HO.dK.inj (Option.some.inj hp))
  exact ⟨⟨dx, t, d, k _ _ h1 (ne_of h1 hp (by intro z; cases z)), k _ _ h2 (ne_of h2 hp (by intro z; cases z)), k _ _ h3 nd⟩, ⟨fun x hx => (let ⟨⟨dx, e⟩, z⟩ := h.crew.at_ x hx; ⟨⟨dx, k _ _ e (ne_of e hp (by intro z; cases z))⟩, z⟩), h.crew.nd, h.crew.few⟩⟩
theorem dp_strs {K : PySem.W.Frag} {H : Hp} : ∀ ss : List Str, DpAll K H (ss.map V.str) (ss.map PyData.str)
  | [] => .nil
  | _ :: ss => .cons (.str _) (dp_strs ss)
theorem names_fit {ss : List Str} (ok : ∀ z ∈ ss, NameOk z) (few : ss.length ≤ 40) : Fit (.list (ss.map PyData.str)) := by
  refine (ShBAll.all (n := 8) (k := 0) fun d hd => ?_).lst.fit ?_ (by decide)
  · obtain ⟨z, hz, rfl⟩ := List.mem_map.mp hd
    exact (ShB.str (name_shortR (ok z hz))).mono (ok z hz).2.1 (Nat.le_refl 0)
  · rw [List.length_map]
    omega
end Ur
/-! MB: a history asked for a post (History.__call__). -/
namespace Ur
open PySem PySem.Spec PyProof.Rows L2
abbrev s_check_day : Stmt := (topS 22)
abbrev N_sc_check_day : List Str := ["value"]
abbrev P_check_day : List Str := ["value"]
theorem sc_check_day : FnScope N_sc_check_day P_check_day (defScope s_check_day) := ⟨rfl, rfl, rfl, by decide +kernel, rfl, by decide +kernel, by decide +kernel⟩
def spCkDay : Sp := fun vs H Q _ => ∃ c : Int, vs = [.int c] ∧ 0 ≤ c ∧ c ≤ 10 ^ 80 ∧ Q .non H
section
variable {P : Program} {w : World} {K : PySem.W.Frag} {mg : Str → Option Value} {base : Heap} {C : Addr}
theorem ok_check_day (D : Dfn K mg "check_day" s_check_day P_check_day) {uM : Value} (hM : mg "MAX_ARGUMENT" = some uM) (rM : L2.RelV (.int (10 ^ 80)) uM) (CB : Cal P w K mg base 2 "is_between" P_is_between spBetween) : Cal P w K mg base 3 "check_day" P_check_day spCkDay := by
  refine D.cal sc_check_day (fun vs H Q E h => ?_) fun f cdv A outer s H vs Q E hr h => ?_
  · obtain ⟨c, rfl, _⟩ := h
    rfl
  obtain ⟨c, rfl, c0, c1, q⟩ := h
  refine ⟨_, (pss_one (ps_if (pt_not (pt_val (pe_cal CB (hr.mono (by decide)) (pa_cons (pv 0) (pa_cons pe_int (pa_cons (pe_glob (v := .int (10 ^ 80)) rfl hM rM) pa_nil)))))) (pss_one ps_never) pss_nil)), ?_⟩
  exact ⟨_, rfl, c, _, _, rfl, _, rfl, iteNS ⟨c0, c1⟩ q⟩
end
abbrev s_check_day_or_none : Stmt := (topS 23)
abbrev N_sc_check_day_or_none : List Str := ["value"]
abbrev P_check_day_or_none : List Str := ["value"]
theorem sc_check_day_or_none : FnScope N_sc_check_day_or_none P_check_day_or_none (defScope s_check_day_or_none) := ⟨rfl, rfl, rfl, by decide +kernel, rfl, by decide +kernel, by decide +kernel⟩
def spCkDayN : Sp := fun vs H Q _ => ∃ c : Option Int, vs = [optV c] ∧ (∀ d, c = some d → 0 ≤ d ∧ d ≤ 10 ^ 80) ∧ Q .non H
section
variable {P : Program} {w : World} {K : PySem.W.Frag} {mg : Str → Option Value} {base : Heap} {C : Addr}
theorem ok_check_dayN (D : Dfn K mg "check_day_or_none" s_check_day_or_none P_check_day_or_none) (CKD : Cal P w K mg base 3 "check_day" P_check_day spCkDay) : Cal P w K mg base 4 "check_day_or_none" P_check_day_or_none spCkDayN := by
  refine D.cal sc_check_day_or_none (fun vs H Q E h => ?_) fun f cdv A outer s H vs Q E hr h => ?_
  · obtain ⟨c, rfl, _⟩ := h
    rfl
  obtain ⟨c, rfl, c0, q⟩ := h
  refine ⟨_, (pss_one (ps_if (pt_cmpR op_notN (pv 0) pe_non (nomark _)) (pss_one (ps_expr (pe_cal CKD (hr.mono (by decide)) (pa_cons (pv 0) pa_nil)))) pss_nil)), ?_⟩
  cases c with
  | none => exact ⟨_, rfl, rfl, _, rfl, iteNS rfl q⟩
  | some d =>
    obtain ⟨d0, d1⟩ := c0 d rfl
    exact ⟨_, rfl, rfl, _, rfl, iteNN (fun z => by cases z) ⟨_, rfl, d, rfl, d0, d1, q⟩⟩
end
/-- the day comes before -/
def lateF : Option Int → Int → Bool
  | none, _ => false
  | some d, x => decide (d < x)
abbrev s_History_call : Stmt := (inClass (topS 37) 9)
abbrev N_sc_History_call : List Str := ["self", "post", "day", "found"]
abbrev P_History_call : List Str := ["self", "post", "day"]
theorem sc_History_call : FnScope N_sc_History_call P_History_call (defScope s_History_call) := ⟨rfl, rfl, rfl, by decide +kernel, rfl, by decide +kernel, by decide +kernel⟩
def spHCall (C CF CH : Addr) : Sp := fun vs H Q _ => ∃ (h : Addr) (L : List Pt) (rs : List Rw) (q : Int) (dy : Option Int), vs = [.ref h, .int q, optV dy] ∧ HsAt C CF CH H h L rs ∧ HistR (partsOf L) (fSP (partsOf L)) rs ∧ -(10 ^ 80) ≤ q ∧ q ≤ 10 ^ 80 ∧ (∀ d, dy = some d → 0 ≤ d ∧ d ≤ 10 ^ 80) ∧
  (∀ H', (∀ j n, ¬ PntAt (partsOf L) rs q j n) → Same H H' → Q .non H') ∧ ∀ j n H', PntAt (partsOf L) rs q j n → (∀ i, i < j → ∀ m, ¬ PntAt (partsOf L) rs q i m) → Same H H' → Q (if lateF dy (dQ (partsOf L) j + n) = true then .non else .str (nQ (partsOf L) j)) H'
def HCallK (K : PySem.W.Frag) (f : Addr) (fd : FuncData) : Prop := FunD K "__call__" "History.__call__" (defArgs s_History_call) (defBody s_History_call) (defScope s_History_call) [.non] [] f fd
section
variable {P : Program} {w : World} {K : PySem.W.Frag} {mg : Str → Option Value} {base : Heap} {C CF CH : Addr} {f : Addr} {fd : FuncData}
theorem ok_hcall (F : HCallK K f fd) (CKP : Cal P w K mg base 3 "check_post" P_check_post spCkPost) (CKN : Cal P w K mg base 4 "check_day_or_none" P_check_day_or_none spCkDayN) (CPt : Cal P w K mg base 5 "painting" P_painting (spPntg C CF CH)) : FnOk P w K mg base CX0 6 f fd P_History_call (spHCall C CF CH) := by
  refine FunD.ok F sc_History_call (fun vs H Q E h => ?_) (fun cdv A outer s H vs Q E hr h => ?_)
  · obtain ⟨h, L, rs, q, dy, rfl, _⟩ := h
    rfl
  obtain ⟨h, L, rs, po, dy, rfl, hs, hist, q0, q1, dd, kn, ks⟩ := h
  refine ⟨_, (pss_cons (ps_expr (pe_cal CKP (hr.mono (by decide)) (pa_cons (pv 1) pa_nil))) (pss_cons (ps_expr (pe_cal CKN (hr.mono (by decide)) (pa_cons (pv 2) pa_nil))) (pss_cons (ps_set (i := 3) sc_History_call.nd rfl (Or.inl rfl) (pe_cal CPt (hr.mono (by decide)) (pa_cons (pv 0) (pa_cons (pv 1) pa_nil)))) (pss_cons (ps_if (PW.pt (pw_or (pt_cmpR op_isN (pv 3) pe_non (nomark _)) (pw_or1 (PW.pt (pw_and (pt_cmpR op_notN (pv 2) pe_non (nomark _)) (pw_and1 (pt_cmpR op_gt (pe_ix (show IxR _ (rIxT K) from ix_tup) (pv 3) pe_int (fun _ _ => rfl)) (pv 2) (nomark _)))))))) (pss_one (ps_ret pe_non)) pss_nil) (pss_one (ps_ret (pe_ix (show IxR _ (rIxT K) from ix_tup) (pv 3) pe_int (fun _ _ => rfl)))))))), ?_⟩
  refine ⟨_, rfl, po, rfl, q0, q1, _, rfl, dy, rfl, dd, ?_⟩
  refine ⟨_, rfl, _, rfl, h, L, rs, po, rfl, hs, hist, q0, q1, fun H2 no s2 => ?_, fun j n u H2 pa fi hu s2 => ?_⟩
  · exact ⟨_, rfl, rfl, _, rfl, iteDT rfl (iteT (kn H2 no s2))⟩
  · have k := ks j n H2 pa fi s2
    refine ⟨_, rfl, rfl, _, rfl, iteDF (fun z => by cases z) ?_⟩
    cases dy with
    | none =>
      rw [if_neg (by intro z; cases z)] at k
      exact ⟨_, rfl, rfl, _, rfl, iteNS rfl (iteF ⟨_, rfl, u, _, _, _, rfl, rfl, SqT.of hu, atI_nat (j := 0) rfl, k⟩)⟩
    | some d =>
      refine ⟨_, rfl, rfl, _, rfl, iteNN (fun z => by cases z) ⟨_, rfl, u, _, _, _, rfl, rfl, SqT.of hu, atI_nat (j := 1) rfl, _, rfl, _, _, rfl, rfl, _, rfl, ?_⟩⟩
      by_cases c : d < dQ (partsOf L) j + n
      · rw [if_pos (show lateF (some d) (dQ (partsOf L) j + n) = true from decide_eq_true c)] at k
        exact iteDT c k
      · rw [if_neg (by rw [show lateF (some d) (dQ (partsOf L) j + n) = false from decide_eq_false c]; intro z; cases z)] at k
        exact iteDF c ⟨_, rfl, u, _, _, _, rfl, rfl, SqT.of hu, atI_nat (j := 0) rfl, k⟩
theorem hcall_binds (F : HCallK K f fd) : Binds K fd P_History_call [] ∧ ∃ ds, Vals [.non] ds ∧ Binds K fd P_History_call ds := by
  refine ⟨?_, ?_⟩
  · obtain ⟨ds, h1, h2⟩ := FunD.binds1 F (ps := P_History_call) 3 1 (by simp) rfl fun T kV doc pm an cdv ct us its h1 h2 => match us, its, h1, h2 with | [_, _, _], [_], _, _ => ⟨_, rfl, rfl⟩
    cases h1
    exact h2
  · exact FunD.binds1 F (ps := P_History_call) 2 0 (by simp) rfl fun T kV doc pm an cdv ct us its h1 h2 => match us, its, h1, h2 with | [_, _], [_], _, _ => ⟨_, rfl, rfl⟩
end
end Ur
/-! MC: painter_of. -/
namespace Ur
open PySem PySem.Spec PyProof.Rows L2
/-- a history may be called, with a day and without -/
def HCall (P : Program) (w : World) (K : PySem.W.Frag) (mg : Str → Option Value) (base : Heap) (C CF CH : Addr) : Prop := ∃ g : Addr, StX.CallO K CH g ∧ FnR P w K mg base CX0 6 g (spHCall C CF CH) ∧ FnR P w K mg base CX0 6 g (fun vs H Q E => spHCall C CF CH (vs ++ [.non]) H Q E)
theorem HCall.of {P : Program} {w : World} {K : PySem.W.Frag} {mg : Str → Option Value} {base : Heap} {C CF CH g : Addr} {fd : FuncData} (F : HCallK K g fd) (c : StX.CallO K CH g) (h : FnOk P w K mg base CX0 6 g fd P_History_call (spHCall C CF CH)) : HCall P w K mg base C CF CH := by
  obtain ⟨b1, ds, hd, b2⟩ := hcall_binds F
  exact ⟨g, c, (h.raw b1 .nil).imp fun vs H Q E z => (by rw [List.append_nil]; exact z), h.raw b2 hd⟩
end Ur
/-! NA: painters moved along, turned and widened: their history. -/
namespace Ur
open PySem PySem.Spec PyProof.Rows L2
def mvQ (f p w : Int) (x : Quad) : Quad := (x.1, x.2.1 + w, f * x.2.2.1 + p, f * x.2.2.2)
theorem mvQ_at {qs : List Quad} {f p w : Int} {i : Nat} (hi : i < qs.length) : nQ (qs.map (mvQ f p w)) i = nQ qs i ∧ dQ (qs.map (mvQ f p w)) i = dQ qs i + w ∧ pQ (qs.map (mvQ f p w)) i = f * pQ qs i + p ∧ sQ (qs.map (mvQ f p w)) i = f * sQ qs i := by
  have e : qs[i]? = some qs[i] := List.getElem?_eq_getElem hi
  have e' : (qs.map (mvQ f p w))[i]? = some (mvQ f p w qs[i]) := by rw [List.getElem?_map, e]; rfl
  obtain ⟨a1, a2, a3, a4⟩ := q_at e
  obtain ⟨b1, b2, b3, b4⟩ := q_at e'
  rw [a1, a2, a3, a4, b1, b2, b3, b4]
  exact ⟨rfl, rfl, rfl, rfl⟩
theorem lin_mv {f b p s q t n m : Int} (hf : f ≠ 0) : f * p + b + n * (f * s) = f * q + b + m * (f * t) ↔ p + n * s = q + m * t := by
  have e1 : f * p + b + n * (f * s) = f * (p + n * s) + b := by rw [Int.mul_add, Int.mul_left_comm n f s]; omega
  have e2 : f * q + b + m * (f * t) = f * (q + m * t) + b := by rw [Int.mul_add, Int.mul_left_comm m f t]; omega
  rw [e1, e2]
  constructor
  · intro h
    exact Int.eq_of_mul_eq_mul_left hf (by omega)
  · intro h
    rw [h]
section
variable {qs : List Quad} {f p w : Int}
theorem fSP_mv (hf : f ≠ 0) {i j : Nat} (hi : i < qs.length) (hj : j < qs.length) {n m : Int} : fSP (qs.map (mvQ f p w)) i n j m ↔ fSP qs i n j m := by
  unfold fSP
  obtain ⟨_, _, a3, a4⟩ := mvQ_at (f := f) (p := p) (w := w) hi
  obtain ⟨_, _, b3, b4⟩ := mvQ_at (f := f) (p := p) (w := w) hj
  rw [a3, a4, b3, b4]
  exact lin_mv hf
theorem histC_mv (hf : f ≠ 0) {Cn : Nat → Option Int} {Bn : Nat → Nat} (h : HistC qs.length (dQ qs) (fSP qs) Cn Bn) : HistC qs.length (dQ (qs.map (mvQ f p w))) (fSP (qs.map (mvQ f p w))) Cn Bn := by
  have dd : ∀ {i : Nat}, i < qs.length → dQ (qs.map (mvQ f p w)) i = dQ qs i + w := fun hi => (mvQ_at hi).2.1
  refine ⟨fun i hi => Least.congr (fun n n0 => ?_) (h.is i hi), fun i c hi e => ?_, h.bd⟩
  · constructor
    · rintro ⟨j, hj, m, m0, sp, lt, o⟩
      exact ⟨j, hj, m, m0, (fSP_mv hf hi hj).mpr sp, lt, by rw [dd hi, dd hj]; omega⟩
    · rintro ⟨j, hj, m, m0, sp, lt, o⟩
      exact ⟨j, hj, m, m0, (fSP_mv hf hi hj).mp sp, lt, by rw [dd hi, dd hj] at o; omega⟩
  · obtain ⟨b0, m, m0, sp, pj⟩ := h.bl i c hi e
    exact ⟨b0, m, m0, (fSP_mv hf hi b0).mpr sp, pj⟩
def sentR (f p w : Int) (r : Rw) : Rw := ⟨r.nm, r.cnt, match r.stop with | none => none | some (d, q, b) => some (d + w, f * q + p, b)⟩
theorem histR_mv (hf : f ≠ 0) {rs : List Rw} (h : HistR qs (fSP qs) rs) : HistR (qs.map (mvQ f p w)) (fSP (qs.map (mvQ f p w))) (rs.map (sentR f p w)) := by
  obtain ⟨Cn, Bn, hc, rfl⟩ := h
  refine ⟨Cn, Bn, by rw [List.length_map]; exact histC_mv hf hc, ?_⟩
  rw [List.length_map, List.map_map]
  refine List.map_congr_left fun i hi => ?_
  have hi := List.mem_range.mp hi
  obtain ⟨a1, a2, a3, a4⟩ := mvQ_at (f := f) (p := p) (w := w) hi
  show sentR f p w (rowQ qs Cn Bn i) = rowQ (qs.map (mvQ f p w)) Cn Bn i
  unfold rowQ sentR
  rw [a1, a2, a3, a4]
  cases e : Cn i with
  | none => rfl
  | some c =>
    obtain ⟨b1, _, _, _⟩ := mvQ_at (f := f) (p := p) (w := w) (hc.bl i c hi e).1
    show (⟨nQ qs i, some c, some (dQ qs i + c + w, f * (pQ qs i + c * sQ qs i) + p, nQ qs (Bn i))⟩ : Rw) = ⟨nQ qs i, some c, some (dQ qs i + w + c, f * pQ qs i + p + c * (f * sQ qs i), nQ (qs.map (mvQ f p w)) (Bn i))⟩
    rw [b1, Int.mul_add, Int.mul_left_comm f c (sQ qs i), show dQ qs i + c + w = dQ qs i + w + c by omega, show f * pQ qs i + c * (f * sQ qs i) + p = f * pQ qs i + p + c * (f * sQ qs i) by omega]
theorem stpF_mv (hf : f ≠ 0) {a s q : Int} (hs : s ≠ 0) : stpF (f * a + p) (f * s) (f * q + p) = stpF a s q := by
  refine (stpF_is (Int.mul_ne_zero hf hs) fun j => ?_).symm
  refine (show stpF a s q = some j ↔ _ from steps_to_spec hs j).trans (and_congr_right fun _ => ?_)
  have e := lin_mv (b := p) (p := q) (s := 0) (q := a) (t := s) (n := 0) (m := j) hf
  rw [Int.zero_mul, Int.zero_mul, Int.add_zero, Int.add_zero] at e
  exact e.symm
theorem cntR_mv {rs : List Rw} {i : Nat} : cntR (rs.map (sentR f p w)) i = cntR rs i := by
  unfold cntR
  rw [List.getElem?_map]
  cases rs[i]? with
  | none => rfl
  | some r => rfl
theorem pnt_mv (hf : f ≠ 0) (ok : ∀ q ∈ qs, QuadOk q) {rs : List Rw} {q : Int} {j : Nat} {n : Int} : PntAt (qs.map (mvQ f p w)) (rs.map (sentR f p w)) (f * q + p) j n ↔ PntAt qs rs q j n := by
  unfold PntAt
  rw [List.length_map, cntR_mv]
  refine and_congr_right fun hj => ?_
  obtain ⟨_, _, a3, a4⟩ := mvQ_at (f := f) (p := p) (w := w) hj
  have e : qs[j]? = some qs[j] := List.getElem?_eq_getElem hj
  rw [a3, a4, stpF_mv hf (by rw [(q_at e).2.2.2]; exact (ok _ (List.getElem_mem hj)).sn)]
theorem mv_mv {f1 p1 w1 f2 p2 w2 : Int} : ((qs.map (mvQ f1 p1 w1)).map (mvQ f2 p2 w2)) = qs.map (mvQ (f2 * f1) (f2 * p1 + p2) (w1 + w2)) := by
  rw [List.map_map]
  refine List.map_congr_left fun x _ => ?_
  show ((x.1, x.2.1 + w1 + w2, f2 * (f1 * x.2.2.1 + p1) + p2, f2 * (f1 * x.2.2.2)) : Quad) = (x.1, x.2.1 + (w1 + w2), f2 * f1 * x.2.2.1 + (f2 * p1 + p2), f2 * f1 * x.2.2.2)
  rw [Int.mul_add, Int.mul_assoc, Int.mul_assoc, show x.2.1 + w1 + w2 = x.2.1 + (w1 + w2) by omega, show f2 * (f1 * x.2.2.1) + f2 * p1 + p2 = f2 * (f1 * x.2.2.1) + (f2 * p1 + p2) by omega]
end
end Ur
/-! SE: the share of the painted posts far away (share). -/
namespace Ur
open PySem PySem.Spec PyProof.Rows L2
def sgL (left : Bool) (x : Int) : Int := if left then -x else x
/-- the share as a fraction that is not in lowest terms -/
def frQ (qs : List Quad) (C : Nat → Option Int) (left : Bool) : Nat → Nat × Nat
  | 0 => (0, 1)
  | i + 1 => if C i = none ∧ 0 < sgL left (sQ qs i) then ((frQ qs C left i).1 * (sgL left (sQ qs i)).toNat + (frQ qs C left i).2, (frQ qs C left i).2 * (sgL left (sQ qs i)).toNat) else frQ qs C left i
theorem frQ_pos {qs : List Quad} {C : Nat → Option Int} {left : Bool} : ∀ n, 0 < (frQ qs C left n).2
  | 0 => Nat.one_pos
  | n + 1 => by
    have ih := frQ_pos (qs := qs) (C := C) (left := left) n
    unfold frQ
    split
    · rename_i h
      exact Nat.mul_pos ih (by have := h.2; omega)
    · exact ih
theorem frQ_congr {qs qs' : List Quad} {C C' : Nat → Option Int} {left left' : Bool} : ∀ n, (∀ i, i < n → (C i = none ↔ C' i = none)) → (∀ i, i < n → sgL left (sQ qs i) = sgL left' (sQ qs' i)) → frQ qs C left n = frQ qs' C' left' n
  | 0, _, _ => rfl
  | n + 1, h, g => by
    have ih := frQ_congr n (fun i hi => h i (by omega)) (fun i hi => g i (by omega))
    have a := h n (Nat.lt_succ_self n)
    have b := g n (Nat.lt_succ_self n)
    unfold frQ
    rw [ih, b]
    by_cases c : C n = none ∧ 0 < sgL left' (sQ qs' n)
    · rw [if_pos c, if_pos ⟨a.mp c.1, c.2⟩]
    · rw [if_neg c, if_neg fun z => c ⟨a.mpr z.1, z.2⟩]
theorem frQ_bd {qs : List Quad} {C : Nat → Option Int} {left : Bool} (ok : ∀ q ∈ qs, QuadOk q) : ∀ n, n ≤ qs.length → (frQ qs C left n).1 ≤ n * 2 ^ (60 * n) ∧ (frQ qs C left n).2 ≤ 2 ^ (60 * n)
  | 0, _ => ⟨Nat.le_refl 0, Nat.le_refl 1⟩
  | n + 1, h => by
    have hn : n < qs.length := h
    obtain ⟨i1, i2⟩ := frQ_bd (C := C) (left := left) ok n (by omega)
    obtain ⟨_, _, _, a4⟩ := q_at (List.getElem?_eq_getElem hn)
    have k := ok _ (List.getElem_mem hn)
    have k1 := k.s0
    have k2 := k.s1
    have sb : (sgL left (sQ qs n)).toNat ≤ 2 ^ 60 := by
      rw [a4]
      unfold sgL
      split <;> omega
    have e : 2 ^ (60 * (n + 1)) = 2 ^ (60 * n) * 2 ^ 60 := by rw [Nat.mul_add, Nat.mul_one, Nat.pow_add]
    have p1 : 1 ≤ 2 ^ (60 * n) := Nat.one_le_two_pow
    have step1 : 2 ^ (60 * n) ≤ 2 ^ (60 * n) * 2 ^ 60 := Nat.le_mul_of_pos_right _ (by decide)
    unfold frQ
    rw [e]
    split
    · refine ⟨?_, Nat.mul_le_mul i2 sb⟩
      have a := Nat.mul_le_mul i1 sb
      have b : (n + 1) * (2 ^ (60 * n) * 2 ^ 60) = n * 2 ^ (60 * n) * 2 ^ 60 + 2 ^ (60 * n) * 2 ^ 60 := by rw [Nat.add_mul, Nat.one_mul, Nat.mul_assoc]
      rw [b]
      exact Nat.add_le_add a (Nat.le_trans i2 step1)
    · refine ⟨Nat.le_trans i1 ?_, Nat.le_trans i2 step1⟩
      exact Nat.mul_le_mul (by omega) step1
theorem frQ_log {qs : List Quad} {C : Nat → Option Int} {left : Bool} (ok : ∀ q ∈ qs, QuadOk q) (few : qs.length ≤ 40) {n : Nat} (hn : n ≤ qs.length) : (frQ qs C left n).1 < 2 ^ 2500 ∧ (frQ qs C left n).2 < 2 ^ 2500 := by
  obtain ⟨a, b⟩ := frQ_bd (C := C) (left := left) ok n hn
  have p : 2 ^ (60 * n) ≤ 2 ^ 2400 := Nat.pow_le_pow_right (by decide) (by omega)
  have q : n * 2 ^ (60 * n) ≤ 40 * 2 ^ 2400 := Nat.mul_le_mul (by omega) p
  have r : 40 * 2 ^ 2400 < 2 ^ 2500 := by decide +kernel
  have r2 : 2 ^ 2400 < 2 ^ 2500 := by decide +kernel
  exact ⟨Nat.lt_of_le_of_lt (Nat.le_trans a q) r, Nat.lt_of_le_of_lt (Nat.le_trans b p) r2⟩
/-- a fraction in lowest terms of another one -/
structure Red (o u N D : Nat) : Prop where
  up : 0 < u
  cp : Nat.Coprime o u
  eq : o * D = N * u
theorem red_uniq {o u N D : Nat} (h : Red o u N D) (hD : 0 < D) : o = N / Nat.gcd N D ∧ u = D / Nat.gcd N D := by
  have d1 : u ∣ o * D := ⟨N, by rw [h.eq, Nat.mul_comm]⟩
  obtain ⟨k, rfl⟩ := h.cp.symm.dvd_of_dvd_mul_left d1
  have e : N = o * k := by
    have e := h.eq
    rw [← Nat.mul_assoc, Nat.mul_comm o u, Nat.mul_assoc, Nat.mul_comm N u] at e
    exact (Nat.eq_of_mul_eq_mul_left h.up e).symm
  subst e
  have kp : 0 < k := by
    rcases Nat.eq_zero_or_pos k with z | z
    · rw [z, Nat.mul_zero] at hD
      omega
    · exact z
  have g : Nat.gcd (o * k) (u * k) = k := by
    rw [Nat.gcd_mul_right]
    have : Nat.gcd o u = 1 := h.cp
    rw [this, Nat.one_mul]
  rw [g, Nat.mul_div_cancel _ kp, Nat.mul_div_cancel _ kp]
  exact ⟨rfl, rfl⟩
theorem red_le {o u N D : Nat} (h : Red o u N D) (hD : 0 < D) : o ≤ N ∧ u ≤ D := by
  obtain ⟨e1, e2⟩ := red_uniq h hD
  rw [e1, e2]
  exact ⟨Nat.div_le_self _ _, Nat.div_le_self _ _⟩
theorem red_step {o u N D s : Nat} (h : Red o u N D) (hs : 0 < s) : Red ((o * s + u) / Nat.gcd (o * s + u) (u * s)) (u * s / Nat.gcd (o * s + u) (u * s)) (N * s + D) (D * s) := by
  have up : 0 < u * s := Nat.mul_pos h.up hs
  have g0 : 0 < Nat.gcd (o * s + u) (u * s) := Nat.gcd_pos_of_pos_right _ up
  have e1 := Nat.div_mul_cancel (Nat.gcd_dvd_left (o * s + u) (u * s))
  have e2 := Nat.div_mul_cancel (Nat.gcd_dvd_right (o * s + u) (u * s))
  refine ⟨Nat.div_pos (Nat.le_of_dvd up (Nat.gcd_dvd_right _ _)) g0, Nat.coprime_div_gcd_div_gcd g0, ?_⟩
  have big : (o * s + u) * (D * s) = (N * s + D) * (u * s) := by
    have e := h.eq
    have l1 : (o * s + u) * (D * s) = s * s * (o * D) + u * D * s := by
      rw [Nat.add_mul]
      congr 1
      · ac_rfl
      · ac_rfl
    have l2 : (N * s + D) * (u * s) = s * s * (N * u) + u * D * s := by
      rw [Nat.add_mul]
      congr 1
      · ac_rfl
      · ac_rfl
    rw [l1, l2, e]
  generalize Nat.gcd (o * s + u) (u * s) = g at *
  generalize (o * s + u) / g = a at *
  generalize u * s / g = b at *
  rw [← e1, ← e2] at big
  refine Nat.eq_of_mul_eq_mul_left g0 ?_
  have l3 : g * (a * (D * s)) = a * g * (D * s) := by ac_rfl
  have l4 : g * ((N * s + D) * b) = (N * s + D) * (b * g) := by ac_rfl
  rw [l3, l4, big]
abbrev s_share : Stmt := (topS 57)
abbrev N_sc_share : List Str := ["fence", "left", "side", "over", "under", "painter", "count", "step", "divisor"]
abbrev P_share : List Str := ["fence", "left"]
theorem sc_share : FnScope N_sc_share P_share (defScope s_share) := ⟨rfl, rfl, rfl, by decide +kernel, rfl, by decide +kernel, by decide +kernel⟩
def spShare (T : List (Addr × Str)) (C CF : Addr) : Sp := fun vs H Q _ => ∃ (g : Addr) (L : List Pt) (left : Bool), vs = [.ref g, .bl left] ∧ FcAt C CF H g L ∧ LamX.Tabs T H ∧
  ∀ rs (o u : Nat) z H', HistR (partsOf L) (fSP (partsOf L)) rs → Red o u (frQ (partsOf L) (cntR rs) left L.length).1 (frQ (partsOf L) (cntR rs) left L.length).2 → H' z = some (.tup [.int (o : Int), .int (u : Int)]) → LamX.ExtN H H' → LamX.Tabs T H' → Q (.ref z) H'
def ShaK (K : PySem.W.Frag) (f : Addr) (fd : FuncData) : Prop := FunD K "share" "share" (defArgs s_share) (defBody s_share) (defScope s_share) [] [("left", .bl false)] f fd
section
variable {P : Program} {w : World} {K : PySem.W.Frag} {mg : Str → Option Value} {base : Heap} {C CF CH : Addr}
set_option maxHeartbeats 16000000 in
theorem ok_share {Tt : List (Addr × Str)} {f : Addr} {fd : FuncData} (F : ShaK K f fd) (hGcd : mg "gcd" = some (.builtin "math.gcd")) (T : PTxt K mg C) (hStride : PropS P w K mg base C "stride" 1 (getSp C "_stride")) (CPc : Cal P w K mg base 16 "painted_counts" P_painted_counts (spPc Tt C CF)) : FnOk P w K mg base CX0 17 f fd P_share (spShare Tt C CF) := by
  refine FunD.ok F sc_share (fun vs H Q E h => ?_) (fun cdv A outer s H vs Q E hr h => ?_)
  · obtain ⟨g, L, left, rfl, _⟩ := h
    rfl
  obtain ⟨g, L, left, rfl, hf, tb, q⟩ := h
  refine ⟨_, PSs.nox (C8.pss_cut (ps_set (i := 2) sc_share.nd rfl (Or.inl rfl) (pe_ifExp (pt_val (pv 1)) (pe_un un_neg pe_int) pe_int)) (pss_cons (ps_asg (pe_tup (pa_cons pe_int (pa_cons pe_int pa_nil))) (pg_tup rfl (pgs_cons (pg_name (i := 3) sc_share.nd rfl (Or.inl rfl)) (pgs_cons (pg_name (i := 4) sc_share.nd rfl (Or.inl rfl)) pgs_nil)))) (pss_cons (ps_for PassesOwn.never rfl (pi_list (pe_cal CPc (hr.mono (by decide)) (pa_cons (pv 0) pa_nil))) (pg_tup rfl (pgs_cons (pg_name (i := 5) sc_share.nd rfl (Or.inl rfl)) (pgs_cons (pg_name (i := 6) sc_share.nd rfl (Or.inl rfl)) pgs_nil))) (C8.pss_cut (ps_set (i := 7) sc_share.nd rfl (Or.inl rfl) (pe_op op_mulW (pe_prS (pv 5) T.cl hStride (hr.mono (by decide))) (pv 2))) (pss_one (ps_if (PW.pt (pw_and (pt_cmpR op_isN (pv 6) pe_non (nomark _)) (pw_and1 (pt_cmpR op_gt (pv 7) pe_int (nomark _))))) (C8.pss_cut (ps_par (i := 3) (j := 4) rfl sc_share.nd rfl rfl (by decide) rfl rfl (pa_cons (pe_op op_add (pe_op op_mulW (pv 3) (pv 7)) (pv 4)) (pa_cons (pe_op op_mulW (pv 4) (pv 7)) pa_nil)) (by rfl)) (pss_cons (ps_set (i := 8) sc_share.nd rfl (Or.inl rfl) (pe_callBfun cr_gcd rfl hGcd (pa_cons (pv 3) (pa_cons (pv 4) pa_nil)))) (pss_one (ps_par (i := 3) (j := 4) rfl sc_share.nd rfl rfl (by decide) rfl rfl (pa_cons (pe_op op_fdivW (pv 3) (pv 8)) (pa_cons (pe_op op_fdivW (pv 4) (pv 8)) pa_nil)) (by rfl))))) pss_nil)))) (pss_one (ps_ret (pe_tup (pa_cons (pv 3) (pa_cons (pv 4) pa_nil)))))))), ?_⟩
  refine ⟨fun σ' H' => σ' = [some (.ref g), some (.bl left), some (.int (if left then -1 else 1)), none, none, none, none, none, none] ∧ H' = H, ?_, ?_⟩
  · cases left with
    | true => exact ⟨_, rfl, true, rfl, iteT ⟨_, rfl, rfl, rfl⟩⟩
    | false => exact ⟨_, rfl, false, rfl, iteF ⟨rfl, rfl⟩⟩
  rintro σ' H' ⟨rfl, rfl⟩
  have few := hf.crew.few
  have okq : ∀ q ∈ partsOf L, QuadOk q := fun q hq => by
    obtain ⟨x, hx, rfl⟩ := List.mem_map.mp hq
    exact (hf.crew.at_ x hx).2
  have pl : (partsOf L).length = L.length := parts_len _
  refine ⟨by show 2 ≤ sizeLine; decide, fun t0 n0 => ⟨t0, _, rfl, SqT.of upd_same, rfl, _, _, rfl, _, _, rfl, rfl, ?_⟩⟩
  have s0 := same_new n0 (.tup [.int 0, .int 1])
  have e0 := LamX.ExtN.of s0
  refine ⟨_, rfl, g, L, rfl, hf.extN e0, tabs_same s0 tb, fun rs D bs H1 hist hD pb dn e1 tb1 => ⟨D, rfl, ⟨_, SqL.of hD⟩, ?_⟩⟩
  have crew1 := (hf.extN (e0.trans e1)).crew
  refine for_list (K := K) (a := D) (xs := bs.map V.ref) (fun i σ H3 => ∃ (o u : Nat) (o5 o6 o7 o8 : Option V), σ = [some (.ref g), some (.bl left), some (.int (if left then -1 else 1)), some (.int (o : Int)), some (.int (u : Int)), o5, o6, o7, o8] ∧ Red o u (frQ (partsOf L) (cntR rs) left i).1 (frQ (partsOf L) (cntR rs) left i).2 ∧ i ≤ L.length ∧ Same H1 H3)
    ⟨0, 1, none, none, none, none, rfl, ⟨Nat.one_pos, Nat.coprime_one_right 0, rfl⟩, Nat.zero_le _, Same.refl _⟩ (fun i σ H3 _ h => by obtain ⟨_, _, _, _, _, _, _, _, _, h⟩ := h; exact SqL.of (h _ _ hD)) ?_ ?_
  · rintro i v σ H3 ev ⟨o, u, o5, o6, o7, o8, rfl, red, il, s3⟩
    rw [List.getElem?_map] at ev
    cases eb : bs[i]? with
    | none => rw [eb] at ev; cases ev
    | some b =>
      rw [eb] at ev
      obtain rfl := Option.some.inj ev
      have lpc : bs.length = (pcs L rs L.length).length := pb.length
      have hi : i < L.length := by
        have h1 := (List.getElem?_eq_some_iff.mp eb).1
        rcases Nat.lt_or_ge i L.length with g | g
        · exact g
        · exfalso
          have h2 := List.length_filterMap_le (fun i => match L[i]? with | some x => some (x.a, cntR rs i) | none => none) (List.range L.length)
          rw [List.length_range] at h2
          have h3 : (pcs L rs L.length).length ≤ L.length := h2
          omega
      obtain ⟨x, hx, hp, _⟩ := pcs_get (rs := rs) (Nat.le_refl _) hi
      have hb := paired_at (F := fun (b : Addr) (e : Addr × Option Int) => H1 b = some (.tup [.ref e.1, optV e.2])) pb eb hp
      obtain ⟨⟨dxx, ex⟩, pk⟩ := (crew1.at_ x (List.mem_of_getElem? hx)).same s3
      obtain ⟨_, _, _, a4⟩ := q_at (parts_at hx)
      have dpos := frQ_pos (qs := partsOf L) (C := cntR rs) (left := left) i
      have lg := frQ_log (C := cntR rs) (left := left) okq (by omega) (n := i) (by omega)
      have rl := red_le red dpos
      have k1 := pk.s0
      have k2 := pk.s1
      have side : x.s * (if left then -1 else 1) = sgL left x.s := by
        cases left with
        | true => show x.s * -1 = -x.s; omega
        | false => show x.s * 1 = x.s; omega
      refine ⟨b, _, rfl, SqT.of (s3 _ _ hb), rfl, _, _, rfl, _, _, rfl, rfl, ?_⟩
      refine ⟨fun σ' H' => σ' = [some (.ref g), some (.bl left), some (.int (if left then -1 else 1)), some (.int (o : Int)), some (.int (u : Int)), some (.ref x.a), some (optV (cntR rs i)), some (.int (sgL left x.s)), o8] ∧ H' = H3, ?_, ?_⟩
      · refine ⟨_, rfl, x.a, dxx, _, rfl, ex, x.a, dxx, _, _, rfl, ex, pfs_stride _ _ _ _, _, rfl, _, _, rfl, rfl, wide_mul (a := 64) (b := 8) (by omega) (by cases left <;> decide) (by decide) (by decide) (by decide), ?_⟩
        refine ⟨?_, rfl⟩
        rw [← side]
        rfl
      rintro σ' H4 ⟨rfl, rfl⟩
      have no : ¬ (cntR rs i = none ∧ 0 < sgL left x.s) → frQ (partsOf L) (cntR rs) left (i + 1) = frQ (partsOf L) (cntR rs) left i := fun z => by
        show (if _ then _ else _) = _
        rw [a4, if_neg z]
      refine ⟨_, rfl, rfl, _, rfl, ?_⟩
      cases ec : cntR rs i with
      | some k =>
        refine iteDF (fun z => by cases z) (iteF ?_)
        exact ⟨o, u, _, _, _, o8, rfl, by rw [no fun z => by rw [ec] at z; cases z.1]; exact red, hi, s3⟩
      | none =>
        refine iteDT rfl ⟨_, rfl, _, _, rfl, rfl, _, rfl, ?_⟩
        refine ite2 (fun c => ?_) (fun c => ?_)
        · have c : 0 < sgL left x.s := of_decide_eq_true c
          obtain ⟨sn, esn⟩ : ∃ sn : Nat, sgL left x.s = (sn : Int) := ⟨(sgL left x.s).toNat, by omega⟩
          have sb : sn < 2 ^ 64 := by
            have : (sgL left x.s).natAbs ≤ 10 ^ 18 := by
              unfold sgL
              split <;> omega
            omega
          have s0' : 0 < sn := by omega
          have yes : frQ (partsOf L) (cntR rs) left (i + 1) = ((frQ (partsOf L) (cntR rs) left i).1 * sn + (frQ (partsOf L) (cntR rs) left i).2, (frQ (partsOf L) (cntR rs) left i).2 * sn) := by
            show (if _ then _ else _) = _
            rw [a4, if_pos ⟨ec, c⟩, esn]
            rfl
          rw [esn]
          have ob : (o : Int).natAbs < 2 ^ 2501 := by rw [Int.natAbs_natCast]; exact Nat.lt_of_le_of_lt rl.1 (Nat.lt_of_lt_of_le lg.1 (Nat.pow_le_pow_right (by decide) (by decide)))
          have ub : (u : Int).natAbs < 2 ^ 2501 := by rw [Int.natAbs_natCast]; exact Nat.lt_of_le_of_lt rl.2 (Nat.lt_of_lt_of_le lg.2 (Nat.pow_le_pow_right (by decide) (by decide)))
          have snb : (sn : Int).natAbs < 2 ^ 64 := by rw [Int.natAbs_natCast]; exact sb
          refine ⟨fun σ' H' => σ' = [some (.ref g), some (.bl left), some (.int (if left then -1 else 1)), some (.int ((o * sn + u : Nat) : Int)), some (.int ((u * sn : Nat) : Int)), some (.ref x.a), some (optV none), some (.int (sn : Int)), o8] ∧ H' = H4, ?_, ?_⟩
          · refine ⟨_, rfl, _, rfl, _, _, rfl, rfl, wide_mul ob snb (by decide) (by decide) (by decide), _, rfl, _, _, rfl, rfl, _, rfl, _, rfl, _, _, rfl, rfl, wide_mul ub snb (by decide) (by decide) (by decide), _, _, rfl, ?_⟩
            refine ⟨?_, rfl⟩
            rw [Int.natCast_add, Int.natCast_mul, Int.natCast_mul]
            rfl
          rintro σ' H5 ⟨rfl, rfl⟩
          have up' : 0 < u * sn := Nat.mul_pos red.up s0'
          have g0 : 0 < Nat.gcd (o * sn + u) (u * sn) := Nat.gcd_pos_of_pos_right _ up'
          have gl : Nat.gcd (o * sn + u) (u * sn) ≤ u * sn := Nat.gcd_le_right _ up'
          have usb : u * sn < 2 ^ 2600 := by
            have a1 : u ≤ 2 ^ 2501 := by omega
            have a2 : u * sn ≤ 2 ^ 2501 * 2 ^ 64 := Nat.mul_le_mul a1 (Nat.le_of_lt sb)
            have a3 : 2 ^ 2501 * 2 ^ 64 < 2 ^ 2600 := by decide +kernel
            exact Nat.lt_of_le_of_lt a2 a3
          have wd : ∀ y : Int, CDivW y ((Nat.gcd (o * sn + u) (u * sn) : Nat) : Int) := fun y => wide_div (b := 2600) (by omega) (by rw [Int.natAbs_natCast]; exact Nat.lt_of_le_of_lt gl usb) (by decide) (by decide)
          refine ⟨_, rfl, _, rfl, _, _, rfl, ?_⟩
          refine ⟨_, rfl, _, rfl, _, _, rfl, rfl, wd _, _, rfl, _, rfl, _, _, rfl, rfl, wd _, _, _, rfl, ?_⟩
          exact ⟨(o * sn + u) / Nat.gcd (o * sn + u) (u * sn), u * sn / Nat.gcd (o * sn + u) (u * sn), _, _, _, _, rfl, by rw [yes]; exact red_step red s0', hi, s3⟩
        · have c : ¬ 0 < sgL left x.s := fun z => c (decide_eq_true z)
          exact ⟨o, u, _, _, _, o8, rfl, by rw [no fun z => c z.2]; exact red, hi, s3⟩
  · rintro σ H3 ⟨o, u, o5, o6, o7, o8, rfl, red, il, s3⟩
    have bl : bs.length = L.length := by
      have lpc : bs.length = (pcs L rs L.length).length := pb.length
      by_cases c : L.length = 0
      · rw [lpc, c]
        rfl
      · rw [lpc]
        exact (pcs_get (rs := rs) (i := 0) (Nat.le_refl _) (by omega)).choose_spec.2.2
    rw [List.length_map, bl] at red
    refine ⟨_, rfl, _, rfl, by show 2 ≤ sizeLine; decide, fun z nz => ?_⟩
    exact q rs o u z _ hist red upd_same (((e0.trans e1).trans (LamX.ExtN.of s3)).trans (LamX.ExtN.of (same_new nz _))) (tabs_same (same_new nz _) (tabs_same s3 tb1))
end
end Ur
/-! RA: runs of posts: how many posts of an interval a run has. -/
namespace Ur
open PySem PySem.Spec PyProof.Rows L2
def nbL (p s f : Int) : Int := max 0 (-((p - f) / s))
def nbM (p s l : Int) : Option Int → Int
  | none => (l - p) / s
  | some m => min ((l - p) / s) (m - 1)
/-- how many posts from f to l the run has -/
def runIn (p s : Int) (m : Option Int) (f l : Int) : Int := if s < 0 then max 0 (nbM (-p) (-s) (-f) m - nbL (-p) (-s) (-l) + 1) else max 0 (nbM p s l m - nbL p s f + 1)
theorem div_bdN {a s : Int} (h : 0 < s) : (a / s).natAbs ≤ a.natAbs := Int.natAbs_ediv_le_natAbs a s
theorem runIn_bd {p s f l : Int} {m : Option Int} (hs : s ≠ 0) (pb : p.natAbs ≤ 10 ^ 81) (fb : f.natAbs ≤ 10 ^ 81) (lb : l.natAbs ≤ 10 ^ 81) : 0 ≤ runIn p s m f l ∧ runIn p s m f l ≤ 10 ^ 83 := by
  have key : ∀ {p s l f : Int}, 0 < s → p.natAbs ≤ 10 ^ 81 → l.natAbs ≤ 10 ^ 81 → 0 ≤ max 0 (nbM p s l m - nbL p s f + 1) ∧ max 0 (nbM p s l m - nbL p s f + 1) ≤ 10 ^ 83 := fun {p s l f} h pb lb => by
    have a := div_bdN (a := l - p) h
    have c : nbM p s l m ≤ (l - p) / s := by
      cases m with
      | none => exact Int.le_refl _
      | some m => exact Int.min_le_left ..
    have d : 0 ≤ nbL p s f := Int.le_max_left ..
    omega
  unfold runIn
  split
  · exact key (by omega) (by omega) (by omega)
  · exact key (by omega) pb lb
theorem runIn_zero {p s f l : Int} : runIn p s (some 0) f l = 0 := by
  have key : ∀ {p s l f : Int}, max 0 (nbM p s l (some 0) - nbL p s f + 1) = 0 := fun {p s l f} => by
    have c : nbM p s l (some 0) ≤ 0 - 1 := Int.min_le_right ..
    have d : 0 ≤ nbL p s f := Int.le_max_left ..
    omega
  unfold runIn
  split <;> exact key
abbrev s_numbers_between : Stmt := (topS 52)
abbrev N_sc_numbers_between : List Str := ["run", "first", "last", "_", "post", "stride", "many", "least", "most"]
abbrev P_numbers_between : List Str := ["run", "first", "last"]
theorem sc_numbers_between : FnScope N_sc_numbers_between P_numbers_between (defScope s_numbers_between) := ⟨rfl, rfl, rfl, by decide +kernel, rfl, by decide +kernel, by decide +kernel⟩
structure RunOk (p s f l : Int) : Prop where
  sn : s ≠ 0
  sb : s.natAbs ≤ 10 ^ 37
  pb : p.natAbs ≤ 10 ^ 81
  fb : f.natAbs ≤ 10 ^ 81
  lb : l.natAbs ≤ 10 ^ 81
def spNB : Sp := fun vs H Q _ => ∃ (t : Addr) (wt p s : Int) (m : Option Int) (f l : Int), vs = [.ref t, .int f, .int l] ∧ H t = some (.tup [.int wt, .int p, .int s, optV m]) ∧ RunOk p s f l ∧ ∀ u a b H', H' u = some (.tup [.int a, .int b]) → max 0 (b - a + 1) = runIn p s m f l → Same H H' → Q (.ref u) H'
section
variable {P : Program} {w : World} {K : PySem.W.Frag} {mg : Str → Option Value} {base : Heap}
set_option maxHeartbeats 16000000 in
theorem ok_nb (D : Dfn K mg "numbers_between" s_numbers_between P_numbers_between) (B : Blt mg) : Cal P w K mg base 1 "numbers_between" P_numbers_between spNB := by
  refine D.cal sc_numbers_between (fun vs H Q E h => ?_) fun f cdv A outer s H vs Q E hr h => ?_
  · obtain ⟨t, _, _, _, _, _, _, rfl, _⟩ := h
    rfl
  obtain ⟨t, wt, p, st, m, fi, la, rfl, ht, ok, q⟩ := h
  refine ⟨_, (pss_cons (ps_asg (pv 0) (pg_tup rfl (pgs_cons (pg_name (i := 3) sc_numbers_between.nd rfl (Or.inl rfl)) (pgs_cons (pg_name (i := 4) sc_numbers_between.nd rfl (Or.inl rfl)) (pgs_cons (pg_name (i := 5) sc_numbers_between.nd rfl (Or.inl rfl)) (pgs_cons (pg_name (i := 6) sc_numbers_between.nd rfl (Or.inl rfl)) pgs_nil)))))) (C8.pss_cut (ps_if (pt_cmpR op_lt (pv 5) pe_int (nomark _)) (pss_one (ps_asg (pe_tup (pa_cons (pe_un un_neg (pv 4)) (pa_cons (pe_un un_neg (pv 5)) (pa_cons (pe_un un_neg (pv 2)) (pa_cons (pe_un un_neg (pv 1)) pa_nil))))) (pg_tup rfl (pgs_cons (pg_name (i := 4) sc_numbers_between.nd rfl (Or.inl rfl)) (pgs_cons (pg_name (i := 5) sc_numbers_between.nd rfl (Or.inl rfl)) (pgs_cons (pg_name (i := 1) sc_numbers_between.nd rfl (Or.inl rfl)) (pgs_cons (pg_name (i := 2) sc_numbers_between.nd rfl (Or.inl rfl)) pgs_nil))))))) pss_nil) (C8.pss_cut (ps_set (i := 7) sc_numbers_between.nd rfl (Or.inl rfl) (pe_callB (call_max2 rfl) rfl B.max_ (by decide +kernel) (pa_cons pe_int (pa_cons (pe_un un_neg (pe_op op_fdivW (pe_op op_sub (pv 4) (pv 1)) (pv 5))) pa_nil)))) (pss_cons (ps_set (i := 8) sc_numbers_between.nd rfl (Or.inl rfl) (pe_op op_fdivW (pe_op op_sub (pv 2) (pv 4)) (pv 5))) (pss_one (ps_ret (pe_tup (pa_cons (pv 7) (pa_cons (pe_ifExp (pt_cmpR op_isN (pv 6) pe_non (nomark _)) (pv 8) (pe_callB (call_min2 rfl) rfl B.min_ (by decide +kernel) (pa_cons (pv 8) (pa_cons (pe_op op_sub (pv 6) pe_int) pa_nil)))) pa_nil))))))))), ?_⟩
  have sn := ok.sn
  have sb := ok.sb
  refine ⟨_, rfl, t, _, rfl, SqT.of ht, rfl, _, _, rfl, _, _, rfl, _, _, rfl, _, _, rfl, rfl, ?_⟩
  refine ⟨fun σ' H' => ∃ p' s' f' l', σ' = [some (.ref t), some (.int f'), some (.int l'), some (.int wt), some (.int p'), some (.int s'), some (optV m), none, none] ∧ 0 < s' ∧ s'.natAbs ≤ 10 ^ 37 ∧ max 0 (nbM p' s' l' m - nbL p' s' f' + 1) = runIn p st m fi la ∧ Same H H', ?_, ?_⟩
  · refine ⟨_, rfl, _, _, rfl, rfl, _, rfl, ?_⟩
    by_cases c : st < 0
    · refine iteDT c ?_
      refine ⟨_, rfl, _, rfl, _, rfl, _, rfl, _, rfl, _, rfl, _, rfl, _, rfl, by show 4 ≤ sizeLine; decide, fun u nu => ?_⟩
      refine ⟨u, _, rfl, SqT.of upd_same, rfl, _, _, rfl, _, _, rfl, _, _, rfl, _, _, rfl, rfl, ?_⟩
      exact ⟨-p, -st, -la, -fi, rfl, by omega, by omega, by unfold runIn; rw [if_pos c], same_new nu _⟩
    · refine iteDF c ⟨p, st, fi, la, rfl, by omega, sb, by unfold runIn; rw [if_neg c], Same.refl _⟩
  rintro σ' H1 ⟨p', s', f', l', rfl, s0, sb', e, s1⟩
  have wd : ∀ x : Int, CDivW x s' := fun x => wide_div (b := 200) s0 (by omega) (by decide) (by decide)
  refine ⟨fun σ' H' => σ' = [some (.ref t), some (.int f'), some (.int l'), some (.int wt), some (.int p'), some (.int s'), some (optV m), some (.int (nbL p' s' f')), none] ∧ H' = H1, ?_, ?_⟩
  · refine ⟨_, rfl, _, rfl, _, _, rfl, rfl, _, rfl, _, _, rfl, rfl, wd _, _, rfl, _, _, rfl, ?_⟩
    have e1 : (if -((p' - f') / s') > 0 then -((p' - f') / s') else 0) = nbL p' s' f' := by unfold nbL; split <;> omega
    exact ⟨by rw [← e1]; rfl, rfl⟩
  rintro σ' H2 ⟨rfl, e2⟩
  rw [e2]
  refine ⟨_, rfl, _, rfl, _, _, rfl, rfl, _, rfl, _, _, rfl, rfl, wd _, ?_⟩
  refine ⟨_, rfl, _, rfl, rfl, _, rfl, ?_⟩
  have fin : ∀ (u : Addr) (b : Int), H1 u = none → b = nbM p' s' l' m → Q (.ref u) (upd H1 u (.tup [.int (nbL p' s' f'), .int b])) := fun u b nu eb => q u _ b _ upd_same (by rw [eb, e]) (s1.trans (same_new nu _))
  cases m with
  | none => exact iteDT rfl ⟨_, rfl, by show 2 ≤ sizeLine; decide, fun u nu => fin u _ nu rfl⟩
  | some m =>
    refine iteDF (fun z => by cases z) ⟨_, rfl, _, rfl, _, _, rfl, rfl, _, _, rfl, by show 2 ≤ sizeLine; decide, fun u nu => fin u _ nu ?_⟩
    show (if m - 1 < (l' - p') / s' then m - 1 else (l' - p') / s') = min ((l' - p') / s') (m - 1)
    split <;> omega
end
abbrev s__many_between : Stmt := (topS 54)
abbrev N_sc__many_between : List Str := ["run", "first", "last", "least", "most"]
abbrev P__many_between : List Str := ["run", "first", "last"]
theorem sc__many_between : FnScope N_sc__many_between P__many_between (defScope s__many_between) := ⟨rfl, rfl, rfl, by decide +kernel, rfl, by decide +kernel, by decide +kernel⟩
def spMB : Sp := fun vs H Q _ => ∃ (t : Addr) (wt p s : Int) (m : Option Int) (f l : Int), vs = [.ref t, .int f, .int l] ∧ H t = some (.tup [.int wt, .int p, .int s, optV m]) ∧ RunOk p s f l ∧ ∀ H', Same H H' → Q (.int (runIn p s m f l)) H'
section
variable {P : Program} {w : World} {K : PySem.W.Frag} {mg : Str → Option Value} {base : Heap}
theorem ok_mb (D : Dfn K mg "_many_between" s__many_between P__many_between) (B : Blt mg) (CNB : Cal P w K mg base 1 "numbers_between" P_numbers_between spNB) : Cal P w K mg base 2 "_many_between" P__many_between spMB := by
  refine D.cal sc__many_between (fun vs H Q E h => ?_) fun f cdv A outer s H vs Q E hr h => ?_
  · obtain ⟨t, _, _, _, _, _, _, rfl, _⟩ := h
    rfl
  obtain ⟨t, wt, p, st, m, fi, la, rfl, ht, ok, q⟩ := h
  refine ⟨_, (pss_cons (ps_asg (pe_cal CNB (hr.mono (by decide)) (pa_cons (pv 0) (pa_cons (pv 1) (pa_cons (pv 2) pa_nil)))) (pg_tup rfl (pgs_cons (pg_name (i := 3) sc__many_between.nd rfl (Or.inl rfl)) (pgs_cons (pg_name (i := 4) sc__many_between.nd rfl (Or.inl rfl)) pgs_nil)))) (pss_one (ps_ret (pe_callB (call_max2 rfl) rfl B.max_ (by decide +kernel) (pa_cons pe_int (pa_cons (pe_op op_add (pe_op op_sub (pv 4) (pv 3)) pe_int) pa_nil)))))), ?_⟩
  refine ⟨_, rfl, _, rfl, _, rfl, t, wt, p, st, m, fi, la, rfl, ht, ok, fun u a b H1 hu e s1 => ?_⟩
  refine ⟨u, _, rfl, SqT.of hu, rfl, _, _, rfl, _, _, rfl, rfl, ?_⟩
  refine ⟨_, rfl, _, rfl, _, _, rfl, rfl, _, _, rfl, rfl, _, _, rfl, ?_⟩
  have e1 : (if b - a + 1 > 0 then b - a + 1 else 0) = runIn p st m fi la := by rw [← e]; split <;> omega
  rw [e1]
  exact q H1 s1
end
structure Rn where
  w : Int
  p : Int
  s : Int
  m : Option Int
abbrev RnsAt (H : Hp) (bs : List Addr) (rs : List Rn) : Prop := Paired (fun b (r : Rn) => H b = some (.tup [.int r.w, .int r.p, .int r.s, optV r.m])) bs rs
def sumIn (rs : List Rn) (f l : Int) : Int := (rs.map fun r => r.w * runIn r.p r.s r.m f l).sum
abbrev s_count_between : Stmt := (topS 51)
abbrev N_sc_count_between : List Str := ["runs", "first", "last", "run"]
abbrev P_count_between : List Str := ["runs", "first", "last"]
theorem sc_count_between : FnScope N_sc_count_between P_count_between (defScope s_count_between) := ⟨rfl, rfl, rfl, by decide +kernel, rfl, by decide +kernel, by decide +kernel⟩
def spCB : Sp := fun vs H Q _ => ∃ (R : Addr) (bs : List Addr) (rs : List Rn) (f l : Int), vs = [.ref R, .int f, .int l] ∧ H R = some (.lst (bs.map V.ref)) ∧ RnsAt H bs rs ∧ (∀ r ∈ rs, RunOk r.p r.s f l ∧ r.w.natAbs ≤ 10) ∧ rs.length ≤ 5000 ∧ ∀ H', Same H H' → Q (.int (sumIn rs f l)) H'
section
variable {P : Program} {w : World} {K : PySem.W.Frag} {mg : Str → Option Value} {base : Heap}
theorem ok_cb (D : Dfn K mg "count_between" s_count_between P_count_between) (nb_sum : mg "sum" = none) (CMB : Cal P w K mg base 2 "_many_between" P__many_between spMB) : Cal P w K mg base 3 "count_between" P_count_between spCB := by
  refine D.cal sc_count_between (fun vs H Q E h => ?_) fun f cdv A outer s H vs Q E hr h => ?_
  · obtain ⟨R, _, _, _, _, rfl, _⟩ := h
    rfl
  obtain ⟨R, bs, rs, fi, la, rfl, hR, rns, ok, few, q⟩ := h
  refine ⟨_, (pss_one (ps_ret (pe_callB (cr_sum rfl) rfl nb_sum (by decide +kernel) (pa_cons (pe_lc (own := [("run", 3)]) (g := gName 3) (tt := tYes) rfl sc_count_between.nd (pi_list (pv 0)) (blkOk_by (N := N_sc_count_between) (sc := defScope s_count_between) (by decide +kernel)) (fun _ _ _ _ _ => pg_name (i := 3) sc_count_between.nd rfl (Or.inl rfl)) (fun _ _ _ _ _ => pts_nil) (fun _ _ _ _ _ => (pe_op op_mulW (pe_ix (show IxR _ (rIxT K) from ix_tup) (pv 3) pe_int (fun _ _ => rfl)) (pe_cal CMB (hr.mono (by decide)) (pa_cons (pv 3) (pa_cons (pv 1) (pa_cons (pv 2) pa_nil))))))) pa_nil)))), ?_⟩
  have bl : bs.length = rs.length := rns.length
  refine ⟨_, rfl, R, rfl, ⟨_, SqL.of hR⟩, fun M nM => ?_⟩
  refine lc_list (K := K) (a := R) (xs := bs.map V.ref) (fun i H' => H' M = some (.lst (((rs.take i).map fun r => r.w * runIn r.p r.s r.m fi la).map V.int)) ∧ Same H H') ⟨upd_same, same_new nM _⟩ (fun i H' _ h => SqL.of (h.2 _ _ hR)) ?_ ?_
  · rintro i v H' ev ⟨hM, s1⟩
    rw [List.getElem?_map] at ev
    cases eb : bs[i]? with
    | none => rw [eb] at ev; cases ev
    | some b =>
      rw [eb] at ev
      obtain rfl := Option.some.inj ev
      obtain ⟨r, er, hb⟩ := paired_get rns eb
      obtain ⟨rok, wb⟩ := ok r (List.mem_of_getElem? er)
      have bd := runIn_bd (m := r.m) rok.sn rok.pb rok.fb rok.lb
      refine ⟨rfl, _, rfl, b, _, _, .int r.w, rfl, rfl, SqT.of (s1 _ _ hb), atI_nat (j := 0) rfl, _, rfl, _, rfl, _, rfl, b, r.w, r.p, r.s, r.m, fi, la, rfl, s1 _ _ hb, rok, fun H2 s2 => ?_⟩
      have hi := (List.getElem?_eq_some_iff.mp er).1
      refine ⟨_, _, rfl, rfl, wide_mul (a := 64) (b := 300) (by omega) (by omega) (by decide) (by decide) (by decide), _, s2 _ _ hM, ?_, ?_, sameAt (s1.trans s2) nM⟩
      · rw [List.length_map, List.length_map, List.length_take]
        exact Nat.lt_of_le_of_lt (show min i rs.length ≤ 5000 by omega) (by decide)
      · rw [upd_same, take_snoc er, List.map_append, List.map_append]
        rfl
  · rintro H' ⟨hM, s1⟩
    rw [List.length_map, bl, List.take_length] at hM
    exact ⟨M, _, rfl, SqL.of hM, q H' s1⟩
end
end Ur
/-! RB: the posts that are painted by a day: counts_by, runs_of, painted_runs, painted_between, painted_until. -/
namespace Ur
open PySem PySem.Spec PyProof.Rows L2
/-- how many posts are painted by a day -/
def byC (day : Option Int) (d : Int) (c : Option Int) : Option Int := match day with
  | none => c
  | some t => some (match c with
    | none => max 0 (t - d + 1)
    | some k => min (max 0 (t - d + 1)) k)
/-- the painters and the numbers of their posts -/
structure PcsOk (C : Addr) (H : Hp) (bs : List Addr) (L : List Pt) (cs : List (Option Int)) : Prop where
  len : bs.length = L.length
  lc : cs.length = L.length
  few : L.length ≤ 40
  at_ : ∀ (i : Nat) (x : Pt) (c : Option Int), L[i]? = some x → cs[i]? = some c → ∃ b, bs[i]? = some b ∧ H b = some (.tup [.ref x.a, optV c])
  ok : ∀ x ∈ L, PtAt C H x
theorem PcsOk.keep {C : Addr} {H H' : Hp} {bs : List Addr} {L : List Pt} {cs : List (Option Int)} (h : PcsOk C H bs L cs) (s : Same H H') : PcsOk C H' bs L cs := ⟨h.len, h.lc, h.few, fun i x c e1 e2 => let ⟨b, e, z⟩ := h.at_ i x c e1 e2; ⟨b, e, s _ _ z⟩, fun x hx => (h.ok x hx).same s⟩
theorem pcs_ok {C : Addr} {H : Hp} {bs : List Addr} {L : List Pt} {rs : List Rw} (cr : Crew C H L) (pb : PcAt H bs (pcs L rs L.length)) : PcsOk C H bs L ((List.range L.length).map (cntR rs)) := by
  have lpc : (pcs L rs L.length).length = L.length := by
    by_cases c : L.length = 0
    · rw [c]
      rfl
    · exact (pcs_get (rs := rs) (i := 0) (Nat.le_refl _) (by omega)).choose_spec.2.2
  have bl : bs.length = L.length := pb.length.trans lpc
  refine ⟨bl, by rw [List.length_map, List.length_range], cr.few, fun i x c e1 e2 => ?_, cr.at_⟩
  have hi := (List.getElem?_eq_some_iff.mp e1).1
  obtain ⟨x', h1, h2, _⟩ := pcs_get (rs := rs) (Nat.le_refl _) hi
  rw [e1] at h1
  obtain rfl := Option.some.inj h1
  rw [List.getElem?_map, List.getElem?_range hi] at e2
  obtain rfl := Option.some.inj e2
  obtain ⟨b, eb⟩ : ∃ b, bs[i]? = some b := ⟨_, List.getElem?_eq_getElem (by omega)⟩
  exact ⟨b, eb, paired_at (F := fun (b : Addr) (e : Addr × Option Int) => H b = some (.tup [.ref e.1, optV e.2])) pb eb h2⟩
def bysC (day : Option Int) (L : List Pt) (cs : List (Option Int)) : List (Option Int) := List.zipWith (fun (x : Pt) c => byC day x.d c) L cs
abbrev s_counts_by : Stmt := (topS 44)
abbrev N_sc_counts_by : List Str := ["counts", "day", "found", "painter", "count", "many"]
abbrev P_counts_by : List Str := ["counts", "day"]
theorem sc_counts_by : FnScope N_sc_counts_by P_counts_by (defScope s_counts_by) := ⟨rfl, rfl, rfl, by decide +kernel, rfl, by decide +kernel, by decide +kernel⟩
def spBy (C : Addr) : Sp := fun vs H Q _ => ∃ (D : Addr) (bs : List Addr) (L : List Pt) (cs : List (Option Int)) (day : Option Int), vs = [.ref D, optV day] ∧ H D = some (.lst (bs.map V.ref)) ∧ PcsOk C H bs L cs ∧
  ∀ D' bs' H', H' D' = some (.lst (bs'.map V.ref)) → PcsOk C H' bs' L (bysC day L cs) → Same H H' → Q (.ref D') H'
section
variable {P : Program} {w : World} {K : PySem.W.Frag} {mg : Str → Option Value} {base : Heap} {C : Addr}
set_option maxHeartbeats 16000000 in
theorem ok_cby (D : Dfn K mg "counts_by" s_counts_by P_counts_by) (B : Blt mg) (T : PTxt K mg C) (hDay : PropS P w K mg base C "day" 1 (getSp C "_day")) : Cal P w K mg base 3 "counts_by" P_counts_by (spBy C) := by
  refine D.cal sc_counts_by (fun vs H Q E h => ?_) fun f cdv A outer s H vs Q E hr h => ?_
  · obtain ⟨D, _, _, _, _, rfl, _⟩ := h
    rfl
  obtain ⟨D, bs, L, cs, day, rfl, hD, pc, q⟩ := h
  refine ⟨_, (pss_cons (ps_if (pt_cmpR op_isN (pv 1) pe_non (nomark _)) (pss_one (ps_ret (pv 0))) pss_nil) (pss_cons (ps_set (i := 2) sc_counts_by.nd rfl (Or.inl rfl) (pe_lst pa_nil)) (pss_cons (ps_for PassesOwn.never rfl (pi_list (pv 0)) (pg_tup rfl (pgs_cons (pg_name (i := 3) sc_counts_by.nd rfl (Or.inl rfl)) (pgs_cons (pg_name (i := 4) sc_counts_by.nd rfl (Or.inl rfl)) pgs_nil))) (pss_cons (ps_set (i := 5) sc_counts_by.nd rfl (Or.inl rfl) (pe_callB (call_max2 rfl) rfl B.max_ (by decide +kernel) (pa_cons pe_int (pa_cons (pe_op op_add (pe_op op_sub (pv 1) (pe_prS (pv 3) T.cl hDay (hr.mono (by decide)))) pe_int) pa_nil)))) (pss_one (ps_expr (pe_bm PySem.F.plainAttrs_list PySem.F.slot_list_append PySem.F.type_list_append mt_append (pv 2) (pa_cons (pe_tup (pa_cons (pv 3) (pa_cons (pe_ifExp (pt_cmpR op_isN (pv 4) pe_non (nomark _)) (pv 5) (pe_callB (call_min2 rfl) rfl B.min_ (by decide +kernel) (pa_cons (pv 5) (pa_cons (pv 4) pa_nil)))) pa_nil))) pa_nil)))))) (pss_one (ps_ret (pv 2)))))), ?_⟩
  refine ⟨_, rfl, rfl, _, rfl, ?_⟩
  have few := pc.few
  have bl := pc.len
  have cl := pc.lc
  cases day with
  | none =>
    refine iteDT rfl ⟨_, rfl, q D bs H hD ?_ (Same.refl _)⟩
    have e : bysC none L cs = cs := by
      unfold bysC byC
      refine List.ext_getElem? fun i => ?_
      rw [List.getElem?_zipWith]
      by_cases c : i < L.length
      · rw [List.getElem?_eq_getElem c, List.getElem?_eq_getElem (show i < cs.length by omega)]
      · rw [List.getElem?_eq_none (show L.length ≤ i by omega), List.getElem?_eq_none (show cs.length ≤ i by omega)]
    rw [e]
    exact pc
  | some t =>
    refine iteDF (fun z => by cases z) ?_
    refine ⟨by show 0 ≤ sizeLine; decide, fun M nM => ?_⟩
    have wM := same_new nM (.lst [])
    refine ⟨_, rfl, D, rfl, ⟨_, SqL.of (wM _ _ hD)⟩, for_list (K := K) (a := D) (xs := bs.map V.ref) (fun i σ H3 => ∃ (ds : List Addr) (o3 o4 o5 : Option V), σ = [some (.ref D), some (.int t), some (.ref M), o3, o4, o5] ∧ H3 M = some (.lst (ds.map V.ref)) ∧ ds.length = i ∧ (∀ j x c, j < i → L[j]? = some x → cs[j]? = some c → ∃ b, ds[j]? = some b ∧ H3 b = some (.tup [.ref x.a, optV (byC (some t) x.d c)])) ∧ Same H H3)
      ⟨[], _, _, _, rfl, upd_same, rfl, (fun j x c hj => absurd hj (Nat.not_lt_zero j)), wM⟩ (fun i σ H3 _ h => by obtain ⟨_, _, _, _, _, _, _, _, h⟩ := h; exact SqL.of (h _ _ hD)) ?_ ?_⟩
    · rintro i v σ H3 ev ⟨ds, o3, o4, o5, rfl, hM, dl, at3, s3⟩
      rw [List.getElem?_map] at ev
      cases eb : bs[i]? with
      | none => rw [eb] at ev; cases ev
      | some b =>
        rw [eb] at ev
        obtain rfl := Option.some.inj ev
        have hi : i < L.length := by have := (List.getElem?_eq_some_iff.mp eb).1; omega
        obtain ⟨x, hx⟩ : ∃ x, L[i]? = some x := ⟨_, List.getElem?_eq_getElem hi⟩
        obtain ⟨c, hc⟩ : ∃ c, cs[i]? = some c := ⟨_, List.getElem?_eq_getElem (by omega)⟩
        obtain ⟨b', eb', hb⟩ := pc.at_ i x c hx hc
        rw [eb] at eb'
        obtain rfl := Option.some.inj eb'
        obtain ⟨⟨dxx, ex⟩, pk⟩ := (pc.ok x (List.mem_of_getElem? hx)).same s3
        refine ⟨b, _, rfl, SqT.of (s3 _ _ hb), rfl, _, _, rfl, _, _, rfl, rfl, ?_⟩
        refine ⟨_, rfl, _, rfl, x.a, dxx, _, rfl, ex, x.a, dxx, _, _, rfl, ex, pfs_day _ _ _ _, _, _, rfl, rfl, _, _, rfl, rfl, _, _, rfl, ?_⟩
        obtain ⟨mn, emn⟩ : ∃ mn, mn = (if t - x.d + 1 > 0 then t - x.d + 1 else 0) := ⟨_, rfl⟩
        have emx : mn = max 0 (t - x.d + 1) := by rw [emn]; split <;> omega
        refine ⟨_, rfl, .inl ⟨rfl, _, SqL.of hM⟩, _, rfl, ?_⟩
        have sz : (ds.map V.ref).length < sizeLine := by rw [List.length_map, dl]; exact Nat.lt_of_le_of_lt (show i ≤ 40 by omega) (by decide)
        have fin : ∀ (u : Addr) (r : Int), H3 u = none → some r = byC (some t) x.d c → ∃ ds' : List Addr, upd (upd H3 u (.tup [.ref x.a, .int r])) M (.lst (ds.map V.ref ++ [.ref u])) M = some (.lst (ds'.map V.ref)) ∧ ds'.length = i + 1 ∧ (∀ j y c', j < i + 1 → L[j]? = some y → cs[j]? = some c' → ∃ b, ds'[j]? = some b ∧ upd (upd H3 u (.tup [.ref x.a, .int r])) M (.lst (ds.map V.ref ++ [.ref u])) b = some (.tup [.ref y.a, optV (byC (some t) y.d c')])) ∧ Same H (upd (upd H3 u (.tup [.ref x.a, .int r])) M (.lst (ds.map V.ref ++ [.ref u]))) := fun u r nu er => by
          have su := same_new nu (.tup [.ref x.a, .int r])
          have hMu := su _ _ hM
          have kp : ∀ (z : Addr) xs, upd H3 u (.tup [.ref x.a, .int r]) z = some (.tup xs) → upd (upd H3 u (.tup [.ref x.a, .int r])) M (.lst (ds.map V.ref ++ [.ref u])) z = some (.tup xs) := fun z xs e => by rw [upd_ne (ne_of e hMu (by intro z; cases z))]; exact e
          refine ⟨ds ++ [u], by rw [upd_same, List.map_append]; rfl, by rw [List.length_append, dl]; rfl, fun j y c' hj hy hc' => ?_, sameAt (s3.trans su) nM⟩
          by_cases z : j = i
          · subst z
            rw [hx] at hy
            rw [hc] at hc'
            obtain rfl := Option.some.inj hy
            obtain rfl := Option.some.inj hc'
            refine ⟨u, by rw [List.getElem?_append_right (by omega), dl, Nat.sub_self]; rfl, kp _ _ ?_⟩
            rw [upd_same, ← er]
            rfl
          · obtain ⟨b2, e2, h2⟩ := at3 j y c' (by omega) hy hc'
            exact ⟨b2, by rw [List.getElem?_append_left (by omega)]; exact e2, kp _ _ (su _ _ h2)⟩
        refine ⟨_, rfl, rfl, _, rfl, ?_⟩
        cases c with
        | none =>
          refine iteDT rfl ⟨_, rfl, by show 2 ≤ sizeLine; decide, fun u nu => ?_⟩
          have hMu := same_new nu (.tup [.ref x.a, .int (if t - x.d + 1 > 0 then t - x.d + 1 else 0)]) _ _ hM
          obtain ⟨ds', f1, f2, f3, f4⟩ := fin u _ nu (by show some _ = some (max 0 (t - x.d + 1)); rw [← emx, emn])
          exact ⟨M, _, _, rfl, rfl, hMu, sz, ds', _, _, _, rfl, f1, f2, f3, f4⟩
        | some k =>
          refine iteDF (fun z => by cases z) ⟨_, rfl, _, rfl, _, _, rfl, by show 2 ≤ sizeLine; decide, fun u nu => ?_⟩
          have hMu := same_new nu (.tup [.ref x.a, .int (if k < (if t - x.d + 1 > 0 then t - x.d + 1 else 0) then k else (if t - x.d + 1 > 0 then t - x.d + 1 else 0))]) _ _ hM
          obtain ⟨ds', f1, f2, f3, f4⟩ := fin u (if k < (if t - x.d + 1 > 0 then t - x.d + 1 else 0) then k else (if t - x.d + 1 > 0 then t - x.d + 1 else 0)) nu (by show some (if k < (if t - x.d + 1 > 0 then t - x.d + 1 else 0) then k else (if t - x.d + 1 > 0 then t - x.d + 1 else 0)) = some (min (max 0 (t - x.d + 1)) k); rw [← emx, ← emn]; congr 1; split <;> omega)
          exact ⟨M, _, _, rfl, rfl, hMu, sz, ds', _, _, _, rfl, f1, f2, f3, f4⟩
    · rintro σ H3 ⟨ds, o3, o4, o5, rfl, hM, dl, at3, s3⟩
      rw [List.length_map, bl] at dl at3
      refine ⟨_, rfl, q M ds H3 hM ⟨dl, ?_, few, fun i x c e1 e2 => ?_, fun x hx => (pc.ok x hx).same s3⟩ s3⟩
      · unfold bysC
        rw [List.length_zipWith]
        omega
      · have hi := (List.getElem?_eq_some_iff.mp e1).1
        unfold bysC at e2
        rw [List.getElem?_zipWith, e1] at e2
        obtain ⟨c0, hc0⟩ : ∃ c, cs[i]? = some c := ⟨_, List.getElem?_eq_getElem (by omega)⟩
        rw [hc0] at e2
        obtain rfl := Option.some.inj e2
        exact at3 i x c0 hi e1 hc0
end
/-- the runs of such a list -/
def rnsOf (L : List Pt) (cs : List (Option Int)) (n : Nat) : List Rn := (List.range n).filterMap fun i => match L[i]?, cs[i]? with
  | some x, some c => if c = some 0 then none else some ⟨1, x.p, x.s, c⟩
  | _, _ => none
theorem rns_in {L : List Pt} {cs : List (Option Int)} {n : Nat} {x : Pt} {c : Option Int} (h : L[n]? = some x) (g : cs[n]? = some c) (z : c ≠ some 0) : rnsOf L cs (n + 1) = rnsOf L cs n ++ [⟨1, x.p, x.s, c⟩] := by
  unfold rnsOf
  rw [List.range_succ, List.filterMap_append, List.filterMap_cons, h, g]
  simp only [if_neg z]
  rfl
theorem rns_out {L : List Pt} {cs : List (Option Int)} {n : Nat} {x : Pt} (h : L[n]? = some x) (g : cs[n]? = some (some 0)) : rnsOf L cs (n + 1) = rnsOf L cs n := by
  unfold rnsOf
  rw [List.range_succ, List.filterMap_append, List.filterMap_cons, h, g]
  simp
theorem rns_len (L : List Pt) (cs : List (Option Int)) (n : Nat) : (rnsOf L cs n).length ≤ n := by
  have := List.length_filterMap_le (fun i => match L[i]?, cs[i]? with
    | some x, some c => if c = some 0 then none else some (⟨1, x.p, x.s, c⟩ : Rn)
    | _, _ => none) (List.range n)
  rw [List.length_range] at this
  exact this
theorem rns_mem {L : List Pt} {cs : List (Option Int)} {n : Nat} {r : Rn} (h : r ∈ rnsOf L cs n) : ∃ x ∈ L, ∃ c, r = ⟨1, x.p, x.s, c⟩ := by
  obtain ⟨i, _, e⟩ := List.mem_filterMap.mp h
  cases h1 : L[i]? with
  | none => rw [h1] at e; cases e
  | some x =>
    cases h2 : cs[i]? with
    | none => rw [h1, h2] at e; cases e
    | some c =>
      rw [h1, h2] at e
      by_cases z : c = some 0
      · simp [z] at e
      · simp only [if_neg z] at e
        exact ⟨x, List.mem_of_getElem? h1, c, (Option.some.inj e).symm⟩
/-- how many posts from f to l the painters of the list paint -/
def allIn (L : List Pt) (cs : List (Option Int)) (f l : Int) : Int := (List.zipWith (fun (x : Pt) c => runIn x.p x.s c f l) L cs).sum
theorem rns_sum {L : List Pt} {cs : List (Option Int)} (lc : cs.length = L.length) (f l : Int) : sumIn (rnsOf L cs L.length) f l = allIn L cs f l := by
  have key : ∀ n, n ≤ L.length → sumIn (rnsOf L cs n) f l = (List.zipWith (fun (x : Pt) c => runIn x.p x.s c f l) (L.take n) (cs.take n)).sum := by
    intro n
    induction n with
    | zero => intro _; rfl
    | succ n ih =>
      intro hn
      obtain ⟨x, hx⟩ : ∃ x, L[n]? = some x := ⟨_, List.getElem?_eq_getElem (by omega)⟩
      obtain ⟨c, hc⟩ : ∃ c, cs[n]? = some c := ⟨_, List.getElem?_eq_getElem (by omega)⟩
      have e := ih (by omega)
      rw [take_snoc hx, take_snoc hc, List.zipWith_append (by rw [List.length_take, List.length_take]; omega), List.sum_append, ← e]
      by_cases z : c = some 0
      · subst z
        rw [rns_out hx hc]
        simp [runIn_zero]
      · rw [rns_in hx hc z]
        unfold sumIn
        rw [List.map_append, List.sum_append]
        simp
  have := key L.length (Nat.le_refl _)
  rw [List.take_length, ← lc, List.take_length] at this
  rw [← lc]
  exact this
abbrev s_runs_of : Stmt := (topS 46)
abbrev N_sc_runs_of : List Str := ["counts", "painter", "many"]
abbrev P_runs_of : List Str := ["counts"]
theorem sc_runs_of : FnScope N_sc_runs_of P_runs_of (defScope s_runs_of) := ⟨rfl, rfl, rfl, by decide +kernel, rfl, by decide +kernel, by decide +kernel⟩
def spRu (C : Addr) : Sp := fun vs H Q _ => ∃ (D : Addr) (bs : List Addr) (L : List Pt) (cs : List (Option Int)), vs = [.ref D] ∧ H D = some (.lst (bs.map V.ref)) ∧ PcsOk C H bs L cs ∧
  ∀ R ds H', H' R = some (.lst (ds.map V.ref)) → RnsAt H' ds (rnsOf L cs L.length) → Same H H' → Q (.ref R) H'
section
variable {P : Program} {w : World} {K : PySem.W.Frag} {mg : Str → Option Value} {base : Heap} {C : Addr}
theorem ok_ru (D : Dfn K mg "runs_of" s_runs_of P_runs_of) (T : PTxt K mg C) (hPost : PropS P w K mg base C "post" 1 (getSp C "_post")) (hStride : PropS P w K mg base C "stride" 1 (getSp C "_stride")) : Cal P w K mg base 3 "runs_of" P_runs_of (spRu C) := by
  refine D.cal sc_runs_of (fun vs H Q E h => ?_) fun f cdv A outer s H vs Q E hr h => ?_
  · obtain ⟨D, _, _, _, rfl, _⟩ := h
    rfl
  obtain ⟨D, bs, L, cs, rfl, hD, pc, q⟩ := h
  refine ⟨_, (pss_one (ps_ret (pe_lc (own := [("painter", 1), ("many", 2)]) (g := gTup K 2 (gCons (gName 1) (gCons (gName 2) gNil))) rfl sc_runs_of.nd (pi_list (pv 0)) (blkOk_by (N := N_sc_runs_of) (sc := defScope s_runs_of) (by decide +kernel)) (fun _ _ _ _ _ => pg_tup rfl (pgs_cons (pg_name (i := 1) sc_runs_of.nd rfl (Or.inl rfl)) (pgs_cons (pg_name (i := 2) sc_runs_of.nd rfl (Or.inl rfl)) pgs_nil))) (fun _ _ _ _ _ => pts_one (pt_cmpR op_ne (pv 2) pe_int (nomark _))) (fun _ _ _ _ _ => (pe_tup (pa_cons pe_int (pa_cons (pe_prS (pv 1) T.cl hPost (hr.mono (by decide))) (pa_cons (pe_prS (pv 1) T.cl hStride (hr.mono (by decide))) (pa_cons (pv 2) pa_nil))))))))), ?_⟩
  have few := pc.few
  have bl := pc.len
  have cl := pc.lc
  refine ⟨_, rfl, D, rfl, ⟨_, SqL.of hD⟩, fun M nM => ?_⟩
  refine lc_list (K := K) (a := D) (xs := bs.map V.ref) (fun i H' => ∃ ds : List Addr, H' M = some (.lst (ds.map V.ref)) ∧ RnsAt H' ds (rnsOf L cs i) ∧ Same H H') ⟨[], upd_same, .nil, same_new nM _⟩ (fun i H' _ h => by obtain ⟨_, _, _, h⟩ := h; exact SqL.of (h _ _ hD)) ?_ ?_
  · rintro i v H' ev ⟨ds, hM, rns, s1⟩
    rw [List.getElem?_map] at ev
    cases eb : bs[i]? with
    | none => rw [eb] at ev; cases ev
    | some b =>
      rw [eb] at ev
      obtain rfl := Option.some.inj ev
      have hi : i < L.length := by have := (List.getElem?_eq_some_iff.mp eb).1; omega
      obtain ⟨x, hx⟩ : ∃ x, L[i]? = some x := ⟨_, List.getElem?_eq_getElem hi⟩
      obtain ⟨c, hc⟩ : ∃ c, cs[i]? = some c := ⟨_, List.getElem?_eq_getElem (by omega)⟩
      obtain ⟨b', eb', hb⟩ := pc.at_ i x c hx hc
      rw [eb] at eb'
      obtain rfl := Option.some.inj eb'
      obtain ⟨⟨dxx, ex⟩, pk⟩ := (pc.ok x (List.mem_of_getElem? hx)).same s1
      have dl : ds.length ≤ 40 := by
        have a1 : ds.length = (rnsOf L cs i).length := rns.length
        have a2 := rns_len L cs i
        omega
      refine ⟨b, _, rfl, SqT.of (s1 _ _ hb), rfl, _, _, rfl, _, _, rfl, rfl, ?_⟩
      have yes : c ≠ some 0 → ∀ u, H' u = none → ∃ ds' : List Addr, upd (upd H' u (.tup [.int 1, .int x.p, .int x.s, optV c])) M (.lst (ds.map V.ref ++ [.ref u])) M = some (.lst (ds'.map V.ref)) ∧ RnsAt (upd (upd H' u (.tup [.int 1, .int x.p, .int x.s, optV c])) M (.lst (ds.map V.ref ++ [.ref u]))) ds' (rnsOf L cs (i + 1)) ∧ Same H (upd (upd H' u (.tup [.int 1, .int x.p, .int x.s, optV c])) M (.lst (ds.map V.ref ++ [.ref u]))) := fun z u nu => by
        have su := same_new nu (.tup [.int 1, .int x.p, .int x.s, optV c])
        have hMu := su _ _ hM
        have kp : ∀ (z : Addr) xs, upd H' u (.tup [.int 1, .int x.p, .int x.s, optV c]) z = some (.tup xs) → upd (upd H' u (.tup [.int 1, .int x.p, .int x.s, optV c])) M (.lst (ds.map V.ref ++ [.ref u])) z = some (.tup xs) := fun z xs e => by rw [upd_ne (ne_of e hMu (by intro z; cases z))]; exact e
        refine ⟨ds ++ [u], by rw [upd_same, List.map_append]; rfl, ?_, sameAt (s1.trans su) nM⟩
        rw [rns_in hx hc z]
        exact paired_snoc (Paired.mapP rns fun _ _ h => kp _ _ (su _ _ h)) (kp _ _ upd_same)
      have sz : (ds.map V.ref).length < sizeLine := by rw [List.length_map]; exact Nat.lt_of_le_of_lt dl (by decide)
      refine ⟨rfl, _, rfl, ?_⟩
      cases c with
      | none =>
        refine ⟨rfl, _, rfl, iteNN (fun z => by cases z) ?_⟩
        refine ⟨_, rfl, x.a, dxx, _, rfl, ex, x.a, dxx, _, _, rfl, ex, pfs_post _ _ _ _, _, rfl, x.a, dxx, _, rfl, ex, x.a, dxx, _, _, rfl, ex, pfs_stride _ _ _ _, _, rfl, by show 4 ≤ sizeLine; decide, fun u nu => ?_⟩
        obtain ⟨ds', f1, f2, f3⟩ := yes (fun z => by cases z) u nu
        exact ⟨_, same_new nu _ _ _ hM, sz, ds', f1, f2, f3⟩
      | some k =>
        by_cases z : k = 0
        · subst z
          exact ⟨rfl, _, rfl, iteNS rfl ⟨ds, hM, by rw [rns_out hx hc]; exact rns, s1⟩⟩
        · refine ⟨rfl, _, rfl, iteNN (fun e => z (V.int.inj e)) ?_⟩
          refine ⟨_, rfl, x.a, dxx, _, rfl, ex, x.a, dxx, _, _, rfl, ex, pfs_post _ _ _ _, _, rfl, x.a, dxx, _, rfl, ex, x.a, dxx, _, _, rfl, ex, pfs_stride _ _ _ _, _, rfl, by show 4 ≤ sizeLine; decide, fun u nu => ?_⟩
          obtain ⟨ds', f1, f2, f3⟩ := yes (fun e => z (Option.some.inj e)) u nu
          exact ⟨_, same_new nu _ _ _ hM, sz, ds', f1, f2, f3⟩
  · rintro H' ⟨ds, hM, rns, s1⟩
    rw [List.length_map, bl] at rns
    exact q M ds H' hM rns s1
end
abbrev s_painted_runs : Stmt := (topS 45)
abbrev N_sc_painted_runs : List Str := ["fence", "day"]
abbrev P_painted_runs : List Str := ["fence", "day"]
theorem sc_painted_runs : FnScope N_sc_painted_runs P_painted_runs (defScope s_painted_runs) := ⟨rfl, rfl, rfl, by decide +kernel, rfl, by decide +kernel, by decide +kernel⟩
def spPRu (T : List (Addr × Str)) (C CF : Addr) : Sp := fun vs H Q _ => ∃ (f : Addr) (L : List Pt) (day : Option Int), vs = [.ref f, optV day] ∧ FcAt C CF H f L ∧ LamX.Tabs T H ∧
  ∀ rs R ds H', HistR (partsOf L) (fSP (partsOf L)) rs → H' R = some (.lst (ds.map V.ref)) → RnsAt H' ds (rnsOf L (bysC day L ((List.range L.length).map (cntR rs))) L.length) → LamX.ExtN H H' → LamX.Tabs T H' → Q (.ref R) H'
section
variable {P : Program} {w : World} {K : PySem.W.Frag} {mg : Str → Option Value} {base : Heap} {C CF CH : Addr}
theorem ok_pru {Tt : List (Addr × Str)} (D : Dfn K mg "painted_runs" s_painted_runs P_painted_runs) (CPc : Cal P w K mg base 16 "painted_counts" P_painted_counts (spPc Tt C CF)) (CBy : Cal P w K mg base 3 "counts_by" P_counts_by (spBy C)) (CRu : Cal P w K mg base 3 "runs_of" P_runs_of (spRu C)) : Cal P w K mg base 17 "painted_runs" P_painted_runs (spPRu Tt C CF) := by
  refine D.cal sc_painted_runs (fun vs H Q E h => ?_) fun f cdv A outer s H vs Q E hr h => ?_
  · obtain ⟨f, L, day, rfl, _⟩ := h
    rfl
  obtain ⟨f0, L, day, rfl, hf, tb, q⟩ := h
  refine ⟨_, (pss_one (ps_ret (pe_cal CRu (hr.mono (by decide)) (pa_cons (pe_cal CBy (hr.mono (by decide)) (pa_cons (pe_cal CPc (hr.mono (by decide)) (pa_cons (pv 0) pa_nil)) (pa_cons (pv 1) pa_nil))) pa_nil)))), ?_⟩
  refine ⟨_, rfl, f0, L, rfl, hf, tb, fun rs D bs H1 hist hD pb dn e1 tb1 => ?_⟩
  refine ⟨_, rfl, D, bs, L, _, day, rfl, hD, pcs_ok (hf.extN e1).crew pb, fun D2 bs2 H2 hD2 pc2 s2 => ?_⟩
  exact ⟨D2, bs2, L, _, rfl, hD2, pc2, fun R ds H3 hR rns s3 => q rs R ds H3 hist hR rns (e1.trans (LamX.ExtN.of (s2.trans s3))) (tabs_same (s2.trans s3) tb1)⟩
end
/-- how many posts from f to l are painted by a day -/
def paintN (qs : List Quad) (rs : List Rw) (day : Option Int) (f l : Int) : Int := ((List.range qs.length).map fun j => runIn (pQ qs j) (sQ qs j) (byC day (dQ qs j) (cntR rs j)) f l).sum
def paintU (qs : List Quad) (rs : List Rw) (day : Int) : Int := ((List.range qs.length).map fun j => (byC (some day) (dQ qs j) (cntR rs j)).getD 0).sum
theorem all_paint {L : List Pt} {rs : List Rw} {day : Option Int} {f l : Int} : allIn L (bysC day L ((List.range L.length).map (cntR rs))) f l = paintN (partsOf L) rs day f l := by
  unfold allIn paintN bysC
  congr 1
  rw [parts_len]
  refine List.ext_getElem? fun i => ?_
  rw [List.getElem?_zipWith, List.getElem?_zipWith, List.getElem?_map, List.getElem?_map]
  by_cases c : i < L.length
  · have e : L[i]? = some L[i] := List.getElem?_eq_getElem c
    obtain ⟨_, a2, a3, a4⟩ := q_at (parts_at e)
    rw [e, List.getElem?_range c]
    show some (runIn L[i].p L[i].s (byC day L[i].d (cntR rs i)) f l) = some (runIn (pQ (partsOf L) i) (sQ (partsOf L) i) (byC day (dQ (partsOf L) i) (cntR rs i)) f l)
    rw [a2, a3, a4]
  · rw [List.getElem?_eq_none (show L.length ≤ i by omega), List.getElem?_eq_none (show (List.range L.length).length ≤ i by rw [List.length_range]; omega)]
    rfl
end Ur
/-! UrDu: d.update(e) of two dicts; max of a list of whole numbers. -/
namespace Ur
open PySem PySem.Spec PyProof.Rows L2
section
variable {X : Cx}
def rUpdD : V → List V → Hp → VK → Prop := fun x vs H Q => ∃ d o kvs more, x = .ref d ∧ vs = [.ref o] ∧ d ≠ o ∧ H d = some (.dK kvs) ∧ H o = some (.dK more) ∧ kvs.length + more.length ≤ sizeLine ∧ Q .non (upd H d (.dK (mergeK kvs more)))
theorem mt_updD : MtM X "dict.update" rUpdD := by
  intro pins s σ H x vs v us Q I rx rv h
  obtain ⟨d, o, kvs, more, rfl, rfl, hdo, hD, hO, hz, q⟩ := h
  cases rx
  obtain ⟨u, rfl, ru⟩ := rv.one
  cases ru
  obtain ⟨z1, n1, v1, r1, d1⟩ := dk_of I.hok hD
  obtain ⟨z2, n2, v2, r2, d2⟩ := dk_of I.hok hO
  refine call_meetsIn PySem.F.slot_dict_update d1.typeIs PySem.F.entry_dict_update (PySem.F.args_dict_update_1 _) (meets_dict_update (mixKind X.prog X.w) d o hdo n2) ⟨v1, v2, d1, d2, by rw [← r1.length, ← r2.length]; exact hz, fun h' g1 g2 sb => ?_⟩
  refine ⟨.non, _, d_write (t' := s.toks) I (by rw [hD]; exact True.intro) sb (let ⟨q, _, _, hq, _⟩ := g1; ⟨q, hq⟩) (dk_new ?_ n1 (KV.merge r2 r1) g1), rfl, q⟩
  · exact Nat.le_trans (length_mergeK more kvs) hz
def rMaxI (K : PySem.W.Frag) : List V → Hp → VK → Prop := fun vs H Q => ∃ (a : Addr) (ns : List Int), vs = [V.ref a] ∧ SqL K H a (ns.map V.int) ∧ ns ≠ [] ∧ ∀ m, m ∈ ns → (∀ z ∈ ns, z ≤ m) → Q (.int m) H
theorem max_first (y : Int) : ∀ ys : List Int, PySem.W.maxOf y ys ∈ y :: ys ∧ ∀ z ∈ y :: ys, z ≤ PySem.W.maxOf y ys := by
  intro ys
  induction ys generalizing y with
  | nil =>
    refine ⟨List.mem_cons_self, fun z hz => ?_⟩
    obtain rfl := List.mem_singleton.mp hz
    exact Int.le_refl _
  | cons z ys ih =>
    have step : PySem.W.maxOf y (z :: ys) = PySem.W.maxOf (if decide (y < z) = true then z else y) ys := rfl
    rw [step]
    by_cases c : y < z
    · rw [if_pos (decide_eq_true c)]
      obtain ⟨h1, h2⟩ := ih z
      refine ⟨List.mem_cons_of_mem _ h1, fun x hx => ?_⟩
      rcases List.mem_cons.mp hx with rfl | hx
      · have := h2 z List.mem_cons_self
        omega
      · exact h2 x hx
    · rw [if_neg (by simpa using c)]
      obtain ⟨h1, h2⟩ := ih y
      refine ⟨?_, fun x hx => ?_⟩
      · rcases List.mem_cons.mp h1 with e | h1
        · rw [e]
          exact List.mem_cons_self
        · exact List.mem_cons_of_mem _ (List.mem_cons_of_mem _ h1)
      · rcases List.mem_cons.mp hx with rfl | hx
        · exact h2 x List.mem_cons_self
        · rcases List.mem_cons.mp hx with rfl | hx
          · have := h2 y List.mem_cons_self
            omega
          · exact h2 x (List.mem_cons_of_mem _ hx)
theorem cr_maxI (hc : X.calm = true) (hu : X.A.units + 64 < cLine) : CallR X (.builtin "max") (rMaxI X.K) := by
  intro pins s σ H vs us Q I r h
  obtain ⟨a, ns, rfl, hs, ne, q⟩ := h
  obtain ⟨its, rv, hl, _⟩ := I.list hs
  obtain rfl := Vals.ref1 r
  have HA : PySem.W.HoldAll s.heap its ns := hold_ints rv
  cases ns with
  | nil => exact absurd rfl ne
  | cons k0 ks0 =>
    refine PySem.W.max_list_datum (x := k0) (xs := ks0) (I.ok.hd hc) hl.isList (by rw [List.toList_toArray]; exact HA) (by show X.A.units + 1 + 0 < cLine; omega) fun i v h' tk hi hy hk => ?_
    have hi' : its[i]? = some v := by simpa using hi
    obtain ⟨z, hz, hvz⟩ := HA.at hi'
    have em := holds_uniq (hvz.keeps hk) hy
    have hl : i < ((k0 :: ks0).map V.int).length := by rw [rv.length]; exact (List.getElem?_eq_some_iff.mp hi').1
    obtain ⟨u, hu1, hu2⟩ := rv.get (List.getElem?_eq_getElem hl)
    rw [hi'] at hu1
    cases hu1
    have e3 : ((k0 :: ks0).map V.int)[i]? = some (V.int z) := by rw [List.getElem?_map, hz]; rfl
    rw [List.getElem?_eq_getElem hl] at e3
    rw [Option.some.inj e3] at hu2
    have sp := max_first k0 ks0
    rw [← em] at sp
    exact ⟨.int z, H, I.kept hk, hu2, q z sp.1 sp.2⟩
end
end Ur
/-! PA: the posts of a set of runs, one after the other (weighted, without, mirrored, far_post, post_at). -/
namespace Ur
open PySem PySem.Spec PyProof.Rows L2
def wgt (k : Int) (r : Rn) : Rn := ⟨r.w * k, r.p, r.s, r.m⟩
def mir (r : Rn) : Rn := ⟨r.w, -r.p, -r.s, r.m⟩
/-- one run more at the end of a list that is being made -/
theorem run_put {H H' : Hp} {M u : Addr} {ds : List Addr} {rs : List Rn} {i : Nat} {r : Rn} {g : Rn → Rn} (hM : H' M = some (.lst (ds.map V.ref))) (rd : RnsAt H' ds ((rs.take i).map g)) (s1 : Same H H') (nu : H' u = none) (nM : H M = none) (er : rs[i]? = some r) (sz : (ds.map V.ref).length < sizeLine) :
    ∃ acc, upd H' u (.tup [.int (g r).w, .int (g r).p, .int (g r).s, optV (g r).m]) M = some (HO.lst acc) ∧ acc.length < sizeLine ∧ ∃ ds' : List Addr, upd (upd H' u (.tup [.int (g r).w, .int (g r).p, .int (g r).s, optV (g r).m])) M (HO.lst (acc ++ [V.ref u])) M = some (HO.lst (ds'.map V.ref)) ∧ RnsAt (upd (upd H' u (.tup [.int (g r).w, .int (g r).p, .int (g r).s, optV (g r).m])) M (HO.lst (acc ++ [V.ref u]))) ds' ((rs.take (i + 1)).map g) ∧ Same H (upd (upd H' u (.tup [.int (g r).w, .int (g r).p, .int (g r).s, optV (g r).m])) M (HO.lst (acc ++ [V.ref u]))) := by
  have su := same_new nu (.tup [.int (g r).w, .int (g r).p, .int (g r).s, optV (g r).m])
  have hMu := su _ _ hM
  have kp : ∀ (z : Addr) xs, upd H' u (.tup [.int (g r).w, .int (g r).p, .int (g r).s, optV (g r).m]) z = some (.tup xs) → upd (upd H' u (.tup [.int (g r).w, .int (g r).p, .int (g r).s, optV (g r).m])) M (.lst (ds.map V.ref ++ [.ref u])) z = some (.tup xs) := fun z xs e => by rw [upd_ne (ne_of e hMu (by intro z; cases z))]; exact e
  refine ⟨_, hMu, sz, ds ++ [u], by rw [upd_same, List.map_append]; rfl, ?_, sameAt (s1.trans su) nM⟩
  rw [take_snoc er, List.map_append]
  exact paired_snoc (Paired.mapP rd fun _ _ h => kp _ _ (su _ _ h)) (kp _ _ upd_same)
abbrev s_weighted : Stmt := (topS 48)
abbrev N_sc_weighted : List Str := ["runs", "factor", "weight", "post", "stride", "many"]
abbrev P_weighted : List Str := ["runs", "factor"]
theorem sc_weighted : FnScope N_sc_weighted P_weighted (defScope s_weighted) := ⟨rfl, rfl, rfl, by decide +kernel, rfl, by decide +kernel, by decide +kernel⟩
def spWt (K : PySem.W.Frag) : Sp := fun vs H Q _ => ∃ (R : Addr) (bs : List Addr) (rs : List Rn) (k : Int), vs = [.ref R, .int k] ∧ H R = some (.lst (bs.map V.ref)) ∧ RnsAt H bs rs ∧ (∀ r ∈ rs, r.w.natAbs ≤ 10) ∧ k.natAbs ≤ 10 ∧ rs.length ≤ 4000 ∧
  ∀ R' ds H', H' R' = some (.lst (ds.map V.ref)) → RnsAt H' ds (rs.map (wgt k)) → Same H H' → Q (.ref R') H'
section
variable {P : Program} {w : World} {K : PySem.W.Frag} {mg : Str → Option Value} {base : Heap} {C : Addr}
theorem ok_wt (D : Dfn K mg "weighted" s_weighted P_weighted) : Cal P w K mg base 1 "weighted" P_weighted (spWt K) := by
  refine D.cal sc_weighted (fun vs H Q E h => ?_) fun f cdv A outer s H vs Q E hr h => ?_
  · obtain ⟨R, _, _, _, rfl, _⟩ := h
    rfl
  obtain ⟨R, bs, rs, k, rfl, hR, rns, wb, kb, few, q⟩ := h
  refine ⟨_, (pss_one (ps_ret (pe_lc (own := [("weight", 2), ("post", 3), ("stride", 4), ("many", 5)]) (g := gTup K 4 (gCons (gName 2) (gCons (gName 3) (gCons (gName 4) (gCons (gName 5) gNil))))) (tt := tYes) rfl sc_weighted.nd (pi_list (pv 0)) (blkOk_by (N := N_sc_weighted) (sc := defScope s_weighted) (by decide +kernel)) (fun _ _ _ _ _ => pg_tup rfl (pgs_cons (pg_name (i := 2) sc_weighted.nd rfl (Or.inl rfl)) (pgs_cons (pg_name (i := 3) sc_weighted.nd rfl (Or.inl rfl)) (pgs_cons (pg_name (i := 4) sc_weighted.nd rfl (Or.inl rfl)) (pgs_cons (pg_name (i := 5) sc_weighted.nd rfl (Or.inl rfl)) pgs_nil))))) (fun _ _ _ _ _ => pts_nil) (fun _ _ _ _ _ => (pe_tup (pa_cons (pe_op op_mulW (pv 2) (pv 1)) (pa_cons (pv 3) (pa_cons (pv 4) (pa_cons (pv 5) pa_nil))))))))), ?_⟩
  have bl : bs.length = rs.length := rns.length
  refine ⟨_, rfl, R, rfl, ⟨_, SqL.of hR⟩, fun M nM => ?_⟩
  refine lc_list (K := K) (a := R) (xs := bs.map V.ref) (fun i H' => ∃ ds : List Addr, H' M = some (.lst (ds.map V.ref)) ∧ RnsAt H' ds ((rs.take i).map (wgt k)) ∧ Same H H') ⟨[], upd_same, .nil, same_new nM _⟩ (fun i H' _ h => by obtain ⟨_, _, _, h⟩ := h; exact SqL.of (h _ _ hR)) ?_ ?_
  · rintro i v H' ev ⟨ds, hM, rd, s1⟩
    rw [List.getElem?_map] at ev
    cases eb : bs[i]? with
    | none => rw [eb] at ev; cases ev
    | some b =>
      rw [eb] at ev
      obtain rfl := Option.some.inj ev
      obtain ⟨r, er, hb⟩ := paired_get rns eb
      have dl : ds.length ≤ 4000 := by
        have a1 : ds.length = _ := rd.length
        rw [List.length_map, List.length_take] at a1
        omega
      have sz : (ds.map V.ref).length < sizeLine := by rw [List.length_map]; exact Nat.lt_of_le_of_lt dl (by decide)
      have rw1 := wb r (List.mem_of_getElem? er)
      refine ⟨b, _, rfl, SqT.of (s1 _ _ hb), rfl, _, _, rfl, _, _, rfl, _, _, rfl, _, _, rfl, rfl, ?_⟩
      refine ⟨rfl, _, rfl, _, rfl, _, _, rfl, rfl, wide_mul (a := 64) (b := 64) (by omega) (by omega) (by decide) (by decide) (by decide), _, rfl, _, rfl, _, rfl, by show 4 ≤ sizeLine; decide, fun u nu => ?_⟩
      exact run_put hM rd s1 nu nM er sz
  · rintro H' ⟨ds, hM, rd, s1⟩
    rw [List.length_map, bl, List.take_length] at rd
    exact q M ds H' hM rd s1
end
abbrev s_mirrored : Stmt := (topS 49)
abbrev N_sc_mirrored : List Str := ["runs", "weight", "post", "stride", "many"]
abbrev P_mirrored : List Str := ["runs"]
theorem sc_mirrored : FnScope N_sc_mirrored P_mirrored (defScope s_mirrored) := ⟨rfl, rfl, rfl, by decide +kernel, rfl, by decide +kernel, by decide +kernel⟩
def spMi (K : PySem.W.Frag) : Sp := fun vs H Q _ => ∃ (R : Addr) (bs : List Addr) (rs : List Rn), vs = [.ref R] ∧ H R = some (.lst (bs.map V.ref)) ∧ RnsAt H bs rs ∧ rs.length ≤ 4000 ∧
  ∀ R' ds H', H' R' = some (.lst (ds.map V.ref)) → RnsAt H' ds (rs.map mir) → Same H H' → Q (.ref R') H'
section
variable {P : Program} {w : World} {K : PySem.W.Frag} {mg : Str → Option Value} {base : Heap} {C : Addr}
theorem ok_mirR (D : Dfn K mg "mirrored" s_mirrored P_mirrored) : Cal P w K mg base 1 "mirrored" P_mirrored (spMi K) := by
  refine D.cal sc_mirrored (fun vs H Q E h => ?_) fun f cdv A outer s H vs Q E hr h => ?_
  · obtain ⟨R, _, _, rfl, _⟩ := h
    rfl
  obtain ⟨R, bs, rs, rfl, hR, rns, few, q⟩ := h
  refine ⟨_, (pss_one (ps_ret (pe_lc (own := [("weight", 1), ("post", 2), ("stride", 3), ("many", 4)]) (g := gTup K 4 (gCons (gName 1) (gCons (gName 2) (gCons (gName 3) (gCons (gName 4) gNil))))) (tt := tYes) rfl sc_mirrored.nd (pi_list (pv 0)) (blkOk_by (N := N_sc_mirrored) (sc := defScope s_mirrored) (by decide +kernel)) (fun _ _ _ _ _ => pg_tup rfl (pgs_cons (pg_name (i := 1) sc_mirrored.nd rfl (Or.inl rfl)) (pgs_cons (pg_name (i := 2) sc_mirrored.nd rfl (Or.inl rfl)) (pgs_cons (pg_name (i := 3) sc_mirrored.nd rfl (Or.inl rfl)) (pgs_cons (pg_name (i := 4) sc_mirrored.nd rfl (Or.inl rfl)) pgs_nil))))) (fun _ _ _ _ _ => pts_nil) (fun _ _ _ _ _ => (pe_tup (pa_cons (pv 1) (pa_cons (pe_un un_neg (pv 2)) (pa_cons (pe_un un_neg (pv 3)) (pa_cons (pv 4) pa_nil))))))))), ?_⟩
  have bl : bs.length = rs.length := rns.length
  refine ⟨_, rfl, R, rfl, ⟨_, SqL.of hR⟩, fun M nM => ?_⟩
  refine lc_list (K := K) (a := R) (xs := bs.map V.ref) (fun i H' => ∃ ds : List Addr, H' M = some (.lst (ds.map V.ref)) ∧ RnsAt H' ds ((rs.take i).map mir) ∧ Same H H') ⟨[], upd_same, .nil, same_new nM _⟩ (fun i H' _ h => by obtain ⟨_, _, _, h⟩ := h; exact SqL.of (h _ _ hR)) ?_ ?_
  · rintro i v H' ev ⟨ds, hM, rd, s1⟩
    rw [List.getElem?_map] at ev
    cases eb : bs[i]? with
    | none => rw [eb] at ev; cases ev
    | some b =>
      rw [eb] at ev
      obtain rfl := Option.some.inj ev
      obtain ⟨r, er, hb⟩ := paired_get rns eb
      have dl : ds.length ≤ 4000 := by
        have a1 : ds.length = _ := rd.length
        rw [List.length_map, List.length_take] at a1
        omega
      have sz : (ds.map V.ref).length < sizeLine := by rw [List.length_map]; exact Nat.lt_of_le_of_lt dl (by decide)
      refine ⟨b, _, rfl, SqT.of (s1 _ _ hb), rfl, _, _, rfl, _, _, rfl, _, _, rfl, _, _, rfl, rfl, ?_⟩
      refine ⟨rfl, _, rfl, _, rfl, _, rfl, _, rfl, _, rfl, _, rfl, by show 4 ≤ sizeLine; decide, fun u nu => ?_⟩
      exact run_put hM rd s1 nu nM er sz
  · rintro H' ⟨ds, hM, rd, s1⟩
    rw [List.length_map, bl, List.take_length] at rd
    exact q M ds H' hM rd s1
end
def outR (rs : List Rn) (post : Int) (left : Bool) : List Rn := ⟨1, post, if left then -1 else 1, none⟩ :: rs.map (wgt (-1))
abbrev s_without : Stmt := (topS 47)
abbrev N_sc_without : List Str := ["runs", "post", "left"]
abbrev P_without : List Str := ["runs", "post", "left"]
theorem sc_without : FnScope N_sc_without P_without (defScope s_without) := ⟨rfl, rfl, rfl, by decide +kernel, rfl, by decide +kernel, by decide +kernel⟩
def spOut (K : PySem.W.Frag) : Sp := fun vs H Q _ => ∃ (R : Addr) (bs : List Addr) (rs : List Rn) (post : Int) (left : Bool), vs = [.ref R, .int post, .bl left] ∧ H R = some (.lst (bs.map V.ref)) ∧ RnsAt H bs rs ∧ (∀ r ∈ rs, r.w.natAbs ≤ 10) ∧ rs.length ≤ 3000 ∧
  ∀ R' ds H', H' R' = some (.lst (ds.map V.ref)) → RnsAt H' ds (outR rs post left) → Same H H' → Q (.ref R') H'
section
variable {P : Program} {w : World} {K : PySem.W.Frag} {mg : Str → Option Value} {base : Heap} {C : Addr}
theorem ok_out (D : Dfn K mg "without" s_without P_without) (CWt : Cal P w K mg base 1 "weighted" P_weighted (spWt K)) : Cal P w K mg base 2 "without" P_without (spOut K) := by
  refine D.cal sc_without (fun vs H Q E h => ?_) fun f cdv A outer s H vs Q E hr h => ?_
  · obtain ⟨R, _, _, _, _, rfl, _⟩ := h
    rfl
  obtain ⟨R, bs, rs, post, left, rfl, hR, rns, wb, few, q⟩ := h
  refine ⟨_, (pss_one (ps_ret (pe_op op_cat (pe_lst (pa_cons (pe_tup (pa_cons pe_int (pa_cons (pv 1) (pa_cons (pe_ifExp (pt_val (pv 2)) (pe_un un_neg pe_int) pe_int) (pa_cons pe_non pa_nil))))) pa_nil)) (pe_cal CWt (hr.mono (by decide)) (pa_cons (pv 0) (pa_cons (pe_un un_neg pe_int) pa_nil)))))), ?_⟩
  have rest : ∀ (t M : Addr) (H1 H2 : Hp) (R' : Addr) (ds : List Addr) (c : Addr), H1 t = some (.tup [.int 1, .int post, .int (if left then -1 else 1), .non]) → H1 M = some (.lst [.ref t]) → Same H H1 → Same H1 H2 → H2 R' = some (.lst (ds.map V.ref)) → RnsAt H2 ds (rs.map (wgt (-1))) → H2 c = none → Q (.ref c) (upd H2 c (.lst ([V.ref t] ++ ds.map V.ref))) := fun t M H1 H2 R' ds c ht hM s1 s2 hR2 rd nc => by
    refine q c (t :: ds) _ upd_same ?_ ((s1.trans s2).trans (same_new nc _))
    have sc := same_new nc (.lst ([V.ref t] ++ ds.map V.ref))
    exact .cons (sc _ _ (s2 _ _ ht)) (Paired.mapP rd fun _ _ h => sc _ _ h)
  have dl : ∀ (ds : List Addr) (H2 : Hp), RnsAt H2 ds (rs.map (wgt (-1))) → ([V.ref R] : List V).length + (ds.map V.ref).length ≤ sizeLine := fun ds H2 rd => by
    have a1 : ds.length = _ := rd.length
    rw [List.length_map] at a1
    rw [List.length_map, a1]
    exact Nat.le_trans (show 1 + rs.length ≤ 4000 by omega) (by decide)
  cases left with
  | true =>
    refine ⟨_, rfl, _, rfl, true, rfl, iteT ?_⟩
    refine ⟨_, rfl, by show 4 ≤ sizeLine; decide, fun t nt => ?_⟩
    refine ⟨by show 1 ≤ sizeLine; decide, fun M nM => ?_⟩
    have st := same_new nt (.tup [.int 1, .int post, .int (if true then -1 else 1), .non])
    have sM := same_new nM (.lst [.ref t])
    refine ⟨_, rfl, _, rfl, R, bs, rs, -1, rfl, sM _ _ (st _ _ hR), Paired.mapP rns (fun _ _ h => sM _ _ (st _ _ h)), wb, by decide, by omega, fun R2 ds H2 hR2 rd s2 => ?_⟩
    exact ⟨_, _, _, _, rfl, rfl, s2 _ _ upd_same, hR2, dl ds H2 rd, fun c nc => rest t M _ H2 R2 ds c (sM _ _ upd_same) upd_same (st.trans sM) s2 hR2 rd nc⟩
  | false =>
    refine ⟨_, rfl, _, rfl, false, rfl, iteF ?_⟩
    refine ⟨by show 4 ≤ sizeLine; decide, fun t nt => ?_⟩
    refine ⟨by show 1 ≤ sizeLine; decide, fun M nM => ?_⟩
    have st := same_new nt (.tup [.int 1, .int post, .int (if false then -1 else 1), .non])
    have sM := same_new nM (.lst [.ref t])
    refine ⟨_, rfl, _, rfl, R, bs, rs, -1, rfl, sM _ _ (st _ _ hR), Paired.mapP rns (fun _ _ h => sM _ _ (st _ _ h)), wb, by decide, by omega, fun R2 ds H2 hR2 rd s2 => ?_⟩
    exact ⟨_, _, _, _, rfl, rfl, s2 _ _ upd_same, hR2, dl ds H2 rd, fun c nc => rest t M _ H2 R2 ds c (sM _ _ upd_same) upd_same (st.trans sM) s2 hR2 rd nc⟩
end
def farV (r : Rn) : Int := match r.m with
  | none => r.p
  | some k => max r.p (r.p + (k - 1) * r.s)
def farR (post : Int) : List Rn → Int
  | [] => post
  | r :: rs => max (farV r) (farR post rs)
theorem far_mem {post : Int} : ∀ rs : List Rn, farR post rs ∈ post :: rs.map farV
  | [] => List.mem_cons_self
  | r :: rs => by
    have ih := far_mem (post := post) rs
    show max (farV r) (farR post rs) ∈ post :: farV r :: rs.map farV
    by_cases c : farV r ≤ farR post rs
    · rw [Int.max_eq_right c]
      rcases List.mem_cons.mp ih with e | h
      · rw [e]
        exact List.mem_cons_self
      · exact List.mem_cons_of_mem _ (List.mem_cons_of_mem _ h)
    · rw [Int.max_eq_left (by omega)]
      exact List.mem_cons_of_mem _ List.mem_cons_self
theorem far_le {post : Int} : ∀ rs : List Rn, ∀ z ∈ post :: rs.map farV, z ≤ farR post rs
  | [], z, h => by
    obtain rfl := List.mem_singleton.mp h
    exact Int.le_refl _
  | r :: rs, z, h => by
    have ih := far_le (post := post) rs
    show z ≤ max (farV r) (farR post rs)
    rcases List.mem_cons.mp h with rfl | h
    · have := ih z List.mem_cons_self
      omega
    · rcases List.mem_cons.mp h with rfl | h
      · omega
      · have := ih z (List.mem_cons_of_mem _ h)
        omega
theorem far_uniq {post m : Int} {rs : List Rn} (h : m ∈ post :: rs.map farV) (le : ∀ z ∈ post :: rs.map farV, z ≤ m) : m = farR post rs := Int.le_antisymm (far_le rs m h) (le _ (far_mem rs))
/-- runs that are not too great to be looked through -/
structure RnOk (r : Rn) : Prop where
  sn : r.s ≠ 0
  sb : r.s.natAbs ≤ 10 ^ 37
  pb : r.p.natAbs ≤ 10 ^ 80
  wb : r.w.natAbs ≤ 10
  mb : ∀ k, r.m = some k → k.natAbs ≤ 10 ^ 60 ∧ ((k - 1) * r.s).natAbs ≤ 10 ^ 80
theorem farV_bd {r : Rn} (h : RnOk r) : (farV r).natAbs ≤ 2 * 10 ^ 80 := by
  have h1 := h.pb
  have h2 := h.sb
  unfold farV
  cases e : r.m with
  | none => show r.p.natAbs ≤ _; omega
  | some k =>
    have h3 := h.mb k e
    show (max r.p (r.p + (k - 1) * r.s)).natAbs ≤ _
    have z := h3.2
    omega
theorem far_bd {post : Int} (hp : post.natAbs ≤ 2 * 10 ^ 80) : ∀ rs : List Rn, (∀ r ∈ rs, RnOk r) → (farR post rs).natAbs ≤ 2 * 10 ^ 80
  | [], _ => hp
  | r :: rs, h => by
    have a := farV_bd (h r List.mem_cons_self)
    have b := far_bd hp rs fun x hx => h x (List.mem_cons_of_mem _ hx)
    show (max (farV r) (farR post rs)).natAbs ≤ _
    omega
abbrev s_far_post : Stmt := (topS 50)
abbrev N_sc_far_post : List Str := ["runs", "post", "ends", "_", "start", "stride", "many"]
abbrev P_far_post : List Str := ["runs", "post"]
theorem sc_far_post : FnScope N_sc_far_post P_far_post (defScope s_far_post) := ⟨rfl, rfl, rfl, by decide +kernel, rfl, by decide +kernel, by decide +kernel⟩
def spFarP (K : PySem.W.Frag) : Sp := fun vs H Q _ => ∃ (R : Addr) (bs : List Addr) (rs : List Rn) (post : Int), vs = [.ref R, .int post] ∧ H R = some (.lst (bs.map V.ref)) ∧ RnsAt H bs rs ∧ (∀ r ∈ rs, RnOk r) ∧ rs.length ≤ 4000 ∧
  ∀ H', Same H H' → Q (.int (farR post rs)) H'
section
variable {P : Program} {w : World} {K : PySem.W.Frag} {mg : Str → Option Value} {base : Heap} {C : Addr}
theorem ok_farP (D : Dfn K mg "far_post" s_far_post P_far_post) (B : Blt mg) : Cal P w K mg base 1 "far_post" P_far_post (spFarP K) := by
  refine D.cal sc_far_post (fun vs H Q E h => ?_) fun f cdv A outer s H vs Q E hr h => ?_
  · obtain ⟨R, _, _, _, rfl, _⟩ := h
    rfl
  obtain ⟨R, bs, rs, post, rfl, hR, rns, ok, few, q⟩ := h
  refine ⟨_, (pss_cons (ps_setLc (i := 2) (own := [("_", 3), ("start", 4), ("stride", 5), ("many", 6)]) (g := gTup K 4 (gCons (gName 3) (gCons (gName 4) (gCons (gName 5) (gCons (gName 6) gNil))))) (tt := tYes) rfl sc_far_post.nd rfl rfl (sw_true rfl rfl rfl (by decide +kernel)) (pi_list (pv 0)) (blkOk_by (N := N_sc_far_post) (sc := defScope s_far_post) (by decide +kernel)) (fun _ _ _ _ _ => pg_tup rfl (pgs_cons (pg_name (i := 3) sc_far_post.nd rfl (Or.inl rfl)) (pgs_cons (pg_name (i := 4) sc_far_post.nd rfl (Or.inl rfl)) (pgs_cons (pg_name (i := 5) sc_far_post.nd rfl (Or.inl rfl)) (pgs_cons (pg_name (i := 6) sc_far_post.nd rfl (Or.inl rfl)) pgs_nil))))) (fun _ _ _ _ _ => pts_nil) (fun _ _ _ _ _ => (pe_ifExp (pt_cmpR op_isN (pv 6) pe_non (nomark _)) (pv 4) (pe_callB (call_max2 rfl) rfl B.max_ (by decide +kernel) (pa_cons (pv 4) (pa_cons (pe_op op_add (pv 4) (pe_op op_mulW (pe_op op_sub (pv 6) pe_int) (pv 5))) pa_nil)))))) (pss_one (ps_ret (pe_callB (cr_maxI rfl hr.units) rfl B.max_ (by decide +kernel) (pa_cons (pe_op op_cat (pe_lst (pa_cons (pv 1) pa_nil)) (pv 2)) pa_nil))))), ?_⟩
  have bl : bs.length = rs.length := rns.length
  refine ⟨_, rfl, R, rfl, ⟨_, SqL.of hR⟩, fun M nM => ?_⟩
  refine lc_list (K := K) (a := R) (xs := bs.map V.ref) (fun i H' => H' M = some (.lst (((rs.take i).map farV).map V.int)) ∧ Same H H') ⟨upd_same, same_new nM _⟩ (fun i H' _ h => SqL.of (h.2 _ _ hR)) ?_ ?_
  · rintro i v H' ev ⟨hM, s1⟩
    rw [List.getElem?_map] at ev
    cases eb : bs[i]? with
    | none => rw [eb] at ev; cases ev
    | some b =>
      rw [eb] at ev
      obtain rfl := Option.some.inj ev
      obtain ⟨r, er, hb⟩ := paired_get rns eb
      have hi := (List.getElem?_eq_some_iff.mp er).1
      have sz : (((rs.take i).map farV).map V.int).length < sizeLine := by
        rw [List.length_map, List.length_map, List.length_take]
        exact Nat.lt_of_le_of_lt (show min i rs.length ≤ 4000 by omega) (by decide)
      refine ⟨b, _, rfl, SqT.of (s1 _ _ hb), rfl, _, _, rfl, _, _, rfl, _, _, rfl, _, _, rfl, rfl, ?_⟩
      have fin : ∀ z : Int, z = farV r → ∃ acc, H' M = some (HO.lst acc) ∧ acc.length < sizeLine ∧ upd H' M (HO.lst (acc ++ [V.int z])) M = some (HO.lst (((rs.take (i + 1)).map farV).map V.int)) ∧ Same H (upd H' M (HO.lst (acc ++ [V.int z]))) := fun z ez => by
        refine ⟨_, hM, sz, ?_, sameAt s1 nM⟩
        rw [upd_same, take_snoc er, List.map_append, List.map_append, ez]
        rfl
      have okr := ok r (List.mem_of_getElem? er)
      obtain ⟨rw_, rp, rst, rm⟩ := r
      refine ⟨rfl, _, rfl, rfl, _, rfl, ?_⟩
      cases rm with
      | none => exact iteDT rfl ⟨_, rfl, fin _ rfl⟩
      | some k =>
        have mb := okr.mb k rfl
        have sb := okr.sb
        have m1 := mb.1
        refine iteDF (fun z => by cases z) ⟨_, rfl, _, rfl, _, rfl, _, _, rfl, rfl, _, rfl, _, _, rfl, rfl, wide_mul (a := 250) (b := 250) (by omega) (by have : rst.natAbs ≤ 10 ^ 37 := sb; omega) (by decide) (by decide) (by decide), _, _, rfl, rfl, _, _, rfl, fin _ ?_⟩
        show (if rp + (k - 1) * rst > rp then rp + (k - 1) * rst else rp) = max rp (rp + (k - 1) * rst)
        split <;> omega
  · rintro H' ⟨hM, s1⟩
    rw [List.length_map, bl, List.take_length] at hM
    refine ⟨_, rfl, by show 1 ≤ sizeLine; decide, fun c nc => ?_⟩
    have sc := same_new nc (.lst [V.int post])
    refine ⟨_, rfl, c, M, _, _, rfl, rfl, upd_same, sc _ _ hM, ?_, fun c2 nc2 => ?_⟩
    · rw [List.length_map, List.length_map]
      exact Nat.le_trans (show 1 + rs.length ≤ 4001 by omega) (by decide)
    · refine ⟨c2, post :: rs.map farV, rfl, SqL.of upd_same, (fun z => by cases z), fun m hm le => ?_⟩
      rw [far_uniq hm le]
      exact q _ ((s1.trans sc).trans (same_new nc2 _))
end
/-- the post with an index among the posts of a set -/
def Nth (cnt : Int → Int) (post high index : Int) : Option Int → Prop
  | none => cnt high ≤ index
  | some x => post ≤ x ∧ x ≤ high ∧ index < cnt x ∧ (x = post ∨ cnt (x - 1) ≤ index)
def hiR (rs : List Rn) (post index : Int) : Int := farR post rs + (index + 1) * 10 ^ 36
abbrev s__post_to_the_right : Stmt := (topS 55)
abbrev N_sc__post_to_the_right : List Str := ["runs", "post", "index", "low", "high", "middle"]
abbrev P__post_to_the_right : List Str := ["runs", "post", "index"]
theorem sc__post_to_the_right : FnScope N_sc__post_to_the_right P__post_to_the_right (defScope s__post_to_the_right) := ⟨rfl, rfl, rfl, by decide +kernel, rfl, by decide +kernel, by decide +kernel⟩
def spRight (K : PySem.W.Frag) : Sp := fun vs H Q _ => ∃ (R : Addr) (bs : List Addr) (rs : List Rn) (post index : Int), vs = [.ref R, .int post, .int index] ∧ H R = some (.lst (bs.map V.ref)) ∧ RnsAt H bs rs ∧ (∀ r ∈ rs, RnOk r) ∧ rs.length ≤ 4000 ∧ post.natAbs ≤ 2 * 10 ^ 80 ∧ 0 ≤ index ∧ index ≤ 10 ^ 40 ∧
  ∀ o H', Nth (sumIn rs post) post (hiR rs post index) index o → Same H H' → Q (optV o) H'
section
variable {P : Program} {w : World} {K : PySem.W.Frag} {mg : Str → Option Value} {base : Heap} {C : Addr}
set_option maxHeartbeats 16000000 in
theorem ok_right (D : Dfn K mg "_post_to_the_right" s__post_to_the_right P__post_to_the_right) {uW : Value} (hW : mg "WINDOW" = some uW) (rW : L2.RelV (.int (10 ^ 36)) uW) (CFar : Cal P w K mg base 1 "far_post" P_far_post (spFarP K)) (CCB : Cal P w K mg base 3 "count_between" P_count_between spCB) : Cal P w K mg base 4 "_post_to_the_right" P__post_to_the_right (spRight K) := by
  refine D.cal sc__post_to_the_right (fun vs H Q E h => ?_) fun f cdv A outer s H vs Q E hr h => ?_
  · obtain ⟨R, _, _, _, _, rfl, _⟩ := h
    rfl
  obtain ⟨R, bs, rs, post, index, rfl, hR, rns, ok, few, pb, i0, i1, q⟩ := h
  refine ⟨_, (pss_cons (ps_par (i := 3) (j := 4) rfl sc__post_to_the_right.nd rfl rfl (by decide) rfl rfl (pa_cons (pv 1) (pa_cons (pe_op op_add (pe_cal CFar (hr.mono (by decide)) (pa_cons (pv 0) (pa_cons (pv 1) pa_nil))) (pe_op op_mulW (pe_op op_add (pv 2) pe_int) (pe_glob (v := .int (10 ^ 36)) rfl hW rW))) pa_nil)) (by rfl)) (pss_cons (ps_if (pt_cmpR op_le (pe_cal CCB (hr.mono (by decide)) (pa_cons (pv 0) (pa_cons (pv 1) (pa_cons (pv 4) pa_nil)))) (pv 2) (nomark _)) (pss_one (ps_ret pe_non)) pss_nil) (pss_cons (ps_while PassesOwn.never (pt_cmpR op_lt (pv 3) (pv 4) (nomark _)) (pss_cons (ps_set (i := 5) sc__post_to_the_right.nd rfl (Or.inl rfl) (pe_op op_fdivW (pe_op op_add (pv 3) (pv 4)) pe_int)) (pss_one (ps_if (pt_cmpR op_gt (pe_cal CCB (hr.mono (by decide)) (pa_cons (pv 0) (pa_cons (pv 1) (pa_cons (pv 5) pa_nil)))) (pv 2) (nomark _)) (pss_one (ps_set (i := 4) sc__post_to_the_right.nd rfl (Or.inl rfl) (pv 5))) (pss_one (ps_set (i := 3) sc__post_to_the_right.nd rfl (Or.inl rfl) (pe_op op_add (pv 5) pe_int))))))) (pss_one (ps_ret (pv 3)))))), ?_⟩
  have fb := far_bd pb rs ok
  have fp : post ≤ farR post rs := far_le rs post List.mem_cons_self
  have runOk : ∀ {l : Int}, l.natAbs ≤ 10 ^ 81 → ∀ r ∈ rs, RunOk r.p r.s post l ∧ r.w.natAbs ≤ 10 := fun hl r hr => by
    have k := ok r hr
    have k1 := k.pb
    exact ⟨⟨k.sn, k.sb, by omega, by omega, hl⟩, k.wb⟩
  refine ⟨_, rfl, _, rfl, _, rfl, R, bs, rs, post, rfl, hR, rns, ok, few, fun H1 s1 => ?_⟩
  refine ⟨_, rfl, _, _, rfl, rfl, _, _, rfl, rfl, wide_mul (a := 250) (b := 250) (by omega) (by decide) (by decide) (by decide) (by decide), _, _, rfl, rfl, _, _, rfl, ?_⟩
  obtain ⟨hi0, ehi⟩ : ∃ hi0, farR post rs + (index + 1) * 10 ^ 36 = hi0 := ⟨_, rfl⟩
  have hib : hi0.natAbs ≤ 10 ^ 81 ∧ post ≤ hi0 := by omega
  have eH : hiR rs post index = hi0 := ehi
  rw [eH] at q
  refine ⟨_, rfl, _, rfl, _, rfl, R, bs, rs, post, farR post rs + (index + 1) * 10 ^ 36, rfl, s1 _ _ hR, Paired.mapP rns (fun _ _ h => s1 _ _ h), runOk (by rw [ehi]; exact hib.1), by omega, fun H2 s2 => ?_⟩
  rw [ehi]
  have s12 := s1.trans s2
  refine ⟨_, rfl, _, _, rfl, rfl, _, rfl, ?_⟩
  by_cases c : sumIn rs post hi0 ≤ index
  · exact iteDT c (q none H2 c s12)
  refine iteDF c ?_
  refine while_ex (fun m σ H3 => ∃ (lo hi : Int) (o5 : Option V), m = (hi - lo).toNat ∧ σ = [some (.ref R), some (.int post), some (.int index), some (.int lo), some (.int hi), o5] ∧ post ≤ lo ∧ lo ≤ hi ∧ hi ≤ hi0 ∧ index < sumIn rs post hi ∧ (lo = post ∨ sumIn rs post (lo - 1) ≤ index) ∧ Same H H3) ((hi0 - post : Int)).toNat
    ⟨post, hi0, none, rfl, by rw [← ehi]; rfl, Int.le_refl _, hib.2, Int.le_refl _, by omega, .inl rfl, s12⟩ ?_ (fun σ H Q Q' k h => ?_)
  · rintro m σ H3 ⟨lo, hi, o5, rfl, rfl, b0, b1, b2, up, dn, s3⟩
    refine ⟨_, rfl, _, rfl, _, _, rfl, rfl, _, rfl, ?_⟩
    by_cases c2 : lo < hi
    · refine iteDT c2 ?_
      refine ⟨_, rfl, _, rfl, _, _, rfl, rfl, _, _, rfl, rfl, wide_div (b := 200) (by decide) (by decide) (by decide) (by decide), ?_⟩
      have m0 : lo ≤ (lo + hi) / 2 := by omega
      have m1 : (lo + hi) / 2 < hi := by omega
      refine ⟨_, rfl, _, rfl, _, rfl, R, bs, rs, post, (lo + hi) / 2, rfl, s3 _ _ hR, Paired.mapP rns (fun _ _ h => s3 _ _ h), runOk (by omega), by omega, fun H4 s4 => ?_⟩
      have s34 := s3.trans s4
      refine ⟨_, rfl, _, _, rfl, rfl, _, rfl, ?_⟩
      refine ite2 (fun c3 => ?_) (fun c3 => ?_)
      · have c3 : index < sumIn rs post ((lo + hi) / 2) := of_decide_eq_true c3
        refine ⟨_, rfl, ?_⟩
        exact ⟨((lo + hi) / 2 - lo).toNat, by omega, lo, (lo + hi) / 2, _, rfl, rfl, b0, m0, by omega, c3, dn, s34⟩
      · have c3 : ¬ index < sumIn rs post ((lo + hi) / 2) := fun z => c3 (decide_eq_true z)
        refine ⟨_, rfl, _, _, rfl, rfl, ?_⟩
        refine ⟨(hi - ((lo + hi) / 2 + 1)).toNat, by omega, (lo + hi) / 2 + 1, hi, _, rfl, rfl, by omega, by omega, b2, up, .inr ?_, s34⟩
        rw [show (lo + hi) / 2 + 1 - 1 = (lo + hi) / 2 by omega]
        omega
    · refine iteDF c2 ?_
      obtain rfl : lo = hi := by omega
      exact ⟨_, rfl, q (some lo) H3 ⟨b0, b2, up, dn⟩ s3⟩
  · obtain ⟨v, hv, u, hu, x, y, e1, e2, b, hb, q⟩ := h
    exact ⟨v, hv, u, hu, x, y, e1, e2, b, hb, k _ _ q⟩
end
def sgn (left : Bool) (x : Int) : Int := if left then -x else x
def sideR (left : Bool) (rs : List Rn) : List Rn := if left then rs.map mir else rs
abbrev s_post_at : Stmt := (topS 53)
abbrev N_sc_post_at : List Str := ["runs", "post", "index", "left", "found"]
abbrev P_post_at : List Str := ["runs", "post", "index", "left"]
theorem sc_post_at : FnScope N_sc_post_at P_post_at (defScope s_post_at) := ⟨rfl, rfl, rfl, by decide +kernel, rfl, by decide +kernel, by decide +kernel⟩
def spPostAt (K : PySem.W.Frag) : Sp := fun vs H Q _ => ∃ (R : Addr) (bs : List Addr) (rs : List Rn) (post index : Int) (left : Bool), vs = [.ref R, .int post, .int index, .bl left] ∧ H R = some (.lst (bs.map V.ref)) ∧ RnsAt H bs rs ∧ (∀ r ∈ rs, RnOk r) ∧ rs.length ≤ 4000 ∧ post.natAbs ≤ 2 * 10 ^ 80 ∧ 0 ≤ index ∧ index ≤ 10 ^ 40 ∧
  ∀ o H', Nth (sumIn (sideR left rs) (sgn left post)) (sgn left post) (hiR (sideR left rs) (sgn left post) index) index o → Same H H' → Q (optV (o.map (sgn left))) H'
section
variable {P : Program} {w : World} {K : PySem.W.Frag} {mg : Str → Option Value} {base : Heap} {C : Addr}
theorem ok_postAt (D : Dfn K mg "post_at" s_post_at P_post_at) (CMi : Cal P w K mg base 1 "mirrored" P_mirrored (spMi K)) (CRi : Cal P w K mg base 4 "_post_to_the_right" P__post_to_the_right (spRight K)) : Cal P w K mg base 5 "post_at" P_post_at (spPostAt K) := by
  refine D.cal sc_post_at (fun vs H Q E h => ?_) fun f cdv A outer s H vs Q E hr h => ?_
  · obtain ⟨R, _, _, _, _, _, rfl, _⟩ := h
    rfl
  obtain ⟨R, bs, rs, post, index, left, rfl, hR, rns, ok, few, pb, i0, i1, q⟩ := h
  refine ⟨_, (pss_cons (ps_if (pt_not (pt_val (pv 3))) (pss_one (ps_ret (pe_cal CRi (hr.mono (by decide)) (pa_cons (pv 0) (pa_cons (pv 1) (pa_cons (pv 2) pa_nil)))))) pss_nil) (pss_cons (ps_set (i := 4) sc_post_at.nd rfl (Or.inl rfl) (pe_cal CRi (hr.mono (by decide)) (pa_cons (pe_cal CMi (hr.mono (by decide)) (pa_cons (pv 0) pa_nil)) (pa_cons (pe_un un_neg (pv 1)) (pa_cons (pv 2) pa_nil))))) (pss_one (ps_ret (pe_ifExp (pt_cmpR op_isN (pv 4) pe_non (nomark _)) pe_non (pe_un un_neg (pv 4))))))), ?_⟩
  cases left with
  | false =>
    refine ⟨_, rfl, false, rfl, iteT ?_⟩
    refine ⟨_, rfl, _, rfl, _, rfl, R, bs, rs, post, index, rfl, hR, rns, ok, few, pb, i0, i1, fun o H1 nth s1 => ?_⟩
    have z := q o H1 nth s1
    rw [show o.map (sgn false) = o by cases o <;> rfl] at z
    exact z
  | true =>
    refine ⟨_, rfl, true, rfl, iteF ?_⟩
    refine ⟨_, rfl, R, bs, rs, rfl, hR, rns, few, fun R2 ds H1 hR2 rd s1 => ?_⟩
    refine ⟨_, rfl, _, rfl, _, rfl, R2, ds, rs.map mir, -post, index, rfl, hR2, rd, fun r hr => ?_, by rw [List.length_map]; exact few, by omega, i0, i1, fun o H2 nth s2 => ?_⟩
    · obtain ⟨x, hx, rfl⟩ := List.mem_map.mp hr
      have k := ok x hx
      have k1 := k.pb
      have k2 := k.sb
      have k3 := k.sn
      exact ⟨by show -x.s ≠ 0; omega, by show (-x.s).natAbs ≤ _; omega, by show (-x.p).natAbs ≤ _; omega, k.wb, fun kk e => ⟨(k.mb kk e).1, by show ((kk - 1) * -x.s).natAbs ≤ _; rw [Int.mul_neg, Int.natAbs_neg]; exact (k.mb kk e).2⟩⟩
    · have z := q o H2 nth (s1.trans s2)
      refine ⟨_, rfl, rfl, _, rfl, ?_⟩
      cases o with
      | none => exact iteDT rfl z
      | some x => exact iteDF (fun z => by cases z) ⟨_, rfl, _, rfl, z⟩
end
end Ur
/-! PB: counted posts one by one: each post is painted once at most, so that counts grow by one at most. -/
namespace Ur
open PySem PySem.Spec PyProof.Rows L2
/-- the run has the post x -/
def OnRun (p s : Int) (m : Option Int) (x : Int) : Prop := ∃ n, 0 ≤ n ∧ (∀ k, m = some k → n < k) ∧ p + n * s = x
theorem ediv_step {b t : Int} (ht : 0 < t) : (∃ q, b + 1 = q * t ∧ (b + 1) / t = q ∧ b / t = q - 1) ∨ ((∀ q, b + 1 ≠ q * t) ∧ (b + 1) / t = b / t) := by
  have h1 : t * (b / t) + b % t = b := Int.mul_ediv_add_emod b t
  have r0 : 0 ≤ b % t := Int.emod_nonneg b (by omega)
  have r1 : b % t < t := Int.emod_lt_of_pos b ht
  by_cases c : b % t + 1 = t
  · left
    refine ⟨b / t + 1, ?_, ?_, by omega⟩
    · rw [Int.add_mul, Int.one_mul, Int.mul_comm]; omega
    · have e : b + 1 = 0 + (b / t + 1) * t := by rw [Int.add_mul, Int.one_mul, Int.mul_comm (b / t)]; omega
      rw [e, Int.add_mul_ediv_right _ _ (by omega), Int.zero_ediv, Int.zero_add]
  · right
    have e : b + 1 = (b % t + 1) + (b / t) * t := by rw [Int.mul_comm (b / t)]; omega
    have z : (b % t + 1) / t = 0 := Int.ediv_eq_zero_of_lt (by omega) (by omega)
    have d : (b + 1) / t = b / t := by rw [e, Int.add_mul_ediv_right _ _ (by omega), z, Int.zero_add]
    refine ⟨fun q hq => ?_, d⟩
    have m1 : (b + 1) % t = 0 := by rw [hq]; exact Int.mul_emod_left q t
    have m2 : (b + 1) % t = b % t + 1 := by rw [e, Int.add_mul_emod_self_right, Int.emod_eq_of_lt (by omega) (by omega)]
    omega
/-- one post more -/
theorem runIn_step {p s f x : Int} {m : Option Int} (sn : s ≠ 0) (h : f ≤ x + 1) : (OnRun p s m (x + 1) ∧ runIn p s m f (x + 1) = runIn p s m f x + 1) ∨ (¬ OnRun p s m (x + 1) ∧ runIn p s m f (x + 1) = runIn p s m f x) := by
  by_cases c : s < 0
  · have t0 : 0 < -s := by omega
    have key : ∀ l, runIn p s m f l = max 0 (nbM (-p) (-s) (-f) m - max 0 (-((l - p) / -s)) + 1) := fun l => by
      unfold runIn
      rw [if_pos c]
      unfold nbL
      rw [show -p - -l = l - p by omega]
    have hM : ∀ q, x + 1 - p = q * -s → -q ≤ (p - f) / -s := fun q hq => (Int.le_ediv_iff_mul_le t0).mpr (by rw [Int.neg_mul]; omega)
    rw [key, key]
    rcases ediv_step (b := x - p) t0 with ⟨q, e1, e2, e3⟩ | ⟨e1, e2⟩
    · have e1' : x + 1 - p = q * -s := by omega
      have e2' : (x + 1 - p) / -s = q := by rw [show x + 1 - p = x - p + 1 by omega]; exact e2
      have hq := hM q e1'
      have onI : OnRun p s m (x + 1) ↔ 0 ≤ -q ∧ ∀ k, m = some k → -q < k := by
        constructor
        · rintro ⟨n, n0, nk, e⟩
          have : n = -q := by
            have z : n * s = -q * s := by rw [Int.neg_mul, ← Int.mul_neg]; omega
            exact Int.eq_of_mul_eq_mul_right sn z
          subst this
          exact ⟨n0, nk⟩
        · rintro ⟨a, b⟩
          refine ⟨-q, a, b, ?_⟩
          rw [Int.neg_mul, ← Int.mul_neg]; omega
      rw [e2', e3, onI]
      cases m with
      | none =>
        have eM : nbM (-p) (-s) (-f) none = (p - f) / -s := by show (-f - -p) / -s = _; rw [show -f - -p = p - f by omega]
        rw [eM]
        by_cases z : 0 ≤ -q
        · exact .inl ⟨⟨z, fun k e => by cases e⟩, by omega⟩
        · exact .inr ⟨fun w => z w.1, by omega⟩
      | some k =>
        have eM : nbM (-p) (-s) (-f) (some k) = min ((p - f) / -s) (k - 1) := by show min ((-f - -p) / -s) (k - 1) = _; rw [show -f - -p = p - f by omega]
        rw [eM]
        by_cases z : 0 ≤ -q ∧ -q < k
        · exact .inl ⟨⟨z.1, fun k' e => by obtain rfl := Option.some.inj e; exact z.2⟩, by omega⟩
        · exact .inr ⟨fun w => z ⟨w.1, w.2 k rfl⟩, by omega⟩
    · have e2' : (x + 1 - p) / -s = (x - p) / -s := by rw [show x + 1 - p = x - p + 1 by omega]; exact e2
      rw [e2']
      refine .inr ⟨?_, rfl⟩
      rintro ⟨n, n0, nk, e⟩
      refine e1 (-n) ?_
      rw [Int.neg_mul_neg]; omega
  · have t0 : 0 < s := by omega
    have key : ∀ l, runIn p s m f l = max 0 (nbM p s l m - max 0 (-((p - f) / s)) + 1) := fun l => by
      unfold runIn
      rw [if_neg c]
      rfl
    have hL : ∀ q, x + 1 - p = q * s → -((p - f) / s) ≤ q := fun q hq => by
      have : -q ≤ (p - f) / s := (Int.le_ediv_iff_mul_le t0).mpr (by rw [Int.neg_mul]; omega)
      omega
    rw [key, key]
    rcases ediv_step (b := x - p) t0 with ⟨q, e1, e2, e3⟩ | ⟨e1, e2⟩
    · have e1' : x + 1 - p = q * s := by omega
      have e2' : (x + 1 - p) / s = q := by rw [show x + 1 - p = x - p + 1 by omega]; exact e2
      have hq := hL q e1'
      have onI : OnRun p s m (x + 1) ↔ 0 ≤ q ∧ ∀ k, m = some k → q < k := by
        constructor
        · rintro ⟨n, n0, nk, e⟩
          have : n = q := Int.eq_of_mul_eq_mul_right sn (by omega)
          subst this
          exact ⟨n0, nk⟩
        · rintro ⟨a, b⟩
          exact ⟨q, a, b, by omega⟩
      rw [onI]
      cases m with
      | none =>
        show (_ ∧ max 0 ((x + 1 - p) / s - _ + 1) = max 0 ((x - p) / s - _ + 1) + 1) ∨ (_ ∧ max 0 ((x + 1 - p) / s - _ + 1) = max 0 ((x - p) / s - _ + 1))
        rw [e2', e3]
        by_cases z : 0 ≤ q
        · exact .inl ⟨⟨z, fun k e => by cases e⟩, by omega⟩
        · exact .inr ⟨fun w => z w.1, by omega⟩
      | some k =>
        show (_ ∧ max 0 (min ((x + 1 - p) / s) (k - 1) - _ + 1) = max 0 (min ((x - p) / s) (k - 1) - _ + 1) + 1) ∨ (_ ∧ max 0 (min ((x + 1 - p) / s) (k - 1) - _ + 1) = max 0 (min ((x - p) / s) (k - 1) - _ + 1))
        rw [e2', e3]
        by_cases z : 0 ≤ q ∧ q < k
        · exact .inl ⟨⟨z.1, fun k' e => by obtain rfl := Option.some.inj e; exact z.2⟩, by omega⟩
        · exact .inr ⟨fun w => z ⟨w.1, w.2 k rfl⟩, by omega⟩
    · have e2' : (x + 1 - p) / s = (x - p) / s := by rw [show x + 1 - p = x - p + 1 by omega]; exact e2
      have eM : nbM p s (x + 1) m = nbM p s x m := by
        cases m with
        | none => exact e2'
        | some k => show min ((x + 1 - p) / s) (k - 1) = min ((x - p) / s) (k - 1); rw [e2']
      rw [eM]
      refine .inr ⟨?_, rfl⟩
      rintro ⟨n, n0, nk, e⟩
      exact e1 n (by omega)
/-- no post in an interval without posts -/
theorem runIn_empty {p s f l : Int} {m : Option Int} (sn : s ≠ 0) (h : l < f) : runIn p s m f l = 0 := by
  have key : ∀ {p s f l : Int}, 0 < s → l < f → max 0 (nbM p s l m - nbL p s f + 1) = 0 := fun {p s f l} t0 h => by
    have a : nbM p s l m ≤ (l - p) / s := by
      cases m with
      | none => exact Int.le_refl _
      | some m => exact Int.min_le_left ..
    have b : -((p - f) / s) ≤ nbL p s f := Int.le_max_right ..
    have c : (l - p) / s < -((p - f) / s) := by
      have h1 := Int.ediv_mul_le (l - p) (b := s) (by omega)
      have h2 := Int.ediv_mul_le (p - f) (b := s) (by omega)
      have h3 : ((l - p) / s + (p - f) / s) * s < 0 := by rw [Int.add_mul]; omega
      have h4 : (l - p) / s + (p - f) / s < 0 := by
        by_cases z : 0 ≤ (l - p) / s + (p - f) / s
        · have := Int.mul_nonneg z (show 0 ≤ s by omega)
          omega
        · omega
      omega
    omega
  unfold runIn
  by_cases c : s < 0
  · rw [if_pos c]
    exact key (by omega) (by omega)
  · rw [if_neg c]
    exact key (by omega) h
theorem sum_pairs {F G : Nat → Int} {Q : Nat → Prop} : ∀ n, (∀ j, j < n → (Q j ∧ F j = G j + 1) ∨ (¬ Q j ∧ F j = G j)) → (∀ i j, i < n → j < n → Q i → Q j → i = j) →
    ((∃ j, j < n ∧ Q j) ∧ ((List.range n).map F).sum = ((List.range n).map G).sum + 1) ∨ ((∀ j, j < n → ¬ Q j) ∧ ((List.range n).map F).sum = ((List.range n).map G).sum)
  | 0, _, _ => .inr ⟨fun j hj => absurd hj (Nat.not_lt_zero j), rfl⟩
  | n + 1, h, u => by
    have ih := sum_pairs (F := F) (G := G) (Q := Q) n (fun j hj => h j (by omega)) fun i j hi hj => u i j (by omega) (by omega)
    have hn := h n (Nat.lt_succ_self n)
    rw [List.range_succ, List.map_append, List.map_append, List.sum_append, List.sum_append]
    simp only [List.map_cons, List.map_nil, List.sum_cons, List.sum_nil]
    rcases ih with ⟨⟨j, hj, qj⟩, e⟩ | ⟨no, e⟩
    · rcases hn with ⟨qn, en⟩ | ⟨qn, en⟩
      · have := u j n (by omega) (by omega) qj qn
        omega
      · exact .inl ⟨⟨j, by omega, qj⟩, by omega⟩
    · rcases hn with ⟨qn, en⟩ | ⟨qn, en⟩
      · exact .inl ⟨⟨n, Nat.lt_succ_self n, qn⟩, by omega⟩
      · refine .inr ⟨fun j hj => ?_, by omega⟩
        by_cases z : j = n
        · subst z; exact qn
        · exact no j (by omega)
/-- how the number of counted posts grows with each post -/
theorem grow {A : Int → Int} {f : Int} (z : ∀ x, x < f → A x = 0) (st : ∀ x, f ≤ x + 1 → A x ≤ A (x + 1) ∧ A (x + 1) ≤ A x + 1) : ∀ (n : Nat) (x : Int), A x ≤ A (x + n) ∧ A (x + n) ≤ A x + n
  | 0, x => by rw [Int.natCast_zero, Int.add_zero, Int.add_zero]; omega
  | n + 1, x => by
    have ih := grow z st n x
    have e : x + ((n + 1 : Nat) : Int) = x + n + 1 := by omega
    rw [e]
    by_cases c : f ≤ x + n + 1
    · have := st (x + n) c
      omega
    · have a := z (x + n) (by omega)
      have b := z (x + n + 1) (by omega)
      omega
theorem grow_le {A : Int → Int} {f x y : Int} (z : ∀ x, x < f → A x = 0) (st : ∀ x, f ≤ x + 1 → A x ≤ A (x + 1) ∧ A (x + 1) ≤ A x + 1) (h : x ≤ y) : A x ≤ A y ∧ A y ≤ A x + (y - x) := by
  have g := grow z st (y - x).toNat x
  rw [show x + (((y - x).toNat : Nat) : Int) = y by omega] at g
  omega
theorem byC_paints {day : Option Int} {d n : Int} {c : Option Int} (h : ∀ k, byC day d c = some k → n < k) (n0 : 0 ≤ n) : ∀ k, c = some k → n < k := by
  rintro k rfl
  cases day with
  | none => exact h k rfl
  | some t =>
    have := h (min (max 0 (t - d + 1)) k) rfl
    omega
/-- by a day no post is painted twice -/
theorem on_once {qs : List Quad} {C : Nat → Option Int} {day : Option Int} {x : Int} (h : IsHist qs.length (dQ qs) (fSP qs) C) {i j : Nat} (hi : i < qs.length) (hj : j < qs.length) (a : OnRun (pQ qs i) (sQ qs i) (byC day (dQ qs i) (C i)) x) (b : OnRun (pQ qs j) (sQ qs j) (byC day (dQ qs j) (C j)) x) : i = j := by
  obtain ⟨n, n0, nk, e1⟩ := a
  obtain ⟨m, m0, mk, e2⟩ := b
  exact paint_once h hi hj n0 m0 (byC_paints nk n0) (byC_paints mk m0) (e1.trans e2.symm) (e2.trans e1.symm)
/-- how many posts from f to l are painted by a day, by the numbers of posts -/
def pntN (qs : List Quad) (Cn : Nat → Option Int) (day : Option Int) (f l : Int) (n : Nat) : Int := ((List.range n).map fun j => runIn (pQ qs j) (sQ qs j) (byC day (dQ qs j) (Cn j)) f l).sum
theorem pntN_snoc {qs : List Quad} {Cn : Nat → Option Int} {day : Option Int} {f l : Int} {n : Nat} : pntN qs Cn day f l (n + 1) = pntN qs Cn day f l n + runIn (pQ qs n) (sQ qs n) (byC day (dQ qs n) (Cn n)) f l := by
  unfold pntN
  rw [List.range_succ, List.map_append, List.sum_append]
  simp only [List.map_cons, List.map_nil, List.sum_cons, List.sum_nil]
  omega
/-- the post x is painted by a day -/
def PaintedBy (qs : List Quad) (C : Nat → Option Int) (day : Option Int) (x : Int) : Prop := ∃ j, j < qs.length ∧ OnRun (pQ qs j) (sQ qs j) (byC day (dQ qs j) (C j)) x
theorem pnt_step {qs : List Quad} {C : Nat → Option Int} {day : Option Int} {f x : Int} (h : IsHist qs.length (dQ qs) (fSP qs) C) (sn : ∀ q ∈ qs, q.2.2.2 ≠ 0) (hf : f ≤ x + 1) :
    (PaintedBy qs C day (x + 1) ∧ pntN qs C day f (x + 1) qs.length = pntN qs C day f x qs.length + 1) ∨ (¬ PaintedBy qs C day (x + 1) ∧ pntN qs C day f (x + 1) qs.length = pntN qs C day f x qs.length) := by
  have s := sum_pairs (F := fun j => runIn (pQ qs j) (sQ qs j) (byC day (dQ qs j) (C j)) f (x + 1)) (G := fun j => runIn (pQ qs j) (sQ qs j) (byC day (dQ qs j) (C j)) f x) (Q := fun j => OnRun (pQ qs j) (sQ qs j) (byC day (dQ qs j) (C j)) (x + 1)) qs.length (fun j hj => by
    obtain ⟨_, _, _, a4⟩ := q_at (List.getElem?_eq_getElem hj)
    exact runIn_step (by rw [a4]; exact sn _ (List.getElem_mem hj)) hf) fun i j hi hj => on_once h hi hj
  rcases s with ⟨⟨j, hj, o⟩, e⟩ | ⟨no, e⟩
  · exact .inl ⟨⟨j, hj, o⟩, e⟩
  · exact .inr ⟨fun ⟨j, hj, o⟩ => no j hj o, e⟩
theorem pnt_none {qs : List Quad} {C : Nat → Option Int} {day : Option Int} {f x : Int} (sn : ∀ q ∈ qs, q.2.2.2 ≠ 0) (h : x < f) : ∀ n, n ≤ qs.length → pntN qs C day f x n = 0
  | 0, _ => rfl
  | n + 1, hn => by
    obtain ⟨_, _, _, a4⟩ := q_at (List.getElem?_eq_getElem (show n < qs.length from hn))
    rw [pntN_snoc, pnt_none sn h n (by omega), runIn_empty (by rw [a4]; exact sn _ (List.getElem_mem _)) h]
    rfl
/-- counts of posts grow by one at most with each post -/
theorem pnt_grow {qs : List Quad} {C : Nat → Option Int} {day : Option Int} {f x y : Int} (h : IsHist qs.length (dQ qs) (fSP qs) C) (sn : ∀ q ∈ qs, q.2.2.2 ≠ 0) (hxy : x ≤ y) : pntN qs C day f x qs.length ≤ pntN qs C day f y qs.length ∧ pntN qs C day f y qs.length ≤ pntN qs C day f x qs.length + (y - x) :=
  grow_le (A := fun z => pntN qs C day f z qs.length) (f := f) (fun z hz => pnt_none sn hz _ (Nat.le_refl _)) (fun z hz => by
    have := pnt_step (day := day) h sn hz
    show pntN qs C day f z qs.length ≤ pntN qs C day f (z + 1) qs.length ∧ pntN qs C day f (z + 1) qs.length ≤ pntN qs C day f z qs.length + 1
    omega) hxy
/-- the posts that a run without an end has, one beside the other -/
theorem run_all1 {f x : Int} (h : f ≤ x + 1) : runIn f 1 none f x = x - f + 1 := by
  show (if (1 : Int) < 0 then _ else max 0 ((x - f) / 1 - max 0 (-((f - f) / 1)) + 1)) = _
  rw [if_neg (by decide), Int.ediv_one, Int.ediv_one]
  omega
theorem hist_cntR {qs : List Quad} {rs : List Rw} (h : HistR qs (fSP qs) rs) : IsHist qs.length (dQ qs) (fSP qs) (cntR rs) := by
  obtain ⟨Cn, Bn, hc, rfl⟩ := h
  have e : ∀ j, j < qs.length → cntR ((List.range qs.length).map (rowQ qs Cn Bn)) j = Cn j := fun j hj => by
    unfold cntR
    rw [List.getElem?_map, List.getElem?_range hj]
    rfl
  intro i hi
  have z : HBlk qs.length (dQ qs) (fSP qs) (cntR ((List.range qs.length).map (rowQ qs Cn Bn))) i = HBlk qs.length (dQ qs) (fSP qs) Cn i := funext fun n => propext ⟨fun ⟨j, hj, b⟩ => ⟨j, hj, by rw [← e j hj]; exact b⟩, fun ⟨j, hj, b⟩ => ⟨j, hj, by rw [e j hj]; exact b⟩⟩
  rw [z, e i hi]
  exact hc.is i hi
theorem paint_pnt {qs : List Quad} {rs : List Rw} {day : Option Int} {f l : Int} : paintN qs rs day f l = pntN qs (cntR rs) day f l qs.length := rfl
/-- counts of painted posts grow by one at most with each post -/
theorem paint_grow {qs : List Quad} {rs : List Rw} {day : Option Int} {f x y : Int} (h : HistR qs (fSP qs) rs) (ok : ∀ q ∈ qs, QuadOk q) (hxy : x ≤ y) : paintN qs rs day f x ≤ paintN qs rs day f y ∧ paintN qs rs day f y ≤ paintN qs rs day f x + (y - x) := pnt_grow (hist_cntR h) (fun q hq => (ok q hq).sn) hxy
theorem paint_none {qs : List Quad} {rs : List Rw} {day : Option Int} {f x : Int} (ok : ∀ q ∈ qs, QuadOk q) (h : x < f) : paintN qs rs day f x = 0 := pnt_none (fun q hq => (ok q hq).sn) h _ (Nat.le_refl _)
end Ur
/-! HR: how far away a stop can be. -/
namespace Ur
open PySem PySem.Spec PyProof.Rows L2
theorem meet_same {a b n m g D : Int} (a0 : 0 < a) (a1 : a ≤ 10 ^ 18) (b0 : 0 < b) (b1 : b ≤ 10 ^ 18) (g0 : -(2 * 10 ^ 30) ≤ g) (g1 : g ≤ 2 * 10 ^ 30) (D0 : -(10 ^ 30) ≤ D) (D1 : D ≤ 10 ^ 30 + 1) (m0 : 0 ≤ m) (e : n * a - m * b = g) (late : D ≤ n - m)
    (least : ∀ n' m', 0 ≤ n' → n' < n → 0 ≤ m' → m' ≤ m → n' * a - m' * b = g → ¬ D ≤ n' - m') : n ≤ 10 ^ 50 := by
  rcases Int.lt_or_le (10 ^ 50) n with big | ok
  · exfalso
    have na : n ≤ n * a := by
      have := Int.mul_le_mul_of_nonneg_left (show (1 : Int) ≤ a by omega) (show 0 ≤ n by omega)
      omega
    rcases Int.lt_or_le m a with c | c
    · have mb := mul_bd (a := m) (b := b) (A := 10 ^ 18) (B := 10 ^ 18) m0 (by omega) (by omega) b1 (by decide)
      omega
    · have e2 : (n - b) * a - (m - a) * b = g := by
        rw [Int.sub_mul, Int.sub_mul, Int.mul_comm a b]
        omega
      have nl := least (n - b) (m - a) (by omega) (by omega) (by omega) (by omega) e2
      have ab : a < b := by omega
      have wb := mul_bd (a := b) (b := n - m) (A := 10 ^ 18) (B := 10 ^ 31) (by omega) b1 (by omega) (by omega) (by decide)
      have e3 : n * (b - a) = b * (n - m) - g := by
        rw [Int.mul_sub, Int.mul_sub, Int.mul_comm b n, Int.mul_comm b m]
        omega
      have nb : n ≤ n * (b - a) := by
        have := Int.mul_le_mul_of_nonneg_left (show (1 : Int) ≤ b - a by omega) (show 0 ≤ n by omega)
        omega
      omega
  · exact ok
theorem meet_bd {p s q t n m D : Int} (p0 : -(10 ^ 30) ≤ p) (p1 : p ≤ 10 ^ 30) (q0 : -(10 ^ 30) ≤ q) (q1 : q ≤ 10 ^ 30) (s0 : -(10 ^ 18) ≤ s) (s1 : s ≤ 10 ^ 18) (sz : s ≠ 0) (t0 : -(10 ^ 18) ≤ t) (t1 : t ≤ 10 ^ 18) (tz : t ≠ 0) (D0 : -(10 ^ 30) ≤ D) (D1 : D ≤ 10 ^ 30 + 1)
    (n0 : 0 ≤ n) (m0 : 0 ≤ m) (e : p + n * s = q + m * t) (late : D ≤ n - m) (least : ∀ n' m', 0 ≤ n' → n' < n → 0 ≤ m' → m' ≤ m → p + n' * s = q + m' * t → ¬ D ≤ n' - m') : n ≤ 10 ^ 50 := by
  have mono : ∀ {u v : Int}, 0 ≤ u → 0 < v → u ≤ u * v := fun {u v} h0 h1 => by
    have := Int.mul_le_mul_of_nonneg_left (show (1 : Int) ≤ v by omega) h0
    omega
  have nn : ∀ u v : Int, u * (0 - v) = 0 - u * v := fun u v => by rw [Int.mul_sub, Int.mul_zero]
  rcases Int.lt_or_le 0 s with hs | hs
  · rcases Int.lt_or_le 0 t with ht | ht
    · exact meet_same (a := s) (b := t) (g := q - p) hs s1 ht t1 (by omega) (by omega) D0 D1 m0 (by omega) late fun n' m' a1 a2 a3 a4 a5 => least n' m' a1 a2 a3 a4 (by omega)
    · have e2 := nn m t
      have h1 := mono n0 hs
      have h2 := Int.mul_nonneg m0 (show 0 ≤ 0 - t by omega)
      omega
  · rcases Int.lt_or_le 0 t with ht | ht
    · have e2 := nn n s
      have h1 := mono n0 (show 0 < 0 - s by omega)
      have h2 := Int.mul_nonneg m0 (show 0 ≤ t by omega)
      omega
    · exact meet_same (a := 0 - s) (b := 0 - t) (g := p - q) (by omega) (by omega) (by omega) (by omega) (by omega) (by omega) D0 D1 m0 (by rw [nn, nn]; omega) late fun n' m' a1 a2 a3 a4 a5 => least n' m' a1 a2 a3 a4 (by rw [nn, nn] at a5; omega)
/-- the number of posts that a painter paints, if it stops -/
theorem hist_cnt {qs : List Quad} {Cn : Nat → Option Int} {Bn : Nat → Nat} (ok : ∀ q ∈ qs, QuadOk q) (h : HistC qs.length (dQ qs) (fSP qs) Cn Bn) {i : Nat} {c : Int} (hi : i < qs.length) (e : Cn i = some c) : 0 ≤ c ∧ c ≤ 10 ^ 50 := by
  have l := h.is i hi
  rw [e] at l
  obtain ⟨c0, ⟨j, hj, m, m0, sp, lt, o⟩, least⟩ := l
  have gi : qs[i]? = some qs[i] := List.getElem?_eq_getElem hi
  have gj : qs[j]? = some qs[j] := List.getElem?_eq_getElem hj
  have ki : QuadOk qs[i] := ok _ (List.getElem_mem hi)
  have kj : QuadOk qs[j] := ok _ (List.getElem_mem hj)
  obtain ⟨_, d1, d2, d3⟩ := q_at gi
  obtain ⟨_, d4, d5, d6⟩ := q_at gj
  have i1 := ki.d0; have i2 := ki.d1; have i3 := ki.p0; have i4 := ki.p1; have i5 := ki.s0; have i6 := ki.s1; have i7 := ki.sn
  have j1 := kj.d0; have j2 := kj.d1; have j3 := kj.p0; have j4 := kj.p1; have j5 := kj.s0; have j6 := kj.s1; have j7 := kj.sn
  refine ⟨c0, ?_⟩
  obtain ⟨D, hD⟩ : ∃ D : Int, D = dQ qs j - dQ qs i + (if j < i then 0 else 1) := ⟨_, rfl⟩
  have lat : ∀ n k : Int, (dQ qs j + k < dQ qs i + n ∨ dQ qs j + k = dQ qs i + n ∧ j < i) ↔ D ≤ n - k := fun n k => by
    rw [hD]
    split
    · constructor
      · intro z; omega
      · intro z; omega
    · constructor
      · intro z; omega
      · intro z; omega
  have Db : -(10 ^ 30) ≤ D ∧ D ≤ 10 ^ 30 + 1 := by
    rw [hD, d1, d4]
    split <;> omega
  refine meet_bd (p := pQ qs i) (s := sQ qs i) (q := pQ qs j) (t := sQ qs j) (D := D) (by omega) (by omega) (by omega) (by omega) (by omega) (by omega) (by rw [d3]; exact i7) (by omega) (by omega) (by rw [d6]; exact j7) Db.1 Db.2 c0 m0 sp ((lat _ _).mp o) fun n' m' a1 a2 a3 a4 a5 a6 => ?_
  exact least n' a1 a2 ⟨j, hj, m', a3, a5, fun x ex => by have := lt x ex; omega, (lat _ _).mpr a6⟩
/-- the post of a stop is no far one -/
theorem stop_near {qs : List Quad} {rs : List Rw} (ok : ∀ q ∈ qs, QuadOk q) (h : HistR qs (fSP qs) rs) {r : Rw} (hr : r ∈ rs) {d p : Int} {b : Str} (e : r.stop = some (d, p, b)) : -(10 ^ 70) ≤ p ∧ p ≤ 10 ^ 70 ∧ 0 ≤ d ∧ d ≤ 10 ^ 52 := by
  obtain ⟨Cn, Bn, hc, rfl⟩ := h
  obtain ⟨i, hi, rfl⟩ := List.mem_map.mp hr
  have hi := List.mem_range.mp hi
  have e1 : qs[i]? = some qs[i] := List.getElem?_eq_getElem hi
  have k : QuadOk qs[i] := ok _ (List.getElem_mem hi)
  obtain ⟨_, qd, qp, qst⟩ := q_at e1
  have k1 := k.d0; have k2 := k.d1; have k3 := k.p0; have k4 := k.p1; have k5 := k.s0; have k6 := k.s1
  have e : (match Cn i with | none => none | some c => some (dQ qs i + c, pQ qs i + c * sQ qs i, nQ qs (Bn i))) = some (d, p, b) := e
  cases ec : Cn i with
  | none => rw [ec] at e; cases e
  | some c =>
    rw [ec] at e
    have e := Option.some.inj e
    have cb := hist_cnt ok hc hi ec
    have mb := mul_bd (a := c) (b := sQ qs i) (A := 10 ^ 50) (B := 10 ^ 18) cb.1 cb.2 (by rw [qst]; exact k5) (by rw [qst]; exact k6) (by decide)
    injection e with e3 e4
    injection e4 with e4 e5
    rw [← e3, ← e4, qd, qp]
    omega
end Ur
/-! WA: the least day by which so many posts are painted (_least_day, day_of_count). -/
namespace Ur
open PySem PySem.Spec PyProof.Rows L2
theorem nbM_mono {p s l m n : Int} (h : m ≤ n) : nbM p s l (some m) ≤ nbM p s l (some n) := by
  show min ((l - p) / s) (m - 1) ≤ min ((l - p) / s) (n - 1)
  omega
theorem runIn_mono {p s f l m n : Int} (h : m ≤ n) : runIn p s (some m) f l ≤ runIn p s (some n) f l := by
  unfold runIn
  split
  · have := nbM_mono (p := -p) (s := -s) (l := -f) h
    omega
  · have := nbM_mono (p := p) (s := s) (l := l) h
    omega
theorem byC_mono {t u d : Int} {c : Option Int} (h : t ≤ u) : ∃ m n, byC (some t) d c = some m ∧ byC (some u) d c = some n ∧ m ≤ n := by
  cases c with
  | none => exact ⟨_, _, rfl, rfl, by show max 0 (t - d + 1) ≤ max 0 (u - d + 1); omega⟩
  | some k => exact ⟨_, _, rfl, rfl, by show min (max 0 (t - d + 1)) k ≤ min (max 0 (u - d + 1)) k; omega⟩
/-- a day that is so late that all is painted -/
theorem runIn_far {p s f l d T : Int} {c : Option Int} (sn : s ≠ 0) (p0 : -(10 ^ 30) ≤ p) (p1 : p ≤ 10 ^ 30) (d1 : d ≤ 10 ^ 30) (f0 : -(10 ^ 80) ≤ f) (f1 : f ≤ 10 ^ 80) (l0 : -(10 ^ 80) ≤ l) (l1 : l ≤ 10 ^ 80) (hT : T = 2 * 10 ^ 80) : runIn p s (byC (some T) d c) f l = runIn p s c f l := by
  have key : ∀ {p s l : Int}, 0 < s → -(10 ^ 30) ≤ p → p ≤ 10 ^ 30 → -(10 ^ 80) ≤ l → l ≤ 10 ^ 80 → nbM p s l (byC (some T) d c) = nbM p s l c := fun {p s l} h p0 p1 l0 l1 => by
    have a := div_bdN (a := l - p) h
    cases c with
    | none => show min ((l - p) / s) (max 0 (T - d + 1) - 1) = (l - p) / s; omega
    | some k => show min ((l - p) / s) (min (max 0 (T - d + 1)) k - 1) = min ((l - p) / s) (k - 1); omega
  unfold runIn
  by_cases h : s < 0
  · rw [if_pos h, if_pos h, key (by omega) (by omega) (by omega) (by omega) (by omega)]
  · rw [if_neg h, if_neg h, key (by omega) p0 p1 l0 l1]
theorem all_mono {t u f l : Int} (h : t ≤ u) : ∀ (L : List Pt) (cs : List (Option Int)), allIn L (bysC (some t) L cs) f l ≤ allIn L (bysC (some u) L cs) f l
  | [], _ => by unfold allIn bysC; exact Int.le_refl _
  | _ :: _, [] => by unfold allIn bysC; exact Int.le_refl _
  | x :: L, c :: cs => by
    have ih := all_mono (t := t) (u := u) (f := f) (l := l) h L cs
    obtain ⟨m, n, e1, e2, le⟩ := byC_mono (d := x.d) (c := c) h
    have r := runIn_mono (p := x.p) (s := x.s) (f := f) (l := l) le
    show runIn x.p x.s (byC (some t) x.d c) f l + allIn L (bysC (some t) L cs) f l ≤ runIn x.p x.s (byC (some u) x.d c) f l + allIn L (bysC (some u) L cs) f l
    rw [e1, e2]
    omega
theorem all_far {C : Addr} {H : Hp} {f l T : Int} (f0 : -(10 ^ 80) ≤ f) (f1 : f ≤ 10 ^ 80) (l0 : -(10 ^ 80) ≤ l) (l1 : l ≤ 10 ^ 80) (hT : T = 2 * 10 ^ 80) : ∀ (L : List Pt) (cs : List (Option Int)), (∀ x ∈ L, PtAt C H x) → allIn L (bysC (some T) L cs) f l = allIn L cs f l
  | [], _, _ => by unfold allIn bysC; rfl
  | _ :: _, [], _ => by unfold allIn bysC; rfl
  | x :: L, c :: cs, h => by
    have ih := all_far (C := C) (H := H) f0 f1 l0 l1 hT L cs fun y hy => h y (List.mem_cons_of_mem _ hy)
    have k := (h x List.mem_cons_self).2
    have r := runIn_far (c := c) (d := x.d) k.sn k.p0 k.p1 k.d1 f0 f1 l0 l1 hT
    show runIn x.p x.s (byC (some T) x.d c) f l + allIn L (bysC (some T) L cs) f l = runIn x.p x.s c f l + allIn L cs f l
    rw [r, ih]
/-- the least day -/
def LeastDay (A : Int → Int) (all wanted : Int) : Option Int → Prop
  | none => all < wanted
  | some t => 0 ≤ t ∧ t ≤ 2 * 10 ^ 80 ∧ wanted ≤ A t ∧ ∀ u, 0 ≤ u → u < t → A u < wanted
theorem bysC_none {L : List Pt} {cs : List (Option Int)} (h : cs.length = L.length) : bysC none L cs = cs := by
  unfold bysC
  refine List.ext_getElem? fun i => ?_
  rw [List.getElem?_zipWith]
  by_cases c : i < L.length
  · rw [List.getElem?_eq_getElem c, List.getElem?_eq_getElem (show i < cs.length by omega)]
    rfl
  · rw [List.getElem?_eq_none (show L.length ≤ i by omega), List.getElem?_eq_none (show cs.length ≤ i by omega)]
end Ur
/-! PD: the posts of a fence that are not painted, one after the other (check_place, unpainted_from), and the day of all posts. -/
namespace Ur
open PySem PySem.Spec PyProof.Rows L2
def sideQ (left : Bool) (qs : List Quad) : List Quad := if left then qs.map (mvQ (-1) 0 0) else qs
def mirP (x : Pt) : Pt := ⟨x.a, x.nm, x.d, -x.p, -x.s⟩
theorem parts_mir (L : List Pt) : partsOf (L.map mirP) = (partsOf L).map (mvQ (-1) 0 0) := by
  unfold partsOf
  rw [List.map_map, List.map_map]
  refine List.map_congr_left fun x _ => ?_
  show ((x.nm, x.d, -x.p, -x.s) : Quad) = (x.nm, x.d + 0, -1 * x.p + 0, -1 * x.s)
  rw [Int.add_zero, Int.add_zero, Int.neg_one_mul, Int.neg_one_mul]
theorem rns_mir (L : List Pt) (cs : List (Option Int)) (n : Nat) : (rnsOf L cs n).map mir = rnsOf (L.map mirP) cs n := by
  unfold rnsOf
  rw [List.map_filterMap]
  congr 1
  funext i
  rw [List.getElem?_map]
  cases L[i]? with
  | none => rfl
  | some x =>
    cases cs[i]? with
    | none => rfl
    | some c =>
      by_cases z : c = some 0
      · subst z; rfl
      · show Option.map mir (if c = some 0 then none else some (⟨1, x.p, x.s, c⟩ : Rn)) = if c = some 0 then none else some (⟨1, -x.p, -x.s, c⟩ : Rn)
        rw [if_neg z, if_neg z]
        rfl
theorem bys_mir (day : Option Int) (L : List Pt) (cs : List (Option Int)) : bysC day (L.map mirP) cs = bysC day L cs := by
  unfold bysC
  rw [List.zipWith_map_left]
  rfl
theorem rns_memC {L : List Pt} {cs : List (Option Int)} {n : Nat} {r : Rn} (h : r ∈ rnsOf L cs n) : ∃ (i : Nat) (x : Pt) (c : Option Int), L[i]? = some x ∧ cs[i]? = some c ∧ r = ⟨1, x.p, x.s, c⟩ := by
  obtain ⟨i, _, e⟩ := List.mem_filterMap.mp h
  cases h1 : L[i]? with
  | none => rw [h1] at e; cases e
  | some x =>
    cases h2 : cs[i]? with
    | none => rw [h1, h2] at e; cases e
    | some c =>
      rw [h1, h2] at e
      by_cases z : c = some 0
      · simp [z] at e
      · simp only [if_neg z] at e
        exact ⟨i, x, c, h1, h2, (Option.some.inj e).symm⟩
theorem cntR_bd {qs : List Quad} {rs : List Rw} (ok : ∀ q ∈ qs, QuadOk q) (h : HistR qs (fSP qs) rs) {i : Nat} {c : Int} (hi : i < qs.length) (e : cntR rs i = some c) : 0 ≤ c ∧ c ≤ 10 ^ 50 := by
  obtain ⟨Cn, Bn, hc, rfl⟩ := h
  have z : cntR ((List.range qs.length).map (rowQ qs Cn Bn)) i = Cn i := by
    unfold cntR
    rw [List.getElem?_map, List.getElem?_range hi]
    rfl
  rw [z] at e
  exact hist_cnt ok hc hi e
/-- the runs of what is painted by a day -/
def dayRns (L : List Pt) (rs : List Rw) (day : Option Int) : List Rn := rnsOf L (bysC day L ((List.range L.length).map (cntR rs))) L.length
theorem day_sum {L : List Pt} {rs : List Rw} {day : Option Int} {f l : Int} : sumIn (dayRns L rs day) f l = paintN (partsOf L) rs day f l := by
  unfold dayRns
  rw [rns_sum (by unfold bysC; rw [List.length_zipWith, List.length_map, List.length_range, Nat.min_self]), all_paint]
theorem side_sum {L : List Pt} {rs : List Rw} {day : Option Int} {f l : Int} {left : Bool} : sumIn (sideR left (dayRns L rs day)) f l = paintN (sideQ left (partsOf L)) rs day f l := by
  cases left with
  | false => exact day_sum
  | true =>
    show sumIn ((dayRns L rs day).map mir) f l = paintN ((partsOf L).map (mvQ (-1) 0 0)) rs day f l
    have e : (dayRns L rs day).map mir = dayRns (L.map mirP) rs day := by
      unfold dayRns
      rw [rns_mir, bys_mir, List.length_map]
    rw [e, day_sum, parts_mir]
theorem sum_wgt {rs : List Rn} {f l : Int} : sumIn (rs.map (wgt (-1))) f l = -sumIn rs f l := by
  induction rs with
  | nil => rfl
  | cons r rs ih =>
    have e1 : sumIn ((r :: rs).map (wgt (-1))) f l = r.w * -1 * runIn r.p r.s r.m f l + sumIn (rs.map (wgt (-1))) f l := rfl
    have e2 : sumIn (r :: rs) f l = r.w * runIn r.p r.s r.m f l + sumIn rs f l := rfl
    rw [e1, e2, ih, Int.mul_neg, Int.mul_one, Int.neg_mul]
    omega
theorem out_sum {rs : List Rn} {post x : Int} {left : Bool} (h : sgn left post ≤ x + 1) : sumIn (sideR left (outR rs post left)) (sgn left post) x = x - sgn left post + 1 - sumIn (sideR left rs) (sgn left post) x := by
  cases left with
  | false =>
    have h : post ≤ x + 1 := h
    show 1 * runIn post 1 none post x + sumIn (rs.map (wgt (-1))) post x = x - post + 1 - sumIn rs post x
    rw [run_all1 h, sum_wgt]
    omega
  | true =>
    have h : -post ≤ x + 1 := h
    have e : (rs.map (wgt (-1))).map mir = (rs.map mir).map (wgt (-1)) := by
      rw [List.map_map, List.map_map]
      rfl
    show 1 * runIn (-post) (- -1) none (-post) x + sumIn ((rs.map (wgt (-1))).map mir) (-post) x = x - -post + 1 - sumIn (rs.map mir) (-post) x
    rw [show (- -1 : Int) = 1 by decide, run_all1 h, e, sum_wgt]
    omega
theorem Nth.congr {c1 c2 : Int → Int} {post high index : Int} {o : Option Int} (e : ∀ x, post ≤ x → c1 x = c2 x) (hp : post ≤ high) (h : Nth c1 post high index o) : Nth c2 post high index o := by
  cases o with
  | none =>
    have h : c1 high ≤ index := h
    rw [e _ hp] at h
    exact h
  | some x =>
    obtain ⟨a, b, c, d⟩ := h
    refine ⟨a, b, by rw [← e _ a]; exact c, ?_⟩
    rcases d with d | d
    · exact .inl d
    · by_cases z : x = post
      · exact .inl z
      · exact .inr (by rw [← e _ (by omega)]; exact d)
/-- of the posts from this one on that are not painted by a day, the one with this index -/
def FreeAt (left : Bool) (qs : List Quad) (rs : List Rw) (day : Option Int) (post index : Int) (o : Option Int) : Prop := ∃ (hi : Int) (o' : Option Int), o = o'.map (sgn left) ∧ sgn left post + (index + 1) * 10 ^ 36 ≤ hi ∧ Nth (fun x => x - sgn left post + 1 - paintN (sideQ left qs) rs day (sgn left post) x) (sgn left post) hi index o'
theorem free_of {L : List Pt} {rs : List Rw} {day : Option Int} {post index : Int} {left : Bool} {o : Option Int} (i0 : 0 ≤ index) (h : Nth (sumIn (sideR left (outR (dayRns L rs day) post left)) (sgn left post)) (sgn left post) (hiR (sideR left (outR (dayRns L rs day) post left)) (sgn left post) index) index o) : FreeAt left (partsOf L) rs day post index (o.map (sgn left)) := by
  have fp : sgn left post ≤ farR (sgn left post) (sideR left (outR (dayRns L rs day) post left)) := far_le _ _ List.mem_cons_self
  have hp : sgn left post + (index + 1) * 10 ^ 36 ≤ hiR (sideR left (outR (dayRns L rs day) post left)) (sgn left post) index := by unfold hiR; omega
  refine ⟨_, o, rfl, hp, Nth.congr (fun x hx => ?_) (by omega) h⟩
  show sumIn (sideR left (outR (dayRns L rs day) post left)) (sgn left post) x = _
  rw [out_sum (by omega), side_sum]
/-- what a search for a post that is not painted gives -/
def RawF (left : Bool) (L : List Pt) (rs : List Rw) (day : Option Int) (post index : Int) (o : Option Int) : Prop := ∃ o' : Option Int, o = o'.map (sgn left) ∧ Nth (sumIn (sideR left (outR (dayRns L rs day) post left)) (sgn left post)) (sgn left post) (hiR (sideR left (outR (dayRns L rs day) post left)) (sgn left post) index) index o'
theorem raw_free {L : List Pt} {rs : List Rw} {day : Option Int} {post index : Int} {left : Bool} {o : Option Int} (i0 : 0 ≤ index) (h : RawF left L rs day post index o) : FreeAt left (partsOf L) rs day post index o := by
  obtain ⟨o', rfl, h⟩ := h
  exact free_of i0 h
theorem dayRns_ok {C : Addr} {H : Hp} {L : List Pt} {rs : List Rw} {day : Option Int} (cr : Crew C H L) (ok : ∀ q ∈ partsOf L, QuadOk q) (hist : HistR (partsOf L) (fSP (partsOf L)) rs) (dd : ∀ d, day = some d → 0 ≤ d ∧ d ≤ 10 ^ 40) : ∀ r ∈ dayRns L rs day, RnOk r ∧ r.w = 1 := fun r hr => by
  obtain ⟨i, x, c, hx, hc, rfl⟩ := rns_memC hr
  have hi : i < L.length := (List.getElem?_eq_some_iff.mp hx).1
  have k := (cr.at_ x (List.mem_of_getElem? hx)).2
  have k1 := k.s0
  have k2 := k.s1
  have k3 := k.p0
  have k4 := k.p1
  have k5 := k.d0
  unfold bysC at hc
  rw [List.getElem?_zipWith, hx, List.getElem?_map, List.getElem?_range hi] at hc
  obtain rfl := Option.some.inj hc
  have pl : (partsOf L).length = L.length := parts_len _
  have kb : ∀ z, byC day x.d (cntR rs i) = some z → 0 ≤ z ∧ z ≤ 10 ^ 50 := fun z e => by
    cases ec : cntR rs i with
    | none =>
      rw [ec] at e
      cases day with
      | none => cases e
      | some t =>
        have := dd t rfl
        have e : max 0 (t - x.d + 1) = z := Option.some.inj e
        omega
    | some k =>
      have b := cntR_bd ok hist (by rw [pl]; exact hi) ec
      rw [ec] at e
      cases day with
      | none =>
        obtain rfl := Option.some.inj e
        exact b
      | some t =>
        have := dd t rfl
        have e : min (max 0 (t - x.d + 1)) k = z := Option.some.inj e
        omega
  refine ⟨⟨k.sn, by show x.s.natAbs ≤ _; omega, by show x.p.natAbs ≤ _; omega, by show (1 : Int).natAbs ≤ 10; decide, fun z e => ?_⟩, rfl⟩
  have b := kb z e
  refine ⟨by omega, ?_⟩
  show ((z - 1) * x.s).natAbs ≤ _
  rw [Int.natAbs_mul]
  exact Nat.le_trans (Nat.mul_le_mul (show (z - 1).natAbs ≤ 10 ^ 50 by omega) (show x.s.natAbs ≤ 10 ^ 18 by omega)) (by decide)
theorem outR_ok {rs : List Rn} {post : Int} {left : Bool} (pb : post.natAbs ≤ 10 ^ 80) (h : ∀ r ∈ rs, RnOk r ∧ r.w = 1) : ∀ r ∈ outR rs post left, RnOk r := fun r hr => by
  rcases List.mem_cons.mp hr with rfl | hr
  · exact ⟨by show (if left = true then (-1 : Int) else 1) ≠ 0; cases left <;> decide, by show (if left = true then (-1 : Int) else 1).natAbs ≤ 10 ^ 37; cases left <;> decide, pb, by show (1 : Int).natAbs ≤ 10; decide, fun k e => by cases e⟩
  · obtain ⟨x, hx, rfl⟩ := List.mem_map.mp hr
    obtain ⟨k, w1⟩ := h x hx
    exact ⟨k.sn, k.sb, k.pb, by show (x.w * -1).natAbs ≤ 10; rw [w1]; decide, k.mb⟩
theorem crew_quads {C : Addr} {H : Hp} {L : List Pt} (h : Crew C H L) : ∀ q ∈ partsOf L, QuadOk q := fun q hq => by
  obtain ⟨x, hx, rfl⟩ := List.mem_map.mp hq
  exact (h.at_ x hx).2
end Ur
/-! PM: counts of painted posts never fall under nothing, nor rise above those of all days; the least day and the first post with an index are one only. -/
namespace Ur
open PySem PySem.Spec PyProof.Rows L2
section
variable {qs : List Quad} {rs : List Rw} {C : Nat → Option Int} {f l : Int}
theorem runIn_nn {p s f l : Int} {m : Option Int} : 0 ≤ runIn p s m f l := by
  unfold runIn
  split <;> exact Int.le_max_left ..
theorem pnt_nn {day : Option Int} : ∀ n, 0 ≤ pntN qs C day f l n
  | 0 => Int.le_refl _
  | n + 1 => by
    have ih := pnt_nn (day := day) n
    have r := runIn_nn (p := pQ qs n) (s := sQ qs n) (f := f) (l := l) (m := byC day (dQ qs n) (C n))
    rw [pntN_snoc]
    omega
theorem paint_nn {day : Option Int} : 0 ≤ paintN qs rs day f l := pnt_nn qs.length
theorem pnt_ever {t : Int} : ∀ n, pntN qs C (some t) f l n ≤ pntN qs C none f l n
  | 0 => Int.le_refl _
  | n + 1 => by
    have ih := pnt_ever (t := t) n
    have key : ∀ {p s l d : Int} {c : Option Int}, nbM p s l (byC (some t) d c) ≤ nbM p s l c := fun {p s l d c} => by
      cases c with
      | none => exact Int.min_le_left ..
      | some k => show min ((l - p) / s) (min (max 0 (t - d + 1)) k - 1) ≤ min ((l - p) / s) (k - 1); omega
    have r : ∀ {p s d : Int} {c : Option Int}, runIn p s (byC (some t) d c) f l ≤ runIn p s c f l := fun {p s d c} => by
      unfold runIn
      have k1 := key (p := -p) (s := -s) (l := -f) (d := d) (c := c)
      have k2 := key (p := p) (s := s) (l := l) (d := d) (c := c)
      split <;> omega
    rw [pntN_snoc, pntN_snoc]
    have := r (p := pQ qs n) (s := sQ qs n) (d := dQ qs n) (c := C n)
    show _ ≤ pntN qs C none f l n + runIn (pQ qs n) (sQ qs n) (C n) f l
    omega
theorem paint_ever {t : Int} : paintN qs rs (some t) f l ≤ paintN qs rs none f l := pnt_ever qs.length
end
theorem least_uniq {A : Int → Int} {all wn : Int} {o o' : Option Int} (ev : ∀ t, A t ≤ all) (h : LeastDay A all wn o) (h' : LeastDay A all wn o') : o = o' := by
  cases o with
  | none =>
    cases o' with
    | none => rfl
    | some t =>
      have h : all < wn := h
      have := h'.2.2.1
      have := ev t
      omega
  | some t =>
    cases o' with
    | none =>
      have h' : all < wn := h'
      have := h.2.2.1
      have := ev t
      omega
    | some u =>
      obtain ⟨t0, _, ta, tl⟩ := h
      obtain ⟨u0, _, ua, ul⟩ := h'
      have : t = u := by
        rcases Int.lt_trichotomy t u with c | c | c
        · have := ul t t0 c; omega
        · exact c
        · have := tl u u0 c; omega
      rw [this]
theorem least_bd {A : Int → Int} {all wn t : Int} (ev : ∀ t, A t ≤ all) (far : A (10 ^ 72) = all) (h : LeastDay A all wn (some t)) : 0 ≤ t ∧ t ≤ 10 ^ 72 := by
  obtain ⟨t0, _, ta, tl⟩ := h
  refine ⟨t0, ?_⟩
  rcases Int.lt_or_le (10 ^ 72) t with c | c
  · have := tl (10 ^ 72) (by decide) c
    have := ev t
    omega
  · exact c
/-- nothing is wanted: the first day -/
theorem least_zero {A : Int → Int} {all wn : Int} {o : Option Int} (nn : ∀ t, 0 ≤ A t) (ev : ∀ t, A t ≤ all) (w0 : wn ≤ 0) (h : LeastDay A all wn o) : o = some 0 :=
  least_uniq ev h ⟨Int.le_refl _, by decide, by have := nn 0; omega, fun u a b => by omega⟩
theorem least_mv {A A' : Int → Int} {all wn w : Int} {o o' : Option Int} (w0 : 0 ≤ w) (w1 : w ≤ 10 ^ 30) (hA : ∀ t, A' (t + w) = A t) (neg : ∀ u, u < 0 → A u < wn) (ev : ∀ t, A t ≤ all) (far : A (10 ^ 72) = all) (h : LeastDay A all wn o) (h' : LeastDay A' all wn o') : o' = o.map (· + w) := by
  have ev' : ∀ t, A' t ≤ all := fun t => by
    have := hA (t - w)
    rw [show t - w + w = t by omega] at this
    rw [this]
    exact ev _
  refine least_uniq ev' h' ?_
  cases o with
  | none => exact h
  | some t =>
    have b := least_bd ev far h
    obtain ⟨t0, _, ta, tl⟩ := h
    refine ⟨by show 0 ≤ t + w; omega, by show t + w ≤ _; omega, by show wn ≤ A' (t + w); rw [hA]; exact ta, fun u u0 hu => ?_⟩
    have hu : u < t + w := hu
    have e := hA (u - w)
    rw [show u - w + w = u by omega] at e
    rw [e]
    by_cases c : 0 ≤ u - w
    · exact tl _ c (by omega)
    · exact neg _ (by omega)
/-- more is wanted: not sooner -/
theorem least_more {A : Int → Int} {all wn wn' t' : Int} {o : Option Int} (ev : ∀ t, A t ≤ all) (hw : wn ≤ wn') (h : LeastDay A all wn o) (h' : LeastDay A all wn' (some t')) : ∃ t, o = some t ∧ t ≤ t' := by
  obtain ⟨t0, _, ta, tl⟩ := h'
  cases o with
  | none =>
    have h : all < wn := h
    have := ev t'
    omega
  | some t =>
    refine ⟨t, rfl, ?_⟩
    rcases Int.lt_or_le t' t with c | c
    · have := h.2.2.2 t' t0 c
      omega
    · exact c
end Ur
/-! PE: counts of painted posts: for ever, early, late, moved; the least day and the first post that is not painted are one only. -/
namespace Ur
open PySem PySem.Spec PyProof.Rows L2
section
variable {qs : List Quad} {rs : List Rw} {C : Nat → Option Int} {f l : Int}
theorem runIn_farE {p s f l d : Int} {c : Option Int} (sn : s ≠ 0) (p0 : -(10 ^ 30) ≤ p) (p1 : p ≤ 10 ^ 30) (d1 : d ≤ 10 ^ 30) (f0 : -(10 ^ 70) ≤ f) (l1 : l ≤ 10 ^ 70) : runIn p s (byC (some (10 ^ 72)) d c) f l = runIn p s c f l := by
  have key : ∀ {p s l : Int}, 0 < s → -(10 ^ 30) ≤ p → l ≤ 10 ^ 70 → nbM p s l (byC (some (10 ^ 72)) d c) = nbM p s l c := fun {p s l} h p0 l1 => by
    have a : (l - p) / s ≤ 10 ^ 71 := by
      by_cases z : 0 ≤ l - p
      · have := Int.ediv_le_self s z
        omega
      · have : (l - p) / s < 0 := Int.ediv_neg_of_neg_of_pos (by omega) h
        omega
    cases c with
    | none => show min ((l - p) / s) (max 0 (10 ^ 72 - d + 1) - 1) = (l - p) / s; omega
    | some k => show min ((l - p) / s) (min (max 0 (10 ^ 72 - d + 1)) k - 1) = min ((l - p) / s) (k - 1); omega
  unfold runIn
  by_cases h : s < 0
  · rw [if_pos h, if_pos h, key (by omega) (by omega) (by omega)]
  · rw [if_neg h, if_neg h, key (by omega) p0 l1]
theorem pnt_far (ok : ∀ q ∈ qs, QuadOk q) (f0 : -(10 ^ 70) ≤ f) (l1 : l ≤ 10 ^ 70) : ∀ n, n ≤ qs.length → pntN qs C (some (10 ^ 72)) f l n = pntN qs C none f l n
  | 0, _ => rfl
  | n + 1, h => by
    have hn : n < qs.length := h
    obtain ⟨_, a2, a3, a4⟩ := q_at (List.getElem?_eq_getElem hn)
    have k := ok _ (List.getElem_mem hn)
    rw [pntN_snoc, pntN_snoc, pnt_far ok f0 l1 n (by omega), runIn_farE (by rw [a4]; exact k.sn) (by rw [a3]; exact k.p0) (by rw [a3]; exact k.p1) (by rw [a2]; exact k.d1) f0 l1]
    rfl
theorem paint_far (ok : ∀ q ∈ qs, QuadOk q) (f0 : -(10 ^ 70) ≤ f) (l1 : l ≤ 10 ^ 70) : paintN qs rs (some (10 ^ 72)) f l = paintN qs rs none f l := pnt_far ok f0 l1 _ (Nat.le_refl _)
/-- nothing is painted before the first day -/
theorem paint_early (ok : ∀ q ∈ qs, QuadOk q) (h : HistR qs (fSP qs) rs) {u : Int} (hu : u < 0) : paintN qs rs (some u) f l = 0 := by
  have key : ∀ n, n ≤ qs.length → pntN qs (cntR rs) (some u) f l n = 0 := fun n => by
    induction n with
    | zero => intro _; rfl
    | succ n ih =>
      intro hn
      have hn : n < qs.length := hn
      obtain ⟨_, a2, _, _⟩ := q_at (List.getElem?_eq_getElem hn)
      have k := ok _ (List.getElem_mem hn)
      have d0 : 0 ≤ dQ qs n := by rw [a2]; exact k.d0
      have z : byC (some u) (dQ qs n) (cntR rs n) = some 0 := by
        cases e : cntR rs n with
        | none => show some (max 0 (u - dQ qs n + 1)) = some 0; rw [show max 0 (u - dQ qs n + 1) = 0 by omega]
        | some c =>
          have b := cntR_bd ok h hn e
          show some (min (max 0 (u - dQ qs n + 1)) c) = some 0
          rw [show min (max 0 (u - dQ qs n + 1)) c = 0 by omega]
      rw [pntN_snoc, ih (by omega), z, runIn_zero]
      rfl
  exact key _ (Nat.le_refl _)
theorem runIn_mv {p s f l a : Int} {m : Option Int} : runIn (p + a) s m (f + a) (l + a) = runIn p s m f l := by
  have e1 : ∀ {p s l p' l' : Int}, l' - p' = l - p → nbM p' s l' m = nbM p s l m := fun {p s l p' l'} e => by
    cases m with
    | none => show (l' - p') / s = (l - p) / s; rw [e]
    | some k => show min ((l' - p') / s) (k - 1) = min ((l - p) / s) (k - 1); rw [e]
  have e2 : ∀ {p s f p' f' : Int}, p' - f' = p - f → nbL p' s f' = nbL p s f := fun {p s f p' f'} e => by
    unfold nbL
    rw [e]
  unfold runIn
  split
  · rw [e1 (show -(f + a) - -(p + a) = -f - -p by omega), e2 (show -(p + a) - -(l + a) = -p - -l by omega)]
  · rw [e1 (show l + a - (p + a) = l - p by omega), e2 (show p + a - (f + a) = p - f by omega)]
theorem byC_mv {day : Option Int} {d w : Int} {c : Option Int} : byC (day.map (· + w)) (d + w) c = byC day d c := by
  cases day with
  | none => rfl
  | some t =>
    show some _ = some _
    have : t + w - (d + w) + 1 = t - d + 1 := by omega
    cases c with
    | none => show some (max 0 (t + w - (d + w) + 1)) = some (max 0 (t - d + 1)); rw [this]
    | some k => show some (min (max 0 (t + w - (d + w) + 1)) k) = some (min (max 0 (t - d + 1)) k); rw [this]
/-- a fence that is moved has its painted posts moved -/
theorem paint_mv {qs' : List Quad} {rs' : List Rw} {a w : Int} {day : Option Int} (e : qs' = qs.map (mvQ 1 a w)) (d0 : ∀ i, i < qs'.length → 0 ≤ dQ qs' i) (h : HistR qs (fSP qs) rs) (h' : HistR qs' (fSP qs') rs') : paintN qs' rs' (day.map (· + w)) (f + a) (l + a) = paintN qs rs day f l := by
  subst e
  obtain rfl := histR_uniq d0 (fSP_sy _) h' (histR_mv (f := 1) (p := a) (w := w) (by decide) h)
  unfold paintN
  rw [List.length_map]
  refine congrArg List.sum (List.map_congr_left fun i hi => ?_)
  obtain ⟨_, m2, m3, m4⟩ := mvQ_at (f := 1) (p := a) (w := w) (List.mem_range.mp hi)
  rw [m2, m3, m4, cntR_mv, byC_mv, Int.one_mul, Int.one_mul, runIn_mv]
end
theorem nth_hit {c : Int → Int} {f hi n : Int} {o : Option Int} (mono : ∀ x y, f ≤ x → x ≤ y → c x ≤ c y) (h0 : f ≤ n) (h1 : n ≤ hi) (hc : 0 < c n) (hp : n = f ∨ c (n - 1) ≤ 0) (h : Nth c f hi 0 o) : o = some n := by
  cases o with
  | none =>
    have h : c hi ≤ 0 := h
    have := mono n hi h0 h1
    omega
  | some x =>
    obtain ⟨x0, x1, x2, x3⟩ := h
    have : x = n := by
      rcases Int.lt_trichotomy x n with z | z | z
      · rcases hp with hp | hp
        · omega
        · have := mono x (n - 1) x0 (by omega)
          omega
      · exact z
      · rcases x3 with x3 | x3
        · omega
        · have := mono n (x - 1) h0 (by omega)
          omega
    rw [this]
end Ur
/-! KO: operators that the painters' class defines. -/
namespace Ur
open PySem PySem.Spec PyProof.Rows L2
/-- a method with what it promises, as an operator is found -/
def OwnS (P : Program) (w : World) (K : PySem.W.Frag) (mg : Str → Option Value) (base : Heap) (C : Addr) (m : Str) (k : Nat) (ps : List Str) (sp : Sp) : Prop :=
  ∃ f fd, PySem.W.findIn K (.ref C) m = some (some (.ref f)) ∧ PySem.W.isFn K (.ref f) = true ∧ FnOk P w K mg base CX0 k f fd ps sp ∧ Binds K fd ps []
/-- what + asks of the class and of int -/
structure AddCls (K : PySem.W.Frag) (C : Addr) : Prop where
  self : PySem.W.selfFirst K C = true
  back : PySem.W.findIn K (.ref C) "__radd__" = some none
  iadd : ∃ v, PySem.W.findIn K (.type "int") "__add__" = some v
  irad : ∃ v, PySem.W.findIn K (.type "int") "__radd__" = some v
  sub : PySem.W.subIn K (.type "int") (.ref C) = some false
section
variable {X : Cx} {C : Addr} {k : Nat} {sp : Sp} {ps : List Str}
theorem un_own (h : OwnS X.prog X.w X.K X.mg X.base C "__neg__" k ps sp) (hr : Room k X.A) : UnR X (unaryOp .USub) (fun x H Q => ∃ a dx fs, x = .ref a ∧ H a = some (.ins C dx fs) ∧ sp [.ref a] H Q E0) := by
  intro pins s σ H x v Q I rx hq
  obtain ⟨a, dx, fs, rfl, ha, q⟩ := hq
  obtain ⟨f, fd, hs, hf, F, b⟩ := h
  have e : v = .ref a := rx
  subst e
  obtain ⟨mA, J0, _⟩ := ins_get I.hok ha
  obtain ⟨od, J, _⟩ := J0.look
  obtain ⟨m, F0⟩ := I.fr
  exact PySem.W.ksp_neg F0 I.ok.mod.kin J hs hf (run_fn F hr b .nil pass0 I (.cons (show L2.RelV (.ref a) (.ref a) from rfl) .nil) q)
theorem op_addOwn (h : OwnS X.prog X.w X.K X.mg X.base C "__add__" k ps sp) (c : AddCls X.K C) (hr : Room k X.A) : OpR X (binaryOp .Add) (fun x y H Q => ∃ a dx fs i, x = .ref a ∧ y = .int i ∧ H a = some (.ins C dx fs) ∧ sp [.ref a, .int i] H Q E0) := by
  intro pins s σ H x y v u Q I rx ry hq
  obtain ⟨a, dx, fs, i, rfl, rfl, ha, q⟩ := hq
  obtain ⟨f, fd, hs, hf, F, b⟩ := h
  have e : v = .ref a := rx
  subst e
  obtain ⟨t, rfl⟩ := ry
  obtain ⟨mA, J0, _⟩ := ins_get I.hok ha
  obtain ⟨od, J, _⟩ := J0.look
  obtain ⟨m, F0⟩ := I.fr
  obtain ⟨v1, e1⟩ := c.iadd
  obtain ⟨v2, e2⟩ := c.irad
  refine PySem.W.ksp_binT (op := .Add) (T := "int") F0 I.ok.mod.kin J rfl c.self hs hf c.back (.inl rfl) e1 e2 c.sub (wpAny_mono (run_fn F hr b .nil pass0 I (.cons (show L2.RelV (.ref a) (.ref a) from rfl) (.cons (show L2.RelV (.int i) (.int i t) from ⟨t, rfl⟩) .nil)) q) (fun v s' hv => ?_) fun _ _ z => z)
  cases v <;> first | exact hv | (obtain ⟨x, _, _, rx, _⟩ := hv; cases x <;> first | (cases rx; done) | (obtain ⟨_, rx⟩ := rx; cases rx))
end
abbrev s_Painter_add : Stmt := (inClass (topS 60) 12)
abbrev N_sc_Painter_add : List Str := ["self", "other"]
abbrev P_Painter_add : List Str := ["self", "other"]
theorem sc_Painter_add : FnScope N_sc_Painter_add P_Painter_add (defScope s_Painter_add) := ⟨rfl, rfl, rfl, by decide +kernel, rfl, by decide +kernel, by decide +kernel⟩
def spAdd (C : Addr) : Sp := fun vs H Q _ => ∃ (a : Addr) (nm : Str) (d p s i : Int), vs = [.ref a, .int i] ∧ PnAt C H a nm d p s ∧ PartOk nm d (p + i) s ∧ ∀ x H', PnAt C H' x nm d (p + i) s → Same H H' → Q (.ref x) H'
section
variable {P : Program} {w : World} {K : PySem.W.Frag} {mg : Str → Option Value} {base : Heap} {C : Addr} {f : Addr} {fd : FuncData}
theorem ok_add (F : Fun K "__add__" "Painter.__add__" s_Painter_add f fd) (T : PTxt K mg C) (hMk : MkP P w K mg base C) : FnOk P w K mg base CX0 5 f fd P_Painter_add (spAdd C) := by
  refine F.ok sc_Painter_add (fun vs H Q E h => ?_) (fun cdv A outer s H vs Q E hr h => ?_)
  · obtain ⟨a, nm, d, p, st, i, rfl, _⟩ := h
    rfl
  obtain ⟨a, nm, d, p, st, i, rfl, ⟨dx, ha⟩, ok, q⟩ := h
  refine ⟨_, (pss_one (ps_ret (pe_mkP hMk T (hr.mono (by decide)) (pa_cons (pe_fld (pv 0) rfl) (pa_cons (pe_fld (pv 0) rfl) (pa_cons (pe_op op_add (pe_fld (pv 0) rfl) (pv 1)) (pa_cons (pe_fld (pv 0) rfl) pa_nil))))))), ?_⟩
  refine ⟨_, rfl, a, C, dx, _, _, rfl, ha, T.cl, T.nN, pfs_name _ _ _ _, _, rfl, a, C, dx, _, _, rfl, ha, T.cl, T.nD, pfs_day _ _ _ _, _, rfl, a, C, dx, _, _, rfl, ha, T.cl, T.nP, pfs_post _ _ _ _, _, rfl, _, _, rfl, rfl, _, rfl, a, C, dx, _, _, rfl, ha, T.cl, T.nS, pfs_stride _ _ _ _, fun x dx nx ndx nex => ?_⟩
  exact ⟨x, dx, nm, d, p + i, st, rfl, upd_same, ok, fun H7 hx7 kp7 => ⟨rfl, q x H7 ⟨dx, hx7⟩ (Same.made nx ndx kp7)⟩⟩
end
abbrev s_Painter_neg : Stmt := (inClass (topS 60) 13)
abbrev N_sc_Painter_neg : List Str := ["self"]
abbrev P_Painter_neg : List Str := ["self"]
theorem sc_Painter_neg : FnScope N_sc_Painter_neg P_Painter_neg (defScope s_Painter_neg) := ⟨rfl, rfl, rfl, by decide +kernel, rfl, by decide +kernel, by decide +kernel⟩
def spNeg (C : Addr) : Sp := fun vs H Q _ => ∃ (a : Addr) (nm : Str) (d p s : Int), vs = [.ref a] ∧ PnAt C H a nm d p s ∧ PartOk nm d p s ∧ ∀ x H', PnAt C H' x nm d (-p) (-s) → Same H H' → Q (.ref x) H'
section
variable {P : Program} {w : World} {K : PySem.W.Frag} {mg : Str → Option Value} {base : Heap} {C : Addr} {f : Addr} {fd : FuncData}
theorem PartOk.neg {nm : Str} {d p s : Int} (h : PartOk nm d p s) : PartOk nm d (-p) (-s) := by
  obtain ⟨a, b, c, e, g, i, j, k⟩ := h
  exact ⟨a, b, c, by omega, by omega, by omega, by omega, by omega⟩
theorem ok_neg (F : Fun K "__neg__" "Painter.__neg__" s_Painter_neg f fd) (T : PTxt K mg C) (hMk : MkP P w K mg base C) : FnOk P w K mg base CX0 5 f fd P_Painter_neg (spNeg C) := by
  refine F.ok sc_Painter_neg (fun vs H Q E h => ?_) (fun cdv A outer s H vs Q E hr h => ?_)
  · obtain ⟨a, nm, d, p, st, rfl, _⟩ := h
    rfl
  obtain ⟨a, nm, d, p, st, rfl, ⟨dx, ha⟩, ok, q⟩ := h
  refine ⟨_, (pss_one (ps_ret (pe_mkP hMk T (hr.mono (by decide)) (pa_cons (pe_fld (pv 0) rfl) (pa_cons (pe_fld (pv 0) rfl) (pa_cons (pe_un un_neg (pe_fld (pv 0) rfl)) (pa_cons (pe_un un_neg (pe_fld (pv 0) rfl)) pa_nil))))))), ?_⟩
  refine ⟨_, rfl, a, C, dx, _, _, rfl, ha, T.cl, T.nN, pfs_name _ _ _ _, _, rfl, a, C, dx, _, _, rfl, ha, T.cl, T.nD, pfs_day _ _ _ _, _, rfl, a, C, dx, _, _, rfl, ha, T.cl, T.nP, pfs_post _ _ _ _, _, rfl, _, rfl, a, C, dx, _, _, rfl, ha, T.cl, T.nS, pfs_stride _ _ _ _, _, rfl, fun x dx nx ndx nex => ?_⟩
  exact ⟨x, dx, nm, d, -p, -st, rfl, upd_same, ok.neg, fun H7 hx7 kp7 => ⟨rfl, q x H7 ⟨dx, hx7⟩ (Same.made nx ndx kp7)⟩⟩
end
end Ur
/-! NB: Fence.moved, mirrored, widened. -/
namespace Ur
open PySem PySem.Spec PyProof.Rows L2
/-- painters that were made one for each of a crew -/
structure Sent (C : Addr) (H : Hp) (L L' : List Pt) (f p w : Int) : Prop where
  at_ : ∀ x ∈ L', PtAt C H x
  eq : partsOf L' = (partsOf L).map (mvQ f p w)
theorem Sent.crew {C : Addr} {H : Hp} {L L' : List Pt} {f p w : Int} (h : Sent C H L L' f p w) {H0 : Hp} (c : Crew C H0 L) : Crew C H L' := by
  have e : L'.map Pt.nm = L.map Pt.nm := by
    have := congrArg (fun z => z.map (·.1)) h.eq
    unfold partsOf at this
    simp only [List.map_map] at this
    exact this
  refine ⟨h.at_, by rw [e]; exact c.nd, ?_⟩
  have := congrArg List.length e
  rw [List.length_map, List.length_map] at this
  rw [this]
  exact c.few
theorem Sent.same {C : Addr} {H H' : Hp} {L L' : List Pt} {f p w : Int} (h : Sent C H L L' f p w) (s : Same H H') : Sent C H' L L' f p w := ⟨fun x hx => (h.at_ x hx).same s, h.eq⟩
theorem Sent.snoc {C : Addr} {H : Hp} {L L' : List Pt} {f p w : Int} (h : Sent C H L L' f p w) {z y : Pt} (hy : PtAt C H y) (e1 : y.nm = z.nm) (e2 : y.d = z.d + w) (e3 : y.p = f * z.p + p) (e4 : y.s = f * z.s) : Sent C H (L ++ [z]) (L' ++ [y]) f p w := by
  refine ⟨fun x hx => ?_, ?_⟩
  · rcases List.mem_append.mp hx with hx | hx
    · exact h.at_ x hx
    · rw [List.mem_singleton.mp hx]
      exact hy
  · have a := h.eq
    unfold partsOf at a ⊢
    rw [List.map_append, List.map_append, List.map_append, a]
    show _ ++ [(y.nm, y.d, y.p, y.s)] = _ ++ [mvQ f p w (z.nm, z.d, z.p, z.s)]
    rw [e1, e2, e3, e4]
    rfl
def spMv (C CF : Addr) (g : Addr) (L : List Pt) (f p w : Int) (H : Hp) (Q : VK) : Prop := FcAt C CF H g L ∧ (∀ x ∈ L, PartOk x.nm (x.d + w) (f * x.p + p) (f * x.s)) ∧ ∀ y L' H', FcAt C CF H' y L' → partsOf L' = (partsOf L).map (mvQ f p w) → Same H H' → Q (.ref y) H'
end Ur
/-! PG: classes that leave one number leave one of so many neighbours; what a search for a post finds, in words of counts. -/
namespace Ur
open PySem PySem.Spec PyProof.Rows L2
/-- a class of numbers with a period, or nothing -/
def IsCls (S : Int → Prop) (m : Nat) : Prop := 1 ≤ m ∧ ∀ x y, S x → (S y ↔ (m : Int) ∣ y - x)
theorem cls_sub {S : Int → Prop} {m d : Nat} (h : IsCls S m) (hd : 1 ≤ d) (x0 : Int) : ∃ m', IsCls (fun t => S (x0 + d * t)) m' := by
  obtain ⟨m1, h⟩ := h
  have g0 : 0 < Nat.gcd m d := Nat.gcd_pos_of_pos_left d (by omega)
  refine ⟨m / Nat.gcd m d, Nat.div_pos (Nat.le_of_dvd (by omega) (Nat.gcd_dvd_left m d)) g0, fun x y hx => ?_⟩
  show S (x0 + d * y) ↔ _
  rw [h _ _ hx, show x0 + (d : Int) * y - (x0 + d * x) = d * (y - x) by rw [Int.mul_sub]; omega]
  have key : ∀ k : Nat, m ∣ d * k ↔ m / Nat.gcd m d ∣ k := fun k => by
    have e1 : m = Nat.gcd m d * (m / Nat.gcd m d) := (Nat.mul_div_cancel' (Nat.gcd_dvd_left m d)).symm
    have e2 : d = Nat.gcd m d * (d / Nat.gcd m d) := (Nat.mul_div_cancel' (Nat.gcd_dvd_right m d)).symm
    have cp : Nat.Coprime (m / Nat.gcd m d) (d / Nat.gcd m d) := Nat.coprime_div_gcd_div_gcd g0
    constructor
    · intro hk
      rw [e1] at hk
      have hk2 : Nat.gcd m d * (m / Nat.gcd m d) ∣ Nat.gcd m d * (d / Nat.gcd m d * k) := by
        rw [← Nat.mul_assoc, ← e2]
        exact hk
      exact cp.dvd_of_dvd_mul_left (Nat.dvd_of_mul_dvd_mul_left g0 hk2)
    · rintro ⟨c, rfl⟩
      refine ⟨d / Nat.gcd m d * c, ?_⟩
      generalize Nat.gcd m d = g at e1 e2 ⊢
      generalize m / g = a at e1 ⊢
      generalize d / g = b at e2 ⊢
      rw [e1, e2]
      ac_rfl
  have z := key (y - x).natAbs
  rw [← Int.natAbs_dvd_natAbs, ← Int.natAbs_dvd_natAbs, Int.natAbs_mul, Int.natAbs_natCast, Int.natAbs_natCast, Int.natAbs_natCast]
  exact z
/-- fewer classes that hit once than numbers: one is not hit -/
theorem not_hit : ∀ (Ss : List (Int → Prop)) (l : List Int), l.Nodup → Ss.length < l.length → (∀ S ∈ Ss, ∀ x ∈ l, ∀ y ∈ l, S x → S y → x = y) → ∃ x ∈ l, ∀ S ∈ Ss, ¬ S x
  | [], l, _, hl, _ => by
    cases l with
    | nil => exact absurd hl (Nat.lt_irrefl 0)
    | cons x r => exact ⟨x, List.mem_cons_self, fun S hS => by cases hS⟩
  | S :: Ss, l, nd, hl, one => by
    by_cases c : ∃ x ∈ l, S x
    · obtain ⟨x, hx, sx⟩ := c
      have el : (l.erase x).length = l.length - 1 := List.length_erase_of_mem hx
      obtain ⟨y, hy, no⟩ := not_hit Ss (l.erase x) (nd.erase x) (by rw [el]; have : Ss.length + 1 < l.length := hl; omega) fun T hT a ha b hb => one T (List.mem_cons_of_mem _ hT) a (List.mem_of_mem_erase ha) b (List.mem_of_mem_erase hb)
      refine ⟨y, List.mem_of_mem_erase hy, fun T hT => ?_⟩
      rcases List.mem_cons.mp hT with rfl | hT
      · intro sy
        have e := one T List.mem_cons_self y (List.mem_of_mem_erase hy) x hx sy sx
        rw [e] at hy
        exact (List.Nodup.not_mem_erase nd) hy
      · exact no T hT
    · obtain ⟨y, hy, no⟩ := not_hit Ss l nd (by have : Ss.length + 1 < l.length := hl; omega) fun T hT => one T (List.mem_cons_of_mem _ hT)
      refine ⟨y, hy, fun T hT => ?_⟩
      rcases List.mem_cons.mp hT with rfl | hT
      · exact fun sy => c ⟨y, hy, sy⟩
      · exact no T hT
def covB : Nat → Nat
  | 0 => 1
  | n + 1 => (n + 2) * covB n
theorem covB_pos : ∀ n, 1 ≤ covB n
  | 0 => Nat.le_refl 1
  | n + 1 => by
    have := covB_pos n
    show 1 ≤ (n + 2) * covB n
    exact Nat.le_trans this (Nat.le_mul_of_pos_left _ (by omega))
theorem covB_big : ∀ n, n + 1 ≤ covB n
  | 0 => Nat.le_refl 1
  | n + 1 => by
    have := covB_big n
    show n + 1 + 1 ≤ (n + 2) * covB n
    exact Nat.le_mul_of_pos_right _ (by omega)
/-- classes that leave one number leave one of so many neighbours -/
theorem cov_window : ∀ (n : Nat) (Ss : List (Int → Prop)), Ss.length = n → (∀ S ∈ Ss, ∃ m, IsCls S m) → (∃ z, ∀ S ∈ Ss, ¬ S z) → ∀ y : Int, ∃ x, y < x ∧ x ≤ y + covB n ∧ ∀ S ∈ Ss, ¬ S x
  | 0, Ss, hn, _, _, y => by
    obtain rfl := List.eq_nil_of_length_eq_zero hn
    exact ⟨y + 1, by omega, by show y + 1 ≤ y + 1; omega, fun S hS => by cases hS⟩
  | n + 1, Ss, hn, cl, ⟨z, hz⟩, y => by
    by_cases c : ∃ S ∈ Ss, ∃ m, IsCls S m ∧ m ≤ n + 2 ∧ 1 ≤ m
    · obtain ⟨S, hS, d, hd, dn, d1⟩ := c
      obtain ⟨A, B, rfl⟩ := List.append_of_mem hS
      have len : (A ++ B).length = n := by
        rw [List.length_append, List.length_cons] at hn
        rw [List.length_append]
        omega
      have inS : ∀ T, T ∈ A ++ B → T ∈ A ++ S :: B := fun T hT => by
        rcases List.mem_append.mp hT with h | h
        · exact List.mem_append_left _ h
        · exact List.mem_append_right _ (List.mem_cons_of_mem _ h)
      have ih := cov_window n ((A ++ B).map fun T => fun t : Int => T (z + d * t)) (by rw [List.length_map]; exact len) (fun T hT => by
        obtain ⟨T0, h0, rfl⟩ := List.mem_map.mp hT
        obtain ⟨m, hm⟩ := cl T0 (inS T0 h0)
        exact cls_sub hm d1 z) ⟨0, fun T hT => by
        obtain ⟨T0, h0, rfl⟩ := List.mem_map.mp hT
        show ¬ T0 (z + d * 0)
        rw [Int.mul_zero, Int.add_zero]
        exact hz T0 (inS T0 h0)⟩ ((y - z) / d)
      obtain ⟨t, t0, t1, no⟩ := ih
      have d0 : (0 : Int) < (d : Int) := by omega
      have q1 := Int.mul_ediv_add_emod (y - z) d
      have q2 := Int.emod_nonneg (y - z) (show (d : Int) ≠ 0 by omega)
      have q3 := Int.emod_lt_of_pos (y - z) d0
      have u1 : (d : Int) * ((y - z) / d + 1) ≤ d * t := Int.mul_le_mul_of_nonneg_left (by omega) (by omega)
      have u2 : (d : Int) * t ≤ d * ((y - z) / d + covB n) := Int.mul_le_mul_of_nonneg_left t1 (by omega)
      have u3 : (d : Int) * (covB n : Int) ≤ ((n + 2 : Nat) : Int) * (covB n : Int) := Int.mul_le_mul_of_nonneg_right (by omega) (by omega)
      have u4 : ((covB (n + 1) : Nat) : Int) = ((n + 2 : Nat) : Int) * (covB n : Int) := by
        show (((n + 2) * covB n : Nat) : Int) = _
        rw [Int.natCast_mul]
      rw [Int.mul_add] at u1 u2
      refine ⟨z + d * t, by omega, by rw [u4]; omega, fun T hT => ?_⟩
      rcases List.mem_append.mp hT with h | h
      · exact no _ (List.mem_map.mpr ⟨T, List.mem_append_left _ h, rfl⟩)
      · rcases List.mem_cons.mp h with rfl | h
        · intro hs
          refine hz T hT ((hd.2 _ z hs).mpr ?_)
          rw [show z - (z + (d : Int) * t) = d * (-t) by rw [Int.mul_neg]; omega]
          exact Int.dvd_mul_right _ _
        · exact no _ (List.mem_map.mpr ⟨T, List.mem_append_right _ h, rfl⟩)
    · have big := covB_big (n + 1)
      obtain ⟨x, hx, no⟩ := not_hit Ss ((List.range (n + 2)).map fun k : Nat => y + 1 + (k : Int)) (List.Pairwise.map _ (fun a b hab e => hab (by have e : y + 1 + (a : Int) = y + 1 + (b : Int) := e; omega)) List.nodup_range) (by rw [List.length_map, List.length_range]; omega) fun S hS a ha b hb sa sb => by
        obtain ⟨i, hi, rfl⟩ := List.mem_map.mp ha
        obtain ⟨j, hj, rfl⟩ := List.mem_map.mp hb
        have hi := List.mem_range.mp hi
        have hj := List.mem_range.mp hj
        obtain ⟨m, hm⟩ := cl S hS
        have mb : ¬ m ≤ n + 2 := fun z => c ⟨S, hS, m, hm, z, hm.1⟩
        have dv := (hm.2 _ _ sa).mp sb
        have dv2 := Int.natAbs_dvd_natAbs.mpr dv
        rw [Int.natAbs_natCast] at dv2
        by_cases e : i = j
        · rw [e]
        · have := Nat.le_of_dvd (by omega) dv2
          omega
      obtain ⟨k, hk, rfl⟩ := List.mem_map.mp hx
      have hk := List.mem_range.mp hk
      exact ⟨_, by omega, by omega, no⟩
theorem runIn_add {p s f k : Int} {m : Option Int} (sn : s ≠ 0) (h : f ≤ k + 1) : ∀ n : Nat, runIn p s m f (k + n) = runIn p s m f k + runIn p s m (k + 1) (k + n)
  | 0 => by
    rw [Int.natCast_zero, Int.add_zero, runIn_empty (f := k + 1) sn (by omega), Int.add_zero]
  | n + 1 => by
    have ih := runIn_add (p := p) (s := s) (f := f) (k := k) (m := m) sn h n
    have e : k + ((n + 1 : Nat) : Int) = k + n + 1 := by omega
    rw [e]
    have a := runIn_step (p := p) (f := f) (x := k + n) (m := m) sn (by omega)
    have b := runIn_step (p := p) (f := k + 1) (x := k + n) (m := m) sn (by omega)
    rcases a with ⟨a1, a2⟩ | ⟨a1, a2⟩ <;> rcases b with ⟨b1, b2⟩ | ⟨b1, b2⟩
    · omega
    · exact absurd a1 b1
    · exact absurd b1 a1
    · omega
/-- the post with an index, in words of counts -/
def SemN (F : Int → Int) (post index : Int) : Option Int → Prop
  | none => ∀ x, post ≤ x → F x ≤ index
  | some x => post ≤ x ∧ F x = index + 1 ∧ F (x - 1) = index
theorem sem_uniq {F : Int → Int} {post index : Int} {o o' : Option Int} (mono : ∀ x y, post - 1 ≤ x → x ≤ y → F x ≤ F y) (h : SemN F post index o) (h' : SemN F post index o') : o = o' := by
  cases o with
  | none =>
    cases o' with
    | none => rfl
    | some y =>
      have := h y h'.1
      have := h'.2.1
      omega
  | some x =>
    obtain ⟨a1, a2, a3⟩ := h
    cases o' with
    | none =>
      have := h' x a1
      omega
    | some y =>
      obtain ⟨b1, b2, b3⟩ := h'
      have : x = y := by
        rcases Int.lt_trichotomy x y with z | z | z
        · have := mono x (y - 1) (by omega) (by omega); omega
        · exact z
        · have := mono y (x - 1) (by omega) (by omega); omega
      rw [this]
/-- what a search through windows finds, in words of counts -/
theorem sem_of {F : Int → Int} {post index far hi : Int} {W : Int} {o : Option Int} (z : F (post - 1) = 0) (st : ∀ x, post - 1 ≤ x → F x ≤ F (x + 1) ∧ F (x + 1) ≤ F x + 1) (mono : ∀ x y, post - 1 ≤ x → x ≤ y → F x ≤ F y)
    (i0 : 0 ≤ index) (pf : post ≤ far) (w0 : 0 ≤ W) (win : (∃ x, far < x ∧ F (x - 1) < F x) → ∀ y, far ≤ y → F y + 1 ≤ F (y + W)) (eh : hi = far + (index + 1) * W)
    (h : match o with | none => F hi ≤ index | some x => post ≤ x ∧ x ≤ hi ∧ index < F x ∧ (x = post ∨ F (x - 1) ≤ index)) : SemN F post index o := by
  cases o with
  | none =>
    have h : F hi ≤ index := h
    intro x hx
    by_cases c : ∃ x, far < x ∧ F (x - 1) < F x
    · exfalso
      have w := win c
      have many : ∀ n : Nat, (n : Int) ≤ F (far + n * W) := fun n => by
        induction n with
        | zero =>
          have := mono (post - 1) far (by omega) (by omega)
          rw [Int.natCast_zero, Int.zero_mul, Int.add_zero]
          omega
        | succ n ih =>
          have a := w (far + n * W) (by have := Int.mul_nonneg (show 0 ≤ (n : Int) by omega) w0; omega)
          have e : far + ((n + 1 : Nat) : Int) * W = far + n * W + W := by rw [Int.natCast_add, Int.add_mul]; omega
          rw [e]
          omega
      have b := many (index + 1).toNat
      rw [show (((index + 1).toNat : Nat) : Int) = index + 1 by omega, ← eh] at b
      omega
    · have flat : ∀ n : Nat, F (far + n) ≤ F far := fun n => by
        induction n with
        | zero => rw [Int.natCast_zero, Int.add_zero]; exact Int.le_refl _
        | succ n ih =>
          have e : far + ((n + 1 : Nat) : Int) = far + n + 1 := by omega
          rw [e]
          rcases Int.lt_or_le (F (far + n)) (F (far + n + 1)) with g | g
          · exact absurd ⟨far + n + 1, by omega, by rw [show far + n + 1 - 1 = far + n by omega]; exact g⟩ c
          · omega
      have fh : far ≤ hi := by
        have := Int.mul_nonneg (show 0 ≤ index + 1 by omega) w0
        omega
      have a := mono far hi (by omega) fh
      by_cases g : x ≤ far
      · have := mono x far (by omega) g
        omega
      · have b := flat (x - far).toNat
        rw [show far + (((x - far).toNat : Nat) : Int) = x by omega] at b
        omega
  | some x =>
    obtain ⟨h0, h1, h2, h3⟩ := h
    have s := st (x - 1) (by omega)
    rw [show x - 1 + 1 = x by omega] at s
    rcases h3 with h3 | h3
    · subst h3
      refine ⟨h0, by omega, by omega⟩
    · exact ⟨h0, by omega, by omega⟩
/-- behind a post: the counts go on -/
theorem sem_next {F G : Int → Int} {post one index more : Int} {o o' : Option Int} (mono : ∀ x y, post - 1 ≤ x → x ≤ y → F x ≤ F y) (h1 : post ≤ one) (hF : F one = index + 1) (hG : ∀ x, one ≤ x → F x = F one + G x) (m0 : 0 ≤ more)
    (h : SemN F post (index + 1 + more) o) (h' : SemN G (one + 1) more o') : o' = o := by
  have mG : ∀ x y, one + 1 - 1 ≤ x → x ≤ y → G x ≤ G y := fun x y hx hxy => by
    have a := hG x (by omega)
    have b := hG y (by omega)
    have := mono x y (by omega) hxy
    omega
  refine sem_uniq mG h' ?_
  cases o with
  | none =>
    intro x hx
    have a := hG x (by omega)
    have := h x (by omega)
    omega
  | some x =>
    obtain ⟨a1, a2, a3⟩ := h
    have lt : one + 1 ≤ x := by
      rcases Int.lt_or_le one x with g | g
      · omega
      · have := mono x one (by omega) g
        omega
    have b := hG x (by omega)
    have c := hG (x - 1) (by omega)
    exact ⟨lt, by omega, by omega⟩
theorem covB_mono : ∀ {n m : Nat}, n ≤ m → covB n ≤ covB m
  | n, 0, h => by
    obtain rfl : n = 0 := by omega
    exact Nat.le_refl _
  | n, m + 1, h => by
    by_cases c : n = m + 1
    · rw [c]; exact Nat.le_refl _
    · exact Nat.le_trans (covB_mono (show n ≤ m by omega)) (Nat.le_mul_of_pos_left _ (by omega))
theorem covB_30 {n : Nat} (h : n ≤ 30) : covB n ≤ 10 ^ 36 := Nat.le_trans (covB_mono h) (by decide +kernel)
/-- from far on, runs have come to their end or go on for ever -/
def Ends (Q : List Quad) (C : Nat → Option Int) (day : Option Int) (far : Int) : Prop := ∀ j, j < Q.length → byC day (dQ Q j) (C j) ≠ some 0 → farV ⟨1, pQ Q j, sQ Q j, byC day (dQ Q j) (C j)⟩ ≤ far
def EndS (Q : List Quad) (C : Nat → Option Int) (day : Option Int) (j : Nat) (x : Int) : Prop := byC day (dQ Q j) (C j) = none ∧ 0 < sQ Q j ∧ sQ Q j ∣ x - pQ Q j
section
variable {Q : List Quad} {C : Nat → Option Int} {day : Option Int} {far : Int}
theorem endS_cls (j : Nat) : ∃ m, IsCls (EndS Q C day j) m := by
  by_cases c : byC day (dQ Q j) (C j) = none ∧ 0 < sQ Q j
  · obtain ⟨c1, c2⟩ := c
    have e : (((sQ Q j).natAbs : Nat) : Int) = sQ Q j := by omega
    refine ⟨(sQ Q j).natAbs, by omega, fun x y hx => ?_⟩
    rw [e]
    obtain ⟨_, _, dx⟩ := hx
    constructor
    · rintro ⟨_, _, dy⟩
      have := Int.dvd_sub dy dx
      rw [show y - pQ Q j - (x - pQ Q j) = y - x by omega] at this
      exact this
    · intro d
      refine ⟨c1, c2, ?_⟩
      have := Int.dvd_add d dx
      rw [show y - x + (x - pQ Q j) = y - pQ Q j by omega] at this
      exact this
  · exact ⟨1, Nat.le_refl _, fun x y hx => absurd ⟨hx.1, hx.2.1⟩ c⟩
theorem far_iff (ok : ∀ q ∈ Q, q.2.2.2 ≠ 0) (en : Ends Q C day far) {x : Int} (hx : far < x) : PaintedBy Q C day x ↔ ∃ j, j < Q.length ∧ EndS Q C day j x := by
  constructor
  · rintro ⟨j, hj, n, n0, nk, e⟩
    obtain ⟨_, _, _, a4⟩ := q_at (List.getElem?_eq_getElem hj)
    have sn : sQ Q j ≠ 0 := by rw [a4]; exact ok _ (List.getElem_mem hj)
    have nz : byC day (dQ Q j) (C j) ≠ some 0 := fun z => by
      have := nk 0 z
      omega
    have f := en j hj nz
    refine ⟨j, hj, ?_⟩
    cases m : byC day (dQ Q j) (C j) with
    | none =>
      rw [m] at f
      have f : pQ Q j ≤ far := f
      refine ⟨m, ?_, ⟨n, by rw [Int.mul_comm]; omega⟩⟩
      rcases Int.lt_or_le 0 (sQ Q j) with g | g
      · exact g
      · have := Int.mul_nonneg n0 (show 0 ≤ -sQ Q j by omega)
        rw [Int.mul_neg] at this
        omega
    | some k =>
      exfalso
      rw [m] at f
      have f : max (pQ Q j) (pQ Q j + (k - 1) * sQ Q j) ≤ far := f
      have lt := nk k m
      rcases Int.lt_or_le 0 (sQ Q j) with g | g
      · have := Int.mul_le_mul_of_nonneg_right (show n ≤ k - 1 by omega) (show 0 ≤ sQ Q j by omega)
        omega
      · have := Int.mul_nonneg n0 (show 0 ≤ -sQ Q j by omega)
        rw [Int.mul_neg] at this
        omega
  · rintro ⟨j, hj, m, s0, c, hc⟩
    have f := en j hj (by rw [m]; intro z; cases z)
    rw [m] at f
    have f : pQ Q j ≤ far := f
    refine ⟨j, hj, c, ?_, fun k e => (by rw [m] at e; cases e), by rw [Int.mul_comm]; omega⟩
    rcases Int.lt_or_le c 0 with g | g
    · have := Int.mul_nonneg (show 0 ≤ sQ Q j by omega) (show 0 ≤ -c by omega)
      rw [Int.mul_neg] at this
      omega
    · exact g
/-- posts that are not painted: none far away, or one in each window -/
theorem win_free (ok : ∀ q ∈ Q, q.2.2.2 ≠ 0) (few : Q.length ≤ 30) (en : Ends Q C day far) (h : ∃ x, far < x ∧ ¬ PaintedBy Q C day x) {y : Int} (hy : far ≤ y) : ∃ x, y < x ∧ x ≤ y + 10 ^ 36 ∧ ¬ PaintedBy Q C day x := by
  obtain ⟨z, hz, nz⟩ := h
  have iff_ : ∀ x, far < x → (PaintedBy Q C day x ↔ ∃ S ∈ (List.range Q.length).map (EndS Q C day), S x) := fun x hx => by
    rw [far_iff ok en hx]
    constructor
    · rintro ⟨j, hj, e⟩
      exact ⟨_, List.mem_map.mpr ⟨j, List.mem_range.mpr hj, rfl⟩, e⟩
    · rintro ⟨S, hS, e⟩
      obtain ⟨j, hj, rfl⟩ := List.mem_map.mp hS
      exact ⟨j, List.mem_range.mp hj, e⟩
  obtain ⟨x, x0, x1, no⟩ := cov_window Q.length ((List.range Q.length).map (EndS Q C day)) (by rw [List.length_map, List.length_range]) (fun S hS => by
    obtain ⟨j, _, rfl⟩ := List.mem_map.mp hS
    exact endS_cls j) ⟨z, fun S hS e => nz ((iff_ z hz).mpr ⟨S, hS, e⟩)⟩ y
  have b := covB_30 few
  have b2 : (covB Q.length : Int) ≤ 10 ^ 36 := by
    have : ((covB Q.length : Nat) : Int) ≤ ((10 ^ 36 : Nat) : Int) := by omega
    exact this
  refine ⟨x, x0, by omega, fun p => ?_⟩
  obtain ⟨S, hS, e⟩ := (iff_ x (by omega)).mp p
  exact no S hS e
theorem win_paint (ok : ∀ q ∈ Q, q.2.2.2 ≠ 0) (sb : ∀ q ∈ Q, q.2.2.2 ≤ 10 ^ 18) (en : Ends Q C day far) (h : ∃ x, far < x ∧ PaintedBy Q C day x) {y : Int} (hy : far ≤ y) : ∃ x, y < x ∧ x ≤ y + 10 ^ 36 ∧ PaintedBy Q C day x := by
  obtain ⟨z, hz, pz⟩ := h
  obtain ⟨j, hj, m, s0, _⟩ := (far_iff ok en hz).mp pz
  obtain ⟨_, _, _, a4⟩ := q_at (List.getElem?_eq_getElem hj)
  have s1 : sQ Q j ≤ 10 ^ 18 := by rw [a4]; exact sb _ (List.getElem_mem hj)
  have q1 := Int.mul_ediv_add_emod (y - pQ Q j) (sQ Q j)
  have q2 := Int.emod_nonneg (y - pQ Q j) (show sQ Q j ≠ 0 by omega)
  have q3 := Int.emod_lt_of_pos (y - pQ Q j) s0
  have e : pQ Q j + sQ Q j * ((y - pQ Q j) / sQ Q j + 1) = pQ Q j + sQ Q j * ((y - pQ Q j) / sQ Q j) + sQ Q j := by rw [Int.mul_add, Int.mul_one]; omega
  refine ⟨pQ Q j + sQ Q j * ((y - pQ Q j) / sQ Q j + 1), by omega, by omega, (far_iff ok en (by omega)).mpr ⟨j, hj, m, s0, ?_⟩⟩
  rw [show pQ Q j + sQ Q j * ((y - pQ Q j) / sQ Q j + 1) - pQ Q j = sQ Q j * ((y - pQ Q j) / sQ Q j + 1) by omega]
  exact Int.dvd_mul_right _ _
/-- what a search for a post that is not painted finds -/
theorem sem_free0 (is : IsHist Q.length (dQ Q) (fSP Q) C) (ok : ∀ q ∈ Q, q.2.2.2 ≠ 0) (few : Q.length ≤ 30) (en : Ends Q C day far) {post index hi : Int} {o : Option Int} (i0 : 0 ≤ index) (pf : post ≤ far) (eh : hi = far + (index + 1) * 10 ^ 36)
    (h : Nth (fun x => x - post + 1 - pntN Q C day post x Q.length) post hi index o) : SemN (fun x => x - post + 1 - pntN Q C day post x Q.length) post index o := by
  have st : ∀ x, post ≤ x + 1 → _ := fun x hx => pnt_step (day := day) (f := post) (x := x) is ok hx
  refine sem_of (far := far) (hi := hi) (W := 10 ^ 36) ?_ (fun x hx => ?_) (fun x y hx hxy => ?_) i0 pf (by decide) (fun hw y hy => ?_) eh ?_
  · show post - 1 - post + 1 - pntN Q C day post (post - 1) Q.length = 0
    rw [pnt_none ok (by omega) _ (Nat.le_refl _)]
    omega
  · show x - post + 1 - pntN Q C day post x Q.length ≤ x + 1 - post + 1 - pntN Q C day post (x + 1) Q.length ∧ x + 1 - post + 1 - pntN Q C day post (x + 1) Q.length ≤ x - post + 1 - pntN Q C day post x Q.length + 1
    rcases st x (by omega) with ⟨_, e⟩ | ⟨_, e⟩ <;> omega
  · show x - post + 1 - pntN Q C day post x Q.length ≤ y - post + 1 - pntN Q C day post y Q.length
    have := pnt_grow (day := day) (f := post) is ok hxy
    omega
  · obtain ⟨x, hx, lt⟩ := hw
    have lt : x - 1 - post + 1 - pntN Q C day post (x - 1) Q.length < x - post + 1 - pntN Q C day post x Q.length := lt
    have nx : ¬ PaintedBy Q C day x := by
      rcases st (x - 1) (by omega) with ⟨_, e⟩ | ⟨a, e⟩
      · rw [show x - 1 + 1 = x by omega] at e
        omega
      · rw [show x - 1 + 1 = x by omega] at a
        exact a
    obtain ⟨z, z0, z1, nz⟩ := win_free ok few en ⟨x, hx, nx⟩ hy
    show y - post + 1 - pntN Q C day post y Q.length + 1 ≤ y + 10 ^ 36 - post + 1 - pntN Q C day post (y + 10 ^ 36) Q.length
    have g1 := pnt_grow (day := day) (f := post) is ok (show y ≤ z - 1 by omega)
    have g2 := pnt_grow (day := day) (f := post) is ok z1
    rcases st (z - 1) (by omega) with ⟨a, e⟩ | ⟨a, e⟩
    · rw [show z - 1 + 1 = z by omega] at a
      exact absurd a nz
    · rw [show z - 1 + 1 = z by omega] at e
      omega
  · cases o with
    | none => exact h
    | some x => exact h
theorem sem_paint0 (is : IsHist Q.length (dQ Q) (fSP Q) C) (ok : ∀ q ∈ Q, q.2.2.2 ≠ 0) (sb : ∀ q ∈ Q, q.2.2.2 ≤ 10 ^ 18) (en : Ends Q C day far) {post index hi : Int} {o : Option Int} (i0 : 0 ≤ index) (pf : post ≤ far) (eh : hi = far + (index + 1) * 10 ^ 36)
    (h : Nth (fun x => pntN Q C day post x Q.length) post hi index o) : SemN (fun x => pntN Q C day post x Q.length) post index o := by
  have st : ∀ x, post ≤ x + 1 → _ := fun x hx => pnt_step (day := day) (f := post) (x := x) is ok hx
  refine sem_of (far := far) (hi := hi) (W := 10 ^ 36) (pnt_none ok (by omega) _ (Nat.le_refl _)) (fun x hx => ?_) (fun x y hx hxy => (pnt_grow (day := day) (f := post) is ok hxy).1) i0 pf (by decide) (fun hw y hy => ?_) eh ?_
  · show pntN Q C day post x Q.length ≤ pntN Q C day post (x + 1) Q.length ∧ pntN Q C day post (x + 1) Q.length ≤ pntN Q C day post x Q.length + 1
    rcases st x (by omega) with ⟨_, e⟩ | ⟨_, e⟩ <;> omega
  · obtain ⟨x, hx, lt⟩ := hw
    have lt : pntN Q C day post (x - 1) Q.length < pntN Q C day post x Q.length := lt
    have nx : PaintedBy Q C day x := by
      rcases st (x - 1) (by omega) with ⟨a, e⟩ | ⟨_, e⟩
      · rw [show x - 1 + 1 = x by omega] at a
        exact a
      · rw [show x - 1 + 1 = x by omega] at e
        omega
    obtain ⟨z, z0, z1, nz⟩ := win_paint ok sb en ⟨x, hx, nx⟩ hy
    show pntN Q C day post y Q.length + 1 ≤ pntN Q C day post (y + 10 ^ 36) Q.length
    have g1 := pnt_grow (day := day) (f := post) is ok (show y ≤ z - 1 by omega)
    have g2 := pnt_grow (day := day) (f := post) is ok z1
    rcases st (z - 1) (by omega) with ⟨a, e⟩ | ⟨a, e⟩
    · rw [show z - 1 + 1 = z by omega] at e
      omega
    · rw [show z - 1 + 1 = z by omega] at a
      exact absurd nz a
  · cases o with
    | none => exact h
    | some x => exact h
end
theorem side_is {qs : List Quad} {rs : List Rw} (left : Bool) (h : HistR qs (fSP qs) rs) : IsHist (sideQ left qs).length (dQ (sideQ left qs)) (fSP (sideQ left qs)) (cntR rs) := by
  cases left with
  | false => exact hist_cntR h
  | true =>
    have z := hist_cntR (histR_mv (f := -1) (p := 0) (w := 0) (by decide) h)
    rw [show cntR (rs.map (sentR (-1) 0 0)) = cntR rs from funext fun i => cntR_mv] at z
    exact z
theorem side_quad {qs : List Quad} (left : Bool) (ok : ∀ q ∈ qs, QuadOk q) : ∀ q ∈ sideQ left qs, QuadOk q := fun q hq => by
  cases left with
  | false => exact ok q hq
  | true =>
    obtain ⟨x, hx, rfl⟩ := List.mem_map.mp hq
    have k := ok x hx
    have k1 := k.d0
    have k2 := k.d1
    have k3 := k.p0
    have k4 := k.p1
    have k5 := k.s0
    have k6 := k.s1
    have k7 := k.sn
    exact ⟨k.nm, by show 0 ≤ x.2.1 + 0; omega, by show x.2.1 + 0 ≤ _; omega, by show _ ≤ -1 * x.2.2.1 + 0; omega, by show -1 * x.2.2.1 + 0 ≤ _; omega, by show _ ≤ -1 * x.2.2.2; omega, by show -1 * x.2.2.2 ≤ _; omega, by show -1 * x.2.2.2 ≠ 0; omega⟩
theorem side_len {qs : List Quad} (left : Bool) : (sideQ left qs).length = qs.length := by
  cases left with
  | false => rfl
  | true => exact List.length_map ..
theorem rns_has {L : List Pt} {cs : List (Option Int)} {n i : Nat} {x : Pt} {c : Option Int} (hi : i < n) (h : L[i]? = some x) (g : cs[i]? = some c) (z : c ≠ some 0) : (⟨1, x.p, x.s, c⟩ : Rn) ∈ rnsOf L cs n := by
  refine List.mem_filterMap.mpr ⟨i, List.mem_range.mpr hi, ?_⟩
  rw [h, g]
  show (if c = some 0 then none else some (⟨1, x.p, x.s, c⟩ : Rn)) = _
  rw [if_neg z]
theorem ends_day {L : List Pt} {rs : List Rw} {day : Option Int} {left : Bool} {R : List Rn} {P : Int} (h : ∀ r ∈ sideR left (dayRns L rs day), ∃ r' ∈ R, farV r' = farV r) : Ends (sideQ left (partsOf L)) (cntR rs) day (farR P R) := fun j hj nz => by
  rw [side_len, parts_len] at hj
  have hx : L[j]? = some L[j] := List.getElem?_eq_getElem hj
  obtain ⟨_, a2, a3, a4⟩ := q_at (parts_at hx)
  have hd : dQ (sideQ left (partsOf L)) j = L[j].d ∧ (pQ (sideQ left (partsOf L)) j, sQ (sideQ left (partsOf L)) j) = (sgn left L[j].p, sgn left L[j].s) := by
    cases left with
    | false => exact ⟨a2, by show (pQ (partsOf L) j, sQ (partsOf L) j) = _; rw [a3, a4]; rfl⟩
    | true =>
      obtain ⟨_, m2, m3, m4⟩ := mvQ_at (qs := partsOf L) (f := -1) (p := 0) (w := 0) (i := j) (by rw [parts_len]; exact hj)
      refine ⟨?_, ?_⟩
      · show dQ ((partsOf L).map (mvQ (-1) 0 0)) j = _
        rw [m2, a2, Int.add_zero]
      · show (pQ ((partsOf L).map (mvQ (-1) 0 0)) j, sQ ((partsOf L).map (mvQ (-1) 0 0)) j) = (-L[j].p, -L[j].s)
        rw [m3, m4, a3, a4, Int.add_zero, Int.neg_one_mul, Int.neg_one_mul]
  obtain ⟨h1, h2⟩ := hd
  have e3 := congrArg Prod.fst h2
  have e4 := congrArg Prod.snd h2
  have e3 : pQ (sideQ left (partsOf L)) j = sgn left L[j].p := e3
  have e4 : sQ (sideQ left (partsOf L)) j = sgn left L[j].s := e4
  rw [h1] at nz ⊢
  rw [e3, e4]
  have mem : (⟨1, L[j].p, L[j].s, byC day L[j].d (cntR rs j)⟩ : Rn) ∈ dayRns L rs day := by
    refine rns_has hj hx ?_ nz
    unfold bysC
    rw [List.getElem?_zipWith, hx, List.getElem?_map, List.getElem?_range hj]
    rfl
  have mem2 : ∃ r ∈ sideR left (dayRns L rs day), farV r = farV ⟨1, sgn left L[j].p, sgn left L[j].s, byC day L[j].d (cntR rs j)⟩ := by
    cases left with
    | false => exact ⟨_, mem, rfl⟩
    | true => exact ⟨_, List.mem_map.mpr ⟨_, mem, rfl⟩, rfl⟩
  obtain ⟨r, hr, er⟩ := mem2
  obtain ⟨r', hr', er'⟩ := h r hr
  rw [← er, ← er']
  exact far_le R _ (List.mem_cons_of_mem _ (List.mem_map.mpr ⟨r', hr', rfl⟩))
theorem wgt_far (r : Rn) : farV (wgt (-1) r) = farV r := rfl
theorem out_far {rs : List Rn} {post : Int} {left : Bool} : ∀ r ∈ sideR left rs, ∃ r' ∈ sideR left (outR rs post left), farV r' = farV r := fun r hr => by
  cases left with
  | false => exact ⟨wgt (-1) r, List.mem_cons_of_mem _ (List.mem_map.mpr ⟨r, hr, rfl⟩), rfl⟩
  | true =>
    obtain ⟨x, hx, rfl⟩ := List.mem_map.mp hr
    exact ⟨mir (wgt (-1) x), List.mem_map.mpr ⟨wgt (-1) x, List.mem_cons_of_mem _ (List.mem_map.mpr ⟨x, hx, rfl⟩), rfl⟩, rfl⟩
/-- the post with an index that is not painted by a day, to one side -/
def SemF (left : Bool) (qs : List Quad) (rs : List Rw) (day : Option Int) (post index : Int) (o : Option Int) : Prop := ∃ o' : Option Int, o = o'.map (sgn left) ∧ SemN (fun x => x - sgn left post + 1 - paintN (sideQ left qs) rs day (sgn left post) x) (sgn left post) index o' ∧ ∀ x, o' = some x → x ≤ max (sgn left post) (10 ^ 69) + (index + 1) * 10 ^ 36
def SemP (left : Bool) (qs : List Quad) (rs : List Rw) (day : Option Int) (post index : Int) (o : Option Int) : Prop := ∃ o' : Option Int, o = o'.map (sgn left) ∧ SemN (fun x => paintN (sideQ left qs) rs day (sgn left post) x) (sgn left post) index o' ∧ ∀ x, o' = some x → x ≤ max (sgn left post) (10 ^ 69) + (index + 1) * 10 ^ 36
theorem dayRns_far {L : List Pt} {rs : List Rw} {day : Option Int} (okL : ∀ x ∈ L, PartOk x.nm x.d x.p x.s) (ok : ∀ q ∈ partsOf L, QuadOk q) (hist : HistR (partsOf L) (fSP (partsOf L)) rs) (dd : ∀ d, day = some d → 0 ≤ d ∧ d ≤ 10 ^ 40) {left : Bool} : ∀ r ∈ sideR left (dayRns L rs day), farV r ≤ 10 ^ 69 := by
  have base : ∀ r ∈ dayRns L rs day, r.p.natAbs ≤ 10 ^ 30 ∧ r.s.natAbs ≤ 10 ^ 18 ∧ ∀ k, r.m = some k → 0 ≤ k ∧ k ≤ 10 ^ 50 := fun r hr => by
    obtain ⟨i, x, c, hx, hc, rfl⟩ := rns_memC hr
    have hi : i < L.length := (List.getElem?_eq_some_iff.mp hx).1
    have k := okL x (List.mem_of_getElem? hx)
    have k1 := k.s0
    have k2 := k.s1
    have k3 := k.p0
    have k4 := k.p1
    have k5 := k.d0
    unfold bysC at hc
    rw [List.getElem?_zipWith, hx, List.getElem?_map, List.getElem?_range hi] at hc
    obtain rfl := Option.some.inj hc
    have pl : (partsOf L).length = L.length := parts_len _
    refine ⟨by show x.p.natAbs ≤ _; omega, by show x.s.natAbs ≤ _; omega, fun z e => ?_⟩
    have e : byC day x.d (cntR rs i) = some z := e
    cases ec : cntR rs i with
    | none =>
      rw [ec] at e
      cases day with
      | none => cases e
      | some t =>
        have := dd t rfl
        have e : max 0 (t - x.d + 1) = z := Option.some.inj e
        omega
    | some k =>
      have b := cntR_bd ok hist (by rw [pl]; exact hi) ec
      rw [ec] at e
      cases day with
      | none =>
        obtain rfl := Option.some.inj e
        exact b
      | some t =>
        have := dd t rfl
        have e : min (max 0 (t - x.d + 1)) k = z := Option.some.inj e
        omega
  have one : ∀ {w p s : Int} {m : Option Int}, p.natAbs ≤ 10 ^ 30 → s.natAbs ≤ 10 ^ 18 → (∀ k, m = some k → 0 ≤ k ∧ k ≤ 10 ^ 50) → farV ⟨w, p, s, m⟩ ≤ 10 ^ 69 := fun {w p s m} hp hs hm => by
    cases m with
    | none => show p ≤ _; omega
    | some k =>
      have b := hm k rfl
      have z : ((k - 1) * s).natAbs ≤ 10 ^ 50 * 10 ^ 18 := by
        rw [Int.natAbs_mul]
        exact Nat.mul_le_mul (by omega) hs
      show max p (p + (k - 1) * s) ≤ _
      omega
  intro r hr
  cases left with
  | false =>
    obtain ⟨a, b, c⟩ := base r hr
    exact one a b c
  | true =>
    obtain ⟨x, hx, rfl⟩ := List.mem_map.mp hr
    obtain ⟨a, b, c⟩ := base x hx
    exact one (by omega) (by omega) c
theorem far_ub {P B : Int} (hP : P ≤ B) : ∀ {R : List Rn}, (∀ r ∈ R, farV r ≤ B) → farR P R ≤ B
  | [], _ => hP
  | r :: R, h => by
    have a := h r List.mem_cons_self
    have b := far_ub hP (R := R) fun x hx => h x (List.mem_cons_of_mem _ hx)
    show max (farV r) (farR P R) ≤ B
    omega
theorem nth_le {c : Int → Int} {post hi index x : Int} (h : Nth c post hi index (some x)) : x ≤ hi := h.2.1
theorem semF_of {L : List Pt} {rs : List Rw} {day : Option Int} {post index : Int} {left : Bool} {o : Option Int} (okq : ∀ q ∈ partsOf L, QuadOk q) (hist : HistR (partsOf L) (fSP (partsOf L)) rs) (okL : ∀ x ∈ L, PartOk x.nm x.d x.p x.s) (dd : ∀ d, day = some d → 0 ≤ d ∧ d ≤ 10 ^ 40) (few : L.length ≤ 30) (i0 : 0 ≤ index) (h : RawF left L rs day post index o) : SemF left (partsOf L) rs day post index o := by
  obtain ⟨o', rfl, h⟩ := h
  have fp : sgn left post ≤ farR (sgn left post) (sideR left (outR (dayRns L rs day) post left)) := far_le _ _ List.mem_cons_self
  have sq := side_quad left okq
  refine ⟨o', rfl, sem_free0 (side_is left hist) (fun q hq => (sq q hq).sn) (by rw [side_len, parts_len]; exact few) (ends_day (P := sgn left post) out_far) i0 fp rfl (Nth.congr (fun x hx => ?_) ?_ h), fun x e => ?_⟩
  · rw [out_sum (by omega), side_sum]
    rfl
  · have := Int.mul_nonneg (show 0 ≤ index + 1 by omega) (show (0 : Int) ≤ 10 ^ 36 by decide)
    show sgn left post ≤ hiR _ _ _
    unfold hiR
    omega
  · subst e
    have b := nth_le h
    unfold hiR at b
    have u : farR (sgn left post) (sideR left (outR (dayRns L rs day) post left)) ≤ max (sgn left post) (10 ^ 69) := far_ub (by omega) fun r hr => by
      have side : ∀ {r}, r ∈ sideR left (outR (dayRns L rs day) post left) → farV r = sgn left post ∨ ∃ r' ∈ sideR left (dayRns L rs day), farV r = farV r' := fun {r} hr => by
        cases left with
        | false =>
          rcases List.mem_cons.mp hr with rfl | hr
          · exact .inl rfl
          · obtain ⟨y, hy, rfl⟩ := List.mem_map.mp hr
            exact .inr ⟨y, hy, rfl⟩
        | true =>
          obtain ⟨y, hy, rfl⟩ := List.mem_map.mp hr
          rcases List.mem_cons.mp hy with rfl | hy
          · exact .inl rfl
          · obtain ⟨v, hv, rfl⟩ := List.mem_map.mp hy
            exact .inr ⟨mir v, List.mem_map.mpr ⟨v, hv, rfl⟩, rfl⟩
      rcases side hr with e | ⟨r', hr', e⟩
      · omega
      · have := dayRns_far okL okq hist dd r' hr'
        omega
    omega
def RawP (left : Bool) (L : List Pt) (rs : List Rw) (day : Option Int) (post index : Int) (o : Option Int) : Prop := ∃ o' : Option Int, o = o'.map (sgn left) ∧ Nth (sumIn (sideR left (dayRns L rs day)) (sgn left post)) (sgn left post) (hiR (sideR left (dayRns L rs day)) (sgn left post) index) index o'
theorem semP_of {L : List Pt} {rs : List Rw} {day : Option Int} {post index : Int} {left : Bool} {o : Option Int} (okq : ∀ q ∈ partsOf L, QuadOk q) (hist : HistR (partsOf L) (fSP (partsOf L)) rs) (okL : ∀ x ∈ L, PartOk x.nm x.d x.p x.s) (dd : ∀ d, day = some d → 0 ≤ d ∧ d ≤ 10 ^ 40) (i0 : 0 ≤ index) (h : RawP left L rs day post index o) : SemP left (partsOf L) rs day post index o := by
  obtain ⟨o', rfl, h⟩ := h
  have fp : sgn left post ≤ farR (sgn left post) (sideR left (dayRns L rs day)) := far_le _ _ List.mem_cons_self
  have sq := side_quad left okq
  refine ⟨o', rfl, sem_paint0 (side_is left hist) (fun q hq => (sq q hq).sn) (fun q hq => (sq q hq).s1) (ends_day (P := sgn left post) fun r hr => ⟨r, hr, rfl⟩) i0 fp rfl (Nth.congr (fun x hx => ?_) ?_ h), fun x e => ?_⟩
  · rw [side_sum]
    rfl
  · have := Int.mul_nonneg (show 0 ≤ index + 1 by omega) (show (0 : Int) ≤ 10 ^ 36 by decide)
    show sgn left post ≤ hiR _ _ _
    unfold hiR
    omega
  · subst e
    have b := nth_le h
    unfold hiR at b
    have u : farR (sgn left post) (sideR left (dayRns L rs day)) ≤ max (sgn left post) (10 ^ 69) := far_ub (by omega) fun r hr => by
      have := dayRns_far okL okq hist dd r hr
      omega
    omega
/-- counts of two intervals, one behind the other -/
theorem paint_add {qs : List Quad} {rs : List Rw} {day : Option Int} {f k x : Int} (ok : ∀ q ∈ qs, QuadOk q) (hf : f ≤ k + 1) (hx : k ≤ x) : paintN qs rs day f x = paintN qs rs day f k + paintN qs rs day (k + 1) x := by
  have key : ∀ n, n ≤ qs.length → pntN qs (cntR rs) day f x n = pntN qs (cntR rs) day f k n + pntN qs (cntR rs) day (k + 1) x n := fun n => by
    induction n with
    | zero => intro _; rfl
    | succ n ih =>
      intro hn
      have hn : n < qs.length := hn
      obtain ⟨_, _, _, a4⟩ := q_at (List.getElem?_eq_getElem hn)
      have r := runIn_add (p := pQ qs n) (s := sQ qs n) (f := f) (k := k) (m := byC day (dQ qs n) (cntR rs n)) (by rw [a4]; exact (ok _ (List.getElem_mem hn)).sn) hf (x - k).toNat
      rw [show k + (((x - k).toNat : Nat) : Int) = x by omega] at r
      rw [pntN_snoc, pntN_snoc, pntN_snoc, ih (by omega), r]
      omega
  exact key _ (Nat.le_refl _)
/-- a later day: not fewer -/
theorem paint_later {qs : List Quad} {rs : List Rw} {f l : Int} {d e : Int} (h : d ≤ e) : paintN qs rs (some d) f l ≤ paintN qs rs (some e) f l := by
  have key : ∀ n, pntN qs (cntR rs) (some d) f l n ≤ pntN qs (cntR rs) (some e) f l n := fun n => by
    induction n with
    | zero => exact Int.le_refl _
    | succ n ih =>
      obtain ⟨a, b, e1, e2, le⟩ := byC_mono (d := dQ qs n) (c := cntR rs n) h
      rw [pntN_snoc, pntN_snoc, e1, e2]
      have := runIn_mono (p := pQ qs n) (s := sQ qs n) (f := f) (l := l) le
      omega
  exact key qs.length
/-- a mirrored fence, looked at from the other side -/
theorem mirr_twice {qs : List Quad} : sideQ true (qs.map (mvQ (-1) 0 0)) = qs := by
  show (qs.map (mvQ (-1) 0 0)).map (mvQ (-1) 0 0) = qs
  rw [List.map_map]
  refine (List.map_congr_left fun x _ => ?_).trans (List.map_id qs)
  obtain ⟨a, b, c, d⟩ := x
  show (a, b + 0 + 0, -1 * (-1 * c + 0) + 0, -1 * (-1 * d)) = (a, b, c, d)
  rw [show b + 0 + 0 = b by omega, show -1 * (-1 * c + 0) + 0 = c by omega, show -1 * (-1 * d) = d by omega]
theorem mirr_paint {qs qs' : List Quad} {rs rs' : List Rw} {day : Option Int} {f l : Int} (e : qs' = qs.map (mvQ (-1) 0 0)) (d0 : ∀ i, i < qs'.length → 0 ≤ dQ qs' i) (h : HistR qs (fSP qs) rs) (h' : HistR qs' (fSP qs') rs') : paintN (sideQ true qs') rs' day f l = paintN qs rs day f l := by
  subst e
  obtain rfl := histR_uniq d0 (fSP_sy _) h' (histR_mv (f := -1) (p := 0) (w := 0) (by decide) h)
  rw [mirr_twice]
  unfold paintN
  refine congrArg List.sum (List.map_congr_left fun i _ => ?_)
  rw [cntR_mv]
end Ur
/-! PK: full_from. -/
namespace Ur
open PySem PySem.Spec PyProof.Rows L2
def sideL (left : Bool) (L : List Pt) : List Pt := if left then L.map mirP else L
theorem rns_side {left : Bool} {L : List Pt} {rs : List Rw} {day : Option Int} : sideR left (dayRns L rs day) = dayRns (sideL left L) rs day := by
  cases left with
  | false => rfl
  | true =>
    show (dayRns L rs day).map mir = dayRns (L.map mirP) rs day
    unfold dayRns
    rw [rns_mir, bys_mir, List.length_map]
theorem RnOk.mir {r : Rn} (h : RnOk r) : RnOk (mir r) := by
  obtain ⟨a, b, c, d, e⟩ := h
  exact ⟨by show -r.s ≠ 0; omega, by show (-r.s).natAbs ≤ _; rw [Int.natAbs_neg]; exact b, by show (-r.p).natAbs ≤ _; rw [Int.natAbs_neg]; exact c, d, fun k hk => ⟨(e k hk).1, by show ((k - 1) * -r.s).natAbs ≤ _; rw [Int.mul_neg, Int.natAbs_neg]; exact (e k hk).2⟩⟩
/-- what full_from finds: nothing, all posts, or the first of the posts that are all painted -/
def FulW (left : Bool) (L : List Pt) (rs : List Rw) (z : Option (Option Int)) : Prop := ∃ (far : Int) (o1 : Option Int), RawF false (sideL left L) rs none far 0 o1 ∧ 0 ≤ far ∧ far ≤ 10 ^ 69 ∧ (∀ r ∈ dayRns (sideL left L) rs none, farV r ≤ far) ∧
  (((∃ x, o1 = some x) ∧ z = none) ∨ (o1 = none ∧ ∃ o2, RawF true (sideL left L) rs none far 0 o2 ∧ z = some (o2.map fun h => if left then -h - 1 else h + 1)))
/-- the value that tells it -/
def FulV (H : Hp) (v : V) : Option (Option Int) → Prop
  | none => v = .non
  | some none => ∃ u, v = .ref u ∧ H u = some (.tup [.str "all"])
  | some (some n) => ∃ u, v = .ref u ∧ H u = some (.tup [.str "post", .int n])
abbrev s_full_from : Stmt := (topS 58)
abbrev N_sc_full_from : List Str := ["fence", "left", "runs", "far", "hole"]
abbrev P_full_from : List Str := ["fence", "left"]
theorem sc_full_from : FnScope N_sc_full_from P_full_from (defScope s_full_from) := ⟨rfl, rfl, rfl, by decide +kernel, rfl, by decide +kernel, by decide +kernel⟩
def spFul (T : List (Addr × Str)) (C CF : Addr) : Sp := fun vs H Q _ => ∃ (g : Addr) (L : List Pt) (left : Bool), vs = [.ref g, .bl left] ∧ FcAt C CF H g L ∧ LamX.Tabs T H ∧
  ∀ rs z v H', HistR (partsOf L) (fSP (partsOf L)) rs → FulW left L rs z → FulV H' v z → LamX.ExtN H H' → LamX.Tabs T H' → Q v H'
def FulK (K : PySem.W.Frag) (f : Addr) (fd : FuncData) : Prop := FunD K "full_from" "full_from" (defArgs s_full_from) (defBody s_full_from) (defScope s_full_from) [] [("left", .bl false)] f fd
section
variable {P : Program} {w : World} {K : PySem.W.Frag} {mg : Str → Option Value} {base : Heap} {C CF CH : Addr}
theorem ok_ful {Tt : List (Addr × Str)} {f : Addr} {fd : FuncData} (F : FulK K f fd) (CPR : Cal P w K mg base 17 "painted_runs" P_painted_runs (spPRu Tt C CF)) (CMi : Cal P w K mg base 1 "mirrored" P_mirrored (spMi K)) (CFar : Cal P w K mg base 1 "far_post" P_far_post (spFarP K)) (COu : Cal P w K mg base 2 "without" P_without (spOut K)) (CPA : Cal P w K mg base 5 "post_at" P_post_at (spPostAt K)) : FnOk P w K mg base CX0 18 f fd P_full_from (spFul Tt C CF) := by
  refine FunD.ok F sc_full_from (fun vs H Q E h => ?_) (fun cdv A outer s H vs Q E hr h => ?_)
  · obtain ⟨g, L, left, rfl, _⟩ := h
    rfl
  obtain ⟨g, L, left, rfl, hf, tb, q⟩ := h
  refine ⟨_, (pss_cons (ps_set (i := 2) sc_full_from.nd rfl (Or.inl rfl) (pe_cal CPR (hr.mono (by decide)) (pa_cons (pv 0) (pa_cons pe_non pa_nil)))) (C8.pss_cut (ps_if (pt_val (pv 1)) (pss_one (ps_set (i := 2) sc_full_from.nd rfl (Or.inl rfl) (pe_cal CMi (hr.mono (by decide)) (pa_cons (pv 2) pa_nil)))) pss_nil) (pss_cons (ps_set (i := 3) sc_full_from.nd rfl (Or.inl rfl) (pe_cal CFar (hr.mono (by decide)) (pa_cons (pv 2) (pa_cons pe_int pa_nil)))) (pss_cons (ps_if (pt_cmpR op_notN (pe_cal CPA (hr.mono (by decide)) (pa_cons (pe_cal COu (hr.mono (by decide)) (pa_cons (pv 2) (pa_cons (pv 3) (pa_cons pe_bl pa_nil)))) (pa_cons (pv 3) (pa_cons pe_int (pa_cons pe_bl pa_nil))))) pe_non (nomark _)) (pss_one (ps_ret pe_non)) pss_nil) (pss_cons (ps_set (i := 4) sc_full_from.nd rfl (Or.inl rfl) (pe_cal CPA (hr.mono (by decide)) (pa_cons (pe_cal COu (hr.mono (by decide)) (pa_cons (pv 2) (pa_cons (pv 3) (pa_cons pe_bl pa_nil)))) (pa_cons (pv 3) (pa_cons pe_int (pa_cons pe_bl pa_nil)))))) (pss_cons (ps_if (pt_cmpR op_isN (pv 4) pe_non (nomark _)) (pss_one (ps_ret (pe_tup (pa_cons pe_str pa_nil)))) pss_nil) (pss_one (ps_ret (pe_tup (pa_cons pe_str (pa_cons (pe_ifExp (pt_val (pv 1)) (pe_op op_sub (pe_un un_neg (pv 4)) pe_int) (pe_op op_add (pv 4) pe_int)) pa_nil))))))))))), ?_⟩
  refine ⟨_, rfl, g, L, none, rfl, hf, tb, fun rs R ds H1 hist hR rns e1 tb1 => ?_⟩
  have few := hf.crew.few
  have okr := dayRns_ok hf.crew (crew_quads hf.crew) hist (day := none) (fun d e => by cases e)
  have farb := dayRns_far (left := left) (fun x hx => (hf.crew.at_ x hx).2) (crew_quads hf.crew) hist (day := none) (fun d e => by cases e)
  have len : (dayRns L rs none).length ≤ 40 := Nat.le_trans (rns_len _ _ _) few
  have lenS : (dayRns (sideL left L) rs none).length ≤ 40 := by
    rw [← rns_side]
    cases left
    · exact len
    · show ((dayRns L rs none).map mir).length ≤ 40
      rw [List.length_map]
      exact len
  have okS : ∀ r ∈ dayRns (sideL left L) rs none, RnOk r ∧ r.w = 1 := fun r hr => by
    rw [← rns_side] at hr
    cases left
    · exact okr r hr
    · obtain ⟨x, hx, rfl⟩ := List.mem_map.mp hr
      exact ⟨(okr x hx).1.mir, (okr x hx).2⟩
  rw [rns_side] at farb
  refine ⟨fun σ' H' => ∃ (R : Addr) (ds : List Addr), σ' = [some (.ref g), some (.bl left), some (.ref R), none, none] ∧ H' R = some (.lst (ds.map V.ref)) ∧ RnsAt H' ds (dayRns (sideL left L) rs none) ∧ LamX.ExtN H H' ∧ LamX.Tabs Tt H', ?_, ?_⟩
  · cases left with
    | false => exact ⟨_, rfl, false, rfl, iteF ⟨R, ds, rfl, hR, rns, e1, tb1⟩⟩
    | true => exact ⟨_, rfl, true, rfl, iteT ⟨_, rfl, R, ds, _, rfl, hR, rns, Nat.le_trans len (by decide), fun R2 ds2 H2 hR2 rns2 s2 => ⟨R2, ds2, rfl, hR2, by rw [← rns_side]; exact rns2, e1.trans (LamX.ExtN.of s2), tabs_same s2 tb1⟩⟩⟩
  rintro σ' H2 ⟨R2, ds2, rfl, hR2, rns2, e2, tb2⟩
  have fb : farR 0 (dayRns (sideL left L) rs none) ≤ 10 ^ 69 := far_ub (by decide) farb
  have f0 : 0 ≤ farR 0 (dayRns (sideL left L) rs none) := far_le _ _ List.mem_cons_self
  have fr : ∀ r ∈ dayRns (sideL left L) rs none, farV r ≤ farR 0 (dayRns (sideL left L) rs none) := fun r hr => far_le _ _ (List.mem_cons_of_mem _ (List.mem_map_of_mem hr))
  refine ⟨_, rfl, R2, ds2, _, 0, rfl, hR2, rns2, (fun r hr => (okS r hr).1), by omega, fun H3 s3 => ?_⟩
  obtain ⟨far, efar⟩ : ∃ far, farR 0 (dayRns (sideL left L) rs none) = far := ⟨_, rfl⟩
  rw [efar] at fb f0 fr ⊢
  have outl : ∀ b : Bool, (outR (dayRns (sideL left L) rs none) far b).length ≤ 4000 := fun b => by
    show (_ :: (dayRns (sideL left L) rs none).map (wgt (-1))).length ≤ 4000
    rw [List.length_cons, List.length_map]
    omega
  have rns3 : RnsAt H3 ds2 (dayRns (sideL left L) rs none) := Paired.mapP rns2 fun _ _ h => s3 _ _ h
  refine ⟨_, rfl, _, rfl, R2, ds2, _, far, false, rfl, s3 _ _ hR2, rns3, (fun r hr => (okS r hr).1.wb), by omega, fun R4 ds4 H4 hR4 rns4 s4 => ?_⟩
  refine ⟨_, rfl, R4, ds4, _, far, 0, false, rfl, hR4, rns4, outR_ok (by omega) okS, outl false, by omega, by decide, by decide, fun o1 H5 nth1 s5 => ?_⟩
  have raw1 : RawF false (sideL left L) rs none far 0 (o1.map (sgn false)) := ⟨o1, rfl, nth1⟩
  have s25 := (s3.trans s4).trans s5
  have e5 := e2.trans (LamX.ExtN.of s25)
  have tb5 := tabs_same s25 tb2
  refine ⟨rfl, _, rfl, ?_⟩
  cases o1 with
  | some x =>
    refine iteNN (fun z => by cases z) ?_
    exact q rs none _ H5 hist ⟨far, _, raw1, f0, fb, fr, .inl ⟨⟨_, rfl⟩, rfl⟩⟩ rfl e5 tb5
  | none =>
    refine iteNS rfl ?_
    have rns5 : RnsAt H5 ds2 (dayRns (sideL left L) rs none) := Paired.mapP rns2 fun _ _ h => s25 _ _ h
    refine ⟨_, rfl, _, rfl, R2, ds2, _, far, true, rfl, s25 _ _ hR2, rns5, (fun r hr => (okS r hr).1.wb), by omega, fun R6 ds6 H6 hR6 rns6 s6 => ?_⟩
    refine ⟨_, rfl, R6, ds6, _, far, 0, true, rfl, hR6, rns6, outR_ok (by omega) okS, outl true, by omega, by decide, by decide, fun o2 H7 nth2 s7 => ?_⟩
    have raw2 : RawF true (sideL left L) rs none far 0 (o2.map (sgn true)) := ⟨o2, rfl, nth2⟩
    have e7 := e5.trans (LamX.ExtN.of (s6.trans s7))
    have tb7 := tabs_same (s6.trans s7) tb5
    have fin : ∀ (z : Option (Option Int)) (xs : List V) (u : Addr), H7 u = none → FulW left L rs z → FulV (upd H7 u (.tup xs)) (.ref u) z → Q (.ref u) (upd H7 u (.tup xs)) := fun z xs u nu w v => q rs z _ _ hist w v (e7.trans (LamX.ExtN.of (same_new nu _))) (tabs_same (same_new nu _) tb7)
    refine ⟨_, rfl, rfl, _, rfl, ?_⟩
    cases o2 with
    | none => exact iteDT rfl ⟨by show 1 ≤ sizeLine; decide, fun u nu => fin (some none) _ u nu ⟨far, _, raw1, f0, fb, fr, .inr ⟨rfl, _, raw2, rfl⟩⟩ ⟨u, rfl, upd_same⟩⟩
    | some x =>
      refine iteDF (fun z => by cases z) ?_
      cases left with
      | false => exact ⟨_, rfl, false, rfl, iteF ⟨_, rfl, _, _, rfl, rfl, by show 2 ≤ sizeLine; decide, fun u nu => fin (some (some (sgn true x + 1))) _ u nu ⟨far, _, raw1, f0, fb, fr, .inr ⟨rfl, _, raw2, rfl⟩⟩ ⟨u, rfl, upd_same⟩⟩⟩
      | true => exact ⟨_, rfl, true, rfl, iteT ⟨_, rfl, _, rfl, _, _, rfl, rfl, by show 2 ≤ sizeLine; decide, fun u nu => fin (some (some (-sgn true x - 1))) _ u nu ⟨far, _, raw1, f0, fb, fr, .inr ⟨rfl, _, raw2, rfl⟩⟩ ⟨u, rfl, upd_same⟩⟩⟩
end
end Ur
/-! CVm: classes (r, d) of numbers that part the whole numbers, made by parting one class after the other. -/
namespace Ur
abbrev Cl := Int × Int
/-- how many of the classes have the number x -/
def hits (cs : List Cl) (x : Int) : Nat := cs.countP fun c => decide (x % c.2 = c.1)
theorem hits_cons (c : Cl) (cs : List Cl) (x : Int) : hits (c :: cs) x = hits cs x + if x % c.2 = c.1 then 1 else 0 := by
  unfold hits
  rw [List.countP_cons]
  simp only [decide_eq_true_eq]
theorem hits_app (a b : List Cl) (x : Int) : hits (a ++ b) x = hits a x + hits b x := List.countP_append
theorem hits_perm {a b : List Cl} (h : a.Perm b) (x : Int) : hits a x = hits b x := h.countP_eq _
theorem hits_pos {cs : List Cl} {x : Int} {i : Nat} {c : Cl} (h : cs[i]? = some c) (hx : x % c.2 = c.1) : 1 ≤ hits cs x := List.countP_pos_iff.mpr ⟨c, List.mem_of_getElem? h, decide_eq_true hx⟩
theorem hits_some {cs : List Cl} {x : Int} (h : 1 ≤ hits cs x) : ∃ (i : Nat) (c : Cl), cs[i]? = some c ∧ x % c.2 = c.1 := by
  obtain ⟨c, hc, e⟩ := List.countP_pos_iff.mp h
  obtain ⟨i, hi, rfl⟩ := List.getElem_of_mem hc
  exact ⟨i, _, List.getElem?_eq_getElem hi, of_decide_eq_true e⟩
theorem hits_uniq {x : Int} : ∀ {cs : List Cl} {i j : Nat} {a b : Cl}, hits cs x ≤ 1 → cs[i]? = some a → cs[j]? = some b → x % a.2 = a.1 → x % b.2 = b.1 → i = j
  | [], i, j, a, b, _, h, _, _, _ => by simp at h
  | c :: cs, 0, 0, a, b, _, _, _, _, _ => rfl
  | c :: cs, 0, j + 1, a, b, h, ha, hb, xa, xb => by
    obtain rfl : c = a := by simpa using ha
    rw [hits_cons, if_pos xa] at h
    have := hits_pos (cs := cs) (i := j) (by simpa using hb) xb
    omega
  | c :: cs, i + 1, 0, a, b, h, ha, hb, xa, xb => by
    obtain rfl : c = b := by simpa using hb
    rw [hits_cons, if_pos xb] at h
    have := hits_pos (cs := cs) (i := i) (by simpa using ha) xa
    omega
  | c :: cs, i + 1, j + 1, a, b, h, ha, hb, xa, xb => by
    rw [hits_cons] at h
    rw [hits_uniq (cs := cs) (i := i) (j := j) (by omega) (by simpa using ha) (by simpa using hb) xa xb]
theorem one_hit {P : Nat → Prop} [DecidablePred P] {k0 : Nat} : ∀ {n : Nat}, (∀ k, k < n → (P k ↔ k = k0)) → (List.range n).countP (fun k => decide (P k)) = if k0 < n then 1 else 0
  | 0, _ => rfl
  | n + 1, h => by
    rw [List.range_succ, List.countP_append, one_hit fun k hk => h k (by omega), List.countP_cons, List.countP_nil]
    have hn := h n (Nat.lt_succ_self n)
    by_cases c : n = k0
    · rw [if_neg (by omega), if_pos (decide_eq_true (hn.mpr c)), if_pos (by omega)]
    · rw [if_neg (fun z => c (hn.mp (of_decide_eq_true z)))]
      by_cases z : k0 < n
      · rw [if_pos z, if_pos (by omega)]
      · rw [if_neg z, if_neg (by omega)]
theorem no_hit {P : Nat → Prop} [DecidablePred P] : ∀ {n : Nat}, (∀ k, k < n → ¬ P k) → (List.range n).countP (fun k => decide (P k)) = 0
  | 0, _ => rfl
  | n + 1, h => by
    rw [List.range_succ, List.countP_append, no_hit fun k hk => h k (by omega), List.countP_cons, List.countP_nil, if_neg (fun z => h n (Nat.lt_succ_self n) (of_decide_eq_true z))]
/-- a class parted -/
def splitC (r d : Int) (m : Nat) : List Cl := (List.range m).map fun k : Nat => (r + d * (k : Int), d * (m : Int))
theorem emod_two {x d : Int} {m : Nat} (d0 : 0 < d) (m0 : 0 < m) : x % (d * (m : Int)) = x % d + d * (x / d % (m : Int)) := by
  have a := Int.mul_ediv_add_emod x d
  have b := Int.mul_ediv_add_emod (x / d) (m : Int)
  have e0 := Int.emod_nonneg x (show d ≠ 0 by omega)
  have e1 := Int.emod_lt_of_pos x d0
  have f0 := Int.emod_nonneg (x / d) (show (m : Int) ≠ 0 by omega)
  have f1 := Int.emod_lt_of_pos (x / d) (show (0 : Int) < m by omega)
  generalize x / d % (m : Int) = k at b f0 f1 ⊢
  generalize x / d / (m : Int) = q at b
  generalize x % d = r at a e0 e1 ⊢
  generalize x / d = y at a b
  subst b
  have e : x = (r + d * k) + d * (m : Int) * q := by rw [← a, Int.mul_add, Int.mul_assoc]; omega
  have lo : 0 ≤ d * k := Int.mul_nonneg (by omega) f0
  have hi : d * (k + 1) ≤ d * (m : Int) := Int.mul_le_mul_of_nonneg_left (by omega) (by omega)
  rw [Int.mul_add, Int.mul_one] at hi
  rw [e, Int.add_mul_emod_self_left, Int.emod_eq_of_lt (by omega) (by omega)]
theorem hits_split {r d x : Int} {m : Nat} (r0 : 0 ≤ r) (r1 : r < d) (m0 : 0 < m) : hits (splitC r d m) x = if x % d = r then 1 else 0 := by
  have d0 : 0 < d := by omega
  unfold hits splitC
  rw [List.countP_map]
  have e0 := Int.emod_nonneg x (show d ≠ 0 by omega)
  have e1 := Int.emod_lt_of_pos x d0
  have f0 := Int.emod_nonneg (x / d) (show (m : Int) ≠ 0 by omega)
  have f1 := Int.emod_lt_of_pos (x / d) (show (0 : Int) < m by omega)
  have key : ∀ k : Nat, (x % (d * (m : Int)) = r + d * (k : Int)) ↔ (x % d = r ∧ (k : Int) = x / d % (m : Int)) := fun k => by
    rw [emod_two d0 m0]
    constructor
    · intro h
      have h1 := congrArg (· % d) h
      simp only [Int.add_mul_emod_self_left] at h1
      rw [Int.emod_eq_of_lt e0 e1, Int.emod_eq_of_lt r0 r1] at h1
      refine ⟨h1, ?_⟩
      rw [h1] at h
      exact (Int.eq_of_mul_eq_mul_left (show d ≠ 0 by omega) (show d * (x / d % (m : Int)) = d * (k : Int) by omega)).symm
    · rintro ⟨h1, h2⟩
      rw [h1, h2]
  show (List.range m).countP (fun k : Nat => decide (x % (d * (m : Int)) = r + d * (k : Int))) = _
  by_cases c : x % d = r
  · rw [if_pos c, one_hit (k0 := (x / d % (m : Int)).toNat) fun k _ => (key k).trans ⟨fun z => by omega, fun z => ⟨c, by omega⟩⟩, if_pos (by omega)]
  · rw [if_neg c, no_hit fun k _ z => c ((key k).mp z).1]
theorem sum_const (a : Int) : ∀ m : Nat, ((List.range m).map fun _ => a).sum = (m : Int) * a
  | 0 => by simp
  | m + 1 => by
    rw [List.range_succ, List.map_append, List.sum_append, sum_const a m]
    simp only [List.map_cons, List.map_nil, List.sum_cons, List.sum_nil]
    rw [Int.natCast_succ, Int.add_mul, Int.one_mul, Int.add_zero]
theorem perm_sumI {a b : List Int} (h : a.Perm b) : a.sum = b.sum := by
  induction h with
  | nil => rfl
  | cons x _ ih => rw [List.sum_cons, List.sum_cons, ih]
  | swap x y l => simp only [List.sum_cons]; omega
  | trans _ _ a b => exact a.trans b
/-- classes that part the whole numbers, after so many turns -/
structure Cov (t : Nat) (cs : List Cl) : Prop where
  t5 : t ≤ 5
  pos : ∀ c ∈ cs, 0 ≤ c.1 ∧ c.1 < c.2 ∧ c.2 ∣ 12 ^ t
  one : ∀ x, hits cs x = 1
  sum : (cs.map fun c => 248832 / c.2).sum = 248832
theorem Cov.start : Cov 0 [(0, 1)] := ⟨by decide, fun c hc => by rw [List.mem_singleton.mp hc]; decide, fun x => by rw [hits_cons]; simp [hits, Int.emod_one], by decide⟩
theorem Cov.up {t : Nat} {cs : List Cl} (h : Cov t cs) (ht : t + 1 ≤ 5) : Cov (t + 1) cs := ⟨ht, fun c hc => let ⟨a, b, d⟩ := h.pos c hc; ⟨a, b, Int.dvd_trans d ⟨12, by rw [Int.pow_succ]⟩⟩, h.one, h.sum⟩
theorem Cov.top {t : Nat} {cs : List Cl} (h : Cov t cs) (ht : t ≤ 5) : Cov 5 cs := ⟨Nat.le_refl 5, fun c hc => let ⟨a, b, d⟩ := h.pos c hc; ⟨a, b, Int.dvd_trans d ⟨12 ^ (5 - t), by rw [← Int.pow_add, show t + (5 - t) = 5 by omega]⟩⟩, h.one, h.sum⟩
theorem Cov.perm {t : Nat} {cs cs' : List Cl} (h : Cov t cs) (p : cs'.Perm cs) : Cov t cs' := ⟨h.t5, fun c hc => h.pos c (p.mem_iff.mp hc), fun x => by rw [hits_perm p]; exact h.one x, by rw [perm_sumI (p.map _)]; exact h.sum⟩
theorem pow12 {t : Nat} (h : t ≤ 5) : (12 : Int) ^ t ∣ 248832 := by
  have : t = 0 ∨ t = 1 ∨ t = 2 ∨ t = 3 ∨ t = 4 ∨ t = 5 := by omega
  rcases this with rfl | rfl | rfl | rfl | rfl | rfl <;> decide +kernel
theorem Cov.dvd {t : Nat} {cs : List Cl} (h : Cov t cs) {c : Cl} (hc : c ∈ cs) : c.2 ∣ 248832 := Int.dvd_trans (h.pos c hc).2.2 (pow12 h.t5)
theorem Cov.le {t : Nat} {cs : List Cl} (h : Cov t cs) {c : Cl} (hc : c ∈ cs) : c.2 ≤ 248832 := Int.le_of_dvd (by decide) (h.dvd hc)
theorem Cov.split {t : Nat} {A B : List Cl} {r d : Int} {m : Nat} (h : Cov t (A ++ (r, d) :: B)) (ht : t + 1 ≤ 5) (m2 : 2 ≤ m) (m4 : m ≤ 4) : Cov (t + 1) (A ++ splitC r d m ++ B) := by
  obtain ⟨r0, r1, dd⟩ := h.pos (r, d) (by simp)
  have r0 : 0 ≤ r := r0
  have r1 : r < d := r1
  have dd : d ∣ 12 ^ t := dd
  have dm : d * (m : Int) ∣ 12 ^ (t + 1) := by
    rw [Int.pow_succ]
    obtain ⟨q, hq⟩ := dd
    have : (m : Int) ∣ 12 := by
      have : m = 2 ∨ m = 3 ∨ m = 4 := by omega
      rcases this with rfl | rfl | rfl <;> decide
    obtain ⟨k, hk⟩ := this
    exact ⟨q * k, by rw [hq, hk]; ac_rfl⟩
  refine ⟨ht, fun c hc => ?_, fun x => ?_, ?_⟩
  · rcases List.mem_append.mp hc with hc | hc
    · rcases List.mem_append.mp hc with hc | hc
      · exact (h.up ht).pos c (List.mem_append_left _ hc)
      · obtain ⟨k, hk, rfl⟩ := List.mem_map.mp hc
        have hk := List.mem_range.mp hk
        have a := Int.mul_nonneg (show 0 ≤ d by omega) (show 0 ≤ (k : Int) by omega)
        have b : d * ((k : Int) + 1) ≤ d * (m : Int) := Int.mul_le_mul_of_nonneg_left (by omega) (by omega)
        rw [Int.mul_add, Int.mul_one] at b
        exact ⟨by show 0 ≤ r + d * (k : Int); omega, by show r + d * (k : Int) < d * (m : Int); omega, dm⟩
    · exact (h.up ht).pos c (List.mem_append_right _ (List.mem_cons_of_mem _ hc))
  · have e := h.one x
    rw [hits_app, hits_cons] at e
    rw [hits_app, hits_app, hits_split r0 r1 (by omega)]
    have e : hits A x + (hits B x + if x % d = r then 1 else 0) = 1 := e
    omega
  · have e := h.sum
    rw [List.map_append, List.map_cons, List.sum_append, List.sum_cons] at e
    rw [List.map_append, List.map_append, List.sum_append, List.sum_append]
    have s : ((splitC r d m).map fun c => 248832 / c.2).sum = 248832 / d := by
      unfold splitC
      rw [List.map_map]
      show ((List.range m).map fun _ => 248832 / (d * (m : Int))).sum = _
      rw [sum_const]
      obtain ⟨q, hq⟩ := Int.dvd_trans dm (pow12 ht)
      rw [hq, Int.mul_ediv_cancel_left _ (by have := Int.mul_pos (show 0 < d by omega) (show (0 : Int) < m by omega); omega), Int.mul_assoc, Int.mul_ediv_cancel_left _ (by omega)]
    rw [s]
    have e : (A.map fun c => 248832 / c.2).sum + (248832 / d + (B.map fun c => 248832 / c.2).sum) = 248832 := e
    omega
end Ur
/-! CV: classes that part the whole numbers, as the laws make them (_law_cover), and their painters (_law_covering). -/
namespace Ur
open PySem PySem.Spec PyProof.Rows L2
abbrev ClsAt (H : Hp) (us : List Addr) (cs : List Cl) : Prop := Paired (fun u (c : Cl) => H u = some (.tup [.int c.1, .int c.2])) us cs
theorem ClsAt.keep {H H' : Hp} {p : Addr} {kvs : List (Key × V)} {us : List Addr} {cs : List Cl} (h : ClsAt H us cs) (k : Keep p H H') (hp : H p = some (.dK kvs)) : ClsAt H' us cs := Paired.mapP h fun _ _ e => k _ _ e (ne_of e hp (by intro z; cases z))
theorem ClsAt.same {H H' : Hp} {us : List Addr} {cs : List Cl} (h : ClsAt H us cs) (s : Same H H') : ClsAt H' us cs := Paired.mapP h fun _ _ e => s _ _ e
theorem ClsAt.updL {H : Hp} {F : Addr} {xs ys : List V} {us : List Addr} {cs : List Cl} (h : ClsAt H us cs) (hF : H F = some (.lst xs)) : ClsAt (upd H F (.lst ys)) us cs := Paired.mapP h fun _ _ e => by rw [upd_ne (ne_of e hF (by intro z; cases z))]; exact e
theorem ClsAt.app {H : Hp} : ∀ {us ws : List Addr} {cs ds : List Cl}, ClsAt H us cs → ClsAt H ws ds → ClsAt H (us ++ ws) (cs ++ ds)
  | [], _, [], _, _, h => h
  | _ :: _, _, _ :: _, _, .cons a b, h => .cons a (ClsAt.app b h)
theorem ClsAt.cut {H : Hp} : ∀ {us : List Addr} {cs : List Cl} (j : Nat), ClsAt H us cs → ClsAt H (us.take j) (cs.take j) ∧ ClsAt H (us.drop j) (cs.drop j)
  | [], [], j, _ => by simp only [List.take_nil, List.drop_nil]; exact ⟨.nil, .nil⟩
  | u :: us, c :: cs, 0, h => ⟨.nil, h⟩
  | u :: us, c :: cs, j + 1, .cons a b => ⟨.cons a (ClsAt.cut j b).1, (ClsAt.cut j b).2⟩
theorem cut_to {xs : List V} {j : Nat} (h : j ≤ xs.length) : cutV xs none (some (j : Int)) = xs.take j := by
  unfold cutV
  rw [HT.sIx_none, HT.sIx_nat, Nat.min_eq_left h, List.drop_zero, Nat.sub_zero]
theorem cut_from {xs : List V} {j : Nat} (h : j ≤ xs.length) : cutV xs (some (j : Int)) none = xs.drop j := by
  unfold cutV
  rw [HT.sIx_nat, HT.sIx_none, Nat.min_eq_left h]
  exact List.take_of_length_le (by rw [List.length_drop]; exact Nat.le_refl _)
def clsQ (q : Quad) : Cl := (q.2.2.1 % q.2.2.2, q.2.2.2)
abbrev s__law_cover : Stmt := (topS 73)
abbrev N_sc__law_cover : List Str := ["_law_pen_here", "_law_most", "_law_classes", "_law_turn", "_law_at", "_law_parts", "_law_r", "_law_d", "_law_k"]
abbrev P__law_cover : List Str := ["_law_pen_here", "_law_most"]
theorem sc__law_cover : FnScope N_sc__law_cover P__law_cover (defScope s__law_cover) := ⟨rfl, rfl, rfl, by decide +kernel, rfl, by decide +kernel, by decide +kernel⟩
def spCov (K : PySem.W.Frag) : Sp := fun vs H Q _ => ∃ (p l : Addr) (most n : Nat), vs = [.ref p, .int (most : Int)] ∧ Pen H p l n ∧ n + 200 ≤ 2 ^ 39 ∧ 1 ≤ most ∧ most ≤ 40 ∧
  ∀ R us cs H', H' R = some (.lst (us.map V.ref)) → ClsAt H' us cs → Cov 5 cs → 1 ≤ cs.length → cs.length ≤ most → H R = none → Pen H' p l (n + 200) → Keep p H H' → Q (.ref R) H'
section
variable {P : Program} {w : World} {K : PySem.W.Frag} {mg : Str → Option Value} {base : Heap}
set_option maxHeartbeats 16000000 in
theorem ok_cover (D : Dfn K mg "_law_cover" s__law_cover P__law_cover) (B : Blt mg) (CD : Cal P w K mg base 12 "_law_draw" P__law_draw spDr) : Cal P w K mg base 13 "_law_cover" P__law_cover (spCov K) := by
  refine D.cal sc__law_cover (fun vs H Q E h => ?_) fun f cdv A outer s H vs Q E hr h => ?_
  · obtain ⟨p, l, most, n, rfl, _⟩ := h
    rfl
  obtain ⟨p, l, most, n, rfl, Pn, hn, m1, m2, q⟩ := h
  refine ⟨_, (pss_cons (ps_set (i := 2) sc__law_cover.nd rfl (Or.inl rfl) (pe_lst (pa_cons (pe_tup (pa_cons pe_int (pa_cons pe_int pa_nil))) pa_nil))) (pss_cons (ps_for PassesOwn.never rfl (pi_range1 rfl B.range_ (pa_cons (pe_cal CD (hr.mono (by decide)) (pa_cons (pv 0) (pa_cons pe_int pa_nil))) pa_nil)) (pg_name (i := 3) sc__law_cover.nd rfl (Or.inl rfl)) (C8.pss_cut (ps_asg (pe_tup (pa_cons (pe_cal CD (hr.mono (by decide)) (pa_cons (pv 0) (pa_cons (pe_callB call_len_seq rfl B.len_ PySem.boot_len (pa_cons (pv 2) pa_nil)) pa_nil))) (pa_cons (pe_op op_add pe_int (pe_cal CD (hr.mono (by decide)) (pa_cons (pv 0) (pa_cons pe_int pa_nil)))) pa_nil))) (pg_tup rfl (pgs_cons (pg_name (i := 4) sc__law_cover.nd rfl (Or.inl rfl)) (pgs_cons (pg_name (i := 5) sc__law_cover.nd rfl (Or.inr rfl)) pgs_nil)))) (C8.pss_cut (ps_asg (pe_ix ix_list (pv 2) (pv 4) (fun _ _ => rfl)) (pg_tup rfl (pgs_cons (pg_name (i := 6) sc__law_cover.nd rfl (Or.inr rfl)) (pgs_cons (pg_name (i := 7) sc__law_cover.nd rfl (Or.inr rfl)) pgs_nil)))) (pss_one (ps_if (pt_cmpR op_le (pe_op op_sub (pe_op op_add (pe_callB call_len_seq rfl B.len_ PySem.boot_len (pa_cons (pv 2) pa_nil)) (pv 5)) pe_int) (pv 1) (nomark _)) (pss_one (ps_set (i := 2) sc__law_cover.nd rfl (Or.inl rfl) (pe_op op_cat (pe_op op_cat (pe_slice sl_list (pv 2) po_none (po_some (pv 4))) (pe_lc (own := [("_law_k", 8)]) (g := gName 8) (tt := tYes) rfl sc__law_cover.nd (pi_range1 rfl B.range_ (pa_cons (pv 5) pa_nil)) (blkOk_by (N := N_sc__law_cover) (sc := defScope s__law_cover) (by decide +kernel)) (fun _ _ _ _ _ => pg_name (i := 8) sc__law_cover.nd rfl (Or.inl rfl)) (fun _ _ _ _ _ => pts_nil) (fun _ _ _ _ _ => (pe_tup (pa_cons (pe_op op_add (pv 6) (pe_op op_mulW (pv 7) (pv 8))) (pa_cons (pe_op op_mulW (pv 7) (pv 5)) pa_nil)))))) (pe_slice sl_list (pv 2) (po_some (pe_op op_add (pv 4) pe_int)) po_none)))) pss_nil))))) (pss_one (ps_ret (pv 2))))), ?_⟩
  refine ⟨by show 2 ≤ sizeLine; decide, fun t0 nt => ⟨by show 1 ≤ sizeLine; decide, fun R nR => ?_⟩⟩
  have nt_p := Pn.ne nt
  have P0 := (Pn.new (o := .tup [.int 0, .int 1]) nt).new (o := .lst [.ref t0]) nR
  have k0 : Keep p H (upd (upd H t0 (.tup [.int 0, .int 1])) R (.lst [.ref t0])) := (Keep.refl.new nt).new nR
  have hR0 : H R = none := (Keep.refl.new nt).none_of nR ((Pn.new nt).ne nR)
  have hT := same_new nR (.lst [.ref t0]) _ _ (upd_same (H := H) (a := t0) (o := HO.tup [.int 0, .int 1]))
  refine ⟨_, rfl, p, l, 6, n, rfl, P0, by omega, by omega, by omega, fun v H1 v0 v1 P1 k1 => ?_⟩
  have hR1 := k1 _ _ (upd_same (H := upd H t0 (.tup [.int 0, .int 1])) (a := R) (o := .lst [.ref t0])) ((Pn.new nt).ne nR)
  have hT1 := k1 _ _ hT nt_p
  refine ⟨v, rfl, by omega, by omega, for_range (lo := 0) (n := v.toNat) (fun i σ H' => ∃ (R : Addr) (us : List Addr) (cs : List Cl) (o3 o4 o5 o6 o7 : Option V), σ = [some (.ref p), some (.int (most : Int)), some (.ref R), o3, o4, o5, o6, o7, none] ∧ H' R = some (.lst (us.map V.ref)) ∧ ClsAt H' us cs ∧ Cov i cs ∧ 1 ≤ cs.length ∧ cs.length ≤ most ∧ H R = none ∧ Pen H' p l (n + 12 + 24 * i) ∧ Keep p H H')
    ⟨R, [t0], [(0, 1)], none, none, none, none, none, rfl, hR1, .cons hT1 .nil, Cov.start, Nat.le_refl 1, m1, hR0, P1.le (by omega), k0.trans k1⟩ ?_ ?_⟩
  · rintro i σ H' hi ⟨R, us, cs, o3, o4, o5, o6, o7, rfl, hR, hc, cv, c1, c2, hR0, Pi, ki⟩
    have lu : us.length = cs.length := Paired.length hc
    have hl40 : cs.length ≤ 40 := by omega
    have i5 : i + 1 ≤ 5 := by omega
    refine ⟨fun σ' H2 => ∃ (j m : Nat) (o3' : Option V), σ' = [some (.ref p), some (.int (most : Int)), some (.ref R), o3', some (.int (j : Int)), some (.int (m : Int)), o6, o7, none] ∧ j < cs.length ∧ 2 ≤ m ∧ m ≤ 4 ∧ H2 R = some (.lst (us.map V.ref)) ∧ ClsAt H2 us cs ∧ Pen H2 p l (n + 12 + 24 * (i + 1)) ∧ Keep p H H2, ?_, ?_⟩
    · obtain ⟨kvi, hpi⟩ := Pi.dk
      refine ⟨_, rfl, _, rfl, R, _, rfl, .inl (SqL.of hR), p, l, _, _, rfl, Pi, by omega, by rw [List.length_map]; omega, by rw [List.length_map]; omega, fun a H2 a0 a1 P2 k2 => ?_⟩
      rw [List.length_map, lu] at a1
      refine ⟨_, rfl, p, l, 3, _, rfl, P2, by omega, by omega, by omega, fun b H3 b0 b1 P3 k3 => ⟨_, _, rfl, rfl, ?_⟩⟩
      obtain ⟨j, rfl⟩ : ∃ j : Nat, a = (j : Int) := ⟨a.toNat, by omega⟩
      obtain ⟨m, em⟩ : ∃ m : Nat, 2 + b = (m : Int) := ⟨(2 + b).toNat, by omega⟩
      refine ⟨by show 2 ≤ sizeLine; decide, fun t nt => ⟨t, _, rfl, SqT.of upd_same, rfl, _, _, rfl, _, _, rfl, rfl, ?_⟩⟩
      have k23 := (k2.trans k3).new (o := .tup [.int (j : Int), .int (2 + b)]) nt
      have hpe : R ≠ p := ne_of hR hpi (by intro z; cases z)
      exact ⟨j, m, _, by rw [← em]; rfl, by omega, by omega, by omega, k23 _ _ hR hpe, hc.keep k23 hpi, (P3.new nt).le (by omega), ki.trans k23⟩
    rintro σ' H2 ⟨j, m, o3', rfl, jl, m2, m4, hR2, hc2, P2, k2⟩
    obtain ⟨u, eu⟩ : ∃ u, us[j]? = some u := ⟨_, List.getElem?_eq_getElem (by omega)⟩
    obtain ⟨c, ec⟩ : ∃ c, cs[j]? = some c := ⟨_, List.getElem?_eq_getElem jl⟩
    have hu2 := paired_at (F := fun (u : Addr) (c : Cl) => H2 u = some (.tup [.int c.1, .int c.2])) hc2 eu ec
    obtain ⟨r, d⟩ := c
    refine ⟨fun σ' H3 => σ' = [some (.ref p), some (.int (most : Int)), some (.ref R), o3', some (.int (j : Int)), some (.int (m : Int)), some (.int r), some (.int d), none] ∧ H3 = H2, ?_, ?_⟩
    · refine ⟨_, rfl, _, rfl, R, _, _, _, rfl, rfl, SqL.of hR2, atI_nat (show (us.map V.ref)[j]? = some (V.ref u) by rw [List.getElem?_map, eu]; rfl), u, _, rfl, SqT.of hu2, rfl, _, _, rfl, _, _, rfl, rfl, rfl, rfl⟩
    rintro σ' H3 ⟨rfl, rfl⟩
    obtain ⟨kv3, hp3⟩ := P2.dk
    have nRp : R ≠ p := ne_of hR2 hp3 (by intro z; cases z)
    refine ⟨_, rfl, R, _, rfl, .inl (SqL.of hR2), _, rfl, _, _, rfl, rfl, _, _, rfl, rfl, _, rfl, _, _, rfl, rfl, _, rfl, ?_⟩
    rw [List.length_map, lu]
    by_cases z : (cs.length : Int) + (m : Int) - 1 ≤ (most : Int)
    · refine iteDT z ?_
      have a1 : (us.map V.ref).length = us.length := List.length_map ..
      refine ⟨_, rfl, _, rfl, (j : Int), rfl, R, _, rfl, SqL.of hR2, fun X1 nX1 => ?_⟩
      rw [cut_to (by omega), ← List.map_take]
      have w1 := same_new nX1 (.lst ((us.take j).map V.ref))
      obtain ⟨H4, e4⟩ : ∃ H4, H4 = upd H3 X1 (.lst ((us.take j).map V.ref)) := ⟨_, rfl⟩
      have hX1 : H4 X1 = some (.lst ((us.take j).map V.ref)) := by rw [e4]; exact upd_same
      rw [← e4] at w1 ⊢
      have hR4 := w1 _ _ hR2
      have hc4 := ClsAt.same hc2 w1
      have P4 := P2.same w1
      refine ⟨_, rfl, (m : Int), rfl, by omega, by omega, fun X2 nX2 => ?_⟩
      have P5 := P4.new (o := .lst []) nX2
      have nX2p := P4.ne nX2
      have nX2l := P4.nl nX2
      refine lc_range (lo := 0) (n := (m : Int).toNat) (fun k H' => ∃ ws : List Addr, H' X2 = some (.lst (ws.map V.ref)) ∧ ClsAt H' ws ((splitC r d m).take k) ∧ Same H4 H') ⟨[], upd_same, by rw [List.take_zero]; exact .nil, same_new nX2 _⟩ ?_ ?_
      · rintro k H' hk ⟨ws, hX, hw, sw⟩
        have hk : k < m := by omega
        have dle : d ≤ 248832 := cv.le (List.mem_of_getElem? ec)
        have d0 : 0 ≤ r ∧ r < d := ⟨(cv.pos _ (List.mem_of_getElem? ec)).1, (cv.pos _ (List.mem_of_getElem? ec)).2.1⟩
        refine ⟨rfl, _, rfl, _, rfl, _, rfl, _, _, rfl, rfl, wide_mul (a := 64) (b := 8) (by omega) (by omega) (by decide) (by decide) (by decide), _, _, rfl, rfl, _, rfl, _, rfl, _, _, rfl, rfl, wide_mul (a := 64) (b := 8) (by omega) (by omega) (by decide) (by decide) (by decide), by show 2 ≤ sizeLine; decide, fun u2 nu2 => ?_⟩
        have lw : ws.length = k := by
          have := Paired.length hw
          rw [List.length_take] at this
          have e : (splitC r d m).length = m := by unfold splitC; rw [List.length_map, List.length_range]
          omega
        have su := same_new nu2 (.tup [.int (r + d * (0 + (k : Int))), .int (d * (m : Int))])
        have hXu := su _ _ hX
        refine ⟨_, hXu, by rw [List.length_map, lw]; exact Nat.lt_of_le_of_lt (show k ≤ 4 by omega) (by decide), ws ++ [u2], by rw [upd_same, List.map_append]; rfl, ?_, sameAt (sw.trans su) nX2⟩
        have et : (splitC r d m).take (k + 1) = (splitC r d m).take k ++ [(r + d * (k : Int), d * (m : Int))] := take_snoc (by unfold splitC; rw [List.getElem?_map, List.getElem?_range hk]; rfl)
        rw [et]
        refine ClsAt.app ((ClsAt.same hw su).updL hXu) (.cons ?_ .nil)
        rw [upd_ne (ne_of (upd_same (H := H') (a := u2) (o := HO.tup [.int (r + d * (0 + (k : Int))), .int (d * (m : Int))])) hXu (by intro z; cases z)), upd_same, Int.zero_add]
      · rintro H' ⟨ws, hX, hw, sw⟩
        have lsp : (splitC r d m).length = m := by unfold splitC; rw [List.length_map, List.length_range]
        have hw : ClsAt H' ws (splitC r d m) := by rw [show (m : Int).toNat = m from Int.toNat_natCast m, List.take_of_length_le (by omega)] at hw; exact hw
        have lw : ws.length = m := by rw [Paired.length hw, lsp]
        have s4 := w1.trans sw
        have hX1' := sw _ _ hX1
        have a2 : (us.take j).length = j := by rw [List.length_take]; omega
        refine ⟨X1, X2, _, _, rfl, rfl, hX1', hX, by rw [List.length_map, List.length_map]; exact Nat.le_trans (show (us.take j).length + ws.length ≤ 100 by omega) (by decide), fun Y1 nY1 => ?_⟩
        rw [← List.map_append]
        have sY1 := same_new nY1 (.lst ((us.take j ++ ws).map V.ref))
        refine ⟨_, rfl, _, rfl, _, _, rfl, rfl, (j : Int) + 1, rfl, R, _, rfl, SqL.of (sY1 _ _ (s4 _ _ hR2)), fun Y2 nY2 => ?_⟩
        rw [show (j : Int) + 1 = ((j + 1 : Nat) : Int) from rfl, cut_from (by omega), ← List.map_drop]
        have sY2 := same_new nY2 (.lst ((us.drop (j + 1)).map V.ref))
        refine ⟨Y1, Y2, _, _, rfl, rfl, sY2 _ _ upd_same, upd_same, by rw [List.length_map, List.length_map, List.length_append, List.length_drop]; exact Nat.le_trans (show (us.take j).length + ws.length + (us.length - (j + 1)) ≤ 100 by omega) (by decide), fun Y3 nY3 => ?_⟩
        rw [← List.map_append]
        have sY3 := same_new nY3 (.lst ((us.take j ++ ws ++ us.drop (j + 1)).map V.ref))
        have all := ((s4.trans sY1).trans sY2).trans sY3
        have ce : cs = cs.take j ++ (r, d) :: cs.drop (j + 1) := by
          have h1 := List.take_append_drop j cs
          rw [List.drop_eq_getElem_cons jl] at h1
          rw [List.getElem?_eq_getElem jl] at ec
          rw [Option.some.inj ec] at h1
          exact h1.symm
        have cv' : Cov i (cs.take j ++ (r, d) :: cs.drop (j + 1)) := by rw [← ce]; exact cv
        have ll : (cs.take j ++ splitC r d m ++ cs.drop (j + 1)).length + 1 = cs.length + m := by
          rw [List.length_append, List.length_append, lsp, List.length_take, List.length_drop]
          omega
        have k4 : Keep p H3 _ := Keep.of all
        refine ⟨Y3, us.take j ++ ws ++ us.drop (j + 1), cs.take j ++ splitC r d m ++ cs.drop (j + 1), _, _, _, _, _, rfl, upd_same, ?_, cv'.split i5 m2 m4, by omega, by omega, ?_, (P2.same all).le (by omega), k2.trans k4⟩
        · exact ClsAt.app (ClsAt.app (ClsAt.same (ClsAt.cut j hc2).1 all) (ClsAt.same hw ((sY1.trans sY2).trans sY3))) (ClsAt.same (ClsAt.cut (j + 1) hc2).2 all)
        · exact (k2.trans (Keep.of ((s4.trans sY1).trans sY2))).none_of nY3 (((P2.same s4).same sY1 |>.same sY2).ne nY3)
    · refine iteDF z ?_
      exact ⟨R, us, cs, _, _, _, _, _, rfl, hR2, hc2, cv.up i5, c1, c2, hR0, P2.le (by omega), k2⟩
  · rintro σ H' ⟨R, us, cs, o3, o4, o5, o6, o7, rfl, hR, hc, cv, c1, c2, hR0, Pi, ki⟩
    refine ⟨_, rfl, ?_⟩
    exact q R us cs H' hR hc (cv.top (by omega)) c1 c2 hR0 (Pi.le (by omega)) ki
end
/-- a painter of a class: its first post is the first of the class from the base on, or some strides behind -/
def InCls (base : Int) (gs : List Int) (q : Quad) : Prop := 0 < q.2.2.2 ∧ 0 ≤ q.2.1 ∧ q.2.1 < 10 ^ 20 ∧ ∃ r g, g ∈ gs ∧ q.2.2.1 = base + (r - base) % q.2.2.2 + q.2.2.2 * g
abbrev s__law_covering : Stmt := (topS 74)
abbrev N_sc__law_covering : List Str := ["_law_pen_here", "_law_names_here", "_law_classes", "_law_base", "_law_gaps", "_law_found", "_law_k", "_law_r", "_law_d", "_law_post"]
abbrev P__law_covering : List Str := ["_law_pen_here", "_law_names_here", "_law_classes", "_law_base", "_law_gaps"]
theorem sc__law_covering : FnScope N_sc__law_covering P__law_covering (defScope s__law_covering) := ⟨rfl, rfl, rfl, by decide +kernel, rfl, by decide +kernel, by decide +kernel⟩
def spCvr (K : PySem.W.Frag) : Sp := fun vs H Q _ => ∃ (p l N R G : Addr) (ss : List Str) (us : List Addr) (cs : List Cl) (base : Int) (gs : List Int) (n : Nat), vs = [.ref p, .ref N, .ref R, .int base, .ref G] ∧ Pen H p l n ∧ n + 5000 ≤ 2 ^ 39 ∧
  H N = some (.lst (ss.map V.str)) ∧ (∀ z ∈ ss, NameOk z) ∧ ss.Nodup ∧ H R = some (.lst (us.map V.ref)) ∧ ClsAt H us cs ∧ cs.length ≤ ss.length ∧ cs.length ≤ 40 ∧ (∀ c ∈ cs, 0 ≤ c.1 ∧ c.1 < c.2 ∧ c.2 ≤ 248832) ∧ -(10 ^ 29) ≤ base ∧ base ≤ 10 ^ 29 ∧
  H G = some (.lst (gs.map V.int)) ∧ (∀ g ∈ gs, 0 ≤ g ∧ g ≤ 10 ^ 20) ∧ 1 ≤ gs.length ∧ gs.length ≤ 1000 ∧
  ∀ F ts qs H', H' F = some (.lst (ts.map V.ref)) → Team H' ts qs → qs.map clsQ = cs → qs.map (·.1) = ss.take cs.length → (∀ q ∈ qs, InCls base gs q) → Pen H' p l (n + 5000) → Keep p H H' → Q (.ref F) H'
section
variable {P : Program} {w : World} {K : PySem.W.Frag} {mg : Str → Option Value} {base : Heap}
set_option maxHeartbeats 16000000 in
theorem ok_covering (D : Dfn K mg "_law_covering" s__law_covering P__law_covering) (B : Blt mg) (CD : Cal P w K mg base 12 "_law_draw" P__law_draw spDr) (CI : Cal P w K mg base 13 "_law_pick" P__law_pick (spPickI K)) (CG : Cal P w K mg base 14 "_law_great" P__law_great spGreat) : Cal P w K mg base 15 "_law_covering" P__law_covering (spCvr K) := by
  refine D.cal sc__law_covering (fun vs H Q E h => ?_) fun f cdv A outer s H vs Q E hr h => ?_
  · obtain ⟨_, _, _, _, _, _, _, _, _, _, _, rfl, _⟩ := h
    rfl
  obtain ⟨p, l, N, R, G, ss, us, cs, bs, gs, n, rfl, Pn, hn, hN, nok, nnd, hR, hc, cn, c40, cok, b0, b1, hG, gok, g1, g2, q⟩ := h
  refine ⟨_, (pss_cons (ps_set (i := 5) sc__law_covering.nd rfl (Or.inl rfl) (pe_lst pa_nil)) (pss_cons (ps_for PassesOwn.never rfl (pi_range1 rfl B.range_ (pa_cons (pe_callB call_len_seq rfl B.len_ PySem.boot_len (pa_cons (pv 2) pa_nil)) pa_nil)) (pg_name (i := 6) sc__law_covering.nd rfl (Or.inl rfl)) (pss_cons (ps_asg (pe_ix ix_list (pv 2) (pv 6) (fun _ _ => rfl)) (pg_tup rfl (pgs_cons (pg_name (i := 7) sc__law_covering.nd rfl (Or.inl rfl)) (pgs_cons (pg_name (i := 8) sc__law_covering.nd rfl (Or.inl rfl)) pgs_nil)))) (pss_cons (ps_set (i := 9) sc__law_covering.nd rfl (Or.inl rfl) (pe_op op_add (pe_op op_add (pv 3) (pe_op op_mod (pe_callTy call_int1 rfl B.int_ (by decide +kernel) (pa_cons (pe_op op_sub (pv 7) (pv 3)) pa_nil)) (pv 8))) (pe_op op_mulW (pv 8) (pe_cal CI (hr.mono (by decide)) (pa_cons (pv 0) (pa_cons (pv 4) pa_nil)))))) (pss_one (ps_expr (pe_bm PySem.F.plainAttrs_list PySem.F.slot_list_append PySem.F.type_list_append mt_append (pv 5) (pa_cons (pe_tup (pa_cons (pe_ix ix_list (pv 1) (pv 6) (fun _ _ => rfl)) (pa_cons (pe_cal CI (hr.mono (by decide)) (pa_cons (pv 0) (pa_cons (pe_lst (pa_cons pe_int (pa_cons (pe_cal CD (hr.mono (by decide)) (pa_cons (pv 0) (pa_cons pe_int pa_nil))) (pa_cons (pe_cal CG (hr.mono (by decide)) (pa_cons (pv 0) (pa_cons pe_int pa_nil))) pa_nil)))) pa_nil))) (pa_cons (pv 9) (pa_cons (pv 8) pa_nil))))) pa_nil))))))) (pss_one (ps_ret (pv 5))))), ?_⟩
  refine ⟨by show 0 ≤ sizeLine; decide, fun F nF => ?_⟩
  obtain ⟨kvs, hp⟩ := Pn.dk
  have nFp := Pn.ne nF
  have nFl := Pn.nl nF
  have P0 := Pn.new (o := .lst []) nF
  have k0 : Keep p H (upd H F (.lst [])) := Keep.refl.new nF
  have hR0 := k0 _ _ hR (ne_of hR hp (by intro z; cases z))
  have lu : us.length = cs.length := Paired.length hc
  refine ⟨_, rfl, R, _, rfl, .inl (SqL.of hR0), _, rfl, by omega, by rw [List.length_map]; omega, ?_⟩
  refine for_range (lo := 0) (fun i σ H' => ∃ (ts : List Addr) (qs : List Quad) (o6 o7 o8 o9 : Option V), σ = [some (.ref p), some (.ref N), some (.ref R), some (.int bs), some (.ref G), some (.ref F), o6, o7, o8, o9] ∧ H' F = some (.lst (ts.map V.ref)) ∧ ts.length = i ∧ qs.length = i ∧ i ≤ cs.length ∧ (∀ (j : Nat) (t : Addr) (x : Quad), ts[j]? = some t → qs[j]? = some x → H' t = some (.tup (quadV x))) ∧
      qs.map (·.1) = ss.take i ∧ qs.map clsQ = cs.take i ∧ (∀ q ∈ qs, QuadOk q ∧ InCls bs gs q) ∧ Pen H' p l (n + 120 * i) ∧ Keep p H H') ⟨[], [], none, none, none, none, rfl, upd_same, rfl, rfl, Nat.zero_le _, (fun j t x e => by simp at e), rfl, rfl, (fun q h => nomatch h), P0.le (by omega), k0⟩ ?_ ?_
  · rintro i σ H' hi ⟨ts, qs, o6, o7, o8, o9, rfl, hF, tl, ql, ic, at1, en, ec, okq, Pi, ki⟩
    rw [List.length_map, lu] at hi
    have hi : i < cs.length := by omega
    obtain ⟨kvi, hpi⟩ := Pi.dk
    obtain ⟨u, eu⟩ : ∃ u, us[i]? = some u := ⟨_, List.getElem?_eq_getElem (by omega)⟩
    obtain ⟨c, hci⟩ : ∃ c, cs[i]? = some c := ⟨_, List.getElem?_eq_getElem hi⟩
    obtain ⟨z, ez⟩ : ∃ z, ss[i]? = some z := ⟨_, List.getElem?_eq_getElem (by omega)⟩
    have hc0 := hc.keep k0 hp
    have hci' : ClsAt H' us cs := hc.keep ki hp
    have hu2 := paired_at (F := fun (u : Addr) (c : Cl) => H' u = some (.tup [.int c.1, .int c.2])) hci' eu hci
    obtain ⟨c0, c1, c2⟩ := cok c (List.mem_of_getElem? hci)
    obtain ⟨r, d⟩ := c
    have c0 : 0 ≤ r := c0
    have c1 : r < d := c1
    have c2 : d ≤ 248832 := c2
    have hRi := ki _ _ hR (ne_of hR hp (by intro z; cases z))
    have hGi := ki _ _ hG (ne_of hG hp (by intro z; cases z))
    refine ⟨_, rfl, _, rfl, R, _, _, _, rfl, rfl, SqL.of hRi, atI_nat (show (us.map V.ref)[0 + i]? = some (V.ref u) by rw [Nat.zero_add, List.getElem?_map, eu]; rfl), u, _, rfl, SqT.of hu2, rfl, _, _, rfl, _, _, rfl, rfl, ?_⟩
    refine ⟨_, rfl, _, rfl, _, rfl, _, _, rfl, rfl, .inl ⟨_, rfl, _, rfl, _, _, rfl, rfl, by omega, _, _, rfl, rfl, _, rfl, _, rfl, _, rfl, p, l, G, gs, _, rfl, Pi, by omega, SqL.of hGi, g1, by omega, fun g H3 hg P3 k3 => ?_⟩⟩
    obtain ⟨g0, gb⟩ := gok g hg
    have d2 : 0 < d := by omega
    have e0 := Int.emod_nonneg (r - bs) (show d ≠ 0 by omega)
    have e1 := Int.emod_lt_of_pos (r - bs) d2
    have dg0 := Int.mul_nonneg (show 0 ≤ d by omega) g0
    have dg1 : d * g ≤ 248832 * 10 ^ 20 := Int.mul_le_mul c2 gb g0 (by decide)
    obtain ⟨kv3, hp3⟩ := P3.dk
    have hF3 := k3 _ _ hF (ne_of hF hpi (by intro z; cases z))
    have hN3 := k3 _ _ (ki _ _ hN (ne_of hN hp (by intro z; cases z))) (ne_of (ki _ _ hN (ne_of hN hp (by intro z; cases z))) hpi (by intro z; cases z))
    have ki3 := ki.trans k3
    refine ⟨_, _, rfl, rfl, wide_mul (a := 20) (b := 70) (by omega) (by omega) (by decide) (by decide) (by decide), _, _, rfl, rfl, ?_⟩
    refine ⟨_, rfl, .inl ⟨rfl, _, SqL.of hF3⟩, _, rfl, _, rfl, N, _, _, _, rfl, rfl, SqL.of hN3, atI_nat (show (ss.map V.str)[0 + i]? = some (V.str z) by rw [Nat.zero_add, List.getElem?_map, ez]; rfl), _, rfl, _, rfl, p, l, 9, _, rfl, P3, by omega, by omega, by omega, fun v1 H4 v10 v11 P4 k4 => ?_⟩
    refine ⟨_, rfl, p, l, 20, _, rfl, P4, by omega, by decide, by decide, fun v2 H5 v20 v21 P5 k5 => ?_⟩
    refine ⟨by show 3 ≤ sizeLine; decide, fun y ny => ?_⟩
    have P6 := P5.new (o := .lst [.int 0, .int v1, .int v2]) ny
    have k6 := (k4.trans k5).new (o := .lst [.int 0, .int v1, .int v2]) ny
    refine ⟨p, l, y, [0, v1, v2], _, rfl, P6, by omega, SqL.of upd_same, by show 1 ≤ 3; decide, by show 3 ≤ 1000000; decide, fun dy H7 hdy P7 k7 => ?_⟩
    have dyb : 0 ≤ dy ∧ dy < 10 ^ 20 := by
      simp only [List.mem_cons, List.not_mem_nil, or_false] at hdy
      rcases hdy with rfl | rfl | rfl <;> omega
    have k67 := k6.trans k7
    have hF7 := k67 _ _ hF3 (ne_of hF3 hp3 (by intro z; cases z))
    obtain ⟨po, epo⟩ : ∃ po, bs + (r - bs) % d + d * g = po := ⟨_, rfl⟩
    refine ⟨_, rfl, _, rfl, by show 4 ≤ sizeLine; decide, fun t nt => ?_⟩
    have ht := same_new nt (.tup [.str z, .int dy, .int (bs + (r - bs) % d + d * g), .int d])
    have hF8 := ht _ _ hF7
    refine ⟨F, _, _, rfl, rfl, hF8, by rw [List.length_map, tl]; exact small1000 (by omega), ?_⟩
    have kAll := (ki3.trans k67).new (o := .tup [.str z, .int dy, .int (bs + (r - bs) % d + d * g), .int d]) nt
    have kF := kAll.at_new (o := .lst ((ts.map V.ref) ++ [.ref t])) nF
    refine ⟨ts ++ [t], qs ++ [(z, dy, bs + (r - bs) % d + d * g, d)], _, _, _, _, rfl, by rw [upd_same, List.map_append]; rfl, by rw [List.length_append, tl]; rfl, by rw [List.length_append, ql]; rfl, by omega, fun j t' x a b => ?_, ?_, ?_, fun q hq => ?_, ((P7.new nt).upd nFp nFl).le (by omega), kF⟩
    · by_cases cj : j < i
      · rw [List.getElem?_append_left (by omega)] at a b
        have h0 := at1 j t' x a b
        have h3 := k3 _ _ h0 (ne_of h0 hpi (by intro z; cases z))
        have h7 := ht _ _ (k67 _ _ h3 (ne_of h3 hp3 (by intro z; cases z)))
        rw [upd_ne (ne_of h7 hF8 (by intro z; cases z))]
        exact h7
      · have hj2 := (List.getElem?_eq_some_iff.mp a).1
        rw [List.length_append] at hj2
        have e1' : ([t] : List Addr).length = 1 := rfl
        obtain rfl : j = i := by omega
        rw [List.getElem?_append_right (by omega), tl, Nat.sub_self] at a
        rw [List.getElem?_append_right (by omega), ql, Nat.sub_self] at b
        obtain rfl := Option.some.inj a
        obtain rfl := Option.some.inj b
        rw [upd_ne (ne_of (upd_same (H := H7) (a := t) (o := HO.tup [.str z, .int dy, .int (bs + (r - bs) % d + d * g), .int d])) hF8 (by intro z; cases z)), upd_same]
        rfl
    · rw [List.map_append, en, take_snoc ez]
      rfl
    · rw [List.map_append, ec, take_snoc hci]
      show _ ++ [((bs + (r - bs) % d + d * g) % d, d)] = _ ++ [(r, d)]
      rw [Int.add_mul_emod_self_left, Int.add_emod, Int.emod_emod, ← Int.add_emod, show bs + (r - bs) = r by omega, Int.emod_eq_of_lt c0 c1]
    · rcases List.mem_append.mp hq with hq | hq
      · exact okq q hq
      · obtain rfl := List.mem_singleton.mp hq
        exact ⟨⟨nok z (List.mem_of_getElem? ez), by show 0 ≤ dy; omega, by show dy ≤ _; omega, by show _ ≤ bs + (r - bs) % d + d * g; omega, by show bs + (r - bs) % d + d * g ≤ _; omega, by show _ ≤ d; omega, by show d ≤ _; omega, by show d ≠ 0; omega⟩, d2, dyb.1, dyb.2, r, g, hg, rfl⟩
  · rintro σ H' ⟨ts, qs, o6, o7, o8, o9, rfl, hF, tl, ql, ic, at1, en, ec, okq, Pi, ki⟩
    rw [List.length_map, lu] at tl ql en ec ic Pi
    have tl : ts.length = cs.length := tl
    have ql : qs.length = cs.length := ql
    have en : qs.map (·.1) = ss.take cs.length := en
    have ec : qs.map clsQ = cs := by
      have ec : qs.map clsQ = cs.take cs.length := ec
      rw [ec, List.take_length]
    refine ⟨_, rfl, ?_⟩
    refine q F ts qs H' hF ⟨by omega, at1, fun x hx => (okq x hx).1, ?_, by omega⟩ ec en (fun x hx => (okq x hx).2) (Pi.le ?_) ki
    · rw [en]
      exact nnd.sublist (List.take_sublist _ _)
    · show n + 120 * cs.length ≤ n + 5000
      omega
end
end Ur
/-! CX: what a search for a post that is not painted says of the posts themselves; painters of different classes. -/
namespace Ur
open PySem PySem.Spec PyProof.Rows L2
/-- the first post, from this one on to one side, that is none of P -/
def FreeS (P : Int → Prop) (left : Bool) (post : Int) : Option Int → Prop
  | none => ∀ x, sgn left post ≤ sgn left x → P x
  | some h => sgn left post ≤ sgn left h ∧ ¬ P h ∧ ∀ x, sgn left post ≤ sgn left x → sgn left x < sgn left h → P x
theorem sgn_sgn (left : Bool) (x : Int) : sgn left (sgn left x) = x := by
  cases left with
  | false => rfl
  | true => show - -x = x; omega
section
variable {P : Int → Prop} {A : Int → Int} {post : Int}
theorem count_bd (z : A (post - 1) = 0) (st : ∀ x, post ≤ x + 1 → (P (x + 1) ∧ A (x + 1) = A x + 1) ∨ (¬ P (x + 1) ∧ A (x + 1) = A x)) : ∀ n : Nat, A (post - 1 + n) ≤ n
  | 0 => by rw [Int.natCast_zero, Int.add_zero]; omega
  | n + 1 => by
    have ih := count_bd z st n
    have e : post - 1 + ((n + 1 : Nat) : Int) = post - 1 + n + 1 := by omega
    rw [e]
    rcases st (post - 1 + n) (by omega) with ⟨_, h⟩ | ⟨_, h⟩ <;> omega
theorem sem_all (z : A (post - 1) = 0) (st : ∀ x, post ≤ x + 1 → (P (x + 1) ∧ A (x + 1) = A x + 1) ∨ (¬ P (x + 1) ∧ A (x + 1) = A x)) (h : SemN (fun x => x - post + 1 - A x) post 0 none) : ∀ x, post ≤ x → P x := by
  intro x hx
  have h1 : x - post + 1 - A x ≤ 0 := h x hx
  have b := count_bd z st (x - post).toNat
  rw [show post - 1 + (((x - post).toNat : Nat) : Int) = x - 1 by omega] at b
  have s := st (x - 1) (by omega)
  rw [show x - 1 + 1 = x by omega] at s
  rcases s with ⟨p, _⟩ | ⟨_, e⟩
  · exact p
  · omega
theorem sem_one (z : A (post - 1) = 0) (st : ∀ x, post ≤ x + 1 → (P (x + 1) ∧ A (x + 1) = A x + 1) ∨ (¬ P (x + 1) ∧ A (x + 1) = A x)) {x : Int} (h : SemN (fun x => x - post + 1 - A x) post 0 (some x)) : post ≤ x ∧ ¬ P x ∧ ∀ y, post ≤ y → y < x → P y := by
  obtain ⟨h0, h1, h2⟩ := h
  have h1 : x - post + 1 - A x = 0 + 1 := h1
  have h2 : x - 1 - post + 1 - A (x - 1) = 0 := h2
  have s := st (x - 1) (by omega)
  rw [show x - 1 + 1 = x by omega] at s
  refine ⟨h0, ?_, fun y hy hyx => ?_⟩
  · rcases s with ⟨_, e⟩ | ⟨p, _⟩
    · omega
    · exact p
  · have up : ∀ n : Nat, A (y + n) ≤ A y + n := fun n => by
      induction n with
      | zero => rw [Int.natCast_zero, Int.add_zero]; omega
      | succ n ih =>
        have e : y + ((n + 1 : Nat) : Int) = y + n + 1 := by omega
        rw [e]
        rcases st (y + n) (by omega) with ⟨_, h⟩ | ⟨_, h⟩ <;> omega
    have u := up (x - 1 - y).toNat
    rw [show y + (((x - 1 - y).toNat : Nat) : Int) = x - 1 by omega] at u
    have b := count_bd z st (y - post).toNat
    rw [show post - 1 + (((y - post).toNat : Nat) : Int) = y - 1 by omega] at b
    have sy := st (y - 1) (by omega)
    rw [show y - 1 + 1 = y by omega] at sy
    rcases sy with ⟨p, _⟩ | ⟨_, e⟩
    · exact p
    · omega
end
theorem onrun_mir {p s x : Int} {m : Option Int} : OnRun (-1 * p + 0) (-1 * s) m x ↔ OnRun p s m (-x) := by
  constructor
  · rintro ⟨n, n0, nk, e⟩
    exact ⟨n, n0, nk, by rw [Int.neg_one_mul, Int.neg_one_mul, Int.mul_neg] at e; omega⟩
  · rintro ⟨n, n0, nk, e⟩
    exact ⟨n, n0, nk, by rw [Int.neg_one_mul, Int.neg_one_mul, Int.mul_neg]; omega⟩
theorem painted_side {qs : List Quad} {C : Nat → Option Int} {day : Option Int} (left : Bool) (x : Int) : PaintedBy (sideQ left qs) C day x ↔ PaintedBy qs C day (sgn left x) := by
  cases left with
  | false => exact Iff.rfl
  | true =>
    show PaintedBy (qs.map (mvQ (-1) 0 0)) C day x ↔ PaintedBy qs C day (-x)
    unfold PaintedBy
    rw [List.length_map]
    refine exists_congr fun j => and_congr_right fun hj => ?_
    obtain ⟨_, a2, a3, a4⟩ := mvQ_at (f := -1) (p := 0) (w := 0) hj
    rw [a2, a3, a4, Int.add_zero (dQ qs j)]
    exact onrun_mir
/-- what a search for a post that is not painted says -/
theorem raw_says {L : List Pt} {rs : List Rw} {day : Option Int} {post : Int} {left : Bool} {o : Option Int} (okq : ∀ q ∈ partsOf L, QuadOk q) (hist : HistR (partsOf L) (fSP (partsOf L)) rs) (okL : ∀ x ∈ L, PartOk x.nm x.d x.p x.s) (dd : ∀ d, day = some d → 0 ≤ d ∧ d ≤ 10 ^ 40) (few : L.length ≤ 30) (h : RawF left L rs day post 0 o) :
    FreeS (PaintedBy (partsOf L) (cntR rs) day) left post o := by
  obtain ⟨o', rfl, sem, _⟩ := semF_of okq hist okL dd few (Int.le_refl 0) h
  have sq := side_quad left okq
  have is := side_is left hist
  have z : pntN (sideQ left (partsOf L)) (cntR rs) day (sgn left post) (sgn left post - 1) (sideQ left (partsOf L)).length = 0 := pnt_none (fun q hq => (sq q hq).sn) (by omega) _ (Nat.le_refl _)
  have st : ∀ x, sgn left post ≤ x + 1 → _ := fun x hx => pnt_step (day := day) is (fun q hq => (sq q hq).sn) hx
  cases o' with
  | none =>
    intro x hx
    have a := sem_all z st sem (sgn left x) hx
    rw [painted_side, sgn_sgn] at a
    exact a
  | some y =>
    obtain ⟨h0, h1, h2⟩ := sem_one z st sem
    refine ⟨by rw [sgn_sgn]; exact h0, fun p => h1 ((painted_side left y).mpr p), fun x hx hxy => ?_⟩
    rw [sgn_sgn] at hxy
    have a := h2 (sgn left x) hx hxy
    rw [painted_side, sgn_sgn] at a
    exact a
theorem side_parts (left : Bool) (L : List Pt) : partsOf (sideL left L) = sideQ left (partsOf L) := by
  cases left with
  | false => rfl
  | true => exact parts_mir L
theorem sideL_len (left : Bool) (L : List Pt) : (sideL left L).length = L.length := by
  cases left with
  | false => rfl
  | true => exact List.length_map ..
theorem side_hist (left : Bool) {L : List Pt} {rs : List Rw} (h : HistR (partsOf L) (fSP (partsOf L)) rs) : ∃ rs', HistR (partsOf (sideL left L)) (fSP (partsOf (sideL left L))) rs' ∧ cntR rs' = cntR rs := by
  cases left with
  | false => exact ⟨rs, h, rfl⟩
  | true =>
    refine ⟨rs.map (sentR (-1) 0 0), ?_, funext fun i => cntR_mv⟩
    show HistR (partsOf (L.map mirP)) (fSP (partsOf (L.map mirP))) _
    rw [parts_mir]
    exact histR_mv (by decide) h
theorem rawF_cnt {b : Bool} {L : List Pt} {rs rs' : List Rw} {day : Option Int} {post index : Int} {o : Option Int} (e : cntR rs' = cntR rs) (h : RawF b L rs day post index o) : RawF b L rs' day post index o := by
  unfold RawF dayRns at *
  rw [e]
  exact h
theorem part_quad {x : Pt} (h : QuadOk (x.nm, x.d, x.p, x.s)) : PartOk x.nm x.d x.p x.s := h
theorem okL_of {L : List Pt} (ok : ∀ q ∈ partsOf L, QuadOk q) : ∀ x ∈ L, PartOk x.nm x.d x.p x.s := fun x hx => ok _ (List.mem_map.mpr ⟨x, hx, rfl⟩)
/-- what full_from says of the posts, seen from the side it looks to -/
theorem ful_says {left : Bool} {L : List Pt} {rs : List Rw} {z : Option (Option Int)} (okq : ∀ q ∈ partsOf L, QuadOk q) (hist : HistR (partsOf L) (fSP (partsOf L)) rs) (few : L.length ≤ 30) (w : FulW left L rs z) :
    ∃ far : Int, 0 ≤ far ∧ far ≤ 10 ^ 69 ∧ (∀ j, j < (partsOf L).length → cntR rs j = none → pQ (sideQ left (partsOf L)) j ≤ far) ∧
    ((z = none ∧ ∃ x, far ≤ x ∧ ¬ PaintedBy (sideQ left (partsOf L)) (cntR rs) none x) ∨
     (z = some none ∧ ∀ x, PaintedBy (sideQ left (partsOf L)) (cntR rs) none x) ∨
     ∃ h, z = some (some (if left then -(h + 1) else h + 1)) ∧ h ≤ far ∧ ¬ PaintedBy (sideQ left (partsOf L)) (cntR rs) none h ∧ ∀ x, h < x → PaintedBy (sideQ left (partsOf L)) (cntR rs) none x) := by
  obtain ⟨far, o1, r1, f0, fb, fr, hz⟩ := w
  obtain ⟨rs', hist', ec⟩ := side_hist left hist
  have okS : ∀ q ∈ partsOf (sideL left L), QuadOk q := by rw [side_parts]; exact side_quad left okq
  have fewS : (sideL left L).length ≤ 30 := by rw [sideL_len]; exact few
  have s1 := raw_says okS hist' (okL_of okS) (fun d e => by cases e) fewS (rawF_cnt ec r1)
  rw [side_parts, ec] at s1
  refine ⟨far, f0, fb, fun j hj hn => ?_, ?_⟩
  · have hjL : j < (sideL left L).length := by rw [sideL_len]; rw [parts_len] at hj; exact hj
    obtain ⟨x, hx⟩ : ∃ x, (sideL left L)[j]? = some x := ⟨_, List.getElem?_eq_getElem hjL⟩
    obtain ⟨_, _, a3, a4⟩ := q_at (parts_at hx)
    rw [side_parts] at a3 a4
    have mem : (⟨1, x.p, x.s, none⟩ : Rn) ∈ dayRns (sideL left L) rs none := by
      refine rns_has (i := j) hjL hx ?_ (by intro z; cases z)
      unfold bysC
      rw [List.getElem?_zipWith, hx, List.getElem?_map, List.getElem?_range hjL]
      show some (byC none x.d (cntR rs j)) = _
      rw [hn]
      rfl
    have := fr _ mem
    rw [a3]
    exact this
  · rcases hz with ⟨⟨x, rfl⟩, rfl⟩ | ⟨rfl, o2, r2, rfl⟩
    · exact .inl ⟨rfl, x, s1.1, s1.2.1⟩
    · have s1 : ∀ x, far ≤ x → PaintedBy (sideQ left (partsOf L)) (cntR rs) none x := s1
      have s2 := raw_says okS hist' (okL_of okS) (fun d e => by cases e) fewS (rawF_cnt ec r2)
      rw [side_parts, ec] at s2
      cases o2 with
      | none =>
        refine .inr (.inl ⟨rfl, fun x => ?_⟩)
        rcases Int.le_total far x with g | g
        · exact s1 x g
        · exact s2 x (by show -far ≤ -x; omega)
      | some h =>
        obtain ⟨a, b, c⟩ := s2
        have a : -far ≤ -h := a
        refine .inr (.inr ⟨h, ?_, by omega, b, fun x hx => ?_⟩)
        · cases left with
          | false => rfl
          | true => show some (some (-h - 1)) = some (some (-(h + 1))); rw [show -h - 1 = -(h + 1) by omega]
        · rcases Int.le_total far x with g | g
          · exact s1 x g
          · exact c x (by show -far ≤ -x; omega) (by show -x < -h; omega)
/-! ### painters of different classes -/
theorem cls_at {qs : List Quad} {j : Nat} (hj : j < qs.length) : (qs.map clsQ)[j]? = some (pQ qs j % sQ qs j, sQ qs j) := by
  have e : qs[j]? = some qs[j] := List.getElem?_eq_getElem hj
  obtain ⟨_, _, a3, a4⟩ := q_at e
  rw [List.getElem?_map, e, a3, a4]
  rfl
theorem on_cls {p s n : Int} : (p + n * s) % s = p % s := by rw [Int.add_mul_emod_self_right]
/-- nobody ever stops where nobody meets anybody -/
theorem apart_none {N : Nat} {d : Nat → Int} {SP : SPt} {C : Nat → Option Int} (ap : ∀ i j n m, i < N → j < N → SP i n j m → i = j ∧ n = m) (h : IsHist N d SP C) : ∀ i, i < N → C i = none := fun i hi => by
  cases e : C i with
  | none => rfl
  | some c =>
    have l := h i hi
    rw [e] at l
    obtain ⟨c0, ⟨j, hj, m, m0, sp, _, o⟩, _⟩ := l
    obtain ⟨rfl, rfl⟩ := ap i j c m hi hj sp
    omega
theorem cls_apart {qs : List Quad} (h1 : ∀ x, hits (qs.map clsQ) x ≤ 1) (ok : ∀ q ∈ qs, QuadOk q) : ∀ i j n m, i < qs.length → j < qs.length → fSP qs i n j m → i = j ∧ n = m := fun i j n m hi hj sp => by
  have sp : pQ qs i + n * sQ qs i = pQ qs j + m * sQ qs j := sp
  have e : i = j := hits_uniq (h1 (pQ qs i + n * sQ qs i)) (cls_at hi) (cls_at hj) on_cls (by rw [sp]; exact on_cls)
  subst e
  obtain ⟨_, _, _, a4⟩ := q_at (List.getElem?_eq_getElem hi)
  have sn : sQ qs i ≠ 0 := by rw [a4]; exact (ok _ (List.getElem_mem hi)).sn
  exact ⟨rfl, Int.eq_of_mul_eq_mul_right sn (by omega)⟩
theorem side_apart (left : Bool) {qs : List Quad} (ap : ∀ i j n m, i < qs.length → j < qs.length → fSP qs i n j m → i = j ∧ n = m) : ∀ i j n m, i < (sideQ left qs).length → j < (sideQ left qs).length → fSP (sideQ left qs) i n j m → i = j ∧ n = m := by
  cases left with
  | false => exact ap
  | true =>
    intro i j n m hi hj sp
    rw [side_len] at hi hj
    exact ap i j n m hi hj ((fSP_mv (by decide) hi hj).mp sp)
/-- from the greatest of all posts behind first posts on, all is painted; the one before is not -/
structure DueAt (qs : List Quad) (D : Int) : Prop where
  le : ∀ i, i < qs.length → pQ qs i - sQ qs i + 1 ≤ D
  at_ : ∃ i, i < qs.length ∧ pQ qs i - sQ qs i + 1 = D
section
variable {qs : List Quad} {C : Nat → Option Int}
theorem painted_ever (hC : ∀ i, i < qs.length → C i = none) {x : Int} : PaintedBy qs C none x ↔ ∃ j, j < qs.length ∧ ∃ n, 0 ≤ n ∧ pQ qs j + n * sQ qs j = x := by
  unfold PaintedBy OnRun byC
  refine exists_congr fun j => and_congr_right fun hj => ?_
  rw [hC j hj]
  exact ⟨fun ⟨n, a, _, b⟩ => ⟨n, a, b⟩, fun ⟨n, a, b⟩ => ⟨n, a, fun k e => (by cases e), b⟩⟩
theorem cov_painted {t : Nat} {D x : Int} (cv : Cov t (qs.map clsQ)) (hC : ∀ i, i < qs.length → C i = none) (due : DueAt qs D) (hx : D ≤ x) : PaintedBy qs C none x := by
  rw [painted_ever hC]
  obtain ⟨j, c, hc, e⟩ := hits_some (Nat.le_of_eq (cv.one x).symm)
  have hj : j < qs.length := by have := (List.getElem?_eq_some_iff.mp hc).1; rw [List.length_map] at this; exact this
  rw [cls_at hj] at hc
  obtain rfl := Option.some.inj hc
  have e : x % sQ qs j = pQ qs j % sQ qs j := e
  obtain ⟨_, s1, _⟩ := cv.pos _ (List.mem_of_getElem? (cls_at hj))
  have s1 : pQ qs j % sQ qs j < sQ qs j := s1
  have s0 : 0 < sQ qs j := by
    rcases Int.lt_trichotomy (sQ qs j) 0 with g | g | g
    · have := Int.emod_nonneg (pQ qs j) (show sQ qs j ≠ 0 by omega); omega
    · rw [g, Int.emod_zero] at s1
      have := (cv.pos _ (List.mem_of_getElem? (cls_at hj))).1
      have : 0 ≤ pQ qs j % sQ qs j := this
      rw [g, Int.emod_zero] at this
      omega
    · exact g
  have l := due.le j hj
  refine ⟨j, hj, (x - pQ qs j) / sQ qs j, ?_, ?_⟩
  · have a := Int.mul_ediv_add_emod (x - pQ qs j) (sQ qs j)
    have b : (x - pQ qs j) % sQ qs j = 0 := Int.emod_eq_zero_of_dvd (Int.dvd_of_emod_eq_zero (by rw [Int.sub_emod, e, Int.sub_self, Int.zero_emod]))
    rcases Int.lt_or_le ((x - pQ qs j) / sQ qs j) 0 with g | g
    · have := Int.mul_le_mul_of_nonneg_left (show (x - pQ qs j) / sQ qs j ≤ -1 by omega) (show 0 ≤ sQ qs j by omega)
      rw [Int.mul_neg, Int.mul_one] at this
      omega
    · exact g
  · have b : sQ qs j ∣ x - pQ qs j := Int.dvd_of_emod_eq_zero (by rw [Int.sub_emod, e, Int.sub_self, Int.zero_emod])
    rw [Int.ediv_mul_cancel b]
    omega
theorem cov_hole {D : Int} (h1 : ∀ x, hits (qs.map clsQ) x ≤ 1) (s0 : ∀ j, j < qs.length → 0 < sQ qs j) (hC : ∀ i, i < qs.length → C i = none) (due : DueAt qs D) : ¬ PaintedBy qs C none (D - 1) := by
  rw [painted_ever hC]
  rintro ⟨j, hj, n, n0, e⟩
  obtain ⟨i, hi, ei⟩ := due.at_
  have ij : i = j := hits_uniq (h1 (D - 1)) (cls_at hi) (cls_at hj) (by show (D - 1) % sQ qs i = pQ qs i % sQ qs i; rw [show D - 1 = pQ qs i + (-1) * sQ qs i by omega]; exact on_cls) (by show (D - 1) % sQ qs j = pQ qs j % sQ qs j; rw [← e]; exact on_cls)
  subst ij
  have := s0 i hi
  have := Int.mul_nonneg n0 (show 0 ≤ sQ qs i by omega)
  omega
/-- painters that all go to the left leave posts -/
theorem left_hole (s0 : ∀ j, j < qs.length → sQ qs j < 0) (hC : ∀ i, i < qs.length → C i = none) {x : Int} (hp : ∀ j, j < qs.length → pQ qs j < x) : ¬ PaintedBy qs C none x := by
  rw [painted_ever hC]
  rintro ⟨j, hj, n, n0, e⟩
  have := s0 j hj
  have := hp j hj
  have := Int.mul_nonneg n0 (show 0 ≤ -sQ qs j by omega)
  rw [Int.mul_neg] at this
  omega
end
/-- a class is missing: posts of it are never painted -/
theorem miss_hole {A B : List Quad} {q : Quad} {t : Nat} {C : Nat → Option Int} (cv : Cov t ((A ++ q :: B).map clsQ)) (hC : ∀ i, i < (A ++ B).length → C i = none) (b : Int) : ∃ x, b ≤ x ∧ ¬ PaintedBy (A ++ B) C none x := by
  have hq := cv.pos (clsQ q) (List.mem_map.mpr ⟨q, by simp, rfl⟩)
  have h1 : q.2.2.1 % q.2.2.2 < q.2.2.2 := hq.2.1
  have h0 : 0 ≤ q.2.2.1 % q.2.2.2 := hq.1
  have s0 : 0 < q.2.2.2 := by omega
  refine ⟨q.2.2.1 % q.2.2.2 + (max b 0) * q.2.2.2, ?_, ?_⟩
  · have := Int.mul_le_mul_of_nonneg_left (show 1 ≤ q.2.2.2 by omega) (show 0 ≤ max b 0 by omega)
    omega
  · rw [painted_ever hC]
    rintro ⟨j, hj, n, n0, e⟩
    have one := cv.one (q.2.2.1 % q.2.2.2 + (max b 0) * q.2.2.2)
    rw [List.map_append, List.map_cons, hits_app, hits_cons, if_pos (by show (q.2.2.1 % q.2.2.2 + (max b 0) * q.2.2.2) % q.2.2.2 = q.2.2.1 % q.2.2.2; rw [Int.add_mul_emod_self_right, Int.emod_emod])] at one
    have two : hits ((A ++ B).map clsQ) (q.2.2.1 % q.2.2.2 + (max b 0) * q.2.2.2) = 0 := by rw [List.map_append, hits_app]; omega
    have := hits_pos (cs := (A ++ B).map clsQ) (x := q.2.2.1 % q.2.2.2 + (max b 0) * q.2.2.2) (cls_at hj) (by rw [← e]; exact on_cls)
    omega
end Ur
/-! SX: share and full_from, called with and without a side; what they tell, shown. -/
namespace Ur
open PySem PySem.Spec PyProof.Rows L2
/-- share, with the two ways its arguments are bound -/
def ShaC (P : Program) (w : World) (K : PySem.W.Frag) (mg : Str → Option Value) (base : Heap) (T : List (Addr × Str)) (C CF : Addr) : Prop := ∃ (f : Addr) (fd : FuncData), FnOk P w K mg base CX0 17 f fd P_share (spShare T C CF) ∧ PySem.W.keepIn K (.ref f) = true ∧ mg "share" = some (.ref f) ∧
  (∃ ds, Vals [.bl false] ds ∧ Binds K fd P_share ds) ∧ ∃ g, KBn K fd P_share 1 ["left"] g (fun vs zs => vs ++ ([] ++ zs))
theorem ShaC.of {P : Program} {w : World} {K : PySem.W.Frag} {mg : Str → Option Value} {base : Heap} {T : List (Addr × Str)} {C CF : Addr} {f : Addr} {fd : FuncData} (F : ShaK K f fd) (h : FnOk P w K mg base CX0 17 f fd P_share (spShare T C CF)) (m : mg "share" = some (.ref f)) : ShaC P w K mg base T C CF := by
  refine ⟨f, fd, h, F.kp, m, ?_, ?_⟩
  · exact FunD.binds0 F 1 (by simp) rfl fun D doc pm an cdv ct us ks h1 h2 => match us, ks, h1, h2 with | [_], [_], _, _ => ⟨_, _, _, _, _, _, rfl, rfl, rfl⟩
  · obtain ⟨mv, h⟩ := FunD.kbinds0 F (ps := P_share) 1 ["left"] [] (fun us mv ws => us ++ (mv ++ ws)) (by simp) (fun q hq => by cases hq) (fun r1 r2 r3 => r1.append (r2.append r3)) fun D doc pm an cdv ct us mv ws h1 h2 h3 => match us, mv, ws, h1, h2, h3 with | [_], [], [_], _, _, _ => rfl
    exact ⟨_, h⟩
/-- full_from, likewise -/
def FulC (P : Program) (w : World) (K : PySem.W.Frag) (mg : Str → Option Value) (base : Heap) (T : List (Addr × Str)) (C CF : Addr) : Prop := ∃ (f : Addr) (fd : FuncData), FnOk P w K mg base CX0 18 f fd P_full_from (spFul T C CF) ∧ PySem.W.keepIn K (.ref f) = true ∧ mg "full_from" = some (.ref f) ∧
  (∃ ds, Vals [.bl false] ds ∧ Binds K fd P_full_from ds) ∧ ∃ g, KBn K fd P_full_from 1 ["left"] g (fun vs zs => vs ++ ([] ++ zs))
theorem FulC.of {P : Program} {w : World} {K : PySem.W.Frag} {mg : Str → Option Value} {base : Heap} {T : List (Addr × Str)} {C CF : Addr} {f : Addr} {fd : FuncData} (F : FulK K f fd) (h : FnOk P w K mg base CX0 18 f fd P_full_from (spFul T C CF)) (m : mg "full_from" = some (.ref f)) : FulC P w K mg base T C CF := by
  refine ⟨f, fd, h, F.kp, m, ?_, ?_⟩
  · exact FunD.binds0 F 1 (by simp) rfl fun D doc pm an cdv ct us ks h1 h2 => match us, ks, h1, h2 with | [_], [_], _, _ => ⟨_, _, _, _, _, _, rfl, rfl, rfl⟩
  · obtain ⟨mv, h⟩ := FunD.kbinds0 F (ps := P_full_from) 1 ["left"] [] (fun us mv ws => us ++ (mv ++ ws)) (by simp) (fun q hq => by cases hq) (fun r1 r2 r3 => r1.append (r2.append r3)) fun D doc pm an cdv ct us mv ws h1 h2 h3 => match us, mv, ws, h1, h2, h3 with | [_], [], [_], _, _, _ => rfl
    exact ⟨_, h⟩
section
variable {X : Cx} {T : List (Addr × Str)} {C CF : Addr} {e : Expr} {es : List Expr} {kws : List Keyword} {t tk : TA} {p pos : Pos}
theorem pe_sha0 (c : ShaC X.prog X.w X.K X.mg X.base T C CF) (hr : Room 17 X.A) (ha : PA X (e :: es) t) (hg : Gl X "share" := by rfl)
    (he : starEach (e :: es) X.env = (false, eval e X.env) :: starEach es X.env := by rfl) (hpl : (backTo pos (starEach es X.env)).any (·.1) = false := by rfl) :
    PE X (.Call (.Name "share" p) (e :: es) [] pos) (tCall (spShare T C CF) [.bl false] E0 t) := by
  obtain ⟨f, fd, F, kp, m, ⟨ds, hd, b⟩, _⟩ := c
  exact pe_call F hr hg m kp b hd pass0 ha (he := he) (hpl := hpl)
theorem pe_shaL (c : ShaC X.prog X.w X.K X.mg X.base T C CF) (hr : Room 17 X.A) (ha : PA X (e :: es) t) (hkw : PK X kws tk) (hg : Gl X "share" := by rfl)
    (hall : (backToKw pos (keywordEach kws X.env)).all (·.1.isSome) = true := by rfl) (hks : (backToKw pos (keywordEach kws X.env)).filterMap (·.1) = (["left"] : List Str) := by rfl)
    (he : starEach (e :: es) X.env = (false, eval e X.env) :: starEach es X.env := by rfl)
    (hpl : ((backTo pos (starEach (e :: es) X.env)).any (·.1) || (backToKw pos (keywordEach kws X.env)).any (·.1.isNone)) = false := by rfl) :
    PE X (.Call (.Name "share" p) (e :: es) kws pos) (tCallN 1 1 (spShare T C CF) (fun vs zs => vs ++ ([] ++ zs)) E0 t tk) := by
  obtain ⟨f, fd, F, kp, m, _, ⟨g, b⟩⟩ := c
  exact pe_callN F hr hg m kp b pass0 ha hkw hall hks (he := he) (hpl := hpl)
theorem pe_ful0 (c : FulC X.prog X.w X.K X.mg X.base T C CF) (hr : Room 18 X.A) (ha : PA X (e :: es) t) (hg : Gl X "full_from" := by rfl)
    (he : starEach (e :: es) X.env = (false, eval e X.env) :: starEach es X.env := by rfl) (hpl : (backTo pos (starEach es X.env)).any (·.1) = false := by rfl) :
    PE X (.Call (.Name "full_from" p) (e :: es) [] pos) (tCall (spFul T C CF) [.bl false] E0 t) := by
  obtain ⟨f, fd, F, kp, m, ⟨ds, hd, b⟩, _⟩ := c
  exact pe_call F hr hg m kp b hd pass0 ha (he := he) (hpl := hpl)
theorem pe_fulL (c : FulC X.prog X.w X.K X.mg X.base T C CF) (hr : Room 18 X.A) (ha : PA X (e :: es) t) (hkw : PK X kws tk) (hg : Gl X "full_from" := by rfl)
    (hall : (backToKw pos (keywordEach kws X.env)).all (·.1.isSome) = true := by rfl) (hks : (backToKw pos (keywordEach kws X.env)).filterMap (·.1) = (["left"] : List Str) := by rfl)
    (he : starEach (e :: es) X.env = (false, eval e X.env) :: starEach es X.env := by rfl)
    (hpl : ((backTo pos (starEach (e :: es) X.env)).any (·.1) || (backToKw pos (keywordEach kws X.env)).any (·.1.isNone)) = false := by rfl) :
    PE X (.Call (.Name "full_from" p) (e :: es) kws pos) (tCallN 1 1 (spFul T C CF) (fun vs zs => vs ++ ([] ++ zs)) E0 t tk) := by
  obtain ⟨f, fd, F, kp, m, _, ⟨g, b⟩⟩ := c
  exact pe_callN F hr hg m kp b pass0 ha hkw hall hks (he := he) (hpl := hpl)
end
/-- a row of two numbers -/
def nnD (a b : Nat) : PyData := .tuple [.int (a : Int), .int (b : Int)]
theorem nn_dp {K : PySem.W.Frag} {H : Hp} {u : Addr} {a b : Nat} (h : H u = some (.tup [.int (a : Int), .int (b : Int)])) : Dp K H (.ref u) (nnD a b) := Dp.tup (SqT.of h) (.cons (.int _) (.cons (.int _) .nil))
theorem nn_eq {a b c d : Nat} : PyData.eqv (nnD a b) (nnD c d) = (decide (a = c) && decide (b = d)) := by
  simp [nnD, PyData.eqv, PyData.eqvAll]
  by_cases h1 : a = c <;> by_cases h2 : b = d <;> simp [h1, h2] <;> omega
theorem nn_sh {a b : Nat} : SeqAt.shaped (nnD a b) = true := rfl
theorem ite_nb {b : Bool} {A B : Prop} (hb : b = true) (h : B) : if (!b) = true then A else B := by
  subst hb
  exact h
theorem ite_fb {b : Bool} {A B : Prop} (hb : b = false) (h : B) : if b = true then A else B := by
  subst hb
  exact h
theorem team_cut {H : Hp} {ts : List Addr} {qs : List Quad} (tm : Team H ts qs) (j : Nat) : Team H (ts.take j ++ ts.drop (j + 1)) (qs.take j ++ qs.drop (j + 1)) := by
  have tl := tm.len
  have sub : (qs.take j ++ qs.drop (j + 1)).Sublist qs := by
    have h := (List.Sublist.refl (qs.take j)).append (List.drop_sublist_drop_left qs (show j ≤ j + 1 by omega))
    rw [List.take_append_drop] at h
    exact h
  refine ⟨by rw [List.length_append, List.length_append, List.length_take, List.length_take, List.length_drop, List.length_drop, tl], fun k t q a b => ?_, fun q hq => tm.ok q (sub.subset hq), tm.nd.sublist (sub.map _), Nat.le_trans sub.length_le tm.few⟩
  by_cases c : k < (ts.take j).length
  · have c2 : k < (qs.take j).length := by rw [List.length_take] at c ⊢; omega
    have kj : k < j := by rw [List.length_take] at c; omega
    rw [List.getElem?_append_left c, List.getElem?_take_of_lt kj] at a
    rw [List.getElem?_append_left c2, List.getElem?_take_of_lt kj] at b
    exact tm.at_ k t q a b
  · have e : (qs.take j).length = (ts.take j).length := by rw [List.length_take, List.length_take, tl]
    rw [List.getElem?_append_right (by omega), List.getElem?_drop] at a
    rw [List.getElem?_append_right (by omega), List.getElem?_drop, e] at b
    exact tm.at_ _ t q a b
/-- a word and a post -/
def wpD (z : Str) (n : Int) : PyData := .tuple [.str z, .int n]
theorem wp_dp {K : PySem.W.Frag} {H : Hp} {u : Addr} {z : Str} {n : Int} (h : H u = some (.tup [.str z, .int n])) : Dp K H (.ref u) (wpD z n) := Dp.tup (SqT.of h) (.cons (.str _) (.cons (.int _) .nil))
theorem wp_fit {n : Int} (h : n.natAbs < 10 ^ 80) : Fit (wpD "post" n) := ((ShBAll.cons (ShB.str (x := "post") (by decide)) (ShBAll.cons (ShB.int10 h (by decide) (by decide)) .nil)).tup).fit (by decide) (by decide)
theorem nn11_fit : Fit (nnD 1 1) := ((ShBAll.cons (ShB.int10 (i := 1) (k := 1) (by decide) (by decide) (by decide)) (ShBAll.cons (ShB.int10 (i := 1) (k := 1) (by decide) (by decide) (by decide)) .nil)).tup).fit (by decide) (by decide)
/-- the share of painters that part the posts -/
theorem fr_sum {qs : List Quad} {C : Nat → Option Int} (hC : ∀ i, i < qs.length → C i = none) (s0 : ∀ j, j < qs.length → 0 < sQ qs j ∧ sQ qs j ∣ 248832) : ∀ n, n ≤ qs.length → (248832 : Int) * ((frQ qs C false n).1 : Int) = ((frQ qs C false n).2 : Int) * (((qs.take n).map fun q => 248832 / q.2.2.2).sum)
  | 0, _ => rfl
  | n + 1, h => by
    have ih := fr_sum hC s0 n (by omega)
    obtain ⟨a, b⟩ := s0 n h
    have e : qs[n]? = some (qs[n]'h) := List.getElem?_eq_getElem h
    obtain ⟨_, _, _, a4⟩ := q_at e
    have st : frQ qs C false (n + 1) = ((frQ qs C false n).1 * (sQ qs n).toNat + (frQ qs C false n).2, (frQ qs C false n).2 * (sQ qs n).toNat) := by
      show (if _ then _ else _) = _
      rw [if_pos ⟨hC n h, a⟩]
      rfl
    have tk : qs.take (n + 1) = qs.take n ++ [qs[n]'h] := take_snoc e
    rw [st, tk, List.map_append, List.sum_append]
    obtain ⟨k, hk⟩ := b
    have ek : (248832 : Int) / sQ qs n = k := by rw [hk, Int.mul_ediv_cancel_left _ (by omega)]
    have es : (((sQ qs n).toNat : Nat) : Int) = sQ qs n := by omega
    simp only [List.map_cons, List.map_nil, List.sum_cons, List.sum_nil]
    rw [← a4, ek, Int.natCast_add, Int.natCast_mul, Int.natCast_mul, es, Int.mul_add, ← Int.mul_assoc, ih, Int.add_zero, Int.mul_add]
    generalize (List.map (fun q => 248832 / q.snd.snd.snd) (List.take n qs)).sum = S
    generalize ((frQ qs C false n).2 : Int) = D at ih ⊢
    rw [show (248832 : Int) * D = D * sQ qs n * k by rw [Int.mul_assoc, ← hk, Int.mul_comm]]
    rw [show D * S * sQ qs n = D * sQ qs n * S by ac_rfl]
theorem red_one {o u N D : Nat} (h : Red o u N D) (hD : 0 < D) : (o = 1 ∧ u = 1) ↔ N = D := by
  constructor
  · rintro ⟨rfl, rfl⟩
    have := h.eq
    omega
  · rintro rfl
    obtain ⟨a, b⟩ := red_uniq h hD
    rw [Nat.gcd_self, Nat.div_self hD] at a b
    exact ⟨a, b⟩
theorem share_cov {qs : List Quad} {C : Nat → Option Int} {t o u : Nat} (cv : Cov t (qs.map clsQ)) (hC : ∀ i, i < qs.length → C i = none) (red : Red o u (frQ qs C false qs.length).1 (frQ qs C false qs.length).2) : o = 1 ∧ u = 1 := by
  have dp := frQ_pos (qs := qs) (C := C) (left := false) qs.length
  refine (red_one red dp).mpr ?_
  have s0 : ∀ j, j < qs.length → 0 < sQ qs j ∧ sQ qs j ∣ 248832 := fun j hj => by
    have m := List.mem_of_getElem? (cls_at hj)
    have a := (cv.pos _ m).1
    have b := (cv.pos _ m).2.1
    exact ⟨by show 0 < sQ qs j; have a : 0 ≤ pQ qs j % sQ qs j := a; have b : pQ qs j % sQ qs j < sQ qs j := b; omega, cv.dvd m⟩
  have e := fr_sum hC s0 qs.length (Nat.le_refl _)
  have s := cv.sum
  rw [List.map_map] at s
  have s : (qs.map fun q => 248832 / q.2.2.2).sum = 248832 := s
  rw [List.take_length, s, Int.mul_comm] at e
  exact Int.ofNat_inj.mp (Int.eq_of_mul_eq_mul_right (show (248832 : Int) ≠ 0 by decide) e)
theorem share_miss {A B : List Quad} {q : Quad} {C : Nat → Option Int} {t o u : Nat} (cv : Cov t ((A ++ q :: B).map clsQ)) (hC : ∀ i, i < (A ++ B).length → C i = none) (red : Red o u (frQ (A ++ B) C false (A ++ B).length).1 (frQ (A ++ B) C false (A ++ B).length).2) : ¬ (o = 1 ∧ u = 1) := by
  have dp := frQ_pos (qs := A ++ B) (C := C) (left := false) (A ++ B).length
  intro h
  have h := (red_one red dp).mp h
  have inn : ∀ x ∈ A ++ B, x ∈ A ++ q :: B := fun x hx => by
    rcases List.mem_append.mp hx with g | g
    · exact List.mem_append_left _ g
    · exact List.mem_append_right _ (List.mem_cons_of_mem _ g)
  have pos : ∀ x ∈ A ++ q :: B, 0 < x.2.2.2 ∧ x.2.2.2 ∣ 248832 := fun x hx => by
    have m : clsQ x ∈ (A ++ q :: B).map clsQ := List.mem_map.mpr ⟨x, hx, rfl⟩
    have a : 0 ≤ x.2.2.1 % x.2.2.2 := (cv.pos _ m).1
    have b : x.2.2.1 % x.2.2.2 < x.2.2.2 := (cv.pos _ m).2.1
    exact ⟨by omega, cv.dvd (c := clsQ x) m⟩
  have s0 : ∀ j, j < (A ++ B).length → 0 < sQ (A ++ B) j ∧ sQ (A ++ B) j ∣ 248832 := fun j hj => by
    obtain ⟨_, _, _, a4⟩ := q_at (List.getElem?_eq_getElem hj)
    rw [a4]
    exact pos _ (inn _ (List.getElem_mem hj))
  have e := fr_sum hC s0 (A ++ B).length (Nat.le_refl _)
  rw [List.take_length, h, Int.mul_comm] at e
  have e2 := Int.eq_of_mul_eq_mul_left (show (((frQ (A ++ B) C false (A ++ B).length).2 : Nat) : Int) ≠ 0 by omega) e
  have s := cv.sum
  rw [List.map_map, List.map_append, List.map_cons, List.sum_append, List.sum_cons] at s
  rw [List.map_append, List.sum_append] at e2
  have s : (A.map fun q => 248832 / q.2.2.2).sum + (248832 / q.2.2.2 + (B.map fun q => 248832 / q.2.2.2).sum) = 248832 := s
  obtain ⟨p0, k, hk⟩ := pos q (by simp)
  rw [hk, Int.mul_ediv_cancel_left _ (by omega), ← hk] at s
  have : 0 < k := by
    rcases Int.lt_or_le 0 k with g | g
    · exact g
    · have := Int.mul_le_mul_of_nonneg_left g (show 0 ≤ q.2.2.2 by omega)
      rw [Int.mul_zero] at this
      omega
  omega
theorem fr_mirr {qs : List Quad} {C : Nat → Option Int} : frQ (qs.map (mvQ (-1) 0 0)) C false (qs.map (mvQ (-1) 0 0)).length = frQ qs C true qs.length := by
  rw [List.length_map]
  refine frQ_congr _ (fun i _ => Iff.rfl) fun i hi => ?_
  obtain ⟨_, _, _, m4⟩ := mvQ_at (qs := qs) (f := -1) (p := 0) (w := 0) hi
  rw [m4]
  show -1 * sQ qs i = -sQ qs i
  omega
theorem fr_back {qs : List Quad} {C : Nat → Option Int} : frQ (qs.map (mvQ (-1) 0 0)) C true (qs.map (mvQ (-1) 0 0)).length = frQ qs C false qs.length := by
  rw [List.length_map]
  refine frQ_congr _ (fun i _ => Iff.rfl) fun i hi => ?_
  obtain ⟨_, _, _, m4⟩ := mvQ_at (qs := qs) (f := -1) (p := 0) (w := 0) hi
  rw [m4]
  show - (-1 * sQ qs i) = sQ qs i
  omega
end Ur
/-! CS: classes in another order (_law_shuffled). -/
namespace Ur
open PySem PySem.Spec PyProof.Rows L2
abbrev Cp := Addr × Cl
def CpAt (H : Hp) (z : Cp) : Prop := H z.1 = some (.tup [.int z.2.1, .int z.2.2])
theorem CpAt.keep {H H' : Hp} {p : Addr} {kvs : List (Key × V)} {z : Cp} (h : CpAt H z) (k : Keep p H H') (hp : H p = some (.dK kvs)) : CpAt H' z := k _ _ h (ne_of h hp (by intro e; cases e))
theorem cps_team {H : Hp} : ∀ {ts : List Addr} {qs : List Cl}, ClsAt H ts qs → (ts.zip qs).map (·.1) = ts ∧ (ts.zip qs).map (·.2) = qs ∧ ∀ z ∈ ts.zip qs, CpAt H z
  | [], [], _ => ⟨rfl, rfl, fun z h => nomatch h⟩
  | t :: ts, q :: qs, .cons a b => by
    obtain ⟨e1, e2, h⟩ := cps_team b
    rw [List.zip_cons_cons, List.map_cons, List.map_cons, e1, e2]
    refine ⟨rfl, rfl, fun z hz => ?_⟩
    rcases List.mem_cons.mp hz with rfl | hz
    · exact a
    · exact h z hz
theorem cps_at {H : Hp} : ∀ {zs : List Cp}, (∀ z ∈ zs, CpAt H z) → ClsAt H (zs.map (·.1)) (zs.map (·.2))
  | [], _ => .nil
  | z :: zs, h => .cons (h z List.mem_cons_self) (cps_at fun y hy => h y (List.mem_cons_of_mem _ hy))
def cpD (z : Cp) : PyData := .tuple [.int z.2.1, .int z.2.2]
theorem cps_lay : ∀ zs : List Cp, PyData.canLayAll0 (zs.map cpD) = true
  | [] => by simp [PyData.canLayAll0]
  | k :: ks => by simp [PyData.canLayAll0, cpD, PyData.canLay0, cps_lay ks]
theorem cps_depth : ∀ zs : List Cp, PyData.depthAll (zs.map cpD) ≤ 1
  | [] => by simp [PyData.depthAll]
  | k :: ks => by
    have h1 := cps_depth ks
    simp only [List.map_cons, PyData.depthAll, cpD, PyData.depth]
    omega
theorem cps_shaped (zs : List Cp) : SeqAt.shaped (.list (zs.map cpD)) = true := by
  have h1 := cps_depth zs
  have h2 : PyData.depth (.list (zs.map cpD)) ≤ 64 := by
    simp only [PyData.depth]
    omega
  show (PyData.canLay0 (.list (zs.map cpD)) && decide (PyData.depth (.list (zs.map cpD)) ≤ 64)) = true
  rw [Bool.and_eq_true]
  exact ⟨by simp only [PyData.canLay0]; exact cps_lay zs, decide_eq_true h2⟩
theorem cps_eqv_nil (zs : List Cp) : PyData.eqv (.list (zs.map cpD)) (.list []) = zs.isEmpty := by
  cases zs with
  | nil => simp [PyData.eqv, PyData.eqvAll]
  | cons k ks => simp [PyData.eqv, PyData.eqvAll]
theorem dp_cps {K : PySem.W.Frag} {H : Hp} : ∀ {zs : List Cp}, (∀ z ∈ zs, CpAt H z) → DpAll K H (zs.map fun z => V.ref z.1) (zs.map cpD)
  | [], _ => .nil
  | z :: zs, h => .cons (.tup (SqT.of (h z List.mem_cons_self)) (.cons (.int _) (.cons (.int _) .nil))) (dp_cps fun y hy => h y (List.mem_cons_of_mem _ hy))
def spShufC (K : PySem.W.Frag) : Sp := fun vs H Q _ => ∃ (p l F : Addr) (ts : List Addr) (qs : List Cl) (n : Nat), vs = [.ref p, .ref F] ∧ Pen H p l n ∧ n + 500 ≤ 2 ^ 39 ∧ SqL K H F (ts.map V.ref) ∧ ClsAt H ts qs ∧ qs.length ≤ 40 ∧
  ∀ R ts' qs' H', H' R = some (.lst (ts'.map V.ref)) → qs'.Perm qs → ClsAt H' ts' qs' → Pen H' p l (n + 480) → Keep p H H' → Q (.ref R) H'
section
variable {P : Program} {w : World} {K : PySem.W.Frag} {mg : Str → Option Value} {base : Heap}
set_option maxHeartbeats 16000000 in
theorem ok_shufC (D : Dfn K mg "_law_shuffled" s__law_shuffled P__law_shuffled) (B : Blt mg) (CD : Cal P w K mg base 12 "_law_draw" P__law_draw spDr) : Cal P w K mg base 13 "_law_shuffled" P__law_shuffled (spShufC K) := by
  refine D.cal sc__law_shuffled (fun vs H Q E h => ?_) fun f cdv A outer s H vs Q E hr h => ?_
  · obtain ⟨p, l, F, ts, qs, n, rfl, _⟩ := h
    rfl
  obtain ⟨p, l, F, ts, qs, n, rfl, Pn, hn, hF, tm, few, q⟩ := h
  obtain ⟨kvs, hp⟩ := Pn.dk
  obtain ⟨e1, e2, hz⟩ := cps_team tm
  obtain ⟨Z, eZ⟩ : ∃ Z : List Cp, Z = ts.zip qs := ⟨_, rfl⟩
  rw [← eZ] at e1 e2 hz
  have zl : Z.length ≤ 40 := by rw [← List.length_map (f := (·.2)), e2]; exact few
  have er : ts.map V.ref = Z.map fun z => V.ref z.1 := by rw [← e1, List.map_map]; rfl
  refine ⟨_, (pss_cons (ps_par (i := 2) (j := 3) rfl sc__law_shuffled.nd rfl rfl (by decide) rfl rfl (pa_cons (pe_callTy call_list_of rfl B.list_ (by decide +kernel) (pa_cons (pv 1) pa_nil)) (pa_cons (pe_lst pa_nil) pa_nil)) (by rfl)) (pss_cons (ps_while PassesOwn.never (pt_cmpR (op_neD hr.units) (pv 2) (pe_lst pa_nil) (nomark _)) (pss_one (ps_expr (pe_bm PySem.F.plainAttrs_list PySem.F.slot_list_append PySem.F.type_list_append mt_append (pv 3) (pa_cons (pe_bm PySem.F.plainAttrs_list PySem.F.slot_list_pop PySem.F.type_list_pop mt_popAt (pv 2) (pa_cons (pe_cal CD (hr.mono (by decide)) (pa_cons (pv 0) (pa_cons (pe_callB call_len_seq rfl B.len_ PySem.boot_len (pa_cons (pv 2) pa_nil)) pa_nil))) pa_nil)) pa_nil))))) (pss_one (ps_ret (pv 3))))), ?_⟩
  refine ⟨_, rfl, F, _, rfl, .inl hF, fun Rl nR => ⟨by show 0 ≤ sizeLine; decide, fun Fl nF => ⟨_, _, rfl, ?_⟩⟩⟩
  have nRp := Pn.ne nR
  have nRl := Pn.nl nR
  have P1 := Pn.new (o := .lst (ts.map V.ref)) nR
  have nFp := P1.ne nF
  have nFl := P1.nl nF
  have k1 : Keep p H (upd H Rl (.lst (ts.map V.ref))) := Keep.refl.new nR
  have k2 := k1.new (o := .lst []) nF
  have nRF : Rl ≠ Fl := ne_of_none upd_same nF
  have nF0 : H Fl = none := k1.none_of nF nFp
  refine while_ex (fun m σ H1 => ∃ zs ys : List Cp, m = zs.length ∧ σ = [some (.ref p), some (.ref F), some (.ref Rl), some (.ref Fl)] ∧ H1 Rl = some (.lst (zs.map fun z => V.ref z.1)) ∧ H1 Fl = some (.lst (ys.map fun z => V.ref z.1)) ∧ (zs ++ ys).Perm Z ∧ Pen H1 p l (n + 12 * ys.length) ∧ Keep p H H1) Z.length ⟨Z, [], rfl, rfl, by rw [upd_ne nRF, upd_same, er], upd_same, by rw [List.append_nil], (P1.new nF).le (by omega), k2⟩ ?_ (fun σ H Q Q' k h => ?_)
  · rintro m σ H1 ⟨zs, ys, rfl, rfl, hR1, hF1, pm, Pi, ki⟩
    have mem : ∀ z ∈ zs ++ ys, z ∈ Z := fun z hz => pm.mem_iff.mp hz
    have len := pm.length_eq
    rw [List.length_append] at len
    have at1 : ∀ z ∈ zs ++ ys, CpAt H1 z := fun z h => (hz z (mem z h)).keep ki hp
    refine ⟨_, rfl, by show 0 ≤ sizeLine; decide, fun D nD => ?_⟩
    have kD := ki.new (o := .lst []) nD
    have PD := Pi.new (o := .lst []) nD
    have wD := same_new nD (.lst [])
    have hRD := wD _ _ hR1
    have hFD := wD _ _ hF1
    refine ⟨.list (zs.map cpD), .list [], .lst (SqL.of hRD) (dp_cps fun z h => wD _ _ (at1 z (List.mem_append_left _ h))), .lst (SqL.of upd_same) .nil, cps_shaped zs, cps_shaped [], _, rfl, ?_⟩
    rw [cps_eqv_nil]
    cases ez : zs with
    | nil =>
      subst ez
      refine iteF ?_
      rw [List.nil_append] at pm at1
      refine ⟨_, rfl, ?_⟩
      have pq : (ys.map (·.2)).Perm qs := by rw [← e2]; exact pm.map _
      have tm' : ClsAt (upd H1 D (.lst [])) (ys.map (·.1)) (ys.map (·.2)) := cps_at fun z h => wD _ _ (at1 z h)
      exact q Fl (ys.map (·.1)) (ys.map (·.2)) _ (by rw [hFD, List.map_map]; rfl) pq tm' (PD.le (by omega)) kD
    | cons z0 zr =>
      refine iteT ?_
      rw [← ez]
      have zl1 : 1 ≤ zs.length := by rw [ez, List.length_cons]; omega
      obtain ⟨H2, eH2⟩ : ∃ H2, H2 = upd H1 D (.lst []) := ⟨_, rfl⟩
      rw [← eH2] at kD PD hRD hFD ⊢
      refine ⟨_, rfl, .inl ⟨rfl, _, SqL.of hFD⟩, _, rfl, .inl ⟨rfl, _, SqL.of hRD⟩, _, rfl, _, rfl, Rl, _, rfl, .inl (SqL.of hRD), p, l, _, _, rfl, PD, by omega, by rw [List.length_map]; omega, by rw [List.length_map]; omega, fun v H3 v0 v1 P3 k3 => ?_⟩
      rw [List.length_map] at v1
      have hvl : v.toNat < zs.length := by omega
      obtain ⟨kv2, hp2⟩ := PD.dk
      have nRp2 : Rl ≠ p := ne_of hRD hp2 (by intro z; cases z)
      have nFp2 : Fl ≠ p := ne_of hFD hp2 (by intro z; cases z)
      have hR3 := k3 _ _ hRD nRp2
      have hF3 := k3 _ _ hFD nFp2
      refine ⟨Rl, _, v, v.toNat, .ref zs[v.toNat].1, rfl, rfl, hR3, by omega, by omega, by rw [List.length_map]; exact sq_index v0 v1, by rw [List.getElem?_map, List.getElem?_eq_getElem hvl]; rfl, ?_⟩
      have hF4 : upd H3 Rl (.lst ((zs.map fun z => V.ref z.1).eraseIdx v.toNat)) Fl = some (.lst (ys.map fun z => V.ref z.1)) := by rw [upd_ne nRF.symm]; exact hF3
      refine ⟨Fl, _, _, rfl, rfl, hF4, by rw [List.length_map]; exact small1000 (by omega), ?_⟩
      have er2 : (zs.eraseIdx v.toNat).length < zs.length := by have := (take_out zs v.toNat hvl).length_eq; rw [List.length_cons] at this; omega
      refine ⟨(zs.eraseIdx v.toNat).length, by omega, zs.eraseIdx v.toNat, ys ++ [zs[v.toNat]], rfl, rfl, ?_, ?_, ?_, ?_, ?_⟩
      · rw [upd_ne nRF, upd_same, map_out]
      · rw [upd_same, List.map_append]
        rfl
      · refine List.Perm.trans ?_ pm
        rw [← List.append_assoc]
        refine List.perm_append_comm.trans ?_
        show (zs[v.toNat] :: (zs.eraseIdx v.toNat ++ ys)).Perm _
        exact (take_out zs v.toNat hvl).append_right ys
      · rw [List.length_append, show ([zs[v.toNat]] : List Cp).length = 1 from rfl]
        exact ((P3.upd nRp2 nRl).upd nFp2 nFl).le (by show _ ≤ n + 12 * (ys.length + 1); omega)
      · exact ((kD.trans k3).at_new nR).at_new nF0
  · obtain ⟨v, ev, z, h⟩ := h
    exact ⟨v, ev, z, fun D2 nD2 => let ⟨d, e, p1, p2, p3, p4, b, eb, q⟩ := h D2 nD2; ⟨d, e, p1, p2, p3, p4, b, eb, k _ _ q⟩⟩
end
end Ur
/-! OP: mirrored painters (_law_opposite). -/
namespace Ur
open PySem PySem.Spec PyProof.Rows L2
abbrev s__law_opposite : Stmt := (topS 71)
abbrev N_sc__law_opposite : List Str := ["_law_painters", "_law_name", "_law_start", "_law_post", "_law_stride"]
abbrev P__law_opposite : List Str := ["_law_painters"]
theorem sc__law_opposite : FnScope N_sc__law_opposite P__law_opposite (defScope s__law_opposite) := ⟨rfl, rfl, rfl, by decide +kernel, rfl, by decide +kernel, by decide +kernel⟩
def spOpp (K : PySem.W.Frag) : Sp := fun vs H Q _ => ∃ (F : Addr) (ts : List Addr) (qs : List Quad), vs = [.ref F] ∧ SqL K H F (ts.map V.ref) ∧ Team H ts qs ∧
  ∀ F' ts' H', H' F' = some (.lst (ts'.map V.ref)) → Team H' ts' (qs.map (mvQ (-1) 0 0)) → Same H H' → Q (.ref F') H'
section
variable {P : Program} {w : World} {K : PySem.W.Frag} {mg : Str → Option Value} {base : Heap}
theorem ok_opp (D : Dfn K mg "_law_opposite" s__law_opposite P__law_opposite) : Cal P w K mg base 1 "_law_opposite" P__law_opposite (spOpp K) := by
  refine D.cal sc__law_opposite (fun vs H Q E h => ?_) fun fn cdv A outer s H vs Q E hr h => ?_
  · obtain ⟨F, _, _, rfl, _⟩ := h
    rfl
  obtain ⟨F, ts, qs, rfl, hF, tm, q⟩ := h
  refine ⟨_, (pss_one (ps_ret (pe_lc (own := [("_law_name", 1), ("_law_start", 2), ("_law_post", 3), ("_law_stride", 4)]) (g := gTup K 4 (gCons (gName 1) (gCons (gName 2) (gCons (gName 3) (gCons (gName 4) gNil))))) (tt := tYes) rfl sc__law_opposite.nd (pi_list (pv 0)) (blkOk_by (N := N_sc__law_opposite) (sc := defScope s__law_opposite) (by decide +kernel)) (fun _ _ _ _ _ => pg_tup rfl (pgs_cons (pg_name (i := 1) sc__law_opposite.nd rfl (Or.inl rfl)) (pgs_cons (pg_name (i := 2) sc__law_opposite.nd rfl (Or.inl rfl)) (pgs_cons (pg_name (i := 3) sc__law_opposite.nd rfl (Or.inl rfl)) (pgs_cons (pg_name (i := 4) sc__law_opposite.nd rfl (Or.inl rfl)) pgs_nil))))) (fun _ _ _ _ _ => pts_nil) (fun _ _ _ _ _ => (pe_tup (pa_cons (pv 1) (pa_cons (pv 2) (pa_cons (pe_op op_sub pe_int (pv 3)) (pa_cons (pe_op op_sub pe_int (pv 4)) pa_nil))))))))), ?_⟩
  have tl := tm.len
  have few := tm.few
  refine ⟨_, rfl, F, rfl, ⟨_, hF⟩, fun M nM => ?_⟩
  refine lc_list (K := K) (a := F) (xs := ts.map V.ref) (fun i H' => ∃ us : List Addr, H' M = some (.lst (us.map V.ref)) ∧ us.length = i ∧ (∀ (j : Nat) (u : Addr) (x : Quad), j < i → us[j]? = some u → qs[j]? = some x → H' u = some (.tup (quadV (mvQ (-1) 0 0 x)))) ∧ Same H H') ⟨[], upd_same, rfl, (fun j u x h => absurd h (Nat.not_lt_zero j)), same_new nM _⟩ (fun i H' _ h => by obtain ⟨_, _, _, _, h⟩ := h; exact same_sql h hF) ?_ ?_
  · rintro i v H' ev ⟨us, hM, ul, at1, s1⟩
    obtain ⟨t, qd, rfl, et, eq, ht, ok⟩ := tm.get ev
    obtain ⟨nm, d, p, st⟩ := qd
    have hi := (List.getElem?_eq_some_iff.mp eq).1
    refine ⟨t, _, rfl, SqT.of (s1 _ _ ht), rfl, _, _, rfl, _, _, rfl, _, _, rfl, _, _, rfl, rfl, ?_⟩
    refine ⟨rfl, _, rfl, _, rfl, _, rfl, _, _, rfl, rfl, _, rfl, _, _, rfl, rfl, by show 4 ≤ sizeLine; decide, fun u nu => ?_⟩
    have su := same_new nu (.tup [.str nm, .int d, .int (0 - p), .int (0 - st)])
    have hMu := su _ _ hM
    have kp : ∀ (b : Addr) xs, upd H' u (.tup [.str nm, .int d, .int (0 - p), .int (0 - st)]) b = some (.tup xs) → upd (upd H' u (.tup [.str nm, .int d, .int (0 - p), .int (0 - st)])) M (.lst (us.map V.ref ++ [.ref u])) b = some (.tup xs) := fun b xs e => by rw [upd_ne (ne_of e hMu (by intro z; cases z))]; exact e
    refine ⟨_, hMu, ?_, us ++ [u], by rw [upd_same, List.map_append]; rfl, by rw [List.length_append, ul]; rfl, fun j b x hj e1 e2 => ?_, sameAt (s1.trans su) nM⟩
    · rw [List.length_map, ul]
      exact Nat.lt_of_le_of_lt (show i ≤ 40 by omega) (by decide)
    · by_cases c : j < i
      · rw [List.getElem?_append_left (by omega)] at e1
        exact kp _ _ (su _ _ (at1 j b x c e1 e2))
      · obtain rfl : j = i := by omega
        rw [List.getElem?_append_right (by omega), ul, Nat.sub_self] at e1
        obtain rfl := Option.some.inj e1
        rw [eq] at e2
        obtain rfl := Option.some.inj e2
        refine kp _ _ ?_
        rw [upd_same]
        show some (HO.tup [V.str nm, .int d, .int (0 - p), .int (0 - st)]) = some (HO.tup [V.str nm, .int (d + 0), .int (-1 * p + 0), .int (-1 * st)])
        rw [show d + 0 = d by omega, show -1 * p + 0 = 0 - p by omega, show -1 * st = 0 - st by omega]
  · rintro H' ⟨us, hM, ul, at1, s1⟩
    rw [List.length_map, tl] at ul
    refine q M us H' hM ⟨by rw [List.length_map]; exact ul, fun j u x e1 e2 => ?_, fun y hy => ?_, ?_, by rw [List.length_map]; exact few⟩ s1
    · rw [List.getElem?_map] at e2
      cases e3 : qs[j]? with
      | none => rw [e3] at e2; cases e2
      | some y =>
        rw [e3] at e2
        obtain rfl := Option.some.inj e2
        exact at1 j u y (by have := (List.getElem?_eq_some_iff.mp e3).1; rw [List.length_map, tl]; exact this) e1 e3
    · obtain ⟨x, hx, rfl⟩ := List.mem_map.mp hy
      have k := tm.ok x hx
      have k1 := k.d0
      have k2 := k.d1
      have k3 := k.p0
      have k4 := k.p1
      have k5 := k.s0
      have k6 := k.s1
      have k7 := k.sn
      exact ⟨k.nm, by show 0 ≤ x.2.1 + 0; omega, by show x.2.1 + 0 ≤ _; omega, by show _ ≤ -1 * x.2.2.1 + 0; omega, by show -1 * x.2.2.1 + 0 ≤ _; omega, by show _ ≤ -1 * x.2.2.2; omega, by show -1 * x.2.2.2 ≤ _; omega, by show -1 * x.2.2.2 ≠ 0; omega⟩
    · rw [List.map_map]
      exact tm.nd
end
end Ur
/-! L49: the law: full from a planted post. -/
namespace Ur
open PySem PySem.Spec PyProof.Rows L2
abbrev s_law : Stmt := (topS 75)
abbrev N_sc_law : List Str := ["_law_script", "_law_pen_here", "_law_turn", "_law_base", "_law_classes", "_law_gaps", "_law_painters", "_law_due", "_law_name", "_law_start", "_law_post", "_law_stride", "_law_fence_here", "_law_mirrored", "_law_at", "_law_some"]
abbrev P_law : List Str := ["_law_script"]
theorem sc_law : FnScope N_sc_law P_law (defScope s_law) := ⟨rfl, rfl, rfl, by decide +kernel, rfl, by decide +kernel, by decide +kernel⟩
theorem len_turns4 {n : Nat} : 0 ≤ 2 + (if (n : Int) < 4 then (n : Int) else 4) ∧ 2 + (if (n : Int) < 4 then (n : Int) else 4) ≤ 6 := by split <;> omega
section
variable {P : Program} {w : World} {K : PySem.W.Frag} {mg : Str → Option Value} {base : Heap} {C CF CH : Addr}
set_option maxHeartbeats 16000000 in
theorem ok_law {T : List (Addr × Str)} {f : Addr} {fd : FuncData} (F : Fun K "law" "law" s_law f fd) (B : Blt mg) (CPen : Cal P w K mg base 1 "_law_pen" P__law_pen (spPen K)) (CD : Cal P w K mg base 12 "_law_draw" P__law_draw spDr) (CPL : Cal P w K mg base 13 "_law_pick" P__law_pick (spPickL K)) (CI : Cal P w K mg base 13 "_law_pick" P__law_pick (spPickI K)) (CG : Cal P w K mg base 14 "_law_great" P__law_great spGreat)
    (CN : Cal P w K mg base 14 "_law_names" P__law_names spNamesN) (CCo : Cal P w K mg base 13 "_law_cover" P__law_cover (spCov K)) (CSh : Cal P w K mg base 13 "_law_shuffled" P__law_shuffled (spShufC K)) (CCv : Cal P w K mg base 15 "_law_covering" P__law_covering (spCvr K)) (CFe : Cal P w K mg base 6 "_law_fence" P__law_fence (spFence K C CF)) (COp : Cal P w K mg base 1 "_law_opposite" P__law_opposite (spOpp K))
    (CSa : ShaC P w K mg base T C CF) (CFu : FulC P w K mg base T C CF) : FnG P w K mg base 40 f fd P_law (spLaw K T) := by
  refine runG F sc_law (fun vs H Q E h => ?_) (fun cdv A outer s H vs Q E hs hr h => ?_)
  · obtain ⟨a, ns, rfl, _⟩ := h
    rfl
  obtain ⟨a, ns, rfl, hS, hlen, tb, q⟩ := h
  have hs : Still (A.deeper (envOfC "law" (defScope s_law) s.heap.objs.size f cdv)) := hs
  have hu6 : (A.deeper (envOfC "law" (defScope s_law) s.heap.objs.size f cdv)).units + 66 < cLine := by have := hr.un; omega
  have hu := hu_of hr
  refine ⟨_, (pss_cons (ps_set (i := 1) sc_law.nd rfl (Or.inl rfl) (pe_cal CPen (hr.mono (by decide)) (pa_cons (pv 0) pa_nil))) (pss_cons (ps_for PassesOwn.never rfl (pi_range1 rfl B.range_ (pa_cons (pe_op op_add pe_int (pe_callB (call_min2 rfl) rfl B.min_ (by decide +kernel) (pa_cons pe_int (pa_cons (pe_callB call_len_seq rfl B.len_ PySem.boot_len (pa_cons (pv 0) pa_nil)) pa_nil)))) pa_nil)) (pg_name (i := 2) sc_law.nd rfl (Or.inl rfl)) (C8.pss_cut (ps_par (i := 3) (j := 4) rfl sc_law.nd rfl rfl (by decide) rfl rfl (pa_cons (pe_op op_mul (pe_cal CG (hr.mono (by decide)) (pa_cons (pv 1) (pa_cons pe_int pa_nil))) (pe_cal CI (hr.mono (by decide)) (pa_cons (pv 1) (pa_cons (pe_lst (pa_cons pe_int (pa_cons (pe_un un_neg pe_int) pa_nil))) pa_nil)))) (pa_cons (pe_cal CSh (hr.mono (by decide)) (pa_cons (pv 1) (pa_cons (pe_cal CCo (hr.mono (by decide)) (pa_cons (pv 1) (pa_cons pe_int pa_nil))) pa_nil))) pa_nil)) (by rfl)) (C8.pss_cut (ps_set (i := 5) sc_law.nd rfl (Or.inl rfl) (pe_cal CPL (hr.mono (by decide)) (pa_cons (pv 1) (pa_cons (pe_lst (pa_cons (pe_lst (pa_cons pe_int pa_nil)) (pa_cons (pe_lst (pa_cons pe_int (pa_cons pe_int pa_nil))) (pa_cons (pe_lst (pa_cons pe_int (pa_cons (pe_cal CD (hr.mono (by decide)) (pa_cons (pv 1) (pa_cons pe_int pa_nil))) (pa_cons (pe_cal CG (hr.mono (by decide)) (pa_cons (pv 1) (pa_cons pe_int pa_nil))) pa_nil)))) pa_nil)))) pa_nil)))) (C8.pss_cut (ps_set (i := 6) sc_law.nd rfl (Or.inl rfl) (pe_cal CCv (hr.mono (by decide)) (pa_cons (pv 1) (pa_cons (pe_cal CN (hr.mono (by decide)) (pa_cons (pv 1) (pa_cons pe_int pa_nil))) (pa_cons (pv 4) (pa_cons (pv 3) (pa_cons (pv 5) pa_nil))))))) (C8.pss_cut (ps_set (i := 7) sc_law.nd rfl (Or.inl rfl) (pe_op op_add (pe_callB (cr_maxI rfl hr.units) rfl B.max_ (by decide +kernel) (pa_cons (pe_lc (own := [("_law_name", 8), ("_law_start", 9), ("_law_post", 10), ("_law_stride", 11)]) (g := gTup K 4 (gCons (gName 8) (gCons (gName 9) (gCons (gName 10) (gCons (gName 11) gNil))))) (tt := tYes) rfl sc_law.nd (pi_list (pv 6)) (blkOk_by (N := N_sc_law) (sc := defScope s_law) (by decide +kernel)) (fun _ _ _ _ _ => pg_tup rfl (pgs_cons (pg_name (i := 8) sc_law.nd rfl (Or.inl rfl)) (pgs_cons (pg_name (i := 9) sc_law.nd rfl (Or.inl rfl)) (pgs_cons (pg_name (i := 10) sc_law.nd rfl (Or.inl rfl)) (pgs_cons (pg_name (i := 11) sc_law.nd rfl (Or.inl rfl)) pgs_nil))))) (fun _ _ _ _ _ => pts_nil) (fun _ _ _ _ _ => (pe_op op_sub (pv 10) (pv 11)))) pa_nil)) pe_int)) (C8.pss_cut (ps_par (i := 12) (j := 13) rfl sc_law.nd rfl rfl (by decide) rfl rfl (pa_cons (pe_cal CFe (hr.mono (by decide)) (pa_cons (pv 6) pa_nil)) (pa_cons (pe_cal CFe (hr.mono (by decide)) (pa_cons (pe_cal COp (hr.mono (by decide)) (pa_cons (pv 6) pa_nil)) pa_nil)) pa_nil)) (by rfl)) (C8.pss_cut (ps_if (PW.pt (pw_or (pt_cmpR op_ne (pe_callB (call_reprT hs hu6) rfl B.repr_ (by decide +kernel) (pa_cons (pe_ful0 CFu (hr.mono (by decide)) (pa_cons (pv 12) pa_nil)) pa_nil)) (pe_callB (call_reprT hs hu6) rfl B.repr_ (by decide +kernel) (pa_cons (pe_tup (pa_cons pe_str (pa_cons (pv 7) pa_nil))) pa_nil)) (nomark _)) (pw_or1 (pt_cmpR op_ne (pe_callB (call_reprT hs hu6) rfl B.repr_ (by decide +kernel) (pa_cons (pe_sha0 CSa (hr.mono (by decide)) (pa_cons (pv 12) pa_nil)) pa_nil)) (pe_callB (call_reprT hs hu6) rfl B.repr_ (by decide +kernel) (pa_cons (pe_tup (pa_cons pe_int (pa_cons pe_int pa_nil))) pa_nil)) (nomark _))))) (pss_one (ps_ret pe_bl)) pss_nil) (C8.pss_cut (ps_if (PW.pt (pw_or (pt_cmpR op_ne (pe_callB (call_reprT hs hu6) rfl B.repr_ (by decide +kernel) (pa_cons (pe_fulL CFu (hr.mono (by decide)) (pa_cons (pv 13) pa_nil) (pk_cons pe_bl pk_nil)) pa_nil)) (pe_callB (call_reprT hs hu6) rfl B.repr_ (by decide +kernel) (pa_cons (pe_tup (pa_cons pe_str (pa_cons (pe_op op_sub pe_int (pv 7)) pa_nil))) pa_nil)) (nomark _)) (pw_or1 (pt_cmpR (op_neD hr.units) (pe_shaL CSa (hr.mono (by decide)) (pa_cons (pv 13) pa_nil) (pk_cons pe_bl pk_nil)) (pe_tup (pa_cons pe_int (pa_cons pe_int pa_nil))) (nomark _))))) (pss_one (ps_ret pe_bl)) pss_nil) (C8.pss_cut (ps_if (PW.pt (pw_or (pt_cmpR op_notN (pe_fulL CFu (hr.mono (by decide)) (pa_cons (pv 12) pa_nil) (pk_cons pe_bl pk_nil)) pe_non (nomark _)) (pw_or1 (pt_cmpR op_notN (pe_ful0 CFu (hr.mono (by decide)) (pa_cons (pv 13) pa_nil)) pe_non (nomark _))))) (pss_one (ps_ret pe_bl)) pss_nil) (C8.pss_cut (ps_set (i := 14) sc_law.nd rfl (Or.inl rfl) (pe_cal CD (hr.mono (by decide)) (pa_cons (pv 1) (pa_cons (pe_callB call_len_seq rfl B.len_ PySem.boot_len (pa_cons (pv 6) pa_nil)) pa_nil)))) (C8.pss_cut (ps_set (i := 15) sc_law.nd rfl (Or.inl rfl) (pe_cal CFe (hr.mono (by decide)) (pa_cons (pe_op op_cat (pe_slice sl_list (pv 6) po_none (po_some (pv 14))) (pe_slice sl_list (pv 6) (po_some (pe_op op_add (pv 14) pe_int)) po_none)) pa_nil))) (pss_one (ps_if (PW.pt (pw_or (pt_cmpR op_notN (pe_ful0 CFu (hr.mono (by decide)) (pa_cons (pv 15) pa_nil)) pe_non (nomark _)) (pw_or1 (pt_cmpR (op_eqD hr.units) (pe_sha0 CSa (hr.mono (by decide)) (pa_cons (pv 15) pa_nil)) (pe_tup (pa_cons pe_int (pa_cons pe_int pa_nil))) (nomark _))))) (pss_one (ps_ret pe_bl)) pss_nil))))))))))))) (pss_one (ps_ret pe_bl)))), ?_⟩
  refine ⟨_, rfl, a, ns, rfl, hS, hlen, fun p l H1 P1 hp0 hl0 s1 => ?_⟩
  have hk := @len_turns4 (ns.map V.int).length
  refine ⟨_, rfl, a, _, rfl, .inl (same_sql s1 hS), _, _, rfl, _, _, rfl, rfl, _, rfl, by omega, by omega, ?_⟩
  refine for_range (lo := 0) (fun i σ' H' => ∃ (o2 o3 o4 o5 o6 o7 o8 o9 o10 o11 o12 o13 o14 o15 : Option V), σ' = [some (.ref a), some (.ref p), o2, o3, o4, o5, o6, o7, o8, o9, o10, o11, o12, o13, o14, o15] ∧ Pen H' p l (20000 * i) ∧ LamX.Tabs T H') ⟨none, none, none, none, none, none, none, none, none, none, none, none, none, none, rfl, P1, tabs_same s1 tb⟩ ?_ ?_
  · rintro i σ' H2 hi ⟨o2, o3, o4, o5, o6, o7, o8, o9, o10, o11, o12, o13, o14, o15, rfl, P2, tb2⟩
    have hi6 : i < 6 := by omega
    obtain ⟨kv2, hp2⟩ := P2.dk
    -- the classes
    refine ⟨fun σ' H' => ∃ (b : Int) (R : Addr) (us : List Addr) (cs : List Cl), σ' = [some (.ref a), some (.ref p), some (.int (0 + (i : Int))), some (.int b), some (.ref R), o5, o6, o7, o8, o9, o10, o11, o12, o13, o14, o15] ∧ -(10 ^ 29) ≤ b ∧ b ≤ 10 ^ 29 ∧ H' R = some (.lst (us.map V.ref)) ∧ ClsAt H' us cs ∧ Cov 5 cs ∧ 1 ≤ cs.length ∧ cs.length ≤ 13 ∧ Pen H' p l (20000 * i + 1000) ∧ LamX.Tabs T H', ?_, ?_⟩
    · refine ⟨_, rfl, p, l, 29, _, rfl, P2, by omega, by decide, by decide, fun b1 H3 b10 b11 P3 k3 => ?_⟩
      have tb3 := tabs_keep k3 hp2 tb2
      refine ⟨_, rfl, _, rfl, by show 2 ≤ sizeLine; decide, fun y ny => ⟨p, l, y, [1, -1], _, rfl, P3.new ny, by omega, SqL.of upd_same, by show 1 ≤ 2; decide, by show 2 ≤ 1000000; decide, fun sg H4 hsg P4 k4 => ?_⟩⟩
      obtain ⟨kv3, hp3⟩ := (P3.new (o := .lst [.int 1, .int (-1)]) ny).dk
      have tb4 := tabs_keep k4 hp3 (tabs_same (same_new ny _) tb3)
      have hsg : sg = 1 ∨ sg = -1 := by simpa using hsg
      obtain ⟨kv4, hp4⟩ := P4.dk
      refine ⟨_, _, rfl, rfl, .inr (by omega), _, rfl, _, rfl, p, l, 13, _, rfl, P4, by omega, by decide, by decide, fun R0 us0 cs0 H5 hR0 hc0 cv l1 l2 nR P5 k5 => ?_⟩
      obtain ⟨kv5, hp5⟩ := P5.dk
      refine ⟨p, l, R0, us0, cs0, _, rfl, P5, by omega, SqL.of hR0, hc0, by omega, fun R us cs H6 hR pm hc P6 k6 => ?_⟩
      have ln := pm.length_eq
      refine ⟨_, _, rfl, b1 * sg, R, us, cs, rfl, ?_, ?_, hR, hc, cv.perm pm, by omega, by omega, P6.le (by omega), tabs_keep k6 hp5 (tabs_keep k5 hp4 tb4)⟩
      · rcases hsg with rfl | rfl <;> omega
      · rcases hsg with rfl | rfl <;> omega
    rintro σ' H3 ⟨b, R, us, cs, rfl, b0, b1, hR, hc, cv, c1, c13, P3, tb3⟩
    obtain ⟨kv3, hp3⟩ := P3.dk
    -- the gaps
    refine ⟨fun σ' H' => ∃ (G : Addr) (gs : List Int), σ' = [some (.ref a), some (.ref p), some (.int (0 + (i : Int))), some (.int b), some (.ref R), some (.ref G), o6, o7, o8, o9, o10, o11, o12, o13, o14, o15] ∧ H' R = some (.lst (us.map V.ref)) ∧ ClsAt H' us cs ∧ H' G = some (.lst (gs.map V.int)) ∧ (∀ g ∈ gs, 0 ≤ g ∧ g ≤ 10 ^ 20) ∧ 1 ≤ gs.length ∧ gs.length ≤ 3 ∧ Pen H' p l (20000 * i + 2000) ∧ LamX.Tabs T H', ?_, ?_⟩
    · refine ⟨_, rfl, by show 1 ≤ sizeLine; decide, fun g1 n1 => ⟨by show 2 ≤ sizeLine; decide, fun g2 n2 => ?_⟩⟩
      have w12 := (same_new n1 (.lst [.int 0])).trans (same_new n2 (.lst [.int 0, .int 1]))
      have hg1 := same_new n2 (.lst [.int 0, .int 1]) _ _ (upd_same (H := H3) (a := g1) (o := .lst [.int 0]))
      have hg2 := upd_same (H := upd H3 g1 (.lst [.int 0])) (a := g2) (o := .lst [.int 0, .int 1])
      have P4 := P3.same w12
      have tb4 := tabs_same w12 tb3
      have hR4 := w12 _ _ hR
      have hc4 := ClsAt.same hc w12
      generalize upd (upd H3 g1 (.lst [.int 0])) g2 (.lst [.int 0, .int 1]) = H4 at hg1 hg2 P4 tb4 hR4 hc4 ⊢
      obtain ⟨kv4, hp4⟩ := P4.dk
      refine ⟨_, rfl, p, l, 9, _, rfl, P4, by omega, by omega, by omega, fun v1 H5 v10 v11 P5 k5 => ?_⟩
      obtain ⟨kv5, hp5⟩ := P5.dk
      refine ⟨_, rfl, p, l, 20, _, rfl, P5, by omega, by decide, by decide, fun v2 H6 v20 v21 P6 k6 => ?_⟩
      obtain ⟨kv6, hp6⟩ := P6.dk
      have tb6 := tabs_keep k6 hp5 (tabs_keep k5 hp4 tb4)
      have k56 := k5.trans k6
      have hg16 := k56 _ _ hg1 (ne_of hg1 hp4 (by intro z; cases z))
      have hg26 := k56 _ _ hg2 (ne_of hg2 hp4 (by intro z; cases z))
      have hR6 := k56 _ _ hR4 (ne_of hR4 hp4 (by intro z; cases z))
      have hc6 := ClsAt.keep hc4 k56 hp4
      refine ⟨by show 3 ≤ sizeLine; decide, fun g3 n3 => ⟨by show 3 ≤ sizeLine; decide, fun y ny => ?_⟩⟩
      have w3 := (same_new n3 (.lst [.int 0, .int v1, .int v2])).trans (same_new ny (.lst [.ref g1, .ref g2, .ref g3]))
      have hg3 := same_new ny (.lst [.ref g1, .ref g2, .ref g3]) _ _ (upd_same (H := H6) (a := g3) (o := .lst [.int 0, .int v1, .int v2]))
      have P7 := P6.same w3
      obtain ⟨kv7, hp7⟩ := P7.dk
      refine ⟨p, l, y, [.ref g1, .ref g2, .ref g3], _, rfl, P7, by omega, SqL.of upd_same, by show 1 ≤ 3; decide, by show 3 ≤ 1000000; decide, fun v H8 hv P8 k8 => ?_⟩
      have kp : ∀ (x : Addr) xs, H6 x = some (.lst xs) → H8 x = some (.lst xs) := fun x xs e => k8 _ _ (w3 _ _ e) (ne_of (w3 _ _ e) hp7 (by intro z; cases z))
      have tb8 := tabs_keep k8 hp7 (tabs_same w3 tb6)
      have hc8 := ClsAt.keep (ClsAt.same hc6 w3) k8 hp7
      have fin : ∀ (G : Addr) (gs : List Int), H8 G = some (.lst (gs.map V.int)) → (∀ g ∈ gs, 0 ≤ g ∧ g ≤ 10 ^ 20) → 1 ≤ gs.length → gs.length ≤ 3 → _ := fun G gs hG ok g1 g2 => (⟨G, gs, rfl, kp _ _ hR6, hc8, hG, ok, g1, g2, P8.le (by omega), tb8⟩ : ∃ (G' : Addr) (gs : List Int), [some (V.ref a), some (.ref p), some (.int (0 + (i : Int))), some (.int b), some (.ref R), some (.ref G), o6, o7, o8, o9, o10, o11, o12, o13, o14, o15] = [some (.ref a), some (.ref p), some (.int (0 + (i : Int))), some (.int b), some (.ref R), some (.ref G'), o6, o7, o8, o9, o10, o11, o12, o13, o14, o15] ∧ H8 R = some (.lst (us.map V.ref)) ∧ ClsAt H8 us cs ∧ H8 G' = some (.lst (gs.map V.int)) ∧ (∀ g ∈ gs, 0 ≤ g ∧ g ≤ 10 ^ 20) ∧ 1 ≤ gs.length ∧ gs.length ≤ 3 ∧ Pen H8 p l (20000 * i + 2000) ∧ LamX.Tabs T H8)
      simp only [List.mem_cons, List.not_mem_nil, or_false] at hv
      rcases hv with rfl | rfl | rfl
      · exact fin g1 [0] (kp _ _ hg16) (fun g hg => by rw [List.mem_singleton.mp hg]; decide) (by decide) (by decide)
      · exact fin g2 [0, 1] (kp _ _ hg26) (fun g hg => by simp only [List.mem_cons, List.not_mem_nil, or_false] at hg; omega) (by decide) (by decide)
      · exact fin g3 [0, v1, v2] (k8 _ _ hg3 (ne_of hg3 hp7 (by intro z; cases z))) (fun g hg => by simp only [List.mem_cons, List.not_mem_nil, or_false] at hg; omega) (by show 1 ≤ 3; decide) (by show 3 ≤ 3; decide)
    rintro σ' H4 ⟨G, gs, rfl, hR4, hc4, hG4, gok, g1, g2, P4, tb4⟩
    obtain ⟨kv4, hp4⟩ := P4.dk
    -- the painters
    refine ⟨fun σ' H' => ∃ (F : Addr) (ts : List Addr) (qs : List Quad), σ' = [some (.ref a), some (.ref p), some (.int (0 + (i : Int))), some (.int b), some (.ref R), some (.ref G), some (.ref F), o7, o8, o9, o10, o11, o12, o13, o14, o15] ∧ H' F = some (.lst (ts.map V.ref)) ∧ Team H' ts qs ∧ Cov 5 (qs.map clsQ) ∧ 1 ≤ qs.length ∧ qs.length ≤ 13 ∧ Pen H' p l (20000 * i + 9000) ∧ LamX.Tabs T H', ?_, ?_⟩
    · refine ⟨_, rfl, _, rfl, p, l, 13, _, rfl, P4, by omega, by decide, fun N ss H5 hN nl nok nnd nN P5 k5 => ?_⟩
      obtain ⟨kv5, hp5⟩ := P5.dk
      have hR5 := k5 _ _ hR4 (ne_of hR4 hp4 (by intro z; cases z))
      have hG5 := k5 _ _ hG4 (ne_of hG4 hp4 (by intro z; cases z))
      refine ⟨_, rfl, _, rfl, _, rfl, p, l, N, R, G, ss, us, cs, b, gs, _, rfl, P5, by omega, hN, nok, nnd, hR5, ClsAt.keep hc4 k5 hp4, by omega, by omega, fun c hc => ⟨(cv.pos c hc).1, (cv.pos c hc).2.1, cv.le hc⟩, b0, b1, hG5, gok, g1, by omega, fun F ts qs H6 hF tm ec _ _ P6 k6 => ?_⟩
      have ql : qs.length = cs.length := by rw [← ec, List.length_map]
      exact ⟨F, ts, qs, rfl, hF, tm, by rw [ec]; exact cv, by omega, by omega, P6.le (by omega), tabs_keep k6 hp5 (tabs_keep k5 hp4 tb4)⟩
    rintro σ' H5 ⟨F, ts, qs, rfl, hF, tm, cvq, q1, q13, P5, tb5⟩
    have tl := tm.len
    -- the first of all posts behind which all is painted
    refine ⟨fun σ' H' => ∃ (D : Int) (p8 p9 p10 p11 : Option V), σ' = [some (.ref a), some (.ref p), some (.int (0 + (i : Int))), some (.int b), some (.ref R), some (.ref G), some (.ref F), some (.int D), p8, p9, p10, p11, o12, o13, o14, o15] ∧ DueAt qs D ∧ Same H5 H', ?_, ?_⟩
    · refine ⟨_, rfl, F, rfl, ⟨_, SqL.of hF⟩, fun M nM => ?_⟩
      refine lc_list (K := K) (a := F) (xs := ts.map V.ref) (fun k H' => H' M = some (.lst (((qs.take k).map fun q => q.2.2.1 - q.2.2.2).map V.int)) ∧ Same H5 H') ⟨upd_same, same_new nM _⟩ (fun k H' _ h => SqL.of (h.2 _ _ hF)) ?_ ?_
      · rintro k v H' ev ⟨hM, sM⟩
        obtain ⟨t, qd, rfl, et, eq, ht, ok⟩ := tm.get ev
        obtain ⟨nm, d, po, st⟩ := qd
        have hk := (List.getElem?_eq_some_iff.mp eq).1
        refine ⟨t, _, rfl, SqT.of (sM _ _ ht), rfl, _, _, rfl, _, _, rfl, _, _, rfl, _, _, rfl, rfl, ?_⟩
        refine ⟨rfl, _, rfl, _, rfl, _, _, rfl, rfl, ?_⟩
        refine ⟨_, hM, ?_, ?_, sameAt sM nM⟩
        · rw [List.length_map, List.length_map, List.length_take]
          exact Nat.lt_of_le_of_lt (show min k qs.length ≤ 13 by omega) (by decide)
        · rw [upd_same, take_snoc eq, List.map_append, List.map_append]
          rfl
      · rintro H' ⟨hM, sM⟩
        rw [List.length_map, tl, List.take_length] at hM
        refine ⟨M, qs.map fun q => q.2.2.1 - q.2.2.2, rfl, SqL.of hM, ?_, fun m hm le => ⟨_, _, rfl, rfl, ?_⟩⟩
        · intro z
          have := congrArg List.length z
          rw [List.length_map] at this
          have e0 : ([] : List Int).length = 0 := rfl
          omega
        · refine ⟨m + 1, _, _, _, _, rfl, ⟨fun j hj => ?_, ?_⟩, sM⟩
          · obtain ⟨_, _, a3, a4⟩ := q_at (List.getElem?_eq_getElem hj)
            have := le _ (List.mem_map.mpr ⟨_, List.getElem_mem hj, rfl⟩)
            rw [a3, a4]
            omega
          · obtain ⟨x, hx, rfl⟩ := List.mem_map.mp hm
            obtain ⟨j, hj, rfl⟩ := List.getElem_of_mem hx
            obtain ⟨_, _, a3, a4⟩ := q_at (List.getElem?_eq_getElem hj)
            exact ⟨j, hj, by rw [a3, a4]⟩
    rintro σ' H6 ⟨D, p8, p9, p10, p11, rfl, due, s6⟩
    have hF6 := s6 _ _ hF
    have tm6 := tm.same s6
    have P6 := P5.same s6
    have tb6 := tabs_same s6 tb5
    -- the two fences
    refine ⟨fun σ' H' => ∃ (g m : Addr) (L Lm : List Pt), σ' = [some (.ref a), some (.ref p), some (.int (0 + (i : Int))), some (.int b), some (.ref R), some (.ref G), some (.ref F), some (.int D), p8, p9, p10, p11, some (.ref g), some (.ref m), o14, o15] ∧ FcAt C CF H' g L ∧ partsOf L = qs ∧ FcAt C CF H' m Lm ∧ partsOf Lm = qs.map (mvQ (-1) 0 0) ∧ Same H6 H', ?_, ?_⟩
    · refine ⟨_, rfl, F, ts, qs, rfl, SqL.of hF6, tm6, fun g L H7 hg eL s7 => ⟨_, rfl, F, ts, qs, rfl, SqL.of (s7 _ _ hF6), tm6.same s7, fun F' ts' H8 hF' tm' s8 => ⟨F', ts', _, rfl, SqL.of hF', tm', fun m Lm H9 hm eLm s9 => ⟨_, _, rfl, g, m, L, Lm, rfl, (hg.same s8).same s9, eL, hm, eLm, (s7.trans s8).trans s9⟩⟩⟩⟩
    rintro σ' H7 ⟨g, m, L, Lm, rfl, hg, eL, hm, eLm, s7⟩
    have hF7 := s7 _ _ hF6
    have tm7 := tm6.same s7
    have P7 := P6.same s7
    have tb7 := tabs_same s7 tb6
    have okq : ∀ q ∈ qs, QuadOk q := tm.ok
    have lL : L.length = qs.length := by rw [← eL, parts_len]
    have lM : Lm.length = qs.length := by rw [← parts_len, eLm, List.length_map]
    have h1 : ∀ x, hits (qs.map clsQ) x ≤ 1 := fun x => Nat.le_of_eq (cvq.one x)
    have ap := cls_apart h1 okq
    have spos : ∀ j, j < qs.length → 0 < sQ qs j := fun j hj => by
      have m := List.mem_of_getElem? (cls_at hj)
      have a : 0 ≤ pQ qs j % sQ qs j := (cvq.pos _ m).1
      have b : pQ qs j % sQ qs j < sQ qs j := (cvq.pos _ m).2.1
      omega
    have noneR : ∀ {rs : List Rw}, HistR qs (fSP qs) rs → ∀ j, j < qs.length → cntR rs j = none := fun h => apart_none ap (hist_cntR h)
    have noneM : ∀ {rs : List Rw}, HistR (qs.map (mvQ (-1) 0 0)) (fSP (qs.map (mvQ (-1) 0 0))) rs → ∀ j, j < qs.length → cntR rs j = none := fun h j hj => apart_none (side_apart true ap) (hist_cntR h) j (by show j < (qs.map (mvQ (-1) 0 0)).length; rw [List.length_map]; exact hj)
    have Db : D.natAbs < 10 ^ 80 := by
      obtain ⟨j, hj, e⟩ := due.at_
      obtain ⟨_, _, a3, a4⟩ := q_at (List.getElem?_eq_getElem hj)
      have k := okq _ (List.getElem_mem hj)
      have k1 := k.p0
      have k2 := k.p1
      have k3 := k.s0
      have k4 := k.s1
      rw [a3, a4] at e
      omega
    have okm : ∀ q ∈ qs.map (mvQ (-1) 0 0), QuadOk q := side_quad true okq
    -- what full_from says, to the side to which the painters go
    have fulY : ∀ (left : Bool) (Lx : List Pt) (rs : List Rw) (z : Option (Option Int)), sideQ left (partsOf Lx) = qs → Lx.length ≤ 30 → (∀ q ∈ partsOf Lx, QuadOk q) → HistR (partsOf Lx) (fSP (partsOf Lx)) rs → (∀ j, j < qs.length → cntR rs j = none) → FulW left Lx rs z → z = some (some (if left then -D else D)) := fun left Lx rs z es few ok hist hn w => by
      obtain ⟨far, f0, fb, fp, h⟩ := ful_says ok hist few w
      rw [es] at fp h
      have pl : (partsOf Lx).length = qs.length := by rw [← es, side_len]
      have dfar : D ≤ far := by
        obtain ⟨j, hj, e⟩ := due.at_
        have := fp j (by omega) (hn j hj)
        have := spos j hj
        omega
      rcases h with ⟨_, x, fx, nx⟩ | ⟨_, al⟩ | ⟨h, ez, hf, nh, ah⟩
      · exact absurd (cov_painted cvq hn due (show D ≤ x by omega)) nx
      · exact absurd (al (D - 1)) (cov_hole h1 spos hn due)
      · have e : h + 1 = D := by
          rcases Int.lt_trichotomy (h + 1) D with g | g | g
          · exact absurd (ah (D - 1) (by omega)) (cov_hole h1 spos hn due)
          · exact g
          · exact absurd (cov_painted cvq hn due (show D ≤ h by omega)) nh
        rw [ez, e]
    -- and to the other side
    have fulN : ∀ (left : Bool) (Lx : List Pt) (rs : List Rw) (z : Option (Option Int)), sideQ left (partsOf Lx) = qs.map (mvQ (-1) 0 0) → Lx.length ≤ 30 → (∀ q ∈ partsOf Lx, QuadOk q) → HistR (partsOf Lx) (fSP (partsOf Lx)) rs → (∀ j, j < qs.length → cntR rs j = none) → FulW left Lx rs z → z = none := fun left Lx rs z es few ok hist hn w => by
      obtain ⟨far, f0, fb, fp, h⟩ := ful_says ok hist few w
      rw [es] at fp h
      have pl : (partsOf Lx).length = qs.length := by rw [← side_len left, es, List.length_map]
      have lm : (qs.map (mvQ (-1) 0 0)).length = qs.length := List.length_map ..
      have hole : ¬ PaintedBy (qs.map (mvQ (-1) 0 0)) (cntR rs) none (far + 1) := left_hole (fun j hj => by
        rw [lm] at hj
        rw [(mvQ_at hj).2.2.2]
        have := spos j hj
        omega) (fun j hj => hn j (by omega)) fun j hj => by
          have := fp j (by omega) (hn j (by omega))
          omega
      rcases h with ⟨ez, _⟩ | ⟨_, al⟩ | ⟨h, ez, hf, nh, ah⟩
      · exact ez
      · exact absurd (al _) hole
      · exact absurd (ah (far + 1) (by omega)) hole
    have mm : sideQ true (qs.map (mvQ (-1) 0 0)) = qs := mirr_twice
    -- full from the planted post
    refine ⟨fun σ' H' => σ' = [some (.ref a), some (.ref p), some (.int (0 + (i : Int))), some (.int b), some (.ref R), some (.ref G), some (.ref F), some (.int D), p8, p9, p10, p11, some (.ref g), some (.ref m), o14, o15] ∧ LamX.ExtN H7 H' ∧ LamX.Tabs T H', ?_, ?_⟩
    · refine ⟨_, rfl, g, L, false, rfl, hg, tb7, fun rs z v H8 hist w fv e8 tb8 => ?_⟩
      have hist' := hist
      rw [eL] at hist'
      obtain rfl := fulY false L rs z eL (by omega) (by rw [eL]; exact okq) hist (noneR hist') w
      obtain ⟨u, rfl, hu8⟩ := fv
      refine ⟨.ref u, _, rfl, wp_dp hu8, wp_fit Db, fun y1 ey1 => ?_⟩
      refine ⟨_, rfl, by show 2 ≤ sizeLine; decide, fun t nt => ⟨.ref t, _, rfl, wp_dp (z := "post") (n := D) upd_same, wp_fit Db, fun y2 ey2 => ⟨rfl, _, rfl, iteNS (by rw [ey1, ey2]; rfl) ?_⟩⟩⟩
      have st := same_new nt (.tup [.str "post", .int D])
      have e8t := e8.trans (LamX.ExtN.of st)
      have tb8t := tabs_same st tb8
      refine ⟨_, rfl, g, L, false, rfl, hg.extN e8t, tb8t, fun rs2 o u2 z H9 hist2 red hz e9 tb9 => ?_⟩
      rw [eL, lL] at red
      rw [eL] at hist2
      obtain ⟨rfl, rfl⟩ := share_cov cvq (noneR hist2) red
      refine ⟨.ref z, _, rfl, nn_dp hz, nn11_fit, fun y3 ey3 => ?_⟩
      refine ⟨by show 2 ≤ sizeLine; decide, fun t2 nt2 => ⟨.ref t2, _, rfl, nn_dp (a := 1) (b := 1) upd_same, nn11_fit, fun y4 ey4 => ⟨rfl, _, rfl, iteNS (by rw [ey3, ey4]) ?_⟩⟩⟩
      have st2 := same_new nt2 (.tup [.int 1, .int 1])
      exact ⟨rfl, (e8t.trans e9).trans (LamX.ExtN.of st2), tabs_same st2 tb9⟩
    rintro σ' H8 ⟨rfl, e8, tb8⟩
    -- the mirrored painters
    have hg8 := hg.extN e8
    have hm8 := hm.extN e8
    refine ⟨fun σ' H' => σ' = [some (.ref a), some (.ref p), some (.int (0 + (i : Int))), some (.int b), some (.ref R), some (.ref G), some (.ref F), some (.int D), p8, p9, p10, p11, some (.ref g), some (.ref m), o14, o15] ∧ LamX.ExtN H8 H' ∧ LamX.Tabs T H', ?_, ?_⟩
    · refine ⟨_, rfl, rfl, rfl, m, Lm, true, rfl, hm8, tb8, fun rs z v H9 hist w fv e9 tb9 => ?_⟩
      have hist' := hist
      rw [eLm] at hist'
      obtain rfl := fulY true Lm rs z (by rw [eLm]; exact mm) (by omega) (by rw [eLm]; exact okm) hist (noneM hist') w
      obtain ⟨u, rfl, hu9⟩ := fv
      refine ⟨.ref u, _, rfl, wp_dp hu9, wp_fit (by show (-D).natAbs < _; omega), fun y1 ey1 => ?_⟩
      refine ⟨_, rfl, _, _, rfl, rfl, by show 2 ≤ sizeLine; decide, fun t nt => ⟨.ref t, _, rfl, wp_dp (z := "post") (n := 0 - D) upd_same, wp_fit (by omega), fun y2 ey2 => ⟨rfl, _, rfl, iteNS (by rw [ey1, ey2, Int.zero_sub]; rfl) ?_⟩⟩⟩
      have st := same_new nt (.tup [.str "post", .int (0 - D)])
      have e9t := e9.trans (LamX.ExtN.of st)
      have tb9t := tabs_same st tb9
      refine ⟨_, rfl, rfl, rfl, m, Lm, true, rfl, hm8.extN e9t, tb9t, fun rs2 o u2 z H10 hist2 red hz e10 tb10 => ?_⟩
      have ef : frQ (partsOf Lm) (cntR rs2) true Lm.length = frQ qs (cntR rs2) false qs.length := by
        have pl := parts_len Lm
        rw [← pl, eLm]
        exact fr_back
      rw [ef] at red
      rw [eLm] at hist2
      obtain ⟨rfl, rfl⟩ := share_cov cvq (noneM hist2) red
      refine ⟨by show 2 ≤ sizeLine; decide, fun t2 nt2 => ?_⟩
      have st2 := same_new nt2 (.tup [.int 1, .int 1])
      refine ⟨_, _, nn_dp (st2 _ _ hz), nn_dp (a := 1) (b := 1) upd_same, nn_sh, nn_sh, _, rfl, ite_nb (by rw [nn_eq]; rfl) ?_⟩
      exact ⟨rfl, (e9t.trans e10).trans (LamX.ExtN.of st2), tabs_same st2 tb10⟩
    rintro σ' H9 ⟨rfl, e9, tb9⟩
    have hg9 := hg8.extN e9
    have hm9 := hm8.extN e9
    -- the other sides
    refine ⟨fun σ' H' => σ' = [some (.ref a), some (.ref p), some (.int (0 + (i : Int))), some (.int b), some (.ref R), some (.ref G), some (.ref F), some (.int D), p8, p9, p10, p11, some (.ref g), some (.ref m), o14, o15] ∧ LamX.ExtN H9 H' ∧ LamX.Tabs T H', ?_, ?_⟩
    · refine ⟨_, rfl, rfl, rfl, g, L, true, rfl, hg9, tb9, fun rs z v H10 hist w fv e10 tb10 => ?_⟩
      have hist' := hist
      rw [eL] at hist'
      obtain rfl := fulN true L rs z (by rw [eL]; rfl) (by omega) (by rw [eL]; exact okq) hist (noneR hist') w
      obtain rfl := fv
      refine ⟨rfl, _, rfl, iteNS rfl ?_⟩
      refine ⟨_, rfl, m, Lm, false, rfl, hm9.extN e10, tb10, fun rs2 z2 v2 H11 hist2 w2 fv2 e11 tb11 => ?_⟩
      have hist2' := hist2
      rw [eLm] at hist2'
      obtain rfl := fulN false Lm rs2 z2 (by rw [eLm]; rfl) (by omega) (by rw [eLm]; exact okm) hist2 (noneM hist2') w2
      obtain rfl := fv2
      exact ⟨rfl, _, rfl, iteNS rfl ⟨rfl, e10.trans e11, tb11⟩⟩
    rintro σ' H10 ⟨rfl, e10, tb10⟩
    have eAll := (e8.trans e9).trans e10
    have P10 := P7.extN eAll
    have tm10 := tm7.extN eAll
    have hF10 := eAll _ _ hF7 nt_lst
    obtain ⟨kv10, hp10⟩ := P10.dk
    -- one painter less
    refine ⟨fun σ' H' => ∃ j : Nat, σ' = [some (.ref a), some (.ref p), some (.int (0 + (i : Int))), some (.int b), some (.ref R), some (.ref G), some (.ref F), some (.int D), p8, p9, p10, p11, some (.ref g), some (.ref m), some (.int (j : Int)), o15] ∧ j < qs.length ∧ H' F = some (.lst (ts.map V.ref)) ∧ Team H' ts qs ∧ Pen H' p l (20000 * i + 9012) ∧ LamX.Tabs T H', ?_, ?_⟩
    · refine ⟨_, rfl, _, rfl, F, _, rfl, .inl (SqL.of hF10), p, l, _, _, rfl, P10, by omega, by rw [List.length_map]; omega, by rw [List.length_map]; omega, fun v H11 v0 v1 P11 k11 => ?_⟩
      rw [List.length_map] at v1
      obtain ⟨j, rfl⟩ : ∃ j : Nat, v = (j : Int) := ⟨v.toNat, by omega⟩
      exact ⟨j, rfl, by omega, k11 _ _ hF10 (ne_of hF10 hp10 (by intro z; cases z)), tm10.keep k11 hp10, P11.le (by omega), tabs_keep k11 hp10 tb10⟩
    rintro σ' H11 ⟨j, rfl, hj, hF11, tm11, P11, tb11⟩
    refine ⟨fun σ' H' => ∃ (k : Addr) (Lk : List Pt), σ' = [some (.ref a), some (.ref p), some (.int (0 + (i : Int))), some (.int b), some (.ref R), some (.ref G), some (.ref F), some (.int D), p8, p9, p10, p11, some (.ref g), some (.ref m), some (.int (j : Int)), some (.ref k)] ∧ FcAt C CF H' k Lk ∧ partsOf Lk = qs.take j ++ qs.drop (j + 1) ∧ Same H11 H', ?_, ?_⟩
    · have a1 : (ts.map V.ref).length = ts.length := List.length_map ..
      refine ⟨_, rfl, _, rfl, (j : Int), rfl, F, _, rfl, SqL.of hF11, fun X1 nX1 => ?_⟩
      rw [cut_to (by omega), ← List.map_take]
      have w1 := same_new nX1 (.lst ((ts.take j).map V.ref))
      refine ⟨_, rfl, _, rfl, _, _, rfl, rfl, (j : Int) + 1, rfl, F, _, rfl, SqL.of (w1 _ _ hF11), fun X2 nX2 => ?_⟩
      rw [show (j : Int) + 1 = ((j + 1 : Nat) : Int) from rfl, cut_from (by omega), ← List.map_drop]
      have w2 := same_new nX2 (.lst ((ts.drop (j + 1)).map V.ref))
      refine ⟨X1, X2, _, _, rfl, rfl, w2 _ _ upd_same, upd_same, by rw [List.length_map, List.length_map, List.length_take, List.length_drop]; exact Nat.le_trans (show min j ts.length + (ts.length - (j + 1)) ≤ 100 by omega) (by decide), fun X3 nX3 => ?_⟩
      rw [← List.map_append]
      have w3 := same_new nX3 (.lst ((ts.take j ++ ts.drop (j + 1)).map V.ref))
      exact ⟨X3, _, _, rfl, SqL.of upd_same, team_cut (((tm11.same w1).same w2).same w3) j, fun k Lk H12 hk eLk s12 => ⟨k, Lk, rfl, hk, eLk, ((w1.trans w2).trans w3).trans s12⟩⟩
    rintro σ' H12 ⟨k, Lk, rfl, hk, eLk, s12⟩
    have tb12 := tabs_same s12 tb11
    have P12 := P11.same s12
    have lk : Lk.length = (qs.take j ++ qs.drop (j + 1)).length := by rw [← eLk, parts_len]
    have lk30 : Lk.length ≤ 30 := by rw [lk, List.length_append, List.length_take, List.length_drop]; omega
    have qe : qs = qs.take j ++ qs[j] :: qs.drop (j + 1) := by
      have h := List.take_append_drop j qs
      rw [List.drop_eq_getElem_cons hj] at h
      exact h.symm
    have cvS : Cov 5 ((qs.take j ++ qs[j] :: qs.drop (j + 1)).map clsQ) := by rw [← qe]; exact cvq
    have okS : ∀ q ∈ qs.take j ++ qs.drop (j + 1), QuadOk q := (team_cut tm11 j).ok
    have h1S : ∀ x, hits ((qs.take j ++ qs.drop (j + 1)).map clsQ) x ≤ 1 := fun x => by
      have e := cvS.one x
      rw [List.map_append, List.map_cons, hits_app, hits_cons] at e
      rw [List.map_append, hits_app]
      omega
    generalize hA : qs.take j = A at *
    generalize hB : qs.drop (j + 1) = Bq at *
    generalize qs[j] = qj at *
    have noneS : ∀ {rs : List Rw}, HistR (A ++ Bq) (fSP (A ++ Bq)) rs → ∀ j, j < (A ++ Bq).length → cntR rs j = none := fun h => apart_none (cls_apart h1S okS) (hist_cntR h)
    refine ⟨_, rfl, k, Lk, false, rfl, hk, tb12, fun rs z v H13 hist w fv e13 tb13 => ?_⟩
    have hist' := hist
    rw [eLk] at hist'
    have ez : z = none := by
      obtain ⟨far, f0, fb, fp, h⟩ := ful_says (by rw [eLk]; exact okS) hist lk30 w
      rw [eLk] at h
      rcases h with ⟨ez, _⟩ | ⟨_, al⟩ | ⟨h, ez, hf, nh, ah⟩
      · exact ez
      · obtain ⟨x, _, nx⟩ := miss_hole cvS (noneS hist') 0
        exact absurd (al x) nx
      · obtain ⟨x, hx, nx⟩ := miss_hole cvS (noneS hist') (h + 1)
        exact absurd (ah x (by omega)) nx
    subst ez
    obtain rfl := fv
    refine ⟨rfl, _, rfl, iteNS rfl ?_⟩
    refine ⟨_, rfl, k, Lk, false, rfl, hk.extN e13, tb13, fun rs2 o u2 z H14 hist2 red hz e14 tb14 => ?_⟩
    rw [eLk, lk] at red
    rw [eLk] at hist2
    have no := share_miss cvS (noneS hist2) red
    refine ⟨by show 2 ≤ sizeLine; decide, fun t2 nt2 => ?_⟩
    have st2 := same_new nt2 (.tup [.int 1, .int 1])
    refine ⟨_, _, nn_dp (st2 _ _ hz), nn_dp (a := 1) (b := 1) upd_same, nn_sh, nn_sh, _, rfl, ite_fb ?_ ?_⟩
    · rw [nn_eq]
      by_cases z1 : o = 1
      · by_cases z2 : u2 = 1
        · exact absurd ⟨z1, z2⟩ no
        · rw [decide_eq_false z2, Bool.and_false]
      · rw [decide_eq_false z1, Bool.false_and]
    · have eL' := e13.trans (e14.trans (LamX.ExtN.of st2))
      exact ⟨_, _, _, _, _, _, _, _, _, _, _, _, _, _, rfl, (P12.extN eL').le (by omega), tabs_same st2 tb14⟩
  · rintro σ' H2 ⟨o2, o3, o4, o5, o6, o7, o8, o9, o10, o11, o12, o13, o14, o15, rfl, P2, tb2⟩
    exact q H2
end
end Ur
/-! UrTb: facts for the ends: kits of errors, tables. -/
namespace Ur
open PySem PySem.Spec PyProof.Rows L2
theorem kit_typ {K : PySem.W.Frag} {C : Addr} {T : String} {b : Bool} (m : PySem.W.kitMeta T = true) (h : PySem.W.subIn K (.ref C) (.type T) = some b) : PySem.W.kitOne K (.ref C) (.type T) = some b := by
  show (if (Value.ref C == Value.type T) = true then some true else if PySem.W.kitMeta T = true then PySem.W.subIn K (.ref C) (.type T) else none) = some b
  rw [if_neg (show ¬ ((Value.ref C == Value.type T) = true) from fun z => by have := beq_iff_eq.mp z; cases this), if_pos m]
  exact h
theorem kit_not {K : PySem.W.Frag} {C E : Addr} (i : PySem.W.isClsIn K E = true) (t : PySem.W.typeIn K (.ref E) = some (.type "type")) (h : PySem.W.subIn K (.ref C) (.ref E) = some false) (self : PySem.W.subIn K (.ref C) (.ref C) = some true) : PySem.W.kitOne K (.ref C) (.ref E) = some false := by
  have ne : C ≠ E := by
    rintro rfl
    rw [self] at h
    cases h
  have e2 : ((PySem.W.clsIn K E).isSome && PySem.W.typeIn K (.ref E) == some (.type "type")) = true := by
    have i2 : (PySem.W.clsIn K E).isSome = true := i
    rw [i2, t] <;> rfl
  show (if (Value.ref C == Value.ref E) = true then some true else if ((PySem.W.clsIn K E).isSome && PySem.W.typeIn K (.ref E) == some (.type "type")) = true then PySem.W.subIn K (.ref C) (.ref E) else none) = some false
  rw [if_neg (fun z => ne (Value.ref.inj (beq_iff_eq.mp z))), if_pos e2]
  exact h
theorem tab_mk {K : PySem.W.Frag} {x : Str} {f c Pt : Addr} {oc e : Value} {od dd : Option Addr} {fd : FuncData} {sl s2 : Array (Option Value)} {vs : Array Value} (a : PySem.W.nsIn K mainGlobals x = some (some (.ref f))) (l : K.lookup f = some ⟨oc, od, .func fd, sl⟩) (r : fd.code = .ref c)
    (v : K.lookup c = some ⟨e, dd, .fields vs, s2⟩) (w : (vs[11]? : Option Value) = some (.ref Pt)) : PySem.W.tabIn K x = some (c, Pt) := by
  unfold PySem.W.tabIn
  rw [a]
  simp only [l, r, v, w]
end Ur
/-! E49: the end. -/
namespace Ur
open PySem PySem.Spec PyProof.Rows L2
theorem all_mk {l : PySem.W.OpenLaw} {w : World} {K : PySem.W.Frag} {h : Heap} {mg : Str → Option Value} {fa : Addr} (X : K.In h) (G : h.Ns mainGlobals mg) (hfa : mg "law" = some (.ref fa))
    {f1 f2 f3 f4 f5 f6 f7 f8 f9 f10 f11 f12 f13 f14 dk14 f15 dk15 f16 f17 f18 f19 f20 f21 f22 f23 f24 f25 f26 f27 f28 f29 f30 f31 f32 f33 f34 f35 f36 f37 f38 dk38 f39 dk39 fL CPainter f40 p41 f41 p42 f42 p43 f43 p44 f44 p45 f45 CFence f46 p47 f47 f48 CHistory f49 p50 f50 fx5 cq__rows_of Pq__rows_of : Addr}
    {od1 an1 od2 an2 od3 an3 od4 an4 od5 an5 od6 an6 od7 an7 od8 an8 od9 an9 od10 an10 od11 an11 od12 an12 od13 an13 od14 an14 od15 an15 od16 an16 od17 an17 od18 an18 od19 an19 od20 an20 od21 an21 od22 an22 od23 an23 od24 an24 od25 an25 od26 an26 od27 an27 od28 an28 od29 an29 od30 an30 od31 an31 od32 an32 od33 an33 od34 an34 od35 an35 od36 an36 od37 an37 od38 an38 od39 an39 odL anL od40 an40 od41 an41 od42 an42 od43 an43 od44 an44 od45 an45 od46 an46 od47 an47 od48 an48 od49 an49 od50 an50 d19q : Option Addr}
    {sl1 sl2 sl3 sl4 sl5 sl6 sl7 sl8 sl9 sl10 sl11 sl12 sl13 sl14 sl15 sl16 sl17 sl18 sl19 sl20 sl21 sl22 sl23 sl24 sl25 sl26 sl27 sl28 sl29 sl30 sl31 sl32 sl33 sl34 sl35 sl36 sl37 sl38 sl39 slL sl40 sl41 sl42 sl43 sl44 sl45 sl46 sl47 sl48 sl49 sl50 s19q : Array (Option Value)}
    {oc1 kV1 dc1 pm1 cd1 ct1 oc2 kV2 dc2 pm2 cd2 ct2 oc3 kV3 dc3 pm3 cd3 ct3 oc4 kV4 dc4 pm4 cd4 ct4 oc5 kV5 dc5 pm5 cd5 ct5 oc6 kV6 dc6 pm6 cd6 ct6 oc7 kV7 dc7 pm7 cd7 ct7 oc8 kV8 dc8 pm8 cd8 ct8 oc9 kV9 dc9 pm9 cd9 ct9 oc10 kV10 dc10 pm10 cd10 ct10 oc11 kV11 dc11 pm11 cd11 ct11 oc12 kV12 dc12 pm12 cd12 ct12 oc13 kV13 dc13 pm13 cd13 ct13 oc14 dc14 pm14 cd14 ct14 uk14_0 uk14_1 uk14_2 oc15 dc15 pm15 cd15 ct15 uk15_0 uk15_1 oc16 kV16 dc16 pm16 cd16 ct16 oc17 kV17 dc17 pm17 cd17 ct17 oc18 kV18 dc18 pm18 cd18 ct18 oc19 kV19 dc19 pm19 cd19 ct19 oc20 kV20 dc20 pm20 cd20 ct20 oc21 kV21 dc21 pm21 cd21 ct21 oc22 kV22 dc22 pm22 cd22 ct22 oc23 kV23 dc23 pm23 cd23 ct23 oc24 kV24 dc24 pm24 cd24 ct24 oc25 kV25 dc25 pm25 cd25 ct25 oc26 kV26 dc26 pm26 cd26 ct26 oc27 kV27 dc27 pm27 cd27 ct27 oc28 kV28 dc28 pm28 cd28 ct28 oc29 kV29 dc29 pm29 cd29 ct29 oc30 kV30 dc30 pm30 cd30 ct30 oc31 kV31 dc31 pm31 cd31 ct31 oc32 kV32 dc32 pm32 cd32 ct32 oc33 kV33 dc33 pm33 cd33 ct33 oc34 kV34 dc34 pm34 cd34 ct34 oc35 kV35 dc35 pm35 cd35 ct35 oc36 kV36 dc36 pm36 cd36 ct36 oc37 kV37 dc37 pm37 cd37 ct37 oc38 dc38 pm38 cd38 ct38 uk38_0 oc39 dc39 pm39 cd39 ct39 uk39_0 ocL kVL dcL pmL cdL ctL uPainterMAX_DAY uPainterMAX_POST uPainterMAX_STRIDE oc40 kV40 dc40 pm40 cd40 ct40 oc41 kV41 dc41 pm41 cd41 ct41 oc42 kV42 dc42 pm42 cd42 ct42 oc43 kV43 dc43 pm43 cd43 ct43 oc44 kV44 dc44 pm44 cd44 ct44 oc45 kV45 dc45 pm45 cd45 ct45 oc46 kV46 dc46 pm46 cd46 ct46 oc47 kV47 dc47 pm47 cd47 ct47 oc48 kV48 dc48 pm48 cd48 ct48 oc49 kV49 dc49 pm49 cd49 ct49 oc50 kV50 dc50 pm50 cd50 ct50 e19q vgMAX_ARGUMENT vgMAX_PAINTERS vgWINDOW : Value}
    {r41 r42 r43 r44 r45 r47 r50 : List Value}
    {v19q : Array Value}
    (a1 : PySem.W.nsIn K mainGlobals "_law_pen" = some (some (.ref f1)))
    (l1 : K.lookup f1 = some ⟨oc1, od1, .func (PySem.W.fnOf "_law_pen" "_law_pen" (defArgs s__law_pen) (defBody s__law_pen) (defScope s__law_pen) .none kV1 dc1 pm1 an1 cd1 ct1), sl1⟩)
    (c1 : PySem.W.codeIn K cd1 "_law_pen" = true)
    (k1 : PySem.W.keepIn K (.ref f1) = true)
    (a2 : PySem.W.nsIn K mainGlobals "_law_draw" = some (some (.ref f2)))
    (l2 : K.lookup f2 = some ⟨oc2, od2, .func (PySem.W.fnOf "_law_draw" "_law_draw" (defArgs s__law_draw) (defBody s__law_draw) (defScope s__law_draw) .none kV2 dc2 pm2 an2 cd2 ct2), sl2⟩)
    (c2 : PySem.W.codeIn K cd2 "_law_draw" = true)
    (k2 : PySem.W.keepIn K (.ref f2) = true)
    (a3 : PySem.W.nsIn K mainGlobals "_law_pick" = some (some (.ref f3)))
    (l3 : K.lookup f3 = some ⟨oc3, od3, .func (PySem.W.fnOf "_law_pick" "_law_pick" (defArgs s__law_pick) (defBody s__law_pick) (defScope s__law_pick) .none kV3 dc3 pm3 an3 cd3 ct3), sl3⟩)
    (c3 : PySem.W.codeIn K cd3 "_law_pick" = true)
    (k3 : PySem.W.keepIn K (.ref f3) = true)
    (a4 : PySem.W.nsIn K mainGlobals "_law_power" = some (some (.ref f4)))
    (l4 : K.lookup f4 = some ⟨oc4, od4, .func (PySem.W.fnOf "_law_power" "_law_power" (defArgs s__law_power) (defBody s__law_power) (defScope s__law_power) .none kV4 dc4 pm4 an4 cd4 ct4), sl4⟩)
    (c4 : PySem.W.codeIn K cd4 "_law_power" = true)
    (k4 : PySem.W.keepIn K (.ref f4) = true)
    (a5 : PySem.W.nsIn K mainGlobals "_law_great" = some (some (.ref f5)))
    (l5 : K.lookup f5 = some ⟨oc5, od5, .func (PySem.W.fnOf "_law_great" "_law_great" (defArgs s__law_great) (defBody s__law_great) (defScope s__law_great) .none kV5 dc5 pm5 an5 cd5 ct5), sl5⟩)
    (c5 : PySem.W.codeIn K cd5 "_law_great" = true)
    (k5 : PySem.W.keepIn K (.ref f5) = true)
    (a6 : PySem.W.nsIn K mainGlobals "_law_names" = some (some (.ref f6)))
    (l6 : K.lookup f6 = some ⟨oc6, od6, .func (PySem.W.fnOf "_law_names" "_law_names" (defArgs s__law_names) (defBody s__law_names) (defScope s__law_names) .none kV6 dc6 pm6 an6 cd6 ct6), sl6⟩)
    (c6 : PySem.W.codeIn K cd6 "_law_names" = true)
    (k6 : PySem.W.keepIn K (.ref f6) = true)
    (a7 : PySem.W.nsIn K mainGlobals "_law_fence" = some (some (.ref f7)))
    (l7 : K.lookup f7 = some ⟨oc7, od7, .func (PySem.W.fnOf "_law_fence" "_law_fence" (defArgs s__law_fence) (defBody s__law_fence) (defScope s__law_fence) .none kV7 dc7 pm7 an7 cd7 ct7), sl7⟩)
    (c7 : PySem.W.codeIn K cd7 "_law_fence" = true)
    (k7 : PySem.W.keepIn K (.ref f7) = true)
    (a8 : PySem.W.nsIn K mainGlobals "is_integer" = some (some (.ref f8)))
    (l8 : K.lookup f8 = some ⟨oc8, od8, .func (PySem.W.fnOf "is_integer" "is_integer" (defArgs s_is_integer) (defBody s_is_integer) (defScope s_is_integer) .none kV8 dc8 pm8 an8 cd8 ct8), sl8⟩)
    (c8 : PySem.W.codeIn K cd8 "is_integer" = true)
    (k8 : PySem.W.keepIn K (.ref f8) = true)
    (a9 : PySem.W.nsIn K mainGlobals "is_between" = some (some (.ref f9)))
    (l9 : K.lookup f9 = some ⟨oc9, od9, .func (PySem.W.fnOf "is_between" "is_between" (defArgs s_is_between) (defBody s_is_between) (defScope s_is_between) .none kV9 dc9 pm9 an9 cd9 ct9), sl9⟩)
    (c9 : PySem.W.codeIn K cd9 "is_between" = true)
    (k9 : PySem.W.keepIn K (.ref f9) = true)
    (a10 : PySem.W.nsIn K mainGlobals "check_count" = some (some (.ref f10)))
    (l10 : K.lookup f10 = some ⟨oc10, od10, .func (PySem.W.fnOf "check_count" "check_count" (defArgs s_check_count) (defBody s_check_count) (defScope s_check_count) .none kV10 dc10 pm10 an10 cd10 ct10), sl10⟩)
    (c10 : PySem.W.codeIn K cd10 "check_count" = true)
    (k10 : PySem.W.keepIn K (.ref f10) = true)
    (a11 : PySem.W.nsIn K mainGlobals "divisor_and_factor" = some (some (.ref f11)))
    (l11 : K.lookup f11 = some ⟨oc11, od11, .func (PySem.W.fnOf "divisor_and_factor" "divisor_and_factor" (defArgs s_divisor_and_factor) (defBody s_divisor_and_factor) (defScope s_divisor_and_factor) .none kV11 dc11 pm11 an11 cd11 ct11), sl11⟩)
    (c11 : PySem.W.codeIn K cd11 "divisor_and_factor" = true)
    (k11 : PySem.W.keepIn K (.ref f11) = true)
    (a12 : PySem.W.nsIn K mainGlobals "common_numbers" = some (some (.ref f12)))
    (l12 : K.lookup f12 = some ⟨oc12, od12, .func (PySem.W.fnOf "common_numbers" "common_numbers" (defArgs s_common_numbers) (defBody s_common_numbers) (defScope s_common_numbers) .none kV12 dc12 pm12 an12 cd12 ct12), sl12⟩)
    (c12 : PySem.W.codeIn K cd12 "common_numbers" = true)
    (k12 : PySem.W.keepIn K (.ref f12) = true)
    (a13 : PySem.W.nsIn K mainGlobals "_span_of" = some (some (.ref f13)))
    (l13 : K.lookup f13 = some ⟨oc13, od13, .func (PySem.W.fnOf "_span_of" "_span_of" (defArgs s__span_of) (defBody s__span_of) (defScope s__span_of) .none kV13 dc13 pm13 an13 cd13 ct13), sl13⟩)
    (c13 : PySem.W.codeIn K cd13 "_span_of" = true)
    (k13 : PySem.W.keepIn K (.ref f13) = true)
    (a14 : PySem.W.nsIn K mainGlobals "crossing" = some (some (.ref f14)))
    (l14 : K.lookup f14 = some ⟨oc14, od14, .func (PySem.W.fnOf "crossing" "crossing" (defArgs s_crossing) (defBody s_crossing) (defScope s_crossing) .none (.ref dk14) dc14 pm14 an14 cd14 ct14), sl14⟩)
    (c14 : PySem.W.codeIn K cd14 "crossing" = true)
    (k14 : PySem.W.keepIn K (.ref f14) = true)
    (q14_0 : PySem.W.nsIn K dk14 "count" = some (some uk14_0))
    (s14_0 : L2.RelV (.non) uk14_0)
    (q14_1 : PySem.W.nsIn K dk14 "other_count" = some (some uk14_1))
    (s14_1 : L2.RelV (.non) uk14_1)
    (q14_2 : PySem.W.nsIn K dk14 "lead" = some (some uk14_2))
    (s14_2 : L2.RelV (.non) uk14_2)
    (a15 : PySem.W.nsIn K mainGlobals "first_block" = some (some (.ref f15)))
    (l15 : K.lookup f15 = some ⟨oc15, od15, .func (PySem.W.fnOf "first_block" "first_block" (defArgs s_first_block) (defBody s_first_block) (defScope s_first_block) .none (.ref dk15) dc15 pm15 an15 cd15 ct15), sl15⟩)
    (c15 : PySem.W.codeIn K cd15 "first_block" = true)
    (k15 : PySem.W.keepIn K (.ref f15) = true)
    (q15_0 : PySem.W.nsIn K dk15 "count" = some (some uk15_0))
    (s15_0 : L2.RelV (.non) uk15_0)
    (q15_1 : PySem.W.nsIn K dk15 "is_earlier" = some (some uk15_1))
    (s15_1 : L2.RelV (.bl false) uk15_1)
    (a16 : PySem.W.nsIn K mainGlobals "rows_by" = some (some (.ref f16)))
    (l16 : K.lookup f16 = some ⟨oc16, od16, .func (PySem.W.fnOf "rows_by" "rows_by" (defArgs s_rows_by) (defBody s_rows_by) (defScope s_rows_by) .none kV16 dc16 pm16 an16 cd16 ct16), sl16⟩)
    (c16 : PySem.W.codeIn K cd16 "rows_by" = true)
    (k16 : PySem.W.keepIn K (.ref f16) = true)
    (a17 : PySem.W.nsIn K mainGlobals "_find_stopped" = some (some (.ref f17)))
    (l17 : K.lookup f17 = some ⟨oc17, od17, .func (PySem.W.fnOf "_find_stopped" "_find_stopped" (defArgs s__find_stopped) (defBody s__find_stopped) (defScope s__find_stopped) .none kV17 dc17 pm17 an17 cd17 ct17), sl17⟩)
    (c17 : PySem.W.codeIn K cd17 "_find_stopped" = true)
    (k17 : PySem.W.keepIn K (.ref f17) = true)
    (a18 : PySem.W.nsIn K mainGlobals "_earliest_block" = some (some (.ref f18)))
    (l18 : K.lookup f18 = some ⟨oc18, od18, .func (PySem.W.fnOf "_earliest_block" "_earliest_block" (defArgs s__earliest_block) (defBody s__earliest_block) (defScope s__earliest_block) .none kV18 dc18 pm18 an18 cd18 ct18), sl18⟩)
    (c18 : PySem.W.codeIn K cd18 "_earliest_block" = true)
    (k18 : PySem.W.keepIn K (.ref f18) = true)
    (a19 : PySem.W.nsIn K mainGlobals "_rows_of" = some (some (.ref f19)))
    (l19 : K.lookup f19 = some ⟨oc19, od19, .func (PySem.W.fnOf "_rows_of" "_rows_of" (defArgs s__rows_of) (defBody s__rows_of) (defScope s__rows_of) .none kV19 dc19 pm19 an19 cd19 ct19), sl19⟩)
    (c19 : PySem.W.codeIn K cd19 "_rows_of" = true)
    (k19 : PySem.W.keepIn K (.ref f19) = true)
    (a20 : PySem.W.nsIn K mainGlobals "_block" = some (some (.ref f20)))
    (l20 : K.lookup f20 = some ⟨oc20, od20, .func (PySem.W.fnOf "_block" "_block" (defArgs s__block) (defBody s__block) (defScope s__block) .none kV20 dc20 pm20 an20 cd20 ct20), sl20⟩)
    (c20 : PySem.W.codeIn K cd20 "_block" = true)
    (k20 : PySem.W.keepIn K (.ref f20) = true)
    (a21 : PySem.W.nsIn K mainGlobals "painted_counts" = some (some (.ref f21)))
    (l21 : K.lookup f21 = some ⟨oc21, od21, .func (PySem.W.fnOf "painted_counts" "painted_counts" (defArgs s_painted_counts) (defBody s_painted_counts) (defScope s_painted_counts) .none kV21 dc21 pm21 an21 cd21 ct21), sl21⟩)
    (c21 : PySem.W.codeIn K cd21 "painted_counts" = true)
    (k21 : PySem.W.keepIn K (.ref f21) = true)
    (a22 : PySem.W.nsIn K mainGlobals "counts_by" = some (some (.ref f22)))
    (l22 : K.lookup f22 = some ⟨oc22, od22, .func (PySem.W.fnOf "counts_by" "counts_by" (defArgs s_counts_by) (defBody s_counts_by) (defScope s_counts_by) .none kV22 dc22 pm22 an22 cd22 ct22), sl22⟩)
    (c22 : PySem.W.codeIn K cd22 "counts_by" = true)
    (k22 : PySem.W.keepIn K (.ref f22) = true)
    (a23 : PySem.W.nsIn K mainGlobals "runs_of" = some (some (.ref f23)))
    (l23 : K.lookup f23 = some ⟨oc23, od23, .func (PySem.W.fnOf "runs_of" "runs_of" (defArgs s_runs_of) (defBody s_runs_of) (defScope s_runs_of) .none kV23 dc23 pm23 an23 cd23 ct23), sl23⟩)
    (c23 : PySem.W.codeIn K cd23 "runs_of" = true)
    (k23 : PySem.W.keepIn K (.ref f23) = true)
    (a24 : PySem.W.nsIn K mainGlobals "painted_runs" = some (some (.ref f24)))
    (l24 : K.lookup f24 = some ⟨oc24, od24, .func (PySem.W.fnOf "painted_runs" "painted_runs" (defArgs s_painted_runs) (defBody s_painted_runs) (defScope s_painted_runs) .none kV24 dc24 pm24 an24 cd24 ct24), sl24⟩)
    (c24 : PySem.W.codeIn K cd24 "painted_runs" = true)
    (k24 : PySem.W.keepIn K (.ref f24) = true)
    (a25 : PySem.W.nsIn K mainGlobals "without" = some (some (.ref f25)))
    (l25 : K.lookup f25 = some ⟨oc25, od25, .func (PySem.W.fnOf "without" "without" (defArgs s_without) (defBody s_without) (defScope s_without) .none kV25 dc25 pm25 an25 cd25 ct25), sl25⟩)
    (c25 : PySem.W.codeIn K cd25 "without" = true)
    (k25 : PySem.W.keepIn K (.ref f25) = true)
    (a26 : PySem.W.nsIn K mainGlobals "weighted" = some (some (.ref f26)))
    (l26 : K.lookup f26 = some ⟨oc26, od26, .func (PySem.W.fnOf "weighted" "weighted" (defArgs s_weighted) (defBody s_weighted) (defScope s_weighted) .none kV26 dc26 pm26 an26 cd26 ct26), sl26⟩)
    (c26 : PySem.W.codeIn K cd26 "weighted" = true)
    (k26 : PySem.W.keepIn K (.ref f26) = true)
    (a27 : PySem.W.nsIn K mainGlobals "mirrored" = some (some (.ref f27)))
    (l27 : K.lookup f27 = some ⟨oc27, od27, .func (PySem.W.fnOf "mirrored" "mirrored" (defArgs s_mirrored) (defBody s_mirrored) (defScope s_mirrored) .none kV27 dc27 pm27 an27 cd27 ct27), sl27⟩)
    (c27 : PySem.W.codeIn K cd27 "mirrored" = true)
    (k27 : PySem.W.keepIn K (.ref f27) = true)
    (a28 : PySem.W.nsIn K mainGlobals "far_post" = some (some (.ref f28)))
    (l28 : K.lookup f28 = some ⟨oc28, od28, .func (PySem.W.fnOf "far_post" "far_post" (defArgs s_far_post) (defBody s_far_post) (defScope s_far_post) .none kV28 dc28 pm28 an28 cd28 ct28), sl28⟩)
    (c28 : PySem.W.codeIn K cd28 "far_post" = true)
    (k28 : PySem.W.keepIn K (.ref f28) = true)
    (a29 : PySem.W.nsIn K mainGlobals "post_at" = some (some (.ref f29)))
    (l29 : K.lookup f29 = some ⟨oc29, od29, .func (PySem.W.fnOf "post_at" "post_at" (defArgs s_post_at) (defBody s_post_at) (defScope s_post_at) .none kV29 dc29 pm29 an29 cd29 ct29), sl29⟩)
    (c29 : PySem.W.codeIn K cd29 "post_at" = true)
    (k29 : PySem.W.keepIn K (.ref f29) = true)
    (a30 : PySem.W.nsIn K mainGlobals "_post_to_the_right" = some (some (.ref f30)))
    (l30 : K.lookup f30 = some ⟨oc30, od30, .func (PySem.W.fnOf "_post_to_the_right" "_post_to_the_right" (defArgs s__post_to_the_right) (defBody s__post_to_the_right) (defScope s__post_to_the_right) .none kV30 dc30 pm30 an30 cd30 ct30), sl30⟩)
    (c30 : PySem.W.codeIn K cd30 "_post_to_the_right" = true)
    (k30 : PySem.W.keepIn K (.ref f30) = true)
    (a31 : PySem.W.nsIn K mainGlobals "count_between" = some (some (.ref f31)))
    (l31 : K.lookup f31 = some ⟨oc31, od31, .func (PySem.W.fnOf "count_between" "count_between" (defArgs s_count_between) (defBody s_count_between) (defScope s_count_between) .none kV31 dc31 pm31 an31 cd31 ct31), sl31⟩)
    (c31 : PySem.W.codeIn K cd31 "count_between" = true)
    (k31 : PySem.W.keepIn K (.ref f31) = true)
    (a32 : PySem.W.nsIn K mainGlobals "_many_between" = some (some (.ref f32)))
    (l32 : K.lookup f32 = some ⟨oc32, od32, .func (PySem.W.fnOf "_many_between" "_many_between" (defArgs s__many_between) (defBody s__many_between) (defScope s__many_between) .none kV32 dc32 pm32 an32 cd32 ct32), sl32⟩)
    (c32 : PySem.W.codeIn K cd32 "_many_between" = true)
    (k32 : PySem.W.keepIn K (.ref f32) = true)
    (a33 : PySem.W.nsIn K mainGlobals "numbers_between" = some (some (.ref f33)))
    (l33 : K.lookup f33 = some ⟨oc33, od33, .func (PySem.W.fnOf "numbers_between" "numbers_between" (defArgs s_numbers_between) (defBody s_numbers_between) (defScope s_numbers_between) .none kV33 dc33 pm33 an33 cd33 ct33), sl33⟩)
    (c33 : PySem.W.codeIn K cd33 "numbers_between" = true)
    (k33 : PySem.W.keepIn K (.ref f33) = true)
    (a34 : PySem.W.nsIn K mainGlobals "_law_opposite" = some (some (.ref f34)))
    (l34 : K.lookup f34 = some ⟨oc34, od34, .func (PySem.W.fnOf "_law_opposite" "_law_opposite" (defArgs s__law_opposite) (defBody s__law_opposite) (defScope s__law_opposite) .none kV34 dc34 pm34 an34 cd34 ct34), sl34⟩)
    (c34 : PySem.W.codeIn K cd34 "_law_opposite" = true)
    (k34 : PySem.W.keepIn K (.ref f34) = true)
    (a35 : PySem.W.nsIn K mainGlobals "_law_shuffled" = some (some (.ref f35)))
    (l35 : K.lookup f35 = some ⟨oc35, od35, .func (PySem.W.fnOf "_law_shuffled" "_law_shuffled" (defArgs s__law_shuffled) (defBody s__law_shuffled) (defScope s__law_shuffled) .none kV35 dc35 pm35 an35 cd35 ct35), sl35⟩)
    (c35 : PySem.W.codeIn K cd35 "_law_shuffled" = true)
    (k35 : PySem.W.keepIn K (.ref f35) = true)
    (a36 : PySem.W.nsIn K mainGlobals "_law_cover" = some (some (.ref f36)))
    (l36 : K.lookup f36 = some ⟨oc36, od36, .func (PySem.W.fnOf "_law_cover" "_law_cover" (defArgs s__law_cover) (defBody s__law_cover) (defScope s__law_cover) .none kV36 dc36 pm36 an36 cd36 ct36), sl36⟩)
    (c36 : PySem.W.codeIn K cd36 "_law_cover" = true)
    (k36 : PySem.W.keepIn K (.ref f36) = true)
    (a37 : PySem.W.nsIn K mainGlobals "_law_covering" = some (some (.ref f37)))
    (l37 : K.lookup f37 = some ⟨oc37, od37, .func (PySem.W.fnOf "_law_covering" "_law_covering" (defArgs s__law_covering) (defBody s__law_covering) (defScope s__law_covering) .none kV37 dc37 pm37 an37 cd37 ct37), sl37⟩)
    (c37 : PySem.W.codeIn K cd37 "_law_covering" = true)
    (k37 : PySem.W.keepIn K (.ref f37) = true)
    (a38 : PySem.W.nsIn K mainGlobals "share" = some (some (.ref f38)))
    (l38 : K.lookup f38 = some ⟨oc38, od38, .func (PySem.W.fnOf "share" "share" (defArgs s_share) (defBody s_share) (defScope s_share) .none (.ref dk38) dc38 pm38 an38 cd38 ct38), sl38⟩)
    (c38 : PySem.W.codeIn K cd38 "share" = true)
    (k38 : PySem.W.keepIn K (.ref f38) = true)
    (q38_0 : PySem.W.nsIn K dk38 "left" = some (some uk38_0))
    (s38_0 : L2.RelV (.bl false) uk38_0)
    (a39 : PySem.W.nsIn K mainGlobals "full_from" = some (some (.ref f39)))
    (l39 : K.lookup f39 = some ⟨oc39, od39, .func (PySem.W.fnOf "full_from" "full_from" (defArgs s_full_from) (defBody s_full_from) (defScope s_full_from) .none (.ref dk39) dc39 pm39 an39 cd39 ct39), sl39⟩)
    (c39 : PySem.W.codeIn K cd39 "full_from" = true)
    (k39 : PySem.W.keepIn K (.ref f39) = true)
    (q39_0 : PySem.W.nsIn K dk39 "left" = some (some uk39_0))
    (s39_0 : L2.RelV (.bl false) uk39_0)
    (aL : PySem.W.nsIn K mainGlobals "law" = some (some (.ref fL)))
    (lL : K.lookup fL = some ⟨ocL, odL, .func (PySem.W.fnOf "law" "law" (defArgs s_law) (defBody s_law) (defScope s_law) .none kVL dcL pmL anL cdL ctL), slL⟩)
    (cL : PySem.W.codeIn K cdL "law" = true)
    (kL : PySem.W.keepIn K (.ref fL) = true)
    (gPainter : PySem.W.nsIn K mainGlobals "Painter" = some (some (.ref CPainter)))
    (pgPainter : PySem.W.plainGet K CPainter Str.empty = true)
    (hdPainter : PySem.W.hasDictIn K CPainter = true)
    (poPainter : PySem.W.plainOver K CPainter = true)
    (saPainter : PySem.W.findIn K (.ref CPainter) "__setattr__" = some (some (.builtin "object.__setattr__")))
    (rdPainter : PySem.W.readsIn K CPainter (.type "type") = true)
    (gaPainter : PySem.W.specialIn K (.ref CPainter) "__getattribute__" = some (some (.builtin "type.__getattribute__")))
    (nPainter_name : PySem.W.findIn K (.ref CPainter) "_name" = some none)
    (nPainter_day : PySem.W.findIn K (.ref CPainter) "_day" = some none)
    (nPainter_post : PySem.W.findIn K (.ref CPainter) "_post" = some none)
    (nPainter_stride : PySem.W.findIn K (.ref CPainter) "_stride" = some none)
    (vPainterMAX_DAY : PySem.W.findCls K (.ref CPainter) (.type "type") "MAX_DAY" = some (.val uPainterMAX_DAY))
    (wPainterMAX_DAY : L2.RelV (.int (10 ^ 30)) uPainterMAX_DAY)
    (vPainterMAX_POST : PySem.W.findCls K (.ref CPainter) (.type "type") "MAX_POST" = some (.val uPainterMAX_POST))
    (wPainterMAX_POST : L2.RelV (.int (10 ^ 30)) uPainterMAX_POST)
    (vPainterMAX_STRIDE : PySem.W.findCls K (.ref CPainter) (.type "type") "MAX_STRIDE" = some (.val uPainterMAX_STRIDE))
    (wPainterMAX_STRIDE : L2.RelV (.int (10 ^ 18)) uPainterMAX_STRIDE)
    (a40 : PySem.W.findIn K (.ref CPainter) "__init__" = some (some (.ref f40)))
    (i40 : PySem.W.isFn K (.ref f40) = true)
    (l40 : K.lookup f40 = some ⟨oc40, od40, .func (PySem.W.fnOf "__init__" "Painter.__init__" (defArgs s_Painter_init) (defBody s_Painter_init) (defScope s_Painter_init) .none kV40 dc40 pm40 an40 cd40 ct40), sl40⟩)
    (c40 : PySem.W.codeIn K cd40 "Painter.__init__" = true)
    (k40 : PySem.W.keepIn K (.ref f40) = true)
    (mkPainter : PySem.W.makesIn K CPainter = true)
    (kcPainter : PySem.W.keepIn K (.ref CPainter) = true)
    (a41 : PySem.W.findCls K (.ref CPainter) (.type "type") "is_name" = some (.get (.builtin "staticmethod.__get__") (.ref p41) .none (.ref CPainter)))
    (e41 : PySem.W.recIn K p41 "staticmethod" = some (.ref f41 :: r41))
    (l41 : K.lookup f41 = some ⟨oc41, od41, .func (PySem.W.fnOf "is_name" "Painter.is_name" (defArgs s_Painter_is_name) (defBody s_Painter_is_name) (defScope s_Painter_is_name) .none kV41 dc41 pm41 an41 cd41 ct41), sl41⟩)
    (c41 : PySem.W.codeIn K cd41 "Painter.is_name" = true)
    (k41 : PySem.W.keepIn K (.ref f41) = true)
    (a42 : PySem.W.findIn K (.ref CPainter) "name" = some (some (.ref p42)))
    (s42 : PySem.W.specialIn K (.ref p42) "__get__" = some (some (.builtin "property.__get__")))
    (t42 : PySem.W.takesIn K (.ref p42) = some true)
    (e42 : PySem.W.recIn K p42 "property" = some (.ref f42 :: r42))
    (l42 : K.lookup f42 = some ⟨oc42, od42, .func (PySem.W.fnOf "name" "Painter.name" (defArgs s_Painter_name) (defBody s_Painter_name) (defScope s_Painter_name) .none kV42 dc42 pm42 an42 cd42 ct42), sl42⟩)
    (c42 : PySem.W.codeIn K cd42 "Painter.name" = true)
    (k42 : PySem.W.keepIn K (.ref f42) = true)
    (a43 : PySem.W.findIn K (.ref CPainter) "day" = some (some (.ref p43)))
    (s43 : PySem.W.specialIn K (.ref p43) "__get__" = some (some (.builtin "property.__get__")))
    (t43 : PySem.W.takesIn K (.ref p43) = some true)
    (e43 : PySem.W.recIn K p43 "property" = some (.ref f43 :: r43))
    (l43 : K.lookup f43 = some ⟨oc43, od43, .func (PySem.W.fnOf "day" "Painter.day" (defArgs s_Painter_day) (defBody s_Painter_day) (defScope s_Painter_day) .none kV43 dc43 pm43 an43 cd43 ct43), sl43⟩)
    (c43 : PySem.W.codeIn K cd43 "Painter.day" = true)
    (k43 : PySem.W.keepIn K (.ref f43) = true)
    (a44 : PySem.W.findIn K (.ref CPainter) "post" = some (some (.ref p44)))
    (s44 : PySem.W.specialIn K (.ref p44) "__get__" = some (some (.builtin "property.__get__")))
    (t44 : PySem.W.takesIn K (.ref p44) = some true)
    (e44 : PySem.W.recIn K p44 "property" = some (.ref f44 :: r44))
    (l44 : K.lookup f44 = some ⟨oc44, od44, .func (PySem.W.fnOf "post" "Painter.post" (defArgs s_Painter_post) (defBody s_Painter_post) (defScope s_Painter_post) .none kV44 dc44 pm44 an44 cd44 ct44), sl44⟩)
    (c44 : PySem.W.codeIn K cd44 "Painter.post" = true)
    (k44 : PySem.W.keepIn K (.ref f44) = true)
    (a45 : PySem.W.findIn K (.ref CPainter) "stride" = some (some (.ref p45)))
    (s45 : PySem.W.specialIn K (.ref p45) "__get__" = some (some (.builtin "property.__get__")))
    (t45 : PySem.W.takesIn K (.ref p45) = some true)
    (e45 : PySem.W.recIn K p45 "property" = some (.ref f45 :: r45))
    (l45 : K.lookup f45 = some ⟨oc45, od45, .func (PySem.W.fnOf "stride" "Painter.stride" (defArgs s_Painter_stride) (defBody s_Painter_stride) (defScope s_Painter_stride) .none kV45 dc45 pm45 an45 cd45 ct45), sl45⟩)
    (c45 : PySem.W.codeIn K cd45 "Painter.stride" = true)
    (k45 : PySem.W.keepIn K (.ref f45) = true)
    (gFence : PySem.W.nsIn K mainGlobals "Fence" = some (some (.ref CFence)))
    (pgFence : PySem.W.plainGet K CFence Str.empty = true)
    (hdFence : PySem.W.hasDictIn K CFence = true)
    (poFence : PySem.W.plainOver K CFence = true)
    (saFence : PySem.W.findIn K (.ref CFence) "__setattr__" = some (some (.builtin "object.__setattr__")))
    (rdFence : PySem.W.readsIn K CFence (.type "type") = true)
    (gaFence : PySem.W.specialIn K (.ref CFence) "__getattribute__" = some (some (.builtin "type.__getattribute__")))
    (nFence_painters : PySem.W.findIn K (.ref CFence) "_painters" = some none)
    (nFence_by_name : PySem.W.findIn K (.ref CFence) "_by_name" = some none)
    (a46 : PySem.W.findIn K (.ref CFence) "__init__" = some (some (.ref f46)))
    (i46 : PySem.W.isFn K (.ref f46) = true)
    (l46 : K.lookup f46 = some ⟨oc46, od46, .func (PySem.W.fnOf "__init__" "Fence.__init__" (defArgs s_Fence_init) (defBody s_Fence_init) (defScope s_Fence_init) .none kV46 dc46 pm46 an46 cd46 ct46), sl46⟩)
    (c46 : PySem.W.codeIn K cd46 "Fence.__init__" = true)
    (k46 : PySem.W.keepIn K (.ref f46) = true)
    (mkFence : PySem.W.makesIn K CFence = true)
    (kcFence : PySem.W.keepIn K (.ref CFence) = true)
    (a47 : PySem.W.findIn K (.ref CFence) "painters" = some (some (.ref p47)))
    (s47 : PySem.W.specialIn K (.ref p47) "__get__" = some (some (.builtin "property.__get__")))
    (t47 : PySem.W.takesIn K (.ref p47) = some true)
    (e47 : PySem.W.recIn K p47 "property" = some (.ref f47 :: r47))
    (l47 : K.lookup f47 = some ⟨oc47, od47, .func (PySem.W.fnOf "painters" "Fence.painters" (defArgs s_Fence_painters) (defBody s_Fence_painters) (defScope s_Fence_painters) .none kV47 dc47 pm47 an47 cd47 ct47), sl47⟩)
    (c47 : PySem.W.codeIn K cd47 "Fence.painters" = true)
    (k47 : PySem.W.keepIn K (.ref f47) = true)
    (a48 : PySem.W.findIn K (.ref CFence) "__add__" = some (some (.ref f48)))
    (i48 : PySem.W.isFn K (.ref f48) = true)
    (l48 : K.lookup f48 = some ⟨oc48, od48, .func (PySem.W.fnOf "__add__" "Fence.__add__" (defArgs s_Fence_add) (defBody s_Fence_add) (defScope s_Fence_add) .none kV48 dc48 pm48 an48 cd48 ct48), sl48⟩)
    (c48 : PySem.W.codeIn K cd48 "Fence.__add__" = true)
    (k48 : PySem.W.keepIn K (.ref f48) = true)
    (gHistory : PySem.W.nsIn K mainGlobals "History" = some (some (.ref CHistory)))
    (pgHistory : PySem.W.plainGet K CHistory Str.empty = true)
    (hdHistory : PySem.W.hasDictIn K CHistory = true)
    (poHistory : PySem.W.plainOver K CHistory = true)
    (saHistory : PySem.W.findIn K (.ref CHistory) "__setattr__" = some (some (.builtin "object.__setattr__")))
    (rdHistory : PySem.W.readsIn K CHistory (.type "type") = true)
    (gaHistory : PySem.W.specialIn K (.ref CHistory) "__getattribute__" = some (some (.builtin "type.__getattribute__")))
    (nHistory_fence : PySem.W.findIn K (.ref CHistory) "_fence" = some none)
    (nHistory_rows : PySem.W.findIn K (.ref CHistory) "_rows" = some none)
    (nHistory_by_name : PySem.W.findIn K (.ref CHistory) "_by_name" = some none)
    (nHistory_stopped : PySem.W.findIn K (.ref CHistory) "_stopped" = some none)
    (a49 : PySem.W.findIn K (.ref CHistory) "__init__" = some (some (.ref f49)))
    (i49 : PySem.W.isFn K (.ref f49) = true)
    (l49 : K.lookup f49 = some ⟨oc49, od49, .func (PySem.W.fnOf "__init__" "History.__init__" (defArgs s_History_init) (defBody s_History_init) (defScope s_History_init) .none kV49 dc49 pm49 an49 cd49 ct49), sl49⟩)
    (c49 : PySem.W.codeIn K cd49 "History.__init__" = true)
    (k49 : PySem.W.keepIn K (.ref f49) = true)
    (mkHistory : PySem.W.makesIn K CHistory = true)
    (kcHistory : PySem.W.keepIn K (.ref CHistory) = true)
    (a50 : PySem.W.findIn K (.ref CHistory) "rows" = some (some (.ref p50)))
    (s50 : PySem.W.specialIn K (.ref p50) "__get__" = some (some (.builtin "property.__get__")))
    (t50 : PySem.W.takesIn K (.ref p50) = some true)
    (e50 : PySem.W.recIn K p50 "property" = some (.ref f50 :: r50))
    (l50 : K.lookup f50 = some ⟨oc50, od50, .func (PySem.W.fnOf "rows" "History.rows" (defArgs s_History_rows) (defBody s_History_rows) (defScope s_History_rows) .none kV50 dc50 pm50 an50 cd50 ct50), sl50⟩)
    (c50 : PySem.W.codeIn K cd50 "History.rows" = true)
    (k50 : PySem.W.keepIn K (.ref f50) = true)
    (ax1 : PySem.W.selfFirst K CFence = true)
    (ax2 : PySem.W.selfFirst K CPainter = true)
    (ax3 : PySem.W.findIn K (.ref CFence) "__radd__" = some none)
    (ax4 : PySem.W.findIn K (.ref CPainter) "__radd__" = some none)
    (ax5 : PySem.W.findIn K (.ref CPainter) "__add__" = some (some (.ref fx5)))
    (ax6 : PySem.W.subIn K (.ref CPainter) (.ref CFence) = some false)
    (ax7 : CFence ≠ CPainter)
    (y1Painter : PySem.W.findIn K (.ref CPainter) "__class__" = some (some (.builtin "object.__class__")))
    (y2Painter : PySem.W.specialIn K (.builtin "object.__class__") "__get__" = some (some (.builtin "getset_descriptor.__get__")))
    (y3Painter : PySem.W.takesIn K (.builtin "object.__class__") = some true)
    (y4Painter : PySem.W.mroIn K CPainter (.type "object") = some true)
    (y1Fence : PySem.W.findIn K (.ref CFence) "__class__" = some (some (.builtin "object.__class__")))
    (y2Fence : PySem.W.specialIn K (.builtin "object.__class__") "__get__" = some (some (.builtin "getset_descriptor.__get__")))
    (y3Fence : PySem.W.takesIn K (.builtin "object.__class__") = some true)
    (y4Fence : PySem.W.mroIn K CFence (.type "object") = some true)
    (r19q : cd19 = Value.ref cq__rows_of)
    (v19x : K.lookup cq__rows_of = some ⟨e19q, d19q, .fields v19q, s19q⟩)
    (w19x : (v19q[11]? : Option Value) = some (.ref Pq__rows_of))
    (n19q : K.lookup Pq__rows_of = none)
    (neq_CHistory_CPainter : CHistory ≠ CPainter)
    (neq_CHistory_CFence : CHistory ≠ CFence)
    (GMAX_ARGUMENT : PySem.W.nsIn K mainGlobals "MAX_ARGUMENT" = some (some vgMAX_ARGUMENT))
    (HMAX_ARGUMENT : L2.RelV (.int (10 ^ 80)) vgMAX_ARGUMENT)
    (GMAX_PAINTERS : PySem.W.nsIn K mainGlobals "MAX_PAINTERS" = some (some vgMAX_PAINTERS))
    (HMAX_PAINTERS : L2.RelV (.int (40)) vgMAX_PAINTERS)
    (GWINDOW : PySem.W.nsIn K mainGlobals "WINDOW" = some (some vgWINDOW))
    (HWINDOW : L2.RelV (.int (10 ^ 36)) vgWINDOW)
    (bgcd : PySem.W.nsIn K mainGlobals "gcd" = some (some (.builtin "math.gcd")))
    (zlen : PySem.W.nsIn K mainGlobals "len" = some none)
    (zint : PySem.W.nsIn K mainGlobals "int" = some none)
    (zabs : PySem.W.nsIn K mainGlobals "abs" = some none)
    (zlist : PySem.W.nsIn K mainGlobals "list" = some none)
    (zrange : PySem.W.nsIn K mainGlobals "range" = some none)
    (zmin : PySem.W.nsIn K mainGlobals "min" = some none)
    (zmax : PySem.W.nsIn K mainGlobals "max" = some none)
    (zrepr : PySem.W.nsIn K mainGlobals "repr" = some none)
    (zstr : PySem.W.nsIn K mainGlobals "str" = some none)
    (zbool : PySem.W.nsIn K mainGlobals "bool" = some none)
    (zisinstance : PySem.W.nsIn K mainGlobals "isinstance" = some none)
    (zany : PySem.W.nsIn K mainGlobals "any" = some none)
    (zdivmod : PySem.W.nsIn K mainGlobals "divmod" = some none)
    (zenumerate : PySem.W.nsIn K mainGlobals "enumerate" = some none)
    (ztuple : PySem.W.nsIn K mainGlobals "tuple" = some none)
    (zsorted : PySem.W.nsIn K mainGlobals "sorted" = some none)
    (zzip : PySem.W.nsIn K mainGlobals "zip" = some none)
    (zsum : PySem.W.nsIn K mainGlobals "sum" = some none)
    : ∃ (fd : FuncData) (ct : List (Addr × Addr)) (sp : Sp), (∀ (s : Shared) (v : Value), BindsTo s fd ⟨[v], []⟩ [("_law_script", v)]) ∧ (∀ q ∈ ct, K.lookup q.2 = none ∧ ∃ y ∈ (["_rows_of"] : List Str), PySem.W.tabIn K y = some q) ∧
      (∀ (H : Hp) (a : Addr) (ns : List Int), ns.length ≤ 63 → (∀ q ∈ ct, H q.2 = some (.tbl #[])) → SqL K H a (ns.map V.int) → sp [.ref a] H (fun v _ => v = .bl true) fun _ _ _ => False) ∧ ∀ base : Heap, K.In base → base.Ns mainGlobals mg → (∀ q ∈ ct, LamX.TabB base mg q.1 q.2) → FnG l.prog w K mg base 40 fa fd ["_law_script"] sp := by
  have e := hfa.symm.trans (PySem.W.mg_of X G aL)
  cases e
  have F_law := fun_mk (st := s_law) lL cL kL
  have u19q := tab_mk a19 l19 (fd := PySem.W.fnOf "_rows_of" "_rows_of" (defArgs s__rows_of) (defBody s__rows_of) (defScope s__rows_of) .none kV19 dc19 pm19 an19 cd19 ct19) r19q v19x w19x
  have D__law_pen : Dfn K mg "_law_pen" s__law_pen P__law_pen := ⟨f1, _, fun_mk l1 c1 k1, (fun_mk l1 c1 k1).binds fun _ _ _ _ _ _ us hl => match us, hl with | [_], _ => rfl, PySem.W.mg_of X G a1⟩
  have D__law_draw : Dfn K mg "_law_draw" s__law_draw P__law_draw := ⟨f2, _, fun_mk l2 c2 k2, (fun_mk l2 c2 k2).binds fun _ _ _ _ _ _ us hl => match us, hl with | [_, _], _ => rfl, PySem.W.mg_of X G a2⟩
  have D__law_pick : Dfn K mg "_law_pick" s__law_pick P__law_pick := ⟨f3, _, fun_mk l3 c3 k3, (fun_mk l3 c3 k3).binds fun _ _ _ _ _ _ us hl => match us, hl with | [_, _], _ => rfl, PySem.W.mg_of X G a3⟩
  have D__law_power : Dfn K mg "_law_power" s__law_power P__law_power := ⟨f4, _, fun_mk l4 c4 k4, (fun_mk l4 c4 k4).binds fun _ _ _ _ _ _ us hl => match us, hl with | [_], _ => rfl, PySem.W.mg_of X G a4⟩
  have D__law_great : Dfn K mg "_law_great" s__law_great P__law_great := ⟨f5, _, fun_mk l5 c5 k5, (fun_mk l5 c5 k5).binds fun _ _ _ _ _ _ us hl => match us, hl with | [_, _], _ => rfl, PySem.W.mg_of X G a5⟩
  have D__law_names : Dfn K mg "_law_names" s__law_names P__law_names := ⟨f6, _, fun_mk l6 c6 k6, (fun_mk l6 c6 k6).binds fun _ _ _ _ _ _ us hl => match us, hl with | [_, _], _ => rfl, PySem.W.mg_of X G a6⟩
  have D__law_fence : Dfn K mg "_law_fence" s__law_fence P__law_fence := ⟨f7, _, fun_mk l7 c7 k7, (fun_mk l7 c7 k7).binds fun _ _ _ _ _ _ us hl => match us, hl with | [_], _ => rfl, PySem.W.mg_of X G a7⟩
  have D_is_integer : Dfn K mg "is_integer" s_is_integer P_is_integer := ⟨f8, _, fun_mk l8 c8 k8, (fun_mk l8 c8 k8).binds fun _ _ _ _ _ _ us hl => match us, hl with | [_], _ => rfl, PySem.W.mg_of X G a8⟩
  have D_is_between : Dfn K mg "is_between" s_is_between P_is_between := ⟨f9, _, fun_mk l9 c9 k9, (fun_mk l9 c9 k9).binds fun _ _ _ _ _ _ us hl => match us, hl with | [_, _, _], _ => rfl, PySem.W.mg_of X G a9⟩
  have D_check_count : Dfn K mg "check_count" s_check_count P_check_count := ⟨f10, _, fun_mk l10 c10 k10, (fun_mk l10 c10 k10).binds fun _ _ _ _ _ _ us hl => match us, hl with | [_], _ => rfl, PySem.W.mg_of X G a10⟩
  have D_divisor_and_factor : Dfn K mg "divisor_and_factor" s_divisor_and_factor P_divisor_and_factor := ⟨f11, _, fun_mk l11 c11 k11, (fun_mk l11 c11 k11).binds fun _ _ _ _ _ _ us hl => match us, hl with | [_, _], _ => rfl, PySem.W.mg_of X G a11⟩
  have D_common_numbers : Dfn K mg "common_numbers" s_common_numbers P_common_numbers := ⟨f12, _, fun_mk l12 c12 k12, (fun_mk l12 c12 k12).binds fun _ _ _ _ _ _ us hl => match us, hl with | [_, _], _ => rfl, PySem.W.mg_of X G a12⟩
  have D__span_of : Dfn K mg "_span_of" s__span_of P__span_of := ⟨f13, _, fun_mk l13 c13 k13, (fun_mk l13 c13 k13).binds fun _ _ _ _ _ _ us hl => match us, hl with | [_], _ => rfl, PySem.W.mg_of X G a13⟩
  have FK_crossing : FunD K "crossing" "crossing" (defArgs s_crossing) (defBody s_crossing) (defScope s_crossing) [] [("count", .non), ("other_count", .non), ("lead", .non)] f14 _ := ⟨⟨_, _, .none, .ref dk14, _, _, _, _, _, _, rfl, l14, c14, Or.inl ⟨rfl, rfl⟩, Or.inr ⟨dk14, rfl, fun q hq => (by simp only [List.mem_cons, List.not_mem_nil, or_false] at hq; rcases hq with rfl | rfl | rfl <;> first | exact ⟨_, q14_0, s14_0⟩ | exact ⟨_, q14_1, s14_1⟩ | exact ⟨_, q14_2, s14_2⟩)⟩⟩, k14⟩
  have m_crossing : mg "crossing" = some (.ref f14) := PySem.W.mg_of X G a14
  have FK_first_block : FunD K "first_block" "first_block" (defArgs s_first_block) (defBody s_first_block) (defScope s_first_block) [] [("count", .non), ("is_earlier", .bl false)] f15 _ := ⟨⟨_, _, .none, .ref dk15, _, _, _, _, _, _, rfl, l15, c15, Or.inl ⟨rfl, rfl⟩, Or.inr ⟨dk15, rfl, fun q hq => (by simp only [List.mem_cons, List.not_mem_nil, or_false] at hq; rcases hq with rfl | rfl <;> first | exact ⟨_, q15_0, s15_0⟩ | exact ⟨_, q15_1, s15_1⟩)⟩⟩, k15⟩
  have m_first_block : mg "first_block" = some (.ref f15) := PySem.W.mg_of X G a15
  have D_rows_by : Dfn K mg "rows_by" s_rows_by P_rows_by := ⟨f16, _, fun_mk l16 c16 k16, (fun_mk l16 c16 k16).binds fun _ _ _ _ _ _ us hl => match us, hl with | [_, _], _ => rfl, PySem.W.mg_of X G a16⟩
  have D__find_stopped : Dfn K mg "_find_stopped" s__find_stopped P__find_stopped := ⟨f17, _, fun_mk l17 c17 k17, (fun_mk l17 c17 k17).binds fun _ _ _ _ _ _ us hl => match us, hl with | [_, _], _ => rfl, PySem.W.mg_of X G a17⟩
  have D__earliest_block : Dfn K mg "_earliest_block" s__earliest_block P__earliest_block := ⟨f18, _, fun_mk l18 c18 k18, (fun_mk l18 c18 k18).binds fun _ _ _ _ _ _ us hl => match us, hl with | [_, _, _], _ => rfl, PySem.W.mg_of X G a18⟩
  have D__rows_of : Dfn K mg "_rows_of" s__rows_of P__rows_of := ⟨f19, _, fun_mk l19 c19 k19, (fun_mk l19 c19 k19).binds fun _ _ _ _ _ _ us hl => match us, hl with | [_], _ => rfl, PySem.W.mg_of X G a19⟩
  have D__block : Dfn K mg "_block" s__block P__block := ⟨f20, _, fun_mk l20 c20 k20, (fun_mk l20 c20 k20).binds fun _ _ _ _ _ _ us hl => match us, hl with | [_, _, _, _], _ => rfl, PySem.W.mg_of X G a20⟩
  have D_painted_counts : Dfn K mg "painted_counts" s_painted_counts P_painted_counts := ⟨f21, _, fun_mk l21 c21 k21, (fun_mk l21 c21 k21).binds fun _ _ _ _ _ _ us hl => match us, hl with | [_], _ => rfl, PySem.W.mg_of X G a21⟩
  have D_counts_by : Dfn K mg "counts_by" s_counts_by P_counts_by := ⟨f22, _, fun_mk l22 c22 k22, (fun_mk l22 c22 k22).binds fun _ _ _ _ _ _ us hl => match us, hl with | [_, _], _ => rfl, PySem.W.mg_of X G a22⟩
  have D_runs_of : Dfn K mg "runs_of" s_runs_of P_runs_of := ⟨f23, _, fun_mk l23 c23 k23, (fun_mk l23 c23 k23).binds fun _ _ _ _ _ _ us hl => match us, hl with | [_], _ => rfl, PySem.W.mg_of X G a23⟩
  have D_painted_runs : Dfn K mg "painted_runs" s_painted_runs P_painted_runs := ⟨f24, _, fun_mk l24 c24 k24, (fun_mk l24 c24 k24).binds fun _ _ _ _ _ _ us hl => match us, hl with | [_, _], _ => rfl, PySem.W.mg_of X G a24⟩
  have D_without : Dfn K mg "without" s_without P_without := ⟨f25, _, fun_mk l25 c25 k25, (fun_mk l25 c25 k25).binds fun _ _ _ _ _ _ us hl => match us, hl with | [_, _, _], _ => rfl, PySem.W.mg_of X G a25⟩
  have D_weighted : Dfn K mg "weighted" s_weighted P_weighted := ⟨f26, _, fun_mk l26 c26 k26, (fun_mk l26 c26 k26).binds fun _ _ _ _ _ _ us hl => match us, hl with | [_, _], _ => rfl, PySem.W.mg_of X G a26⟩
  have D_mirrored : Dfn K mg "mirrored" s_mirrored P_mirrored := ⟨f27, _, fun_mk l27 c27 k27, (fun_mk l27 c27 k27).binds fun _ _ _ _ _ _ us hl => match us, hl with | [_], _ => rfl, PySem.W.mg_of X G a27⟩
  have D_far_post : Dfn K mg "far_post" s_far_post P_far_post := ⟨f28, _, fun_mk l28 c28 k28, (fun_mk l28 c28 k28).binds fun _ _ _ _ _ _ us hl => match us, hl with | [_, _], _ => rfl, PySem.W.mg_of X G a28⟩
  have D_post_at : Dfn K mg "post_at" s_post_at P_post_at := ⟨f29, _, fun_mk l29 c29 k29, (fun_mk l29 c29 k29).binds fun _ _ _ _ _ _ us hl => match us, hl with | [_, _, _, _], _ => rfl, PySem.W.mg_of X G a29⟩
  have D__post_to_the_right : Dfn K mg "_post_to_the_right" s__post_to_the_right P__post_to_the_right := ⟨f30, _, fun_mk l30 c30 k30, (fun_mk l30 c30 k30).binds fun _ _ _ _ _ _ us hl => match us, hl with | [_, _, _], _ => rfl, PySem.W.mg_of X G a30⟩
  have D_count_between : Dfn K mg "count_between" s_count_between P_count_between := ⟨f31, _, fun_mk l31 c31 k31, (fun_mk l31 c31 k31).binds fun _ _ _ _ _ _ us hl => match us, hl with | [_, _, _], _ => rfl, PySem.W.mg_of X G a31⟩
  have D__many_between : Dfn K mg "_many_between" s__many_between P__many_between := ⟨f32, _, fun_mk l32 c32 k32, (fun_mk l32 c32 k32).binds fun _ _ _ _ _ _ us hl => match us, hl with | [_, _, _], _ => rfl, PySem.W.mg_of X G a32⟩
  have D_numbers_between : Dfn K mg "numbers_between" s_numbers_between P_numbers_between := ⟨f33, _, fun_mk l33 c33 k33, (fun_mk l33 c33 k33).binds fun _ _ _ _ _ _ us hl => match us, hl with | [_, _, _], _ => rfl, PySem.W.mg_of X G a33⟩
  have D__law_opposite : Dfn K mg "_law_opposite" s__law_opposite P__law_opposite := ⟨f34, _, fun_mk l34 c34 k34, (fun_mk l34 c34 k34).binds fun _ _ _ _ _ _ us hl => match us, hl with | [_], _ => rfl, PySem.W.mg_of X G a34⟩
  have D__law_shuffled : Dfn K mg "_law_shuffled" s__law_shuffled P__law_shuffled := ⟨f35, _, fun_mk l35 c35 k35, (fun_mk l35 c35 k35).binds fun _ _ _ _ _ _ us hl => match us, hl with | [_, _], _ => rfl, PySem.W.mg_of X G a35⟩
  have D__law_cover : Dfn K mg "_law_cover" s__law_cover P__law_cover := ⟨f36, _, fun_mk l36 c36 k36, (fun_mk l36 c36 k36).binds fun _ _ _ _ _ _ us hl => match us, hl with | [_, _], _ => rfl, PySem.W.mg_of X G a36⟩
  have D__law_covering : Dfn K mg "_law_covering" s__law_covering P__law_covering := ⟨f37, _, fun_mk l37 c37 k37, (fun_mk l37 c37 k37).binds fun _ _ _ _ _ _ us hl => match us, hl with | [_, _, _, _, _], _ => rfl, PySem.W.mg_of X G a37⟩
  have FK_share : FunD K "share" "share" (defArgs s_share) (defBody s_share) (defScope s_share) [] [("left", .bl false)] f38 _ := ⟨⟨_, _, .none, .ref dk38, _, _, _, _, _, _, rfl, l38, c38, Or.inl ⟨rfl, rfl⟩, Or.inr ⟨dk38, rfl, fun q hq => (by simp only [List.mem_cons, List.not_mem_nil, or_false] at hq; rcases hq with rfl <;> first | exact ⟨_, q38_0, s38_0⟩)⟩⟩, k38⟩
  have m_share : mg "share" = some (.ref f38) := PySem.W.mg_of X G a38
  have FK_full_from : FunD K "full_from" "full_from" (defArgs s_full_from) (defBody s_full_from) (defScope s_full_from) [] [("left", .bl false)] f39 _ := ⟨⟨_, _, .none, .ref dk39, _, _, _, _, _, _, rfl, l39, c39, Or.inl ⟨rfl, rfl⟩, Or.inr ⟨dk39, rfl, fun q hq => (by simp only [List.mem_cons, List.not_mem_nil, or_false] at hq; rcases hq with rfl <;> first | exact ⟨_, q39_0, s39_0⟩)⟩⟩, k39⟩
  have m_full_from : mg "full_from" = some (.ref f39) := PySem.W.mg_of X G a39
  have cl_Painter : Cls K CPainter := ⟨pgPainter, hdPainter, poPainter, saPainter⟩
  have rd_Painter : ClX.CRead K CPainter (.type "type") := ⟨rdPainter, gaPainter⟩
  have mg_Painter : mg "Painter" = some (.ref CPainter) := PySem.W.mg_of X G gPainter
  have cv_Painter_MAX_DAY : ∃ u, ClX.CVal K CPainter (.type "type") "MAX_DAY" (.int (10 ^ 30)) u := ⟨_, vPainterMAX_DAY, wPainterMAX_DAY⟩
  have cv_Painter_MAX_POST : ∃ u, ClX.CVal K CPainter (.type "type") "MAX_POST" (.int (10 ^ 30)) u := ⟨_, vPainterMAX_POST, wPainterMAX_POST⟩
  have cv_Painter_MAX_STRIDE : ∃ u, ClX.CVal K CPainter (.type "type") "MAX_STRIDE" (.int (10 ^ 18)) u := ⟨_, vPainterMAX_STRIDE, wPainterMAX_STRIDE⟩
  have F_Painter_init := fun_mk (st := s_Painter_init) (x := "__init__") l40 c40 k40
  have b_Painter_init := F_Painter_init.binds (ps := P_Painter_init) fun _ _ _ _ _ _ us hl => match us, hl with | [_, _, _, _, _], _ => rfl
  have mk_Painter : Mk K CPainter f40 := ⟨mkPainter, a40, i40, kcPainter⟩
  have F_Painter_is_name := fun_mk (st := s_Painter_is_name) (x := "is_name") l41 c41 k41
  have b_Painter_is_name := F_Painter_is_name.binds (ps := P_Painter_is_name) fun _ _ _ _ _ _ us hl => match us, hl with | [_], _ => rfl
  have sm_Painter_is_name : SMet K CPainter (.type "type") "is_name" p41 f41 := ⟨a41, ⟨_, e41⟩, k41⟩
  have F_Painter_name := fun_mk (st := s_Painter_name) (x := "name") l42 c42 k42
  have b_Painter_name := F_Painter_name.binds (ps := P_Painter_name) fun _ _ _ _ _ _ us hl => match us, hl with | [_], _ => rfl
  have pr_Painter_name : PropOf K CPainter "name" p42 f42 := ⟨a42, s42, t42, ⟨_, e42⟩⟩
  have F_Painter_day := fun_mk (st := s_Painter_day) (x := "day") l43 c43 k43
  have b_Painter_day := F_Painter_day.binds (ps := P_Painter_day) fun _ _ _ _ _ _ us hl => match us, hl with | [_], _ => rfl
  have pr_Painter_day : PropOf K CPainter "day" p43 f43 := ⟨a43, s43, t43, ⟨_, e43⟩⟩
  have F_Painter_post := fun_mk (st := s_Painter_post) (x := "post") l44 c44 k44
  have b_Painter_post := F_Painter_post.binds (ps := P_Painter_post) fun _ _ _ _ _ _ us hl => match us, hl with | [_], _ => rfl
  have pr_Painter_post : PropOf K CPainter "post" p44 f44 := ⟨a44, s44, t44, ⟨_, e44⟩⟩
  have F_Painter_stride := fun_mk (st := s_Painter_stride) (x := "stride") l45 c45 k45
  have b_Painter_stride := F_Painter_stride.binds (ps := P_Painter_stride) fun _ _ _ _ _ _ us hl => match us, hl with | [_], _ => rfl
  have pr_Painter_stride : PropOf K CPainter "stride" p45 f45 := ⟨a45, s45, t45, ⟨_, e45⟩⟩
  have cl_Fence : Cls K CFence := ⟨pgFence, hdFence, poFence, saFence⟩
  have rd_Fence : ClX.CRead K CFence (.type "type") := ⟨rdFence, gaFence⟩
  have mg_Fence : mg "Fence" = some (.ref CFence) := PySem.W.mg_of X G gFence
  have F_Fence_init := fun_mk (st := s_Fence_init) (x := "__init__") l46 c46 k46
  have mk_Fence : Mk K CFence f46 := ⟨mkFence, a46, i46, kcFence⟩
  have F_Fence_painters := fun_mk (st := s_Fence_painters) (x := "painters") l47 c47 k47
  have b_Fence_painters := F_Fence_painters.binds (ps := P_Fence_painters) fun _ _ _ _ _ _ us hl => match us, hl with | [_], _ => rfl
  have pr_Fence_painters : PropOf K CFence "painters" p47 f47 := ⟨a47, s47, t47, ⟨_, e47⟩⟩
  have F_Fence_add := fun_mk (st := s_Fence_add) (x := "__add__") l48 c48 k48
  have b_Fence_add := F_Fence_add.binds (ps := P_Fence_add) fun _ _ _ _ _ _ us hl => match us, hl with | [_, _], _ => rfl
  have me_Fence___add__ : Meth K CFence "__add__" f48 := ⟨a48, i48, k48⟩
  have fi_Fence___add__ : PySem.W.fnIn K f48 = true := by unfold PySem.W.fnIn; rw [l48]
  have cl_History : Cls K CHistory := ⟨pgHistory, hdHistory, poHistory, saHistory⟩
  have rd_History : ClX.CRead K CHistory (.type "type") := ⟨rdHistory, gaHistory⟩
  have mg_History : mg "History" = some (.ref CHistory) := PySem.W.mg_of X G gHistory
  have F_History_init := fun_mk (st := s_History_init) (x := "__init__") l49 c49 k49
  have b_History_init := F_History_init.binds (ps := P_History_init) fun _ _ _ _ _ _ us hl => match us, hl with | [_, _], _ => rfl
  have mk_History : Mk K CHistory f49 := ⟨mkHistory, a49, i49, kcHistory⟩
  have F_History_rows := fun_mk (st := s_History_rows) (x := "rows") l50 c50 k50
  have b_History_rows := F_History_rows.binds (ps := P_History_rows) fun _ _ _ _ _ _ us hl => match us, hl with | [_], _ => rfl
  have pr_History_rows : PropOf K CHistory "rows" p50 f50 := ⟨a50, s50, t50, ⟨_, e50⟩⟩
  have at_Fence : AddTwo K CFence CPainter := ⟨ax1, ax2, ax3, ax4, ⟨_, ax5⟩, ax6, ax7⟩
  have ic_Painter : C8.InsC K CPainter := ⟨cl_Painter, y1Painter, y2Painter, y3Painter, y4Painter, if_pos (beq_self_eq_true _)⟩
  have ic_Fence : C8.InsC K CFence := ⟨cl_Fence, y1Fence, y2Fence, y3Fence, y4Fence, if_pos (beq_self_eq_true _)⟩
  have DT__rows_of : DfnT K mg "_rows_of" s__rows_of P__rows_of cq__rows_of := ⟨f19, _, fun_mk l19 c19 k19, (fun_mk l19 c19 k19).binds fun _ _ _ _ _ _ us hl => match us, hl with | [_], _ => rfl, PySem.W.mg_of X G a19, r19q⟩
  have gl_MAX_ARGUMENT : ∃ u, mg "MAX_ARGUMENT" = some u ∧ L2.RelV (.int (10 ^ 80)) u := ⟨_, PySem.W.mg_of X G GMAX_ARGUMENT, HMAX_ARGUMENT⟩
  have gl_MAX_PAINTERS : ∃ u, mg "MAX_PAINTERS" = some u ∧ L2.RelV (.int (40)) u := ⟨_, PySem.W.mg_of X G GMAX_PAINTERS, HMAX_PAINTERS⟩
  have gl_WINDOW : ∃ u, mg "WINDOW" = some u ∧ L2.RelV (.int (10 ^ 36)) u := ⟨_, PySem.W.mg_of X G GWINDOW, HWINDOW⟩
  have gb_gcd : mg "gcd" = some (.builtin "math.gcd") := PySem.W.mg_of X G bgcd
  have B : Blt mg := ⟨PySem.W.mg_none_of X G zlen, PySem.W.mg_none_of X G zint, PySem.W.mg_none_of X G zabs, PySem.W.mg_none_of X G zlist, PySem.W.mg_none_of X G zrange, PySem.W.mg_none_of X G zmin, PySem.W.mg_none_of X G zmax, PySem.W.mg_none_of X G zrepr, PySem.W.mg_none_of X G zstr, PySem.W.mg_none_of X G zbool, PySem.W.mg_none_of X G zisinstance, PySem.W.mg_none_of X G zany, PySem.W.mg_none_of X G zdivmod⟩
  have nb_enumerate : mg "enumerate" = none := PySem.W.mg_none_of X G zenumerate
  have nb_tuple : mg "tuple" = none := PySem.W.mg_none_of X G ztuple
  have nb_sorted : mg "sorted" = none := PySem.W.mg_none_of X G zsorted
  have nb_zip : mg "zip" = none := PySem.W.mg_none_of X G zzip
  have nb_sum : mg "sum" = none := PySem.W.mg_none_of X G zsum
  refine ⟨PySem.W.fnOf "law" "law" (defArgs s_law) (defBody s_law) (defScope s_law) .none kVL dcL pmL anL cdL ctL, [(cq__rows_of, Pq__rows_of)], spLaw K ([(Pq__rows_of, qRw)]), fun s v => .of_eq rfl, ?_, ?_, fun base hKb _ hTB => ?_⟩
  · intro q hq
    rcases List.mem_cons.mp hq with rfl | hq
    · exact ⟨n19q, _, List.mem_cons_self, u19q⟩
    · cases hq
  · intro H a ns hl hT hS
    refine ⟨a, ns, rfl, hS, hl, fun p hp => ?_, fun _ => rfl⟩
    rcases List.mem_cons.mp hp with rfl | hp
    · exact LamX.TabS.nil (hT (cq__rows_of, Pq__rows_of) List.mem_cons_self)
    · cases hp
  have T : PTxt K mg CPainter := ⟨cl_Painter, nPainter_name, nPainter_day, nPainter_post, nPainter_stride, mg_Painter, rd_Painter, cv_Painter_MAX_DAY, cv_Painter_MAX_POST, cv_Painter_MAX_STRIDE⟩
  have U : FTxt K mg CFence := ⟨cl_Fence, nFence_painters, nFence_by_name, mg_Fence⟩
  have UH : HTxt K mg CHistory := ⟨cl_History, nHistory_fence, nHistory_rows, nHistory_by_name, nHistory_stopped, mg_History⟩
  have CD := ok_draw (P := l.prog) (w := w) (base := base) D__law_draw B
  have CP := ok_pickL (P := l.prog) (w := w) (base := base) D__law_pick B CD
  have CPS := ok_pickS (P := l.prog) (w := w) (base := base) D__law_pick B CD
  have CI := ok_pickI CP
  have CW := ok_power (P := l.prog) (w := w) (base := base) D__law_power B
  have CG := ok_great (P := l.prog) (w := w) (base := base) D__law_great CW CD CP
  have CN := ok_namesN (P := l.prog) (w := w) (base := base) D__law_names B CD CP CPS
  have CPen := ok_pen (P := l.prog) (w := w) (base := base) D__law_pen B
  have CInt := ok_is_integer (P := l.prog) (w := w) (base := base) D_is_integer B
  have CB := ok_is_between (P := l.prog) (w := w) (base := base) D_is_between CInt
  have FN := ok_is_name (P := l.prog) (w := w) (base := base) F_Painter_is_name B
  have FI := ok_init (P := l.prog) (w := w) (base := base) F_Painter_init T sm_Painter_is_name FN b_Painter_is_name CB
  have hMk : MkP l.prog w K mg base CPainter := ⟨_, _, mk_Painter, FI, b_Painter_init⟩
  have hName : PropS l.prog w K mg base CPainter "name" 1 (getSp CPainter "_name") := ⟨_, _, _, pr_Painter_name, ok_get_name F_Painter_name T, b_Painter_name⟩
  have hDay : PropS l.prog w K mg base CPainter "day" 1 (getSp CPainter "_day") := ⟨_, _, _, pr_Painter_day, ok_get_day F_Painter_day T, b_Painter_day⟩
  have hPost : PropS l.prog w K mg base CPainter "post" 1 (getSp CPainter "_post") := ⟨_, _, _, pr_Painter_post, ok_get_post F_Painter_post T, b_Painter_post⟩
  have hStride : PropS l.prog w K mg base CPainter "stride" 1 (getSp CPainter "_stride") := ⟨_, _, _, pr_Painter_stride, ok_get_stride F_Painter_stride T, b_Painter_stride⟩
  obtain ⟨uMP, hMP, rMP⟩ := gl_MAX_PAINTERS
  have FF := ok_finit (P := l.prog) (w := w) (base := base) F_Fence_init B nb_enumerate T U ic_Painter hName hMP rMP
  have hMkF : MkF l.prog w K mg base CPainter CFence := ⟨_, mk_Fence, FF⟩
  have FAdd := ok_fadd (P := l.prog) (w := w) (base := base) F_Fence_add U hMkF
  have hFAdd : OwnR l.prog w K mg base CFence "__add__" 5 P_Fence_add (spFAdd CPainter CFence) := ⟨_, _, me_Fence___add__.at_, me_Fence___add__.fn, fi_Fence___add__, FAdd, b_Fence_add⟩
  have hPs : PropS l.prog w K mg base CFence "painters" 1 (getSp CFence "_painters") := ⟨_, _, _, pr_Fence_painters, ok_get_painters F_Fence_painters U, b_Fence_painters⟩
  have CFe := ok_fence (P := l.prog) (w := w) (base := base) D__law_fence T U hMk hMkF hFAdd at_Fence
  have CDF := ok_df (P := l.prog) (w := w) (base := base) D_divisor_and_factor
  have CCN := ok_cn (P := l.prog) (w := w) (base := base) D_common_numbers B T hPost hStride CDF
  obtain ⟨uM, hM, rM⟩ := gl_MAX_ARGUMENT
  have CC := ok_check_count (P := l.prog) (w := w) (base := base) D_check_count hM rM CB
  have CSp := ok_span (P := l.prog) (w := w) (base := base) D__span_of B
  have CCr := CrC.of FK_crossing (ok_cr (P := l.prog) (w := w) (base := base) FK_crossing B T hDay hPost hStride CCN CSp) m_crossing
  have FB := ok_fb (P := l.prog) (w := w) (base := base) FK_first_block B T CC CCr
  have CFB := FBC.of FK_first_block FB m_first_block
  have CBk := ok_block (P := l.prog) (w := w) (base := base) D__block B CFB
  have FRl := fun f => ok_rl (P := l.prog) (w := w) (base := base) CBk f
  have CEB := ok_eb (P := l.prog) (w := w) (base := base) D__earliest_block B nb_enumerate T hDay
  have CFS := ok_fs (P := l.prog) (w := w) (base := base) gpF (fun f => bk_of (FRl f)) D__find_stopped B CEB
  have CRB := ok_rb (P := l.prog) (w := w) (base := base) D_rows_by B nb_enumerate nb_tuple T hName hDay hPost hStride CFS
  have tb0 := hTB _ List.mem_cons_self
  have CRO := ok_ro (P := l.prog) (w := w) (base := base) FRl DT__rows_of tb0 List.mem_cons_self (fun p hp e => by rw [List.mem_singleton.mp hp]) U hPs CRB
  have FH := ok_hinit (P := l.prog) (w := w) (base := base) F_History_init nb_enumerate nb_sorted UH neq_CHistory_CPainter neq_CHistory_CFence CRO
  have hMkH : MkH l.prog w K mg base [(Pq__rows_of, qRw)] CPainter CFence CHistory := ⟨_, _, mk_History, FH, b_History_init⟩
  have hRows : PropS l.prog w K mg base CHistory "rows" 1 (getSp CHistory "_rows") := ⟨_, _, _, pr_History_rows, ok_get_rows F_History_rows UH, b_History_rows⟩
  have CPc := ok_pc (P := l.prog) (w := w) (base := base) D_painted_counts nb_zip U UH hMkH hRows hPs
  have CNB := ok_nb (P := l.prog) (w := w) (base := base) D_numbers_between B
  have CMB := ok_mb (P := l.prog) (w := w) (base := base) D__many_between B CNB
  have CCB := ok_cb (P := l.prog) (w := w) (base := base) D_count_between nb_sum CMB
  have CBy := ok_cby (P := l.prog) (w := w) (base := base) D_counts_by B T hDay
  have CRu := ok_ru (P := l.prog) (w := w) (base := base) D_runs_of T hPost hStride
  have CPR := ok_pru (P := l.prog) (w := w) (base := base) D_painted_runs CPc CBy CRu
  obtain ⟨uW, hW, rW⟩ := gl_WINDOW
  have CWt := ok_wt (P := l.prog) (w := w) (base := base) D_weighted
  have COu := ok_out (P := l.prog) (w := w) (base := base) D_without CWt
  have CMi := ok_mirR (P := l.prog) (w := w) (base := base) D_mirrored
  have CFar := ok_farP (P := l.prog) (w := w) (base := base) D_far_post B
  have CRi := ok_right (P := l.prog) (w := w) (base := base) D__post_to_the_right hW rW CFar CCB
  have CPA := ok_postAt (P := l.prog) (w := w) (base := base) D_post_at CMi CRi
  have COp := ok_opp (P := l.prog) (w := w) (base := base) D__law_opposite
  have CCo := ok_cover (P := l.prog) (w := w) (base := base) D__law_cover B CD
  have CSh := ok_shufC (P := l.prog) (w := w) (base := base) D__law_shuffled B CD
  have CCv := ok_covering (P := l.prog) (w := w) (base := base) D__law_covering B CD CI CG
  have hGcd := gb_gcd
  have CSa := ShaC.of FK_share (ok_share (P := l.prog) (w := w) (base := base) FK_share hGcd T hStride CPc) m_share
  have CFu := FulC.of FK_full_from (ok_ful (P := l.prog) (w := w) (base := base) FK_full_from CPR CMi CFar COu CPA) m_full_from
  exact ok_law F_law B CPen CD CP CI CG CN CCo CSh CCv CFe COp CSa CFu
end Ur
theorem PySem.W.Fast.tw17318885171786037472 : True := True.intro
theorem PySem.W.Fast.tw3598296616888786592 : True := True.intro
theorem PySem.W.Fast.tw235043110137977217 : True := True.intro
theorem PySem.W.Fast.tw2174179938155724577 : True := True.intro
theorem PySem.W.Fast.tw13246805765588727074 : True := True.intro
theorem PySem.W.Fast.tw11703358973591711234 : True := True.intro
theorem PySem.W.Fast.tw11751296579973383874 : True := True.intro
theorem PySem.W.Fast.tw10168699932826354370 : True := True.intro
theorem PySem.W.Fast.tw3116034981203832674 : True := True.intro
theorem PySem.W.Fast.tw11387670039399385859 : True := True.intro
theorem PySem.W.Fast.tw5940087967813086820 : True := True.intro
theorem PySem.W.Fast.tw4036496788911720069 : True := True.intro
theorem PySem.W.Fast.tw4065649198412101413 : True := True.intro
theorem PySem.W.Fast.tw12877377509049219462 : True := True.intro
theorem PySem.W.Fast.tw17031691471435366439 : True := True.intro
theorem PySem.W.Fast.tw9263321186162597223 : True := True.intro
theorem PySem.W.Fast.tw2107579986556761545 : True := True.intro
theorem PySem.W.Fast.tw2883671356109715017 : True := True.intro
theorem PySem.W.Fast.tw7532702529060016298 : True := True.intro
theorem PySem.W.Fast.tw13668246967621815659 : True := True.intro
theorem PySem.W.Fast.tw10642159716380896779 : True := True.intro
theorem PySem.W.Fast.tw1245716615340336492 : True := True.intro
theorem PySem.W.Fast.tw17612980431082658412 : True := True.intro
theorem PySem.W.Fast.tw7334744304644864621 : True := True.intro
theorem PySem.W.Fast.tw16084401861414915534 : True := True.intro
theorem PySem.W.Fast.tw6698324605520617966 : True := True.intro
theorem PySem.W.Fast.tw2190773475728497518 : True := True.intro
theorem PySem.W.Fast.tw8653849190361772942 : True := True.intro
theorem PySem.W.Fast.tw1058780453865867407 : True := True.intro
theorem PySem.W.Fast.tw14774057942189499567 : True := True.intro
theorem PySem.W.Fast.tw2210979510556310927 : True := True.intro
theorem PySem.W.Fast.tw15481593973617413936 : True := True.intro
theorem PySem.W.Fast.tw886366394506391408 : True := True.intro
theorem PySem.W.Fast.tw15888011239044368433 : True := True.intro
theorem PySem.W.Fast.tw609335489844585201 : True := True.intro
theorem PySem.W.Fast.tw17326124901518194577 : True := True.intro
theorem PySem.W.Fast.tw13376429875315394642 : True := True.intro
theorem PySem.W.Fast.tw16954991121425280306 : True := True.intro
theorem PySem.W.Fast.tw7155701168455518770 : True := True.intro
theorem PySem.W.Fast.tw16830582725340182066 : True := True.intro
theorem PySem.W.Fast.tw4163290726262991634 : True := True.intro
theorem PySem.W.Fast.tw3216750113757437971 : True := True.intro
theorem PySem.W.Fast.tw4993212107735555091 : True := True.intro
theorem PySem.W.Fast.tw15497490415292042963 : True := True.intro
theorem PySem.W.Fast.tw16077169768114172659 : True := True.intro
theorem PySem.W.Fast.tw7511977320786229075 : True := True.intro
theorem PySem.W.Fast.tw8963888732066552852 : True := True.intro
theorem PySem.W.Fast.tw17918520975494102580 : True := True.intro
theorem PySem.W.Fast.tw12411005961454328724 : True := True.intro
theorem PySem.W.Fast.tw4983474217559374037 : True := True.intro
theorem PySem.W.Fast.tw2822349697539234325 : True := True.intro
theorem PySem.W.Fast.tw14881880121546880757 : True := True.intro
theorem PySem.W.Fast.tw2701493856042423670 : True := True.intro
theorem PySem.W.Fast.tw15429431965972955670 : True := True.intro
theorem PySem.W.Fast.tw17806007615182734966 : True := True.intro
theorem PySem.W.Fast.tw3689936779242411671 : True := True.intro
theorem PySem.W.Fast.tw11846342215661671032 : True := True.intro
theorem PySem.W.Fast.tw13031735372121535096 : True := True.intro
theorem PySem.W.Fast.tw8415834330328537976 : True := True.intro
theorem PySem.W.Fast.tw10941391143937881370 : True := True.intro
theorem PySem.W.Fast.tw16140862169566780827 : True := True.intro
theorem PySem.W.Fast.tw12597725097303338619 : True := True.intro
theorem PySem.W.Fast.tw8026489634896850204 : True := True.intro
theorem PySem.W.Fast.tw14539433959295401948 : True := True.intro
theorem PySem.W.Fast.tw10881181147894817821 : True := True.intro
theorem PySem.W.Fast.tw1030474543902808125 : True := True.intro
theorem PySem.W.Fast.tw4932360916749366365 : True := True.intro
theorem PySem.W.Fast.tw16324583392346752349 : True := True.intro
theorem PySem.W.Fast.tw8059921370103692029 : True := True.intro
theorem PySem.W.Fast.tw1708092211176547998 : True := True.intro
theorem PySem.W.Fast.tw3753394523387267006 : True := True.intro
theorem PySem.W.Fast.tw17465262686753958143 : True := True.intro
theorem PySem.W.Fast.tw1323149888428508799 : True := True.intro
theorem PySem.W.Fast.tw15582640181893040831 : True := True.intro
open PySem PySem.W PyProof.Rows
set_option maxRecDepth 100000 in
set_option maxHeartbeats 0 in
theorem PySem.Challenge.cw_paintposts_k49_full_from_a_planted_post_holds : PySem.Challenge.rw_paintposts_k49_full_from_a_planted_post.Holds := by
  w_on; o_law; k_head; (case hw => w_witness2)
  k_fill
  refine Ur.walk_ofGT (l := PySem.Challenge.rw_paintposts_k49_full_from_a_planted_post) (n := 63) (k := 40) (x := "_law_script") (xs := ["_rows_of"]) rfl (by decide) rfl ⟨rfl, by decide, by decide⟩ ?hrec (fun w h Y => PySem.W.km_in_of Y) ?F
  case hrec => decide +kernel
  case F =>
    intro w mg fa h KX G hmg
    refine' Ur.all_mk KX G hmg ?a1 ?l1 ?c1 ?k1 ?a2 ?l2 ?c2 ?k2 ?a3 ?l3 ?c3 ?k3 ?a4 ?l4 ?c4 ?k4 ?a5 ?l5 ?c5 ?k5 ?a6 ?l6 ?c6 ?k6 ?a7 ?l7 ?c7 ?k7 ?a8 ?l8 ?c8 ?k8 ?a9 ?l9 ?c9 ?k9 ?a10 ?l10 ?c10 ?k10 ?a11 ?l11 ?c11 ?k11 ?a12 ?l12 ?c12 ?k12 ?a13 ?l13 ?c13 ?k13 ?a14 ?l14 ?c14 ?k14 ?q14_0 ?s14_0 ?q14_1 ?s14_1 ?q14_2 ?s14_2 ?a15 ?l15 ?c15 ?k15 ?q15_0 ?s15_0 ?q15_1 ?s15_1 ?a16 ?l16 ?c16 ?k16 ?a17 ?l17 ?c17 ?k17 ?a18 ?l18 ?c18 ?k18 ?a19 ?l19 ?c19 ?k19 ?a20 ?l20 ?c20 ?k20 ?a21 ?l21 ?c21 ?k21 ?a22 ?l22 ?c22 ?k22 ?a23 ?l23 ?c23 ?k23 ?a24 ?l24 ?c24 ?k24 ?a25 ?l25 ?c25 ?k25 ?a26 ?l26 ?c26 ?k26 ?a27 ?l27 ?c27 ?k27 ?a28 ?l28 ?c28 ?k28 ?a29 ?l29 ?c29 ?k29 ?a30 ?l30 ?c30 ?k30 ?a31 ?l31 ?c31 ?k31 ?a32 ?l32 ?c32 ?k32 ?a33 ?l33 ?c33 ?k33 ?a34 ?l34 ?c34 ?k34 ?a35 ?l35 ?c35 ?k35 ?a36 ?l36 ?c36 ?k36 ?a37 ?l37 ?c37 ?k37 ?a38 ?l38 ?c38 ?k38 ?q38_0 ?s38_0 ?a39 ?l39 ?c39 ?k39 ?q39_0 ?s39_0 ?aL ?lL ?cL ?kL ?gPainter ?pgPainter ?hdPainter ?poPainter ?saPainter ?rdPainter ?gaPainter ?nPainter_name ?nPainter_day ?nPainter_post ?nPainter_stride ?vPainterMAX_DAY ?wPainterMAX_DAY ?vPainterMAX_POST ?wPainterMAX_POST ?vPainterMAX_STRIDE ?wPainterMAX_STRIDE ?a40 ?i40 ?l40 ?c40 ?k40 ?mkPainter ?kcPainter ?a41 ?e41 ?l41 ?c41 ?k41 ?a42 ?s42 ?t42 ?e42 ?l42 ?c42 ?k42 ?a43 ?s43 ?t43 ?e43 ?l43 ?c43 ?k43 ?a44 ?s44 ?t44 ?e44 ?l44 ?c44 ?k44 ?a45 ?s45 ?t45 ?e45 ?l45 ?c45 ?k45 ?gFence ?pgFence ?hdFence ?poFence ?saFence ?rdFence ?gaFence ?nFence_painters ?nFence_by_name ?a46 ?i46 ?l46 ?c46 ?k46 ?mkFence ?kcFence ?a47 ?s47 ?t47 ?e47 ?l47 ?c47 ?k47 ?a48 ?i48 ?l48 ?c48 ?k48 ?gHistory ?pgHistory ?hdHistory ?poHistory ?saHistory ?rdHistory ?gaHistory ?nHistory_fence ?nHistory_rows ?nHistory_by_name ?nHistory_stopped ?a49 ?i49 ?l49 ?c49 ?k49 ?mkHistory ?kcHistory ?a50 ?s50 ?t50 ?e50 ?l50 ?c50 ?k50 ?ax1 ?ax2 ?ax3 ?ax4 ?ax5 ?ax6 ?ax7 ?y1Painter ?y2Painter ?y3Painter ?y4Painter ?y1Fence ?y2Fence ?y3Fence ?y4Fence ?r19q ?v19x ?w19x ?n19q ?neq_CHistory_CPainter ?neq_CHistory_CFence ?GMAX_ARGUMENT ?HMAX_ARGUMENT ?GMAX_PAINTERS ?HMAX_PAINTERS ?GWINDOW ?HWINDOW ?bgcd ?zlen ?zint ?zabs ?zlist ?zrange ?zmin ?zmax ?zrepr ?zstr ?zbool ?zisinstance ?zany ?zdivmod ?zenumerate ?ztuple ?zsorted ?zzip ?zsum
    (case a1 => k_is)
    (case l1 => k_is)
    (case c1 => k_is)
    (case k1 => k_is)
    (case a2 => k_is)
    (case l2 => k_is)
    (case c2 => k_is)
    (case k2 => k_is)
    (case a3 => k_is)
    (case l3 => k_is)
    (case c3 => k_is)
    (case k3 => k_is)
    (case a4 => k_is)
    (case l4 => k_is)
    (case c4 => k_is)
    (case k4 => k_is)
    (case a5 => k_is)
    (case l5 => k_is)
    (case c5 => k_is)
    (case k5 => k_is)
    (case a6 => k_is)
    (case l6 => k_is)
    (case c6 => k_is)
    (case k6 => k_is)
    (case a7 => k_is)
    (case l7 => k_is)
    (case c7 => k_is)
    (case k7 => k_is)
    (case a8 => k_is)
    (case l8 => k_is)
    (case c8 => k_is)
    (case k8 => k_is)
    (case a9 => k_is)
    (case l9 => k_is)
    (case c9 => k_is)
    (case k9 => k_is)
    (case a10 => k_is)
    (case l10 => k_is)
    (case c10 => k_is)
    (case k10 => k_is)
    (case a11 => k_is)
    (case l11 => k_is)
    (case c11 => k_is)
    (case k11 => k_is)
    (case a12 => k_is)
    (case l12 => k_is)
    (case c12 => k_is)
    (case k12 => k_is)
    (case a13 => k_is)
    (case l13 => k_is)
    (case c13 => k_is)
    (case k13 => k_is)
    (case a14 => k_is)
    (case l14 => k_is)
    (case c14 => k_is)
    (case k14 => k_is)
    (case q14_0 => k_is)
    (case s14_0 => exact rfl)
    (case q14_1 => k_is)
    (case s14_1 => exact rfl)
    (case q14_2 => k_is)
    (case s14_2 => exact rfl)
    (case a15 => k_is)
    (case l15 => k_is)
    (case c15 => k_is)
    (case k15 => k_is)
    (case q15_0 => k_is)
    (case s15_0 => exact rfl)
    (case q15_1 => k_is)
    (case s15_1 => exact rfl)
    (case a16 => k_is)
    (case l16 => k_is)
    (case c16 => k_is)
    (case k16 => k_is)
    (case a17 => k_is)
    (case l17 => k_is)
    (case c17 => k_is)
    (case k17 => k_is)
    (case a18 => k_is)
    (case l18 => k_is)
    (case c18 => k_is)
    (case k18 => k_is)
    (case a19 => k_is)
    (case l19 => k_is)
    (case c19 => k_is)
    (case k19 => k_is)
    (case a20 => k_is)
    (case l20 => k_is)
    (case c20 => k_is)
    (case k20 => k_is)
    (case a21 => k_is)
    (case l21 => k_is)
    (case c21 => k_is)
    (case k21 => k_is)
    (case a22 => k_is)
    (case l22 => k_is)
    (case c22 => k_is)
    (case k22 => k_is)
    (case a23 => k_is)
    (case l23 => k_is)
    (case c23 => k_is)
    (case k23 => k_is)
    (case a24 => k_is)
    (case l24 => k_is)
    (case c24 => k_is)
    (case k24 => k_is)
    (case a25 => k_is)
    (case l25 => k_is)
    (case c25 => k_is)
    (case k25 => k_is)
    (case a26 => k_is)
    (case l26 => k_is)
    (case c26 => k_is)
    (case k26 => k_is)
    (case a27 => k_is)
    (case l27 => k_is)
    (case c27 => k_is)
    (case k27 => k_is)
    (case a28 => k_is)
    (case l28 => k_is)
    (case c28 => k_is)
    (case k28 => k_is)
    (case a29 => k_is)
    (case l29 => k_is)
    (case c29 => k_is)
    (case k29 => k_is)
    (case a30 => k_is)
    (case l30 => k_is)
    (case c30 => k_is)
    (case k30 => k_is)
    (case a31 => k_is)
    (case l31 => k_is)
    (case c31 => k_is)
    (case k31 => k_is)
    (case a32 => k_is)
    (case l32 => k_is)
    (case c32 => k_is)
    (case k32 => k_is)
    (case a33 => k_is)
    (case l33 => k_is)
    (case c33 => k_is)
    (case k33 => k_is)
    (case a34 => k_is)
    (case l34 => k_is)
    (case c34 => k_is)
    (case k34 => k_is)
    (case a35 => k_is)
    (case l35 => k_is)
    (case c35 => k_is)
    (case k35 => k_is)
    (case a36 => k_is)
    (case l36 => k_is)
    (case c36 => k_is)
    (case k36 => k_is)
    (case a37 => k_is)
    (case l37 => k_is)
    (case c37 => k_is)
    (case k37 => k_is)
    (case a38 => k_is)
    (case l38 => k_is)
    (case c38 => k_is)
    (case k38 => k_is)
    (case q38_0 => k_is)
    (case s38_0 => exact rfl)
    (case a39 => k_is)
    (case l39 => k_is)
    (case c39 => k_is)
    (case k39 => k_is)
    (case q39_0 => k_is)
    (case s39_0 => exact rfl)
    (case aL => k_is)
    (case lL => k_is)
    (case cL => k_is)
    (case kL => k_is)
    (case gPainter => k_is)
    (case pgPainter => k_is)
    (case hdPainter => k_is)
    (case poPainter => k_is)
    (case saPainter => k_is)
    (case rdPainter => k_is)
    (case gaPainter => k_is)
    (case nPainter_name => k_is)
    (case nPainter_day => k_is)
    (case nPainter_post => k_is)
    (case nPainter_stride => k_is)
    (case vPainterMAX_DAY => k_is)
    (case wPainterMAX_DAY => exact ⟨_, rfl⟩)
    (case vPainterMAX_POST => k_is)
    (case wPainterMAX_POST => exact ⟨_, rfl⟩)
    (case vPainterMAX_STRIDE => k_is)
    (case wPainterMAX_STRIDE => exact ⟨_, rfl⟩)
    (case a40 => k_is)
    (case i40 => k_is)
    (case l40 => k_is)
    (case c40 => k_is)
    (case k40 => k_is)
    (case mkPainter => k_is)
    (case kcPainter => k_is)
    (case a41 => k_is)
    (case e41 => k_is)
    (case l41 => k_is)
    (case c41 => k_is)
    (case k41 => k_is)
    (case a42 => k_is)
    (case s42 => k_is)
    (case t42 => k_is)
    (case e42 => k_is)
    (case l42 => k_is)
    (case c42 => k_is)
    (case k42 => k_is)
    (case a43 => k_is)
    (case s43 => k_is)
    (case t43 => k_is)
    (case e43 => k_is)
    (case l43 => k_is)
    (case c43 => k_is)
    (case k43 => k_is)
    (case a44 => k_is)
    (case s44 => k_is)
    (case t44 => k_is)
    (case e44 => k_is)
    (case l44 => k_is)
    (case c44 => k_is)
    (case k44 => k_is)
    (case a45 => k_is)
    (case s45 => k_is)
    (case t45 => k_is)
    (case e45 => k_is)
    (case l45 => k_is)
    (case c45 => k_is)
    (case k45 => k_is)
    (case gFence => k_is)
    (case pgFence => k_is)
    (case hdFence => k_is)
    (case poFence => k_is)
    (case saFence => k_is)
    (case rdFence => k_is)
    (case gaFence => k_is)
    (case nFence_painters => k_is)
    (case nFence_by_name => k_is)
    (case a46 => k_is)
    (case i46 => k_is)
    (case l46 => k_is)
    (case c46 => k_is)
    (case k46 => k_is)
    (case mkFence => k_is)
    (case kcFence => k_is)
    (case a47 => k_is)
    (case s47 => k_is)
    (case t47 => k_is)
    (case e47 => k_is)
    (case l47 => k_is)
    (case c47 => k_is)
    (case k47 => k_is)
    (case a48 => k_is)
    (case i48 => k_is)
    (case l48 => k_is)
    (case c48 => k_is)
    (case k48 => k_is)
    (case gHistory => k_is)
    (case pgHistory => k_is)
    (case hdHistory => k_is)
    (case poHistory => k_is)
    (case saHistory => k_is)
    (case rdHistory => k_is)
    (case gaHistory => k_is)
    (case nHistory_fence => k_is)
    (case nHistory_rows => k_is)
    (case nHistory_by_name => k_is)
    (case nHistory_stopped => k_is)
    (case a49 => k_is)
    (case i49 => k_is)
    (case l49 => k_is)
    (case c49 => k_is)
    (case k49 => k_is)
    (case mkHistory => k_is)
    (case kcHistory => k_is)
    (case a50 => k_is)
    (case s50 => k_is)
    (case t50 => k_is)
    (case e50 => k_is)
    (case l50 => k_is)
    (case c50 => k_is)
    (case k50 => k_is)
    (case ax1 => k_is)
    (case ax2 => k_is)
    (case ax3 => k_is)
    (case ax4 => k_is)
    (case ax5 => k_is)
    (case ax6 => k_is)
    (case ax7 => decide)
    (case y1Painter => k_is)
    (case y2Painter => k_is)
    (case y3Painter => k_is)
    (case y4Painter => k_is)
    (case y1Fence => k_is)
    (case y2Fence => k_is)
    (case y3Fence => k_is)
    (case y4Fence => k_is)
    (case r19q => exact rfl)
    (case v19x => k_is)
    (case w19x => exact rfl)
    (case n19q => first | exact rfl | kernel_rfl)
    (case neq_CHistory_CPainter => decide)
    (case neq_CHistory_CFence => decide)
    (case GMAX_ARGUMENT => k_is)
    (case HMAX_ARGUMENT => exact ⟨_, rfl⟩)
    (case GMAX_PAINTERS => k_is)
    (case HMAX_PAINTERS => exact ⟨_, rfl⟩)
    (case GWINDOW => k_is)
    (case HWINDOW => exact ⟨_, rfl⟩)
    (case bgcd => k_is)
    (case zlen => k_is)
    (case zint => k_is)
    (case zabs => k_is)
    (case zlist => k_is)
    (case zrange => k_is)
    (case zmin => k_is)
    (case zmax => k_is)
    (case zrepr => k_is)
    (case zstr => k_is)
    (case zbool => k_is)
    (case zisinstance => k_is)
    (case zany => k_is)
    (case zdivmod => k_is)
    (case zenumerate => k_is)
    (case ztuple => k_is)
    (case zsorted => k_is)
    (case zzip => k_is)
    (case zsum => k_is)
