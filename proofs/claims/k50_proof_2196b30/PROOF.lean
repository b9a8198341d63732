import PyProof.Rows.All
import Wide.All
import OpenK.AllK
import Wide.FinOn
import HandS.ForMost
import HandS.Property
import HandS.ClsMeth
import HandS.IsInst
import HandS.Wide
import HandS.StrMore
import HandS.FStr
import HandS.RaiseMore
import HandS.Codes
import HandS.Style
import HandS.Flow
import HandS.Defaults
import PyProof.ReprRoads
import PyProof.ReprLen
import PyProof.Rows.RegStrFacts
import HandS.MakeKwOnly
import KE.GoesEnum
import HandS.Star
import HandS.Walk
import HandS.OwnEq
import KE.KOpsOwn
import KE.KExcIs
import KE.KNest
import HandS.Exc
import HandS.ExcInit
import HandS.ExcField
import HandS.WordsExc
import HandS.ExcIs
import HandS.Dict
import HandS.Lambda
import HandS.Nested
import HandS.SortKw
import HandS.SortRule
import KE.DatumOrd
import HandS.Call
import HandS.DictComp
import PyProof.FitsInt
import HandS.EndTab
import KE.SortData
import PyProof.Rows.RuleDivmod
import HandS.Zip
import PyProof.DictUpdate
import HandS.Gcd
import PySem.Challenge.RW_paintposts_k50_whole_full_from_with_hole
set_option Elab.async false
set_option linter.all false
set_option maxRecDepth 100000
set_option maxHeartbeats 4000000
/-! Ur0: what every law of this program starts with: short forms of calls, the pen, wide division, static methods. -/
namespace Ur
open PySem PySem.Spec PyProof.Rows L2

/-! ### calls in short -/
/-- a def of the text, where it stands -/
def Dfn (K : PySem.W.Frag) (mg : Str → Option Value) (x : Str) (st : Stmt) (ps : List Str) : Prop :=
  ∃ (f : Addr) (fd : FuncData), Fun K x x st f fd ∧ Binds K fd ps [] ∧ mg x = some (.ref f)
/-- a name of the module that can be called: it keeps the promise sp at level k -/
def Cal (P : Program) (w : World) (K : PySem.W.Frag) (mg : Str → Option Value) (base : Heap) (k : Nat) (x : Str) (ps : List Str) (sp : Sp) : Prop :=
  ∃ (f : Addr) (fd : FuncData), FnOk P w K mg base CX0 k f fd ps sp ∧ PySem.W.keepIn K (.ref f) = true ∧ Binds K fd ps [] ∧ mg x = some (.ref f)
section
variable {P : Program} {w : World} {K : PySem.W.Frag} {mg : Str → Option Value} {base : Heap} {k : Nat} {x : Str} {ps : List Str} {sp : Sp} {st : Stmt}
theorem Dfn.cal {N : List Str} (D : Dfn K mg x st ps) (S : FnScope N ps (defScope st)) (len : ∀ vs H Q E, sp vs H Q E → vs.length = ps.length)
    (hbody : ∀ (f : Addr) (cdv : Value) (A : Around) (outer : List Env) (s : Shared) (H : Hp) (vs : List V) (Q : VK) (E : XK), Room k (A.deeper (envOfC x (defScope st) s.heap.objs.size f cdv)) → sp vs H Q E →
      ∃ t, PSs (cxOf CX0 P w K mg base N x (defScope st) f cdv A outer s H E).nox (defBody st) t ∧ t { nx := fun _ H' => Q .non H', rt := Q } (start N vs) H) :
    Cal P w K mg base (k + 1) x ps sp := by
  obtain ⟨f, fd, F, b, m⟩ := D
  exact ⟨f, fd, F.ok S len fun cdv A outer s H vs Q E hr h => hbody f cdv A outer s H vs Q E hr h, F.kp, b, m⟩
end
section
variable {X : Cx} {k : Nat} {x : Str} {ps : List Str} {sp : Sp} {e : Expr} {es : List Expr} {t : TA} {p pos : Pos}
theorem pe_cal (c : Cal X.prog X.w X.K X.mg X.base k x ps sp) (hr : Room k X.A) (ha : PA X (e :: es) t) (hg : Gl X x := by rfl) (hdb : (x == ("__debug__" : Str)) = false := by decide)
    (he : starEach (e :: es) X.env = (false, eval e X.env) :: starEach es X.env := by rfl) (hpl : (backTo pos (starEach es X.env)).any (·.1) = false := by rfl) :
    PE X (.Call (.Name x p) (e :: es) [] pos) (tCall sp [] E0 t) := by
  obtain ⟨f, fd, F, kp, b, m⟩ := c
  exact pe_call F hr hg m kp b .nil pass0 ha (hdb := hdb) (he := he) (hpl := hpl)
end

/-! ### heaps: all stands as it stood, but what is at p -/
def Keep (p : Addr) (H H' : Hp) : Prop := ∀ b o, H b = some o → b ≠ p → H' b = some o
theorem Keep.refl {p : Addr} {H : Hp} : Keep p H H := fun _ _ h _ => h
theorem Keep.trans {p : Addr} {H H1 H2 : Hp} (a : Keep p H H1) (b : Keep p H1 H2) : Keep p H H2 := fun c o h n => b c o (a c o h n) n
theorem Keep.of {p : Addr} {H H' : Hp} (s : Same H H') : Keep p H H' := fun b o h _ => s b o h
theorem Keep.at_ {p : Addr} {H : Hp} {o : HO} : Keep p H (upd H p o) := fun b u h n => by rw [upd_ne n]; exact h
theorem same_new {H : Hp} {p : Addr} (h : H p = none) (o : HO) : Same H (upd H p o) := fun b u q => by rw [upd_ne (ne_of_none q h)]; exact q
theorem Keep.new {p q : Addr} {H H' : Hp} {o : HO} (a : Keep p H H') (h : H' q = none) : Keep p H (upd H' q o) := a.trans (Keep.of (same_new h o))
theorem Keep.at_new {p a : Addr} {H H' : Hp} {o : HO} (k : Keep p H H') (h : H a = none) : Keep p H (upd H' a o) := fun b u e n => by rw [upd_ne (ne_of_none e h)]; exact k b u e n
theorem Keep.lst {p a : Addr} {K : PySem.W.Frag} {H H' : Hp} {xs : List V} {kvs : List (Key × V)} (k : Keep p H H') (hp : H p = some (.dK kvs)) (h : SqL K H a xs) : SqL K H' a xs := by
  rcases h with (h | ⟨o, h⟩) | h
  · exact .inl (.inl (k _ _ h (ne_of h hp (by intro z; cases z))))
  · exact .inl (.inr ⟨o, k _ _ h (ne_of h hp (by intro z; cases z))⟩)
  · exact .inr h
/-- a new address is none of the old ones, also where things were kept -/
theorem Keep.none_of {p a : Addr} {H H' : Hp} (k : Keep p H H') (h : H' a = none) (n : a ≠ p) : H a = none := by
  cases q : H a with
  | none => rfl
  | some o => rw [k a o q n] at h; cases h

/-! ### // by any divisor but 0, of up to 9000 bits -/
def CDivX (_ j : Int) : Prop := j ≠ 0 ∧ j.natAbs.log2 < 9000
theorem op_fdivX {X : Cx} : OpR X (binaryOp .FloorDiv) (rI CDivX fun i j => .int (i.fdiv j)) := opI fun i j _ _ _ _ _ hc q => PyProof.Rows.floordiv_int hc.1 q (.inl (PyProof.noPylong_of_log2 hc.2))
theorem log2_small {i : Int} {b : Nat} (h : i.natAbs < 2 ^ b) (hb : 0 < b) : i.natAbs.log2 < b := PySem.Flt.log2_lt_of hb h

/-! ### a static method, read off its class -/
structure SMet (K : PySem.W.Frag) (C : Addr) (mc : Value) (m : Str) (p g : Addr) : Prop where
  at_ : PySem.W.findCls K (.ref C) mc m = some (.get (.builtin "staticmethod.__get__") (.ref p) .none (.ref C))
  rc : ∃ rest, PySem.W.recIn K p "staticmethod" = some (.ref g :: rest)
  kp : PySem.W.keepIn K (.ref g) = true
def tSMeth (C : Addr) (sp : Sp) (E : XK) (ta : TE) (t : TA) : TE := fun σ H Q => ta σ H fun x H1 => x = .ref C ∧ t σ H1 fun vs H2 => sp vs H2 Q E
section
variable {X : Cx} {CX : CXT} {k : Nat} {C p g : Addr} {mc : Value} {sp : Sp} {E : XK} {o e : Expr} {es : List Expr} {m : Str} {pos apos : Pos} {ta : TE} {t : TA} {pl : Sem Bool} {fd : FuncData} {ps : List Str}
theorem pe_smeth (he : PE X o ta) (r : ClX.CRead X.K C mc) (c : SMet X.K C mc m p g) (F : FnOk X.prog X.w X.K X.mg X.base CX k g fd ps sp) (hb : Binds X.K fd ps []) (hr : Room k X.A) (hx : Passes CX X E) (ha : PA X (e :: es) t)
    (hst : starEach (e :: es) X.env = (false, eval e X.env) :: starEach es X.env := by rfl) (hpl : (backTo pos (starEach es X.env)).any (·.1) = false := by rfl)
    (ht : eval (.Call (.Attribute o m apos) (e :: es) [] pos) X.env = (do let ov ← eval o X.env; standAt apos.atName; let (f, first) ← holding [ov] (getMethod ov m pl); callWith pos f first (backTo pos (starEach (e :: es) X.env)) (backToKw pos (keywordEach [] X.env))) := by rfl) :
    PE X (.Call (.Attribute o m apos) (e :: es) [] pos) (tSMeth C sp E ta t) := by
  refine ⟨fun pins s σ H Q I h => ?_⟩
  refine PySem.W.methodCall_KW (pl := pl) (thn (he.run pins s σ H _ I h) fun u s1 ⟨x, H1, I1, rx, ex, q⟩ => ?_) ht
  subst ex
  obtain rfl : u = Value.ref C := rx
  obtain ⟨rest, hp⟩ := c.rc
  refine PySem.W.method_cls I1.kIn r.ga ?_
  refine PySem.W.cls_bind I1.kIn r.rd c.at_ (wpAny_call (PySem.W.sm_get (s := { s1 with toks := s1.toks + 1 }) I1.kIn hp (PySem.W.handed_on rfl ?_)))
  refine PySem.W.callWith_K (h₀ := X.base) I.ok.mod.kin c.kp (thn (ha.run pos pins _ σ H1 _ (I1.tok _) q) fun us s3 ⟨vs, H2, I3, rv, q2⟩ => ⟨I3.kIn, ?_⟩) hst hpl
  exact run_fn F hr hb .nil hx I3 rv (by rw [List.append_nil]; exact q2)
end
end Ur
/-! K1: the law's own draws: the pen, draw, pick, around. -/
namespace Ur
open PySem PySem.Spec PyProof.Rows L2
def topS (i : Nat) : Stmt := PySem.Challenge.pw_paintposts_k50_whole_full_from_with_hole.main.body.getD i (.Pass ⟨0, 0, 0, 0⟩)

/-- the built-in names are not the module's -/
structure Blt (mg : Str → Option Value) : Prop where
  len_ : mg "len" = none
  int_ : mg "int" = none
  abs_ : mg "abs" = none
  list_ : mg "list" = none
  range_ : mg "range" = none
  min_ : mg "min" = none
  max_ : mg "max" = none
  repr_ : mg "repr" = none
  str_ : mg "str" = none
  bool_ : mg "bool" = none
  isinstance_ : mg "isinstance" = none
  any_ : mg "any" = none
  divmod_ : mg "divmod" = none

/-! ### the pen -/
def penK (l : Addr) (b r : Int) : List (Key × V) := [(Sum.inr "cells", .ref l), (Sum.inr "begun", .int b), (Sum.inr "rest", .int r)]
theorem pen_made (l : Addr) (b r : Int) : mergeK [] [(Sum.inr "cells", V.ref l), (Sum.inr "begun", V.int b), (Sum.inr "rest", V.int r)] = penK l b r := rfl
structure Pen (H : Hp) (p l : Addr) (n : Nat) : Prop where
  ex : ∃ (cs : List Int) (b r : Int), H p = some (.dK (penK l b r)) ∧ H l = some (.lst (cs.map V.int)) ∧ cs.length ≤ 63 ∧ 0 ≤ b ∧ b ≤ (n : Int) ∧ 0 ≤ r
section
variable {H H' : Hp} {p l q : Addr} {n m : Nat} {o : HO}
theorem Pen.dk (P : Pen H p l n) : ∃ kvs, H p = some (.dK kvs) := let ⟨cs, b, r, h, _⟩ := P.ex; ⟨_, h⟩
theorem Pen.same (P : Pen H p l n) (s : Same H H') : Pen H' p l n := let ⟨cs, b, r, h, h2, z⟩ := P.ex; ⟨cs, b, r, s _ _ h, s _ _ h2, z⟩
theorem Pen.new (P : Pen H p l n) (h : H q = none) : Pen (upd H q o) p l n := P.same (same_new h o)
theorem Pen.le (P : Pen H p l n) (h : n ≤ m) : Pen H p l m := let ⟨cs, b, r, h1, h2, h3, h4, h5, h6⟩ := P.ex; ⟨cs, b, r, h1, h2, h3, h4, by omega, h6⟩
/-- a place that was free is neither of the pen's two -/
theorem Pen.ne (P : Pen H p l n) (h : H q = none) : q ≠ p := let ⟨_, e⟩ := P.dk; (ne_of_none e h).symm
theorem Pen.nl (P : Pen H p l n) (h : H q = none) : q ≠ l := let ⟨_, _, _, _, e, _⟩ := P.ex; (ne_of_none e h).symm
theorem Pen.upd (P : Pen H p l n) (h1 : q ≠ p) (h2 : q ≠ l) : Pen (upd H q o) p l n := let ⟨cs, b, r, h, h3, z⟩ := P.ex; ⟨cs, b, r, by rw [upd_ne h1.symm]; exact h, by rw [upd_ne h2.symm]; exact h3, z⟩
end
theorem cut_all {xs : List V} {n : Nat} (h : xs.length ≤ n) : cutV xs none (some (n : Int)) = xs := by
  unfold cutV
  rw [HT.sIx_none, HT.sIx_nat, Nat.min_eq_right h, List.drop_zero, Nat.sub_zero, List.take_length]
abbrev s__law_pen : Stmt := (topS 65)
abbrev N_sc__law_pen : List Str := ["_law_script"]
abbrev P__law_pen : List Str := ["_law_script"]
theorem sc__law_pen : FnScope N_sc__law_pen P__law_pen (defScope s__law_pen) := ⟨rfl, rfl, rfl, by decide +kernel, rfl, by decide +kernel, by decide +kernel⟩
def spPen (K : PySem.W.Frag) : Sp := fun vs H Q _ => ∃ (a : Addr) (ns : List Int), vs = [.ref a] ∧ SqL K H a (ns.map V.int) ∧ ns.length ≤ 63 ∧ ∀ p l H', Pen H' p l 0 → H p = none → H l = none → Same H H' → Q (.ref p) H'
section
variable {P : Program} {w : World} {K : PySem.W.Frag} {mg : Str → Option Value} {base : Heap}
theorem ok_pen (D : Dfn K mg "_law_pen" s__law_pen P__law_pen) (B : Blt mg) : Cal P w K mg base 1 "_law_pen" P__law_pen (spPen K) := by
  refine D.cal sc__law_pen (fun vs H Q E h => ?_) fun f cdv A outer s H vs Q E hr h => ?_
  · obtain ⟨a, ns, rfl, _⟩ := h
    rfl
  obtain ⟨a, ns, rfl, hS, hlen, k⟩ := h
  have hu := hu_of hr
  refine ⟨_, (pss_one (ps_ret (pe_disp (pps_cons pe_str (pe_callTy call_list_of rfl B.list_ (by decide +kernel) (pa_cons (pe_slice sl_list (pv 0) po_none (po_some pe_int)) pa_nil)) (pps_cons pe_str pe_int (pps_cons pe_str pe_int pps_nil))) (by rfl) (by rfl) (fun z => by cases z) (by decide)))), ?_⟩
  intro p hp
  refine ⟨_, rfl, 63, rfl, a, _, rfl, (same_new hp _).seq hS, fun q hq => ?_⟩
  refine ⟨q, _, rfl, .inl (SqL.of upd_same), fun l hl => ?_⟩
  have npq : p ≠ q := ne_of_none upd_same hq
  have npl : p ≠ l := by
    intro e
    rw [← e, upd_ne npq, upd_same] at hl
    cases hl
  have nql : q ≠ l := ne_of_none upd_same hl
  refine ⟨by rw [upd_ne npl, upd_ne npq, upd_same], [(Sum.inr "cells", .ref l), (Sum.inr "begun", .int 0), (Sum.inr "rest", .int 0)], rfl, (by show 3 ≤ 15; decide), ?_⟩
  have hl0 : H l = none := by
    rw [upd_ne nql.symm, upd_ne npl.symm] at hl
    exact hl
  refine k p l _ ⟨ns, 0, 0, ?_, ?_, ?_, by decide, by decide, by decide⟩ hp hl0 ?_
  · rw [pen_made]; exact upd_same
  · rw [upd_ne npl.symm, upd_same]
    exact congrArg (fun z => some (HO.lst z)) (cut_all (n := 63) (by rw [List.length_map]; exact hlen))
  · exact hlen
  · intro b o e
    have n1 := ne_of_none e hp
    have e1 : (upd H p (.dK [])) b = some o := by rw [upd_ne n1]; exact e
    have n2 := ne_of_none e1 hq
    have e2 := (by rw [upd_ne n2]; exact e1 : (upd (upd H p (.dK [])) q (.lst (cutV (ns.map V.int) none (some 63)))) b = some o)
    rw [upd_ne n1, upd_ne (ne_of_none e2 hl)]
    exact e2
end

/-! ### draw -/
abbrev s__law_draw : Stmt := (topS 66)
abbrev N_sc__law_draw : List Str := ["_law_pen_here", "_law_many", "_law_digit", "_law_site", "_law_cell", "_law_mixed"]
abbrev P__law_draw : List Str := ["_law_pen_here", "_law_many"]
theorem sc__law_draw : FnScope N_sc__law_draw P__law_draw (defScope s__law_draw) := ⟨rfl, rfl, rfl, by decide +kernel, rfl, by decide +kernel, by decide +kernel⟩
/-- the greatest bound that k further calls can serve -/
def Bd : Nat → Int
  | 0 => 60000000
  | k + 1 => 60000000 * (Bd k - 1)
def spDraw (k : Nat) : Sp := fun vs H Q _ => ∃ (p l : Addr) (many : Int) (n : Nat), vs = [.ref p, .int many] ∧ Pen H p l n ∧ n + k ≤ 2 ^ 40 ∧ 1 ≤ many ∧ many ≤ Bd k ∧ k ≤ 16 ∧
  ∀ v H', 0 ≤ v → v < many → Pen H' p l (n + (k + 1)) → Keep p H H' → Q (.int v) H'
/-- what is promised with k calls left: nothing with none -/
def spD : Nat → Sp
  | 0 => fun _ _ _ _ => False
  | k + 1 => spDraw k
theorem Dfn.none_left {P : Program} {w : World} {K : PySem.W.Frag} {mg : Str → Option Value} {base : Heap} {x : Str} {st : Stmt} {ps : List Str} (D : Dfn K mg x st ps) : Cal P w K mg base 0 x ps (fun _ _ _ _ => False) := by
  obtain ⟨f, fd, F, b, m⟩ := D
  exact ⟨f, fd, ⟨fun _ _ _ _ h => h.elim, fun _ _ _ _ _ _ _ _ _ _ _ _ _ h => h.elim⟩, F.kp, b, m⟩
theorem dpI {K : PySem.W.Frag} {H : Hp} : ∀ cs : List Int, DpAll K H (cs.map V.int) (cs.map PyData.int)
  | [] => .nil
  | c :: cs => .cons (.int c) (dpI cs)
theorem shI0 : ∀ cs : List Int, PyData.canLayAll0 (cs.map PyData.int) = true
  | [] => rfl
  | c :: cs => by
    show (PyData.canLay0 (.int c) && PyData.canLayAll0 (cs.map PyData.int)) = true
    rw [shI0 cs]
    all_goals rfl
theorem shD0 : ∀ cs : List Int, PyData.depthAll (cs.map PyData.int) = 0
  | [] => rfl
  | c :: cs => by
    show max (PyData.depth (.int c)) (PyData.depthAll (cs.map PyData.int)) = 0
    rw [shD0 cs]
    all_goals rfl
theorem shI (cs : List Int) : SeqAt.shaped (.list (cs.map PyData.int)) = true := by
  show (PyData.canLayAll0 (cs.map PyData.int) && decide (PyData.depthAll (cs.map PyData.int) + 1 ≤ 64)) = true
  rw [shI0, shD0]
  all_goals rfl
theorem get_cells {H : Hp} {p l : Addr} {b r : Int} (h : H p = some (.dK (penK l b r))) : DGet H p (.str "cells") (some (.ref l)) := DGet.k (k := Sum.inr "cells") h
theorem get_begun {H : Hp} {p l : Addr} {b r : Int} (h : H p = some (.dK (penK l b r))) : DGet H p (.str "begun") (some (.int b)) := DGet.k (k := Sum.inr "begun") h
theorem get_rest {H : Hp} {p l : Addr} {b r : Int} (h : H p = some (.dK (penK l b r))) : DGet H p (.str "rest") (some (.int r)) := DGet.k (k := Sum.inr "rest") h
theorem put_begun {H : Hp} {p l : Addr} {b r c : Int} (h : H p = some (.dK (penK l b r))) : DPut H p (.str "begun") (.int c) (upd H p (.dK (penK l c r))) := DPut.k (k := Sum.inr "begun") h (by show 3 < sizeLine; decide)
theorem put_rest {H : Hp} {p l : Addr} {b r c : Int} (h : H p = some (.dK (penK l b r))) : DPut H p (.str "rest") (.int c) (upd H p (.dK (penK l b c))) := DPut.k (k := Sum.inr "rest") h (by show 3 < sizeLine; decide)
theorem Bd_le (k : Nat) (h : k ≤ 16) : Bd k < 2 ^ 480 := by
  have : k = 0 ∨ k = 1 ∨ k = 2 ∨ k = 3 ∨ k = 4 ∨ k = 5 ∨ k = 6 ∨ k = 7 ∨ k = 8 ∨ k = 9 ∨ k = 10 ∨ k = 11 ∨ k = 12 ∨ k = 13 ∨ k = 14 ∨ k = 15 ∨ k = 16 := by omega
  rcases this with rfl | rfl | rfl | rfl | rfl | rfl | rfl | rfl | rfl | rfl | rfl | rfl | rfl | rfl | rfl | rfl | rfl <;> decide +kernel
theorem em0 (a : Int) {m : Int} (h : 0 < m) : 0 ≤ a % m := Int.emod_nonneg a (by omega)
theorem em1 (a : Int) {m : Int} (h : 0 < m) : a % m < m := Int.emod_lt_of_pos a h
section
variable {P : Program} {w : World} {K : PySem.W.Frag} {mg : Str → Option Value} {base : Heap}
set_option maxHeartbeats 16000000 in
theorem draw_step {k : Nat} (D : Dfn K mg "_law_draw" s__law_draw P__law_draw) (B : Blt mg) (G : Cal P w K mg base k "_law_draw" P__law_draw (spD k)) : Cal P w K mg base (k + 1) "_law_draw" P__law_draw (spDraw k) := by
  refine D.cal sc__law_draw (fun vs H Q E h => ?_) fun f cdv A outer s H vs Q E hr h => ?_
  · obtain ⟨p, l, many, n, rfl, _⟩ := h
    rfl
  obtain ⟨p, l, many, n, rfl, Pn, hn, h1, hm, hk, q⟩ := h
  have hu := hu_of hr
  obtain ⟨cs, b, r, hp, hl, hcs, hb0, hbn, hr0⟩ := Pn.ex
  have hm2 : many.natAbs < 2 ^ 480 := by have := Bd_le k hk; omega
  have dv : ∀ r : Int, CDivW r many := fun r => wide_div (by omega) hm2 (by decide) (by decide)
  have nlp : l ≠ p := ne_of hl hp (by intro z; cases z)
  have pw : CPow 10 18 := ⟨by decide, by decide, by decide⟩
  refine ⟨_, (pss_cons (ps_if (pt_cmpR op_gt (pe_dget hu (pv 0) pe_str (fun _ _ => rfl)) pe_int (nomark _)) (pss_cons (ps_set (i := 2) sc__law_draw.nd rfl (Or.inl rfl) (pe_op op_mod (pe_callTy call_int1 rfl B.int_ (by decide +kernel) (pa_cons (pe_dget hu (pv 0) pe_str (fun _ _ => rfl)) pa_nil)) (pv 1))) (pss_cons (ps_dput hu (pv 0) pe_str (pe_op op_fdivW (pe_dget hu (pv 0) pe_str (fun _ _ => rfl)) (pv 1)) rfl) (pss_one (ps_ret (pv 2))))) pss_nil) (pss_cons (ps_set (i := 3) sc__law_draw.nd rfl (Or.inl rfl) (pe_dget hu (pv 0) pe_str (fun _ _ => rfl))) (pss_cons (ps_dput hu (pv 0) pe_str (pe_op op_add (pv 3) pe_int) rfl) (pss_cons (ps_set (i := 4) sc__law_draw.nd rfl (Or.inl rfl) (pe_op op_add (pe_op op_mul pe_int (pv 3)) pe_int)) (C8.pss_cut (ps_if (pt_cmpR (op_neD hr.units) (pe_dget hu (pv 0) pe_str (fun _ _ => rfl)) (pe_lst pa_nil) (nomark _)) (pss_one (ps_set (i := 4) sc__law_draw.nd rfl (Or.inl rfl) (pe_ix ix_list (pe_dget hu (pv 0) pe_str (fun _ _ => rfl)) (pe_op op_mod (pe_callTy call_int1 rfl B.int_ (by decide +kernel) (pa_cons (pv 3) pa_nil)) (pe_callB call_len_seq rfl B.len_ PySem.boot_len (pa_cons (pe_dget hu (pv 0) pe_str (fun _ _ => rfl)) pa_nil))) (fun _ _ => rfl)))) pss_nil) (C8.pss_cut (ps_if (PW.pt (pw_and (pt_cmpR op_lt (pv 3) (pe_callB call_len_seq rfl B.len_ PySem.boot_len (pa_cons (pe_dget hu (pv 0) pe_str (fun _ _ => rfl)) pa_nil)) (nomark _)) (pw_and1 (pt_cmpR op_ge (pe_callB call_abs rfl B.abs_ (by decide +kernel) (pa_cons (pv 4) pa_nil)) (pe_op op_pow pe_int pe_int) (nomark _))))) (pss_cons (ps_dput hu (pv 0) pe_str (pe_op op_fdivW (pe_op op_sub (pe_callB call_abs rfl B.abs_ (by decide +kernel) (pa_cons (pv 4) pa_nil)) (pe_op op_pow pe_int pe_int)) (pv 1)) rfl) (pss_one (ps_ret (pe_op op_mod (pe_op op_sub (pe_callB call_abs rfl B.abs_ (by decide +kernel) (pa_cons (pv 4) pa_nil)) (pe_op op_pow pe_int pe_int)) (pv 1))))) pss_nil) (C8.pss_cut (ps_set (i := 5) sc__law_draw.nd rfl (Or.inl rfl) (pe_op op_mod (pe_callTy call_int1 rfl B.int_ (by decide +kernel) (pa_cons (pe_op op_add (pe_op op_add (pe_op op_mul (pe_op op_mod (pe_callTy call_int1 rfl B.int_ (by decide +kernel) (pa_cons (pv 4) pa_nil)) pe_int) pe_int) (pe_op op_mul (pe_op op_mul pe_int (pv 3)) (pv 3))) pe_int) pa_nil)) pe_int)) (C8.pss_cut (ps_set (i := 5) sc__law_draw.nd rfl (Or.inl rfl) (pe_op op_mod (pe_callTy call_int1 rfl B.int_ (by decide +kernel) (pa_cons (pe_op op_add (pe_op op_add (pe_op op_add (pe_op op_mul (pv 5) (pv 5)) (pe_op op_mul pe_int (pv 5))) (pe_op op_mul pe_int (pv 3))) pe_int) pa_nil)) pe_int)) (C8.pss_cut (ps_set (i := 5) sc__law_draw.nd rfl (Or.inl rfl) (pe_op op_fdivW (pe_op op_mod (pe_callTy call_int1 rfl B.int_ (by decide +kernel) (pa_cons (pe_op op_mul (pv 5) (pe_op op_add (pv 5) pe_int)) pa_nil)) pe_int) pe_int)) (C8.pss_cut (ps_if (pt_cmpR op_gt (pv 1) pe_int (nomark _)) (pss_one (ps_set (i := 5) sc__law_draw.nd rfl (Or.inl rfl) (pe_op op_add (pe_op op_mod (pe_callTy call_int1 rfl B.int_ (by decide +kernel) (pa_cons (pv 5) pa_nil)) pe_int) (pe_op op_mul pe_int (pe_cal G hr (pa_cons (pv 0) (pa_cons (pe_op op_add (pe_op op_fdivW (pv 1) pe_int) pe_int) pa_nil))))))) pss_nil) (pss_one (ps_ret (pe_op op_mod (pe_callTy call_int1 rfl B.int_ (by decide +kernel) (pa_cons (pv 5) pa_nil)) (pv 1)))))))))))))), ?_⟩
  refine ⟨_, rfl, p, .int r, rfl, get_rest hp, _, _, rfl, rfl, _, rfl, ?_⟩
  refine ite2 (fun c => ?_) (fun c => ?_)
  · refine ⟨_, rfl, p, .int r, rfl, get_rest hp, .inl ⟨_, rfl, _, rfl, _, _, rfl, rfl, by omega, ?_⟩⟩
    refine ⟨_, rfl, p, .int r, rfl, get_rest hp, _, rfl, _, _, rfl, rfl, dv _, _, rfl, p, _, rfl, put_rest hp, ?_⟩
    refine ⟨_, rfl, ?_⟩
    exact q _ _ (em0 _ (by omega)) (em1 _ (by omega)) ⟨cs, b, r / many, upd_same, by rw [upd_ne nlp]; exact hl, hcs, hb0, by omega, Int.ediv_nonneg hr0 (by omega)⟩ Keep.at_
  refine ⟨_, rfl, p, .int b, rfl, get_begun hp, ?_⟩
  refine ⟨_, rfl, _, _, rfl, rfl, _, rfl, p, _, rfl, put_begun hp, ?_⟩
  refine ⟨_, rfl, _, _, rfl, rfl, .inl ⟨by decide, by decide⟩, _, _, rfl, rfl, ?_⟩
  have hp1 : (upd H p (.dK (penK l (b + 1) r))) p = some (.dK (penK l (b + 1) r)) := upd_same
  have hl1 : (upd H p (.dK (penK l (b + 1) r))) l = some (.lst (cs.map V.int)) := by rw [upd_ne nlp]; exact hl
  have kp1 : Keep p H (upd H p (.dK (penK l (b + 1) r))) := Keep.at_
  generalize upd H p (.dK (penK l (b + 1) r)) = H1 at hp1 hl1 kp1 ⊢
  refine ⟨fun σ' H' => ∃ c : Int, σ' = [some (.ref p), some (.int many), none, some (.int b), some (.int c), none] ∧ H' p = some (.dK (penK l (b + 1) r)) ∧ H' l = some (.lst (cs.map V.int)) ∧ Keep p H H', ?_, ?_⟩
  · refine ⟨_, rfl, p, .ref l, rfl, get_cells hp1, (by show 0 ≤ sizeLine; decide), fun e he => ?_⟩
    have hp2 := same_new he (.lst []) _ _ hp1
    have hl2 := same_new he (.lst []) _ _ hl1
    have kp2 := kp1.new (o := .lst []) he
    refine ⟨.list (cs.map PyData.int), .list [], .lst (SqL.of hl2) (dpI cs), .lst (SqL.of upd_same) .nil, shI cs, rfl, _, rfl, ?_⟩
    generalize upd H1 e (.lst []) = H2 at hp2 hl2 kp2 ⊢
    cases hcs0 : cs with
    | nil =>
      refine iteF ?_
      exact ⟨_, rfl, hp2, by rw [← hcs0]; exact hl2, kp2⟩
    | cons c0 cr =>
      refine iteT ?_
      have hlen : 0 < ((cs.map V.int).length : Int) := by rw [List.length_map, hcs0, List.length_cons]; omega
      obtain ⟨c, hc⟩ : ∃ c, atI (cs.map V.int) (b % ((cs.map V.int).length : Int)) = some (.int c) := by
        have h0 := em0 b hlen
        have h1 := em1 b hlen
        generalize b % ((cs.map V.int).length : Int) = i at h0 h1
        obtain ⟨j, rfl⟩ : ∃ j : Nat, i = (j : Int) := ⟨i.toNat, by omega⟩
        rw [List.length_map] at h1
        have hj : j < cs.length := by omega
        exact ⟨cs[j], atI_nat (by rw [List.getElem?_map, List.getElem?_eq_getElem hj]; all_goals rfl)⟩
      refine ⟨_, rfl, p, .ref l, rfl, get_cells hp2, _, rfl, .inl ⟨_, rfl, _, rfl, p, .ref l, rfl, get_cells hp2, l, _, rfl, .inl (SqL.of hl2), _, _, rfl, rfl, hlen, l, _, _, _, rfl, rfl, SqL.of hl2, hc, ?_⟩⟩
      exact ⟨c, rfl, hp2, by rw [← hcs0]; exact hl2, kp2⟩
  rintro σ' H3 ⟨c, rfl, hp3, hl3, kp3⟩
  refine ⟨fun σ' H' => σ' = [some (.ref p), some (.int many), none, some (.int b), some (.int c), none] ∧ H' = H3, ?_, ?_⟩
  · refine ⟨_, rfl, _, rfl, p, .ref l, rfl, get_cells hp3, l, _, rfl, .inl (SqL.of hl3), _, _, rfl, rfl, _, rfl, ?_⟩
    refine ite2 (fun _ => ?_) (fun _ => ?_)
    · refine ⟨_, rfl, _, rfl, _, _, rfl, rfl, pw, _, _, rfl, rfl, _, rfl, ?_⟩
      refine ite2 (fun c2 => ?_) (fun _ => ?_)
      · refine ⟨_, rfl, _, rfl, _, _, rfl, rfl, pw, _, _, rfl, rfl, _, rfl, _, _, rfl, rfl, dv _, _, rfl, p, _, rfl, put_rest hp3, ?_⟩
        refine ⟨_, rfl, _, rfl, _, _, rfl, rfl, pw, _, _, rfl, rfl, _, rfl, _, _, rfl, rfl, by omega, ?_⟩
        have c3 := of_decide_eq_true c2
        exact q _ _ (em0 _ (by omega)) (em1 _ (by omega)) ⟨cs, b + 1, _, upd_same, by rw [upd_ne nlp]; exact hl3, hcs, by omega, by omega, Int.ediv_nonneg (by omega) (by omega)⟩ (kp3.trans Keep.at_)
      · exact ⟨rfl, rfl⟩
    · exact iteF ⟨rfl, rfl⟩
  rintro σ' H' ⟨rfl, rfl⟩
  have c1 : -(2 ^ 64) < c % 4294967279 ∧ c % 4294967279 < 2 ^ 64 := by
    have := em0 c (m := 4294967279) (by decide)
    have := em1 c (m := 4294967279) (by decide)
    omega
  have c2 : -(2 ^ 64) < 40503 * b ∧ 40503 * b < 2 ^ 64 := by omega
  refine ⟨fun σ' H'' => ∃ m : Int, σ' = [some (.ref p), some (.int many), none, some (.int b), some (.int c), some (.int m)] ∧ 0 ≤ m ∧ m < 4294967291 ∧ H'' = H', ?_, ?_⟩
  · refine ⟨_, rfl, .inl ⟨_, rfl, _, _, rfl, rfl, by omega, _, _, rfl, rfl, .inl c1, _, rfl, _, _, rfl, rfl, .inl ⟨by decide, by decide⟩, _, rfl, _, _, rfl, rfl, .inl c2, _, _, rfl, rfl, _, _, rfl, rfl, .inl ⟨_, rfl, _, _, rfl, rfl, by omega, ?_⟩⟩⟩
    exact ⟨_, rfl, em0 _ (by decide), em1 _ (by decide), rfl⟩
  rintro σ' H' ⟨m1, rfl, d0, d1, rfl⟩
  have m1b : -(2 ^ 64) < m1 ∧ m1 < 2 ^ 64 := by omega
  refine ⟨fun σ' H'' => ∃ m : Int, σ' = [some (.ref p), some (.int many), none, some (.int b), some (.int c), some (.int m)] ∧ 0 ≤ m ∧ m < 4294967291 ∧ H'' = H', ?_, ?_⟩
  · refine ⟨_, rfl, _, rfl, _, _, rfl, rfl, .inl m1b, _, rfl, _, _, rfl, rfl, .inl ⟨by decide, by decide⟩, _, _, rfl, rfl, _, rfl, _, _, rfl, rfl, .inl ⟨by decide, by decide⟩, _, _, rfl, rfl, _, _, rfl, rfl, .inl ⟨_, rfl, _, _, rfl, rfl, by omega, ?_⟩⟩
    exact ⟨_, rfl, em0 _ (by decide), Int.lt_trans (em1 _ (by decide)) (by decide), rfl⟩
  rintro σ' H' ⟨m2, rfl, e0, e1, rfl⟩
  have m2b : -(2 ^ 64) < m2 ∧ m2 < 2 ^ 64 := by omega
  refine ⟨fun σ' H'' => ∃ m : Int, σ' = [some (.ref p), some (.int many), none, some (.int b), some (.int c), some (.int m)] ∧ H'' = H', ?_, ?_⟩
  · refine ⟨_, rfl, _, rfl, _, _, rfl, rfl, _, _, rfl, rfl, .inl m2b, .inl ⟨_, rfl, _, _, rfl, rfl, by omega, _, _, rfl, rfl, wide_div (b := 7) (by decide) (by decide) (by decide) (by decide), ?_⟩⟩
    exact ⟨_, rfl, rfl⟩
  rintro σ' H' ⟨m3, rfl, rfl⟩
  refine ⟨fun σ' H' => ∃ m : Int, σ' = [some (.ref p), some (.int many), none, some (.int b), some (.int c), some (.int m)] ∧ Pen H' p l (n + (k + 1)) ∧ Keep p H H', ?_, ?_⟩
  · have P3 : Pen H' p l (n + 1) := ⟨cs, b + 1, r, hp3, hl3, hcs, by omega, by omega, hr0⟩
    refine ⟨_, rfl, _, _, rfl, rfl, _, rfl, ?_⟩
    refine ite2 (fun c4 => ?_) (fun c4 => ?_)
    · have c5 := of_decide_eq_true c4
      have dk : ∃ j, k = j + 1 := by
        cases k with
        | zero => exact absurd hm (by show ¬ many ≤ 60000000; omega)
        | succ j => exact ⟨j, rfl⟩
      obtain ⟨j, rfl⟩ := dk
      have hB : many ≤ 60000000 * (Bd j - 1) := hm
      refine ⟨_, rfl, .inl ⟨_, rfl, _, _, rfl, rfl, by omega, _, rfl, _, rfl, _, _, rfl, rfl, wide_div (b := 26) (by decide) (by decide) (by decide) (by decide), _, _, rfl, rfl, p, l, _, n + 1, rfl, P3, by omega, by omega, by omega, by omega, fun v H4 v0 v1 P4 k4 => ?_⟩⟩
      refine ⟨_, _, rfl, rfl, .inl ⟨by decide, by decide⟩, _, _, rfl, rfl, ?_⟩
      exact ⟨_, rfl, P4.le (by omega), kp3.trans k4⟩
    · exact ⟨_, rfl, P3.le (by omega), kp3⟩
  rintro σ' H5 ⟨m, rfl, P5, k5⟩
  refine ⟨_, rfl, .inl ⟨_, rfl, _, rfl, _, _, rfl, rfl, by omega, ?_⟩⟩
  exact q _ _ (em0 _ (by omega)) (em1 _ (by omega)) P5 k5
theorem ok_drawN (D : Dfn K mg "_law_draw" s__law_draw P__law_draw) (B : Blt mg) : ∀ k : Nat, Cal P w K mg base k "_law_draw" P__law_draw (spD k)
  | 0 => D.none_left
  | k + 1 => draw_step D B (ok_drawN D B k)
/-- what callers use: bounds up to 10 ^ 81 -/
def spDr : Sp := fun vs H Q _ => ∃ (p l : Addr) (many : Int) (n : Nat), vs = [.ref p, .int many] ∧ Pen H p l n ∧ n ≤ 2 ^ 39 ∧ 1 ≤ many ∧ many ≤ 10 ^ 81 ∧
  ∀ v H', 0 ≤ v → v < many → Pen H' p l (n + 12) → Keep p H H' → Q (.int v) H'
theorem ok_draw (D : Dfn K mg "_law_draw" s__law_draw P__law_draw) (B : Blt mg) : Cal P w K mg base 12 "_law_draw" P__law_draw spDr := by
  obtain ⟨f, fd, F, r⟩ := ok_drawN (P := P) (w := w) (base := base) D B 12
  refine ⟨f, fd, F.imp fun vs H Q E h => ?_, r⟩
  obtain ⟨p, l, many, n, rfl, a, b, c, d, e⟩ := h
  exact ⟨p, l, many, n, rfl, a, (by show n + 11 ≤ 2 ^ 40; omega), c, Int.le_trans d (by decide +kernel), by decide, e⟩
end
end Ur
/-! K2: pick, around, power, great, names. -/
namespace Ur
open PySem PySem.Spec PyProof.Rows L2
/-! ### pick -/
abbrev s__law_pick : Stmt := (topS 67)
abbrev N_sc__law_pick : List Str := ["_law_pen_here", "_law_options"]
abbrev P__law_pick : List Str := ["_law_pen_here", "_law_options"]
theorem sc__law_pick : FnScope N_sc__law_pick P__law_pick (defScope s__law_pick) := ⟨rfl, rfl, rfl, by decide +kernel, rfl, by decide +kernel, by decide +kernel⟩
def spPickL (K : PySem.W.Frag) : Sp := fun vs H Q _ => ∃ (p l a : Addr) (xs : List V) (n : Nat), vs = [.ref p, .ref a] ∧ Pen H p l n ∧ n ≤ 2 ^ 39 ∧ SqL K H a xs ∧ 1 ≤ xs.length ∧ xs.length ≤ 1000000 ∧
  ∀ v H', v ∈ xs → Pen H' p l (n + 12) → Keep p H H' → Q v H'
def spPickS : Sp := fun vs H Q _ => ∃ (p l : Addr) (z : Str) (n : Nat), vs = [.ref p, .str z] ∧ Pen H p l n ∧ n ≤ 2 ^ 39 ∧ 1 ≤ z.length ∧ z.length ≤ 1000000 ∧
  ∀ c H', c ∈ z.cps.toList → Pen H' p l (n + 12) → Keep p H H' → Q (.str ⟨#[c]⟩) H'
theorem at_some {α : Type} {xs : List α} {i : Int} (h0 : 0 ≤ i) (h1 : i < (xs.length : Int)) : ∃ v, atI xs i = some v ∧ v ∈ xs := by
  obtain ⟨j, rfl⟩ : ∃ j : Nat, i = (j : Int) := ⟨i.toNat, by omega⟩
  have hj : j < xs.length := by omega
  exact ⟨xs[j], atI_nat (List.getElem?_eq_getElem hj), List.getElem_mem hj⟩
section
variable {P : Program} {w : World} {K : PySem.W.Frag} {mg : Str → Option Value} {base : Heap}
theorem ok_pickL (D : Dfn K mg "_law_pick" s__law_pick P__law_pick) (B : Blt mg) (CD : Cal P w K mg base 12 "_law_draw" P__law_draw spDr) : Cal P w K mg base 13 "_law_pick" P__law_pick (spPickL K) := by
  refine D.cal sc__law_pick (fun vs H Q E h => ?_) fun f cdv A outer s H vs Q E hr h => ?_
  · obtain ⟨p, l, a, xs, n, rfl, _⟩ := h
    rfl
  obtain ⟨p, l, a, xs, n, rfl, Pn, hn, hS, h1, h2, q⟩ := h
  obtain ⟨kvs, hp⟩ := Pn.dk
  refine ⟨_, (pss_one (ps_ret (pe_ix ix_list (pv 1) (pe_cal CD (hr.mono (by decide)) (pa_cons (pv 0) (pa_cons (pe_callB call_len_seq rfl B.len_ PySem.boot_len (pa_cons (pv 1) pa_nil)) pa_nil))) (fun _ _ => rfl)))), ?_⟩
  refine ⟨_, rfl, _, rfl, _, rfl, a, _, rfl, .inl hS, p, l, _, n, rfl, Pn, hn, by omega, by omega, fun v H1 v0 v1 P1 k1 => ?_⟩
  obtain ⟨x, hx, hm⟩ := at_some v0 v1
  exact ⟨a, xs, v, x, rfl, rfl, k1.lst hp hS, hx, q _ _ hm P1 k1⟩
theorem ok_pickS (D : Dfn K mg "_law_pick" s__law_pick P__law_pick) (B : Blt mg) (CD : Cal P w K mg base 12 "_law_draw" P__law_draw spDr) : Cal P w K mg base 13 "_law_pick" P__law_pick spPickS := by
  refine D.cal sc__law_pick (fun vs H Q E h => ?_) fun f cdv A outer s H vs Q E hr h => ?_
  · obtain ⟨p, l, z, n, rfl, _⟩ := h
    rfl
  obtain ⟨p, l, z, n, rfl, Pn, hn, h1, h2, q⟩ := h
  have hz : z.length ≤ sizeLine := Nat.le_trans h2 (by decide)
  refine ⟨_, (pss_one (ps_ret (pe_ix ix_str (pv 1) (pe_cal CD (hr.mono (by decide)) (pa_cons (pv 0) (pa_cons (pe_callB call_len_str rfl B.len_ PySem.boot_len (pa_cons (pv 1) pa_nil)) pa_nil))) (fun _ _ => rfl)))), ?_⟩
  refine ⟨_, rfl, _, rfl, _, rfl, _, rfl, hz, p, l, _, n, rfl, Pn, hn, by omega, by omega, fun v H1 v0 v1 P1 k1 => ?_⟩
  have e : z.length = z.cps.toList.length := by show z.cps.size = _; rw [Array.length_toList]
  obtain ⟨x, hx, hm⟩ := at_some (xs := z.cps.toList) v0 (by omega)
  exact ⟨z, v, x, rfl, rfl, hz, hx, q _ _ hm P1 k1⟩
end
/-! ### around -/
abbrev s__law_around : Stmt := (topS 68)
abbrev N_sc__law_around : List Str := ["_law_pen_here", "_law_most"]
abbrev P__law_around : List Str := ["_law_pen_here", "_law_most"]
theorem sc__law_around : FnScope N_sc__law_around P__law_around (defScope s__law_around) := ⟨rfl, rfl, rfl, by decide +kernel, rfl, by decide +kernel, by decide +kernel⟩
def spAround : Sp := fun vs H Q _ => ∃ (p l : Addr) (most : Int) (n : Nat), vs = [.ref p, .int most] ∧ Pen H p l n ∧ n ≤ 2 ^ 39 ∧ 0 ≤ most ∧ most ≤ 10 ^ 80 ∧
  ∀ v H', -most ≤ v → v ≤ most → Pen H' p l (n + 12) → Keep p H H' → Q (.int v) H'
section
variable {P : Program} {w : World} {K : PySem.W.Frag} {mg : Str → Option Value} {base : Heap}
theorem ok_around (D : Dfn K mg "_law_around" s__law_around P__law_around) (CD : Cal P w K mg base 12 "_law_draw" P__law_draw spDr) : Cal P w K mg base 13 "_law_around" P__law_around spAround := by
  refine D.cal sc__law_around (fun vs H Q E h => ?_) fun f cdv A outer s H vs Q E hr h => ?_
  · obtain ⟨p, l, most, n, rfl, _⟩ := h
    rfl
  obtain ⟨p, l, most, n, rfl, Pn, hn, h1, h2, q⟩ := h
  refine ⟨_, (pss_one (ps_ret (pe_op op_sub (pe_cal CD (hr.mono (by decide)) (pa_cons (pv 0) (pa_cons (pe_op op_add (pe_op op_mul pe_int (pv 1)) pe_int) pa_nil))) (pv 1)))), ?_⟩
  refine ⟨_, rfl, _, rfl, _, _, rfl, rfl, .inl ⟨by decide, by decide⟩, _, _, rfl, rfl, p, l, _, n, rfl, Pn, hn, by omega, by omega, fun v H1 v0 v1 P1 k1 => ?_⟩
  exact ⟨_, rfl, _, _, rfl, rfl, q _ _ (by omega) (by omega) P1 k1⟩
end
/-! ### power, great -/
abbrev s__law_power : Stmt := (topS 69)
abbrev N_sc__law_power : List Str := ["_law_figures", "_law_found", "_law_k"]
abbrev P__law_power : List Str := ["_law_figures"]
theorem sc__law_power : FnScope N_sc__law_power P__law_power (defScope s__law_power) := ⟨rfl, rfl, rfl, by decide +kernel, rfl, by decide +kernel, by decide +kernel⟩
def spPower : Sp := fun vs H Q _ => ∃ (g : Nat), vs = [.int (g : Int)] ∧ g ≤ 100 ∧ Q (.int (10 ^ g)) H
theorem pow_bits {i : Nat} (h : i ≤ 100) : ((10 : Int) ^ i).natAbs < 2 ^ 400 := by
  have e : ((10 : Int) ^ i).natAbs = 10 ^ i := by rw [Int.natAbs_pow]; rfl
  rw [e]
  exact Nat.lt_of_le_of_lt (Nat.pow_le_pow_right (by decide) h) (by decide +kernel)
section
variable {P : Program} {w : World} {K : PySem.W.Frag} {mg : Str → Option Value} {base : Heap}
theorem ok_power (D : Dfn K mg "_law_power" s__law_power P__law_power) (B : Blt mg) : Cal P w K mg base 1 "_law_power" P__law_power spPower := by
  refine D.cal sc__law_power (fun vs H Q E h => ?_) fun f cdv A outer s H vs Q E hr h => ?_
  · obtain ⟨g, rfl, _⟩ := h
    rfl
  obtain ⟨g, rfl, hg, q⟩ := h
  refine ⟨_, (pss_cons (ps_set (i := 1) sc__law_power.nd rfl (Or.inl rfl) pe_int) (pss_cons (ps_for PassesOwn.never rfl (pi_range1 rfl B.range_ (pa_cons (pv 0) pa_nil)) (pg_name (i := 2) sc__law_power.nd rfl (Or.inl rfl)) (pss_one (ps_set (i := 1) sc__law_power.nd rfl (Or.inl rfl) (pe_op op_mulW (pv 1) pe_int)))) (pss_one (ps_ret (pv 1))))), ?_⟩
  refine ⟨_, rfl, (g : Int), rfl, by omega, by omega, for_range (lo := 0) (n := (g : Int).toNat) (fun i σ H' => i ≤ g ∧ H' = H ∧ ∃ v, σ = [some (.int (g : Int)), some (.int (10 ^ i)), v]) ⟨by omega, rfl, _, rfl⟩ ?_ ?_⟩
  · rintro i σ H' hi ⟨hi2, rfl, v, rfl⟩
    refine ⟨_, rfl, _, _, rfl, rfl, wide_mul (a := 400) (b := 4) (pow_bits (by omega)) (by decide) (by decide) (by decide) (by decide), ?_⟩
    exact ⟨by omega, rfl, _, by rw [Int.pow_succ]; rfl⟩
  · rintro σ H' ⟨hi2, rfl, v, rfl⟩
    exact ⟨_, rfl, q⟩
end
theorem pow10_le {a b : Nat} (h : a ≤ b) : (10 : Int) ^ a ≤ 10 ^ b := by
  have z := Nat.pow_le_pow_right (n := 10) (by decide) h
  exact_mod_cast z
abbrev s__law_great : Stmt := (topS 70)
abbrev N_sc__law_great : List Str := ["_law_pen_here", "_law_figures", "_law_most", "_law_some"]
abbrev P__law_great : List Str := ["_law_pen_here", "_law_figures"]
theorem sc__law_great : FnScope N_sc__law_great P__law_great (defScope s__law_great) := ⟨rfl, rfl, rfl, by decide +kernel, rfl, by decide +kernel, by decide +kernel⟩
def spGreat : Sp := fun vs H Q _ => ∃ (p l : Addr) (g n : Nat), vs = [.ref p, .int (g : Int)] ∧ Pen H p l n ∧ n + 72 ≤ 2 ^ 39 ∧ 1 ≤ g ∧ g ≤ 80 ∧
  ∀ v H', 0 ≤ v → v < 10 ^ g → Pen H' p l (n + 72) → Keep p H H' → Q (.int v) H'
section
variable {P : Program} {w : World} {K : PySem.W.Frag} {mg : Str → Option Value} {base : Heap}
theorem ok_great (D : Dfn K mg "_law_great" s__law_great P__law_great) (CW : Cal P w K mg base 1 "_law_power" P__law_power spPower) (CD : Cal P w K mg base 12 "_law_draw" P__law_draw spDr) (CP : Cal P w K mg base 13 "_law_pick" P__law_pick (spPickL K)) :
    Cal P w K mg base 14 "_law_great" P__law_great spGreat := by
  refine D.cal sc__law_great (fun vs H Q E h => ?_) fun f cdv A outer s H vs Q E hr h => ?_
  · obtain ⟨p, l, g, n, rfl, _⟩ := h
    rfl
  obtain ⟨p, l, g, n, rfl, Pn, hn, g1, g2, q⟩ := h
  obtain ⟨kvs, hp⟩ := Pn.dk
  have big : (10 : Int) ≤ 10 ^ g := pow10_le g1
  have top : (10 : Int) ^ g ≤ 10 ^ 81 := pow10_le (by omega)
  refine ⟨_, (pss_cons (ps_set (i := 2) sc__law_great.nd rfl (Or.inl rfl) (pe_cal CW (hr.mono (by decide)) (pa_cons (pv 1) pa_nil))) (pss_cons (ps_set (i := 3) sc__law_great.nd rfl (Or.inl rfl) (pe_lst (pa_cons (pe_cal CD (hr.mono (by decide)) (pa_cons (pv 0) (pa_cons pe_int pa_nil))) (pa_cons (pe_cal CD (hr.mono (by decide)) (pa_cons (pv 0) (pa_cons (pv 2) pa_nil))) (pa_cons (pe_cal CD (hr.mono (by decide)) (pa_cons (pv 0) (pa_cons (pv 2) pa_nil))) pa_nil))))) (pss_one (ps_ret (pe_cal CP (hr.mono (by decide)) (pa_cons (pv 0) (pa_cons (pe_op op_cat (pv 3) (pe_lst (pa_cons (pe_op op_add (pe_op op_fdivW (pv 2) pe_int) (pe_cal CD (hr.mono (by decide)) (pa_cons (pv 0) (pa_cons pe_int pa_nil)))) (pa_cons (pe_op op_sub (pe_op op_sub (pv 2) pe_int) (pe_cal CD (hr.mono (by decide)) (pa_cons (pv 0) (pa_cons pe_int pa_nil)))) pa_nil)))) pa_nil))))))), ?_⟩
  refine ⟨_, rfl, g, rfl, by omega, ?_⟩
  generalize (10 : Int) ^ g = most at big top q ⊢
  refine ⟨_, rfl, p, l, _, n, rfl, Pn, by omega, by omega, by omega, fun v1 H1 a1 b1 P1 k1 => ?_⟩
  refine ⟨_, rfl, _, rfl, p, l, _, _, rfl, P1, by omega, by omega, by omega, fun v2 H2 a2 b2 P2 k2 => ?_⟩
  refine ⟨_, rfl, _, rfl, p, l, _, _, rfl, P2, by omega, by omega, by omega, fun v3 H3 a3 b3 P3 k3 => ?_⟩
  refine ⟨(by show 3 ≤ sizeLine; decide), fun t ht => ?_⟩
  have P4 := P3.new (o := .lst [.int v1, .int v2, .int v3]) ht
  have k4 := ((k1.trans k2).trans k3).new (o := .lst [.int v1, .int v2, .int v3]) ht
  have ht4 : (upd H3 t (.lst [.int v1, .int v2, .int v3])) t = some (.lst [.int v1, .int v2, .int v3]) := upd_same
  have tp := P3.ne ht
  have tl := P3.nl ht
  generalize upd H3 t (.lst [.int v1, .int v2, .int v3]) = H4 at P4 k4 ht4 ⊢
  refine ⟨_, rfl, _, rfl, _, rfl, _, _, rfl, rfl, wide_div (b := 4) (by decide) (by decide) (by decide) (by decide), _, rfl, p, l, _, _, rfl, P4, by omega, by omega, by omega, fun v4 H5 a4 b4 P5 k5 => ?_⟩
  refine ⟨_, _, rfl, rfl, _, rfl, _, _, rfl, rfl, _, rfl, p, l, _, _, rfl, P5, by omega, by omega, by omega, fun v5 H6 a5 b5 P6 k6 => ?_⟩
  refine ⟨_, _, rfl, rfl, (by show 2 ≤ sizeLine; decide), fun u hu => ?_⟩
  have e6 := k6 _ _ (k5 _ _ ht4 tp) tp
  have e7 := same_new hu (.lst [.int (most / 10 + v4), .int (most - 1 - v5)]) _ _ e6
  refine ⟨t, u, _, _, rfl, rfl, e7, upd_same, (by show 5 ≤ sizeLine; decide), fun y hy => ?_⟩
  refine ⟨p, l, y, _, _, rfl, (P6.new hu).new hy, by omega, SqL.of upd_same, by show 1 ≤ 5; decide, by show 5 ≤ 1000000; decide, fun v H7 hv P7 k7 => ?_⟩
  have z : ∃ i : Int, v = .int i ∧ 0 ≤ i ∧ i < most := by
    simp only [List.mem_append, List.mem_cons, List.not_mem_nil, or_false] at hv
    rcases hv with (rfl | rfl | rfl) | (rfl | rfl) <;> exact ⟨_, rfl, by omega, by omega⟩
  obtain ⟨i, rfl, i0, i1⟩ := z
  exact q i H7 i0 i1 (P7.le (by omega)) ((((k4.trans k5).trans k6).new hu).new hy |>.trans k7)
end
end Ur
/-! K3: names. -/
namespace Ur
open PySem PySem.Spec PyProof.Rows L2
/-- small letters only -/
def LetOk (z : Str) : Prop := ∀ c ∈ z.cps.toList, 97 ≤ c ∧ c ≤ 122
def NameOk (z : Str) : Prop := 1 ≤ z.length ∧ z.length ≤ 8 ∧ LetOk z
theorem LetOk.app {a b : Str} (x : LetOk a) (y : LetOk b) : LetOk (a ++ b) := fun c h => by
  rw [Str.cps_append, Array.toList_append, List.mem_append] at h
  exact h.elim (x c) (y c)
theorem LetOk.empty : LetOk Str.empty := fun c h => by simp [Str.empty] at h
theorem LetOk.one {c : Nat} (h : 97 ≤ c ∧ c ≤ 122) : LetOk ⟨#[c]⟩ := fun d hd => by
  have e : d = c := by simpa using hd
  rw [e]; exact h
def lett : Str := Str.ofString "abcdefghijklmnopqrstuvwxyz"
theorem lett_ok : LetOk lett := by unfold LetOk; decide +kernel
theorem lett_len : lett.length = 26 := by decide +kernel
theorem lett_tl : lett.cps.toList.length = 26 := by decide +kernel
theorem join_ok : ∀ ss : List Str, (∀ z ∈ ss, z.length = 1 ∧ LetOk z) → (Txt.join Str.empty ss).length = ss.length ∧ LetOk (Txt.join Str.empty ss) := by
  intro ss h
  rw [show Txt.join Str.empty ss = Str.join Str.empty ss from PySem.StrLaws.glued_eq_join _ _]
  induction ss with
  | nil => exact ⟨rfl, LetOk.empty⟩
  | cons a r ih =>
    have ha := h a List.mem_cons_self
    have hr := ih fun z hz => h z (List.mem_cons_of_mem _ hz)
    cases r with
    | nil => exact ⟨ha.1, ha.2⟩
    | cons b r =>
      show (a ++ Str.empty ++ Str.join Str.empty (b :: r)).length = (b :: r).length + 1 ∧ LetOk (a ++ Str.empty ++ Str.join Str.empty (b :: r))
      rw [Str.append_empty, Str.length_append, hr.1, ha.1]
      exact ⟨by omega, ha.2.app hr.2⟩
theorem sum_ones : ∀ ss : List Str, (∀ z ∈ ss, z.length = 1 ∧ LetOk z) → (ss.map (·.length)).sum = ss.length
  | [], _ => rfl
  | a :: r, h => by
    rw [List.map_cons, List.sum_cons, sum_ones r fun z hz => h z (List.mem_cons_of_mem _ hz), (h a List.mem_cons_self).1, List.length_cons]
    omega
theorem mem_snoc {α : Type} {P : α → Prop} {l : List α} {a : α} (h : ∀ z ∈ l, P z) (ha : P a) : ∀ z ∈ l ++ [a], P z := fun z hz => by
  rcases List.mem_append.mp hz with q | q
  · exact h z q
  · rw [List.mem_singleton.mp q]; exact ha
abbrev s__law_names : Stmt := (topS 71)
abbrev N_sc__law_names : List Str := ["_law_pen_here", "_law_many", "_law_letters", "_law_stem", "_law_k", "_law_front", "_law_found", "_law_step", "_law_own", "_law_tail"]
abbrev P__law_names : List Str := ["_law_pen_here", "_law_many"]
theorem sc__law_names : FnScope N_sc__law_names P__law_names (defScope s__law_names) := ⟨rfl, rfl, rfl, by decide +kernel, rfl, by decide +kernel, by decide +kernel⟩
section
variable {P : Program} {w : World} {K : PySem.W.Frag} {mg : Str → Option Value} {base : Heap}
end
end Ur
/-! K4: the painter: is_integer, is_between, is_name, __init__, its fields. -/
namespace Ur
open PySem PySem.Spec PyProof.Rows L2
abbrev s_is_integer : Stmt := (topS 18)
abbrev N_sc_is_integer : List Str := ["value"]
abbrev P_is_integer : List Str := ["value"]
theorem sc_is_integer : FnScope N_sc_is_integer P_is_integer (defScope s_is_integer) := ⟨rfl, rfl, rfl, by decide +kernel, rfl, by decide +kernel, by decide +kernel⟩
def spIsInt : Sp := fun vs H Q _ => ∃ (i : Int), vs = [.int i] ∧ Q (.bl true) H
abbrev s_is_between : Stmt := (topS 19)
abbrev N_sc_is_between : List Str := ["value", "least", "most"]
abbrev P_is_between : List Str := ["value", "least", "most"]
theorem sc_is_between : FnScope N_sc_is_between P_is_between (defScope s_is_between) := ⟨rfl, rfl, rfl, by decide +kernel, rfl, by decide +kernel, by decide +kernel⟩
def spBetween : Sp := fun vs H Q _ => ∃ (v a b : Int), vs = [.int v, .int a, .int b] ∧ Q (.bl (decide (a ≤ v ∧ v ≤ b))) H
section
variable {P : Program} {w : World} {K : PySem.W.Frag} {mg : Str → Option Value} {base : Heap}
theorem ok_is_integer (D : Dfn K mg "is_integer" s_is_integer P_is_integer) (B : Blt mg) : Cal P w K mg base 1 "is_integer" P_is_integer spIsInt := by
  refine D.cal sc_is_integer (fun vs H Q E h => ?_) fun f cdv A outer s H vs Q E hr h => ?_
  · obtain ⟨i, rfl, _⟩ := h
    rfl
  obtain ⟨i, rfl, q⟩ := h
  refine ⟨_, (pss_one (ps_ret (pe_and (pe_callB call_isi rfl B.isinstance_ (by decide +kernel) (pa_cons (pv 0) (pa_cons (pe_bltn (v := .ty "int") rfl B.int_ (by decide +kernel) rfl) pa_nil))) (pe_one (pe_not (pe_callB call_isi rfl B.isinstance_ (by decide +kernel) (pa_cons (pv 0) (pa_cons (pe_bltn (v := .ty "bool") rfl B.bool_ (by decide +kernel) rfl) pa_nil)))))))), ?_⟩
  refine ⟨_, rfl, _, _, _, _, true, rfl, ClsV.ty "int", (TyX.base (TyOf.int i)), kit_ty (by decide +kernel), true, rfl, ?_⟩
  exact ⟨_, rfl, _, _, _, _, false, rfl, ClsV.ty "bool", (TyX.base (TyOf.int i)), kit_ty (by decide +kernel), false, rfl, q⟩
theorem ok_is_between (D : Dfn K mg "is_between" s_is_between P_is_between) (CI : Cal P w K mg base 1 "is_integer" P_is_integer spIsInt) : Cal P w K mg base 2 "is_between" P_is_between spBetween := by
  refine D.cal sc_is_between (fun vs H Q E h => ?_) fun f cdv A outer s H vs Q E hr h => ?_
  · obtain ⟨v, a, b, rfl, _⟩ := h
    rfl
  obtain ⟨v, a, b, rfl, q⟩ := h
  refine ⟨_, (pss_one (ps_ret (pe_and (pe_cal CI (hr.mono (by decide)) (pa_cons (pv 0) pa_nil)) (pe_one (pe_chain op_le op_le (pv 1) (pv 0) (pv 2)))))), ?_⟩
  refine ⟨_, rfl, v, rfl, true, rfl, ?_⟩
  refine ⟨_, rfl, _, rfl, _, _, rfl, rfl, _, rfl, ?_⟩
  refine ite2 (fun c => ?_) (fun c => ?_)
  · have c := of_decide_eq_true c
    refine ⟨_, rfl, _, _, rfl, rfl, ?_⟩
    have e : decide (a ≤ v ∧ v ≤ b) = decide (v ≤ b) := by simp [c]
    rw [e] at q
    exact q
  · have c : ¬ a ≤ v := of_decide_eq_false (Bool.eq_false_iff.mpr c)
    have e : decide (a ≤ v ∧ v ≤ b) = false := by simp [c]
    rw [e] at q
    exact q
end
/-! ### names -/
abbrev s_Painter_is_name : Stmt := (inClass (topS 61) 15)
abbrev N_sc_Painter_is_name : List Str := ["value"]
abbrev P_Painter_is_name : List Str := ["value"]
theorem sc_Painter_is_name : FnScope N_sc_Painter_is_name P_Painter_is_name (defScope s_Painter_is_name) := ⟨rfl, rfl, rfl, by decide +kernel, rfl, by decide +kernel, by decide +kernel⟩
theorem uni_alpha : ∀ c : Nat, 97 ≤ c → c ≤ 122 → Unicode.isAlpha c = true ∧ Unicode.isLower c = true ∧ Unicode.isUpper c = false ∧ Unicode.isTitle c = false := by
  intro c h1 h2
  have z : ∀ i : Fin 26, Unicode.isAlpha (97 + i.val) = true ∧ Unicode.isLower (97 + i.val) = true ∧ Unicode.isUpper (97 + i.val) = false ∧ Unicode.isTitle (97 + i.val) = false := by decide +kernel
  have := z ⟨c - 97, by omega⟩
  have e : 97 + (c - 97) = c := by omega
  simpa only [e] using this
theorem arr_all {a : Array Nat} {f : Nat → Bool} (h : ∀ c ∈ a.toList, f c = true) : a.all f = true := by
  rw [← Array.all_toList]
  exact List.all_eq_true.mpr h
theorem arr_none {a : Array Nat} {f : Nat → Bool} (h : ∀ c ∈ a.toList, f c = false) : a.any f = false := by
  rw [← Array.any_toList]
  exact List.any_eq_false.mpr fun x hx => by rw [h x hx]; decide
theorem arr_some {a : Array Nat} {f : Nat → Bool} (h : ∀ c ∈ a.toList, f c = true) (n : 1 ≤ a.toList.length) : a.any f = true := by
  rw [← Array.any_toList]
  cases e : a.toList with
  | nil => rw [e] at n; exact absurd n (by decide)
  | cons x r => rw [List.any_cons, h x (by rw [e]; exact List.mem_cons_self), Bool.true_or]
theorem name_len {z : Str} (h : NameOk z) : 1 ≤ z.cps.toList.length := by
  have e : z.length = z.cps.size := rfl
  have := h.1
  rw [Array.length_toList]
  omega
theorem name_ascii {z : Str} (h : NameOk z) : Txt.isascii z = true := arr_all fun c hc => decide_eq_true (by have := h.2.2 c hc; omega)
theorem name_alpha {z : Str} (h : NameOk z) : Txt.isalpha z = true := by
  show (decide (z.length > 0) && z.cps.all Unicode.isAlpha) = true
  rw [arr_all fun c hc => (uni_alpha c (h.2.2 c hc).1 (h.2.2 c hc).2).1, decide_eq_true (by have := h.1; omega)]
  rfl
theorem name_lower {z : Str} (h : NameOk z) : Txt.islower z = true := by
  show (z.cps.any Unicode.isLower && !(z.cps.any fun c => Unicode.isUpper c || Unicode.isTitle c)) = true
  rw [arr_some (fun c hc => (uni_alpha c (h.2.2 c hc).1 (h.2.2 c hc).2).2.1) (name_len h), arr_none fun c hc => by
    obtain ⟨_, _, a, b⟩ := uni_alpha c (h.2.2 c hc).1 (h.2.2 c hc).2
    rw [a, b]
    rfl]
  rfl
def spIsName : Sp := fun vs H Q _ => ∃ z : Str, vs = [.str z] ∧ NameOk z ∧ Q (.bl true) H
section
variable {P : Program} {w : World} {K : PySem.W.Frag} {mg : Str → Option Value} {base : Heap}
theorem ok_is_name {f : Addr} {fd : FuncData} (F : Fun K "is_name" "Painter.is_name" s_Painter_is_name f fd) (B : Blt mg) : FnOk P w K mg base CX0 1 f fd P_Painter_is_name spIsName := by
  refine F.ok sc_Painter_is_name (fun vs H Q E h => ?_) (fun cdv A outer s H vs Q E hr h => ?_)
  · obtain ⟨z, rfl, _⟩ := h
    rfl
  obtain ⟨z, rfl, ok, q⟩ := h
  have hl : z.length ≤ sizeLine := Nat.le_trans ok.2.1 (by decide)
  refine ⟨_, (pss_cons (ps_if (PW.pt (pw_or (pt_not (pt_val (pe_callB call_isi rfl B.isinstance_ (by decide +kernel) (pa_cons (pv 0) (pa_cons (pe_bltn (v := .ty "str") rfl B.str_ (by decide +kernel) rfl) pa_nil))))) (pw_or1 (pt_cmpR op_gt (pe_callB call_len_str rfl B.len_ PySem.boot_len (pa_cons (pv 0) pa_nil)) pe_int (nomark _))))) (pss_one (ps_ret pe_bl)) pss_nil) (pss_one (ps_ret (pe_and (pe_m0 PySem.F.slot_str_isascii PySem.F.type_str_isascii mt_isascii (pv 0)) (pe_and (pe_m0 PySem.F.slot_str_isalpha PySem.F.type_str_isalpha mt_isalpha (pv 0)) (pe_one (pe_m0 PySem.F.slot_str_islower PySem.F.type_str_islower mt_islower (pv 0)))))))), ?_⟩
  refine ⟨_, rfl, _, _, _, _, true, rfl, ClsV.ty "str", (TyX.base (TyOf.str z)), kit_ty (by decide +kernel), true, rfl, ?_⟩
  refine iteF ?_
  refine ⟨_, rfl, _, rfl, hl, _, _, rfl, rfl, _, rfl, ?_⟩
  have c : decide ((8 : Int) < (z.length : Int)) = false := decide_eq_false (by have := ok.2.1; omega)
  show (if decide ((8 : Int) < (z.length : Int)) = true then _ else _)
  rw [c]
  refine iteF ?_
  refine ⟨_, rfl, ⟨_, rfl⟩, z, rfl, rfl, trivial, true, by rw [name_ascii ok], ?_⟩
  refine ⟨_, rfl, ⟨_, rfl⟩, z, rfl, rfl, trivial, true, by rw [name_alpha ok], ?_⟩
  refine ⟨_, rfl, ⟨_, rfl⟩, z, rfl, rfl, trivial, ?_⟩
  rw [name_lower ok]
  exact q
end
/-! ### the class -/
def pfs (nm : Str) (d p s : Int) : List (Str × V) := [("_name", .str nm), ("_day", .int d), ("_post", .int p), ("_stride", .int s)]
theorem pfs_name (nm : Str) (d p s : Int) : (pfs nm d p s).lookup ("_name" : Str) = some (V.str nm) := rfl
theorem pfs_day (nm : Str) (d p s : Int) : (pfs nm d p s).lookup ("_day" : Str) = some (V.int d) := rfl
theorem pfs_post (nm : Str) (d p s : Int) : (pfs nm d p s).lookup ("_post" : Str) = some (V.int p) := rfl
theorem pfs_stride (nm : Str) (d p s : Int) : (pfs nm d p s).lookup ("_stride" : Str) = some (V.int s) := rfl
structure PTxt (K : PySem.W.Frag) (mg : Str → Option Value) (C : Addr) : Prop where
  cl : Cls K C
  nN : NoAttr K C "_name"
  nD : NoAttr K C "_day"
  nP : NoAttr K C "_post"
  nS : NoAttr K C "_stride"
  mgP : mg "Painter" = some (.ref C)
  rd : ClX.CRead K C (.type "type")
  cD : ∃ u, ClX.CVal K C (.type "type") "MAX_DAY" (.int (10 ^ 30)) u
  cP : ∃ u, ClX.CVal K C (.type "type") "MAX_POST" (.int (10 ^ 30)) u
  cS : ∃ u, ClX.CVal K C (.type "type") "MAX_STRIDE" (.int (10 ^ 18)) u
/-- a painter's parts are as the document asks -/
structure PartOk (nm : Str) (d p s : Int) : Prop where
  nm : NameOk nm
  d0 : 0 ≤ d
  d1 : d ≤ 10 ^ 30
  p0 : -(10 ^ 30) ≤ p
  p1 : p ≤ 10 ^ 30
  s0 : -(10 ^ 18) ≤ s
  s1 : s ≤ 10 ^ 18
  sn : s ≠ 0
abbrev s_Painter_init : Stmt := (inClass (topS 61) 3)
abbrev N_sc_Painter_init : List Str := ["self", "name", "day", "post", "stride"]
abbrev P_Painter_init : List Str := ["self", "name", "day", "post", "stride"]
theorem sc_Painter_init : FnScope N_sc_Painter_init P_Painter_init (defScope s_Painter_init) := ⟨rfl, rfl, rfl, by decide +kernel, rfl, by decide +kernel, by decide +kernel⟩
def spInit (C : Addr) : Sp := fun vs H Q _ => ∃ (x dx : Addr) (nm : Str) (d p s : Int), vs = [.ref x, .str nm, .int d, .int p, .int s] ∧ H x = some (.ins C dx []) ∧ PartOk nm d p s ∧
  ∀ H', H' x = some (.ins C dx (pfs nm d p s)) → (∀ b o, H b = some o → b ≠ x → H' b = some o) → Q .non H'
section
variable {P : Program} {w : World} {K : PySem.W.Frag} {mg : Str → Option Value} {base : Heap}
set_option maxHeartbeats 16000000 in
theorem ok_init {C pN f fN : Addr} {fd fdN : FuncData} (F : Fun K "__init__" "Painter.__init__" s_Painter_init f fd) (T : PTxt K mg C) (smP : SMet K C (.type "type") "is_name" pN fN) (FN : FnOk P w K mg base CX0 1 fN fdN P_Painter_is_name spIsName) (bN : Binds K fdN P_Painter_is_name [])
    (CB : Cal P w K mg base 2 "is_between" P_is_between spBetween) : FnOk P w K mg base CX0 3 f fd P_Painter_init (spInit C) := by
  refine F.ok sc_Painter_init (fun vs H Q E h => ?_) (fun cdv A outer s H vs Q E hr h => ?_)
  · obtain ⟨x, dx, nm, d, p, st, rfl, _⟩ := h
    rfl
  obtain ⟨x, dx, nm, d, p, st, rfl, hx, ok, q⟩ := h
  obtain ⟨uD, cD⟩ := T.cD
  obtain ⟨uP, cP⟩ := T.cP
  obtain ⟨uS, cS⟩ := T.cS
  refine ⟨_, (pss_cons (ps_if (pt_not (pt_val (pe_smeth (pe_glob (v := .ref C) rfl T.mgP rfl) T.rd smP FN bN (hr.mono (by decide)) pass0 (pa_cons (pv 1) pa_nil)))) (pss_one ps_never) pss_nil) (pss_cons (ps_if (pt_not (pt_val (pe_cal CB (hr.mono (by decide)) (pa_cons (pv 2) (pa_cons pe_int (pa_cons (ClX.pe_cval (pe_glob (v := .ref C) rfl T.mgP rfl)) pa_nil)))))) (pss_one ps_never) pss_nil) (pss_cons (ps_if (pt_not (pt_val (pe_cal CB (hr.mono (by decide)) (pa_cons (pv 3) (pa_cons (pe_un un_neg (ClX.pe_cval (pe_glob (v := .ref C) rfl T.mgP rfl))) (pa_cons (ClX.pe_cval (pe_glob (v := .ref C) rfl T.mgP rfl)) pa_nil)))))) (pss_one ps_never) pss_nil) (pss_cons (ps_if (PW.pt (pw_or (pt_not (pt_val (pe_cal CB (hr.mono (by decide)) (pa_cons (pv 4) (pa_cons (pe_un un_neg (ClX.pe_cval (pe_glob (v := .ref C) rfl T.mgP rfl))) (pa_cons (ClX.pe_cval (pe_glob (v := .ref C) rfl T.mgP rfl)) pa_nil)))))) (pw_or1 (pt_cmpR op_eq (pv 4) pe_int (nomark _))))) (pss_one ps_never) pss_nil) (pss_cons (ps_fld (pv 0) (pv 1) rfl) (pss_cons (ps_fld (pv 0) (pv 2) rfl) (pss_cons (ps_fld (pv 0) (pv 3) rfl) (pss_one (ps_fld (pv 0) (pv 4) rfl))))))))), ?_⟩
  refine ⟨rfl, _, rfl, nm, rfl, ok.nm, true, rfl, iteF ?_⟩
  refine ⟨_, rfl, C, _, _, _, rfl, T.rd, cD, d, _, _, rfl, _, rfl, iteNS ⟨ok.d0, ok.d1⟩ ?_⟩
  refine ⟨_, rfl, C, _, _, _, rfl, T.rd, cP, _, rfl, C, _, _, _, rfl, T.rd, cP, p, _, _, rfl, _, rfl, iteNS ⟨ok.p0, ok.p1⟩ ?_⟩
  refine ⟨_, rfl, C, _, _, _, rfl, T.rd, cS, _, rfl, C, _, _, _, rfl, T.rd, cS, st, _, _, rfl, _, rfl, iteNS ⟨ok.s0, ok.s1⟩ ?_⟩
  have c : decide (V.int st = V.int 0) = false := decide_eq_false fun e => ok.sn (V.int.inj e)
  refine ⟨_, rfl, rfl, _, rfl, ?_⟩
  show (if decide (V.int st = V.int 0) = true then _ else _)
  rw [c]
  refine iteF ?_
  refine ⟨_, rfl, _, rfl, x, C, dx, [], rfl, hx, T.cl, T.nN, (by show 0 < 1000; decide), ?_⟩
  refine ⟨_, rfl, _, rfl, x, C, dx, _, rfl, upd_same, T.cl, T.nD, (by show 1 < 1000; decide), ?_⟩
  refine ⟨_, rfl, _, rfl, x, C, dx, _, rfl, upd_same, T.cl, T.nP, (by show 2 < 1000; decide), ?_⟩
  refine ⟨_, rfl, _, rfl, x, C, dx, _, rfl, upd_same, T.cl, T.nS, (by show 3 < 1000; decide), ?_⟩
  refine q _ upd_same fun b o e hb => ?_
  rw [upd_ne hb, upd_ne hb, upd_ne hb, upd_ne hb]
  exact e
/-- a painter stands at a -/
def PnAt (C : Addr) (H : Hp) (a : Addr) (nm : Str) (d p s : Int) : Prop := ∃ dx, H a = some (.ins C dx (pfs nm d p s))
/-- what is made and what it promises: Painter(..) -/
def MkP (P : Program) (w : World) (K : PySem.W.Frag) (mg : Str → Option Value) (base : Heap) (C : Addr) : Prop := ∃ f fd, Mk K C f ∧ FnOk P w K mg base CX0 3 f fd P_Painter_init (spInit C) ∧ Binds K fd P_Painter_init []
end
section
variable {X : Cx} {C : Addr} {e : Expr} {es : List Expr} {pos p : Pos} {ta : TE} {t : TA} {f a : Str}
theorem pe_mkP (hp : MkP X.prog X.w X.K X.mg X.base C) (T : PTxt X.K X.mg C) (hr : Room 4 X.A) (ha : PA X (e :: es) t) (hg : Gl X "Painter" := by rfl)
    (he : starEach (e :: es) X.env = (false, eval e X.env) :: starEach es X.env := by rfl) (hpl : (backTo pos (starEach es X.env)).any (·.1) = false := by rfl) : PE X (.Call (.Name "Painter" p) (e :: es) [] pos) (tMake C (spInit C) [] E0 t) := by
  obtain ⟨f, fd, M, F, b⟩ := hp
  exact pe_make M F hr hg T.mgP b .nil pass0 ha (he := he) (hpl := hpl)
end
end Ur
/-! UrG: defs that show things (repr of lists and tuples): their promise holds where nothing is being shown around them. -/
namespace Ur
open PySem PySem.Spec PyProof.Rows L2
/-- nothing is being shown around -/
def Still (A : Around) : Prop := A.guards = some []
structure FnG (P : Program) (w : World) (K : PySem.W.Frag) (mg : Str → Option Value) (base : Heap) (k : Nat) (f : Addr) (fd : FuncData) (ps : List Str) (sp : Sp) : Prop where
  ln : ∀ vs H Q E, sp vs H Q E → vs.length = ps.length
  go : ∀ (A : Around) (out : List Env) (s : Shared) (H : Hp) (args : Args) (us : List Value) (vs : List V) (Q : VK) (E : XK), Still A → Room k A → Env0 P w K mg base A out s H → BindsTo s fd args (ps.zip us) → Vals vs us → sp vs H Q E → codeAny (model P w) A (.call (.ref f) args) (CR CX0 out P w H s Q E) s
section
variable {P : Program} {w : World} {K : PySem.W.Frag} {mg : Str → Option Value} {base : Heap} {k : Nat} {f : Addr} {fd : FuncData} {ps : List Str} {sp : Sp} {x qual : Str} {st : Stmt}
theorem runG {N : List Str} (F : Fun K x qual st f fd) (S : FnScope N ps (defScope st)) (len : ∀ vs H Q E, sp vs H Q E → vs.length = ps.length)
    (hbody : ∀ (cdv : Value) (A : Around) (out : List Env) (s : Shared) (H : Hp) (vs : List V) (Q : VK) (E : XK), Still A → Room k (A.deeper (envOfC qual (defScope st) s.heap.objs.size f cdv)) → sp vs H Q E → ∃ t, PSs (cxOf CX0 P w K mg base N qual (defScope st) f cdv A out s H E).nox (defBody st) t ∧ t { nx := fun _ H' => Q .non H', rt := Q } (start N vs) H) :
    FnG P w K mg base (k + 1) f fd ps sp := by
  obtain ⟨oc, od, kV, doc, pm, an, cdv, ct, osl, efd, lk, hcd⟩ := F.ex
  subst efd
  constructor
  · exact len
  intro A out s H args us vs Q E still room e0 hb rel ask
  have old : ∀ b o, base.get? b = some o → s.heap.get? b = some o := fun b o e => (e0.bs b o e).1
  have kin : K.In s.heap := e0.mod.kin.keeps old
  have kinds : ∀ y ∈ ps.zip us, (defScope st).names.lookup y.1 = some .local ∨ ((defScope st).names.lookup y.1 = some .cell ∧ ((cellsFrom (s.heap.objs.size + 1) (defScope st).names []).lookup y.1).isSome = true) := by
    intro y hy
    cases S.par y.1 (List.of_mem_zip (a := y.1) (b := y.2) hy).1 with
    | inl h => exact Or.inl h
    | inr h => exact Or.inr ⟨h, PySem.W.cellsFrom_some _ _ _ (Or.inl h)⟩
  refine codeAny_call_function room.depth (kin _ _ lk) rfl S.co S.gen rfl (PySem.W.codeRec_of kin hcd) (hb _ _ _ _ (wpAny_newFunctionEnv_cells S.kind kinds fun env he s1 made => ?_))
  subst he
  refine ⟨(e0.mod.nolimit.keeps old).keeps made.toInCall.keep, codeAny_func ?_⟩
  obtain ⟨t, ht0, hq⟩ := hbody cdv A out s H vs Q E still (room.deeper _) ask
  have J : Inv (cxOf CX0 P w K mg base N qual (defScope st) f cdv A out s H E) [] (start N vs) H s1 := inv_start S room.hd e0 (len _ _ _ _ ask) rel made
  refine wpAny_mono (ht0.nox.run [] s1 (start N vs) H _ J hq) ?_ (fun _ _ z => z)
  intro fl s2 done
  match fl, done with
  | .ret u, ⟨v, σ', H', J', rv, q⟩ => exact ⟨v, H', J'.os, J'.bare, J'.base, J'.hok, rv, q⟩
  | .next, ⟨σ', H', J', q⟩ => exact ⟨V.non, H', J'.os, J'.bare, J'.base, J'.hok, rfl, q⟩
  | .brk, ⟨_, _, _, q⟩ => exact q.elim
  | .cont, ⟨_, _, _, q⟩ => exact q.elim
end
section
variable {X : Cx} {k : Nat} {x : Str} {ps : List Str} {sp : Sp} {e : Expr} {es : List Expr} {t : TA} {p pos : Pos}
end
/-! ### the law's own call -/
end Ur
/-! UrS: what can be shown, by its parts. -/
namespace Ur
open PySem PySem.Spec PyProof.Rows L2
/-- d can be shown: its weight is at most n, its depth at most k -/
structure Shw (d : PyData) (n k : Nat) : Prop where
  sh : d.showable = true
  nd : d.hasDict = false
  dp : d.depth ≤ k
  lv : d.leavesShort 1930 = true
  wt : d.weight ≤ n
structure ShwAll (ds : List PyData) (n k : Nat) : Prop where
  sh : PyData.showableAll ds = true
  nd : PyData.hasDictAll ds = false
  dp : PyData.depthAll ds ≤ k
  lv : PyData.leavesShortAll 1930 ds = true
  wt : PyData.weightAll ds ≤ n
section
variable {X : Cx}
end
end Ur
/-! K8: a painter's properties and methods: name, day, post, stride, text, post_after. -/
namespace Ur
open PySem PySem.Spec PyProof.Rows L2
/-- a property, a method, with what they promise -/
def PropS (P : Program) (w : World) (K : PySem.W.Frag) (mg : Str → Option Value) (base : Heap) (C : Addr) (f : Str) (k : Nat) (sp : Sp) : Prop := ∃ p g fd, PropOf K C f p g ∧ FnOk P w K mg base CX0 k g fd ["self"] sp ∧ Binds K fd ["self"] []
section
variable {X : Cx} {C : Addr} {o e : Expr} {es : List Expr} {pos apos : Pos} {ta : TE} {t : TA} {f m : Str} {k : Nat} {sp : Sp} {ps : List Str} {pl : Sem Bool}
theorem pe_prS (he : PE X e ta) (c : Cls X.K C) (hp : PropS X.prog X.w X.K X.mg X.base C f k sp) (hr : Room (k + 1) X.A) (hab : attributeBase e f X.env (eval e X.env) = eval e X.env := by rfl) : PE X (.Attribute e f pos) (tProp C sp [] E0 ta) := by
  obtain ⟨p, g, fd, h1, F, b⟩ := hp
  exact pe_prop he c h1 F hr b .nil pass0 hab
end
/-- whole numbers that can be written -/
structure Short (d p s : Int) : Prop where
  d : d.natAbs.log2 < 1920
  p : p.natAbs.log2 < 1920
  s : s.natAbs.log2 < 1920
theorem sameTup {K : PySem.W.Frag} {H H' : Hp} {a : Addr} {xs : List V} (e : Same H H') (h : SqT K H a xs) : SqT K H' a xs := by
  rcases h with (h | ⟨o, h⟩) | h
  · exact .inl (.inl (e _ _ h))
  · exact .inl (.inr ⟨o, e _ _ h⟩)
  · exact .inr h
theorem sameAt {H H' : Hp} {a : Addr} {o : HO} (k : Same H H') (h : H a = none) : Same H (upd H' a o) := fun b u e => by rw [upd_ne (ne_of_none e h)]; exact k b u e
/-! ### the properties -/
abbrev s_Painter_name : Stmt := (inClass (topS 61) 4)
abbrev N_sc_Painter_name : List Str := ["self"]
abbrev P_Painter_name : List Str := ["self"]
theorem sc_Painter_name : FnScope N_sc_Painter_name P_Painter_name (defScope s_Painter_name) := ⟨rfl, rfl, rfl, by decide +kernel, rfl, by decide +kernel, by decide +kernel⟩
section
variable {P : Program} {w : World} {K : PySem.W.Frag} {mg : Str → Option Value} {base : Heap} {C : Addr} {f : Addr} {fd : FuncData}
theorem ok_get_name (F : Fun K "name" "Painter.name" s_Painter_name f fd) (T : PTxt K mg C) : FnOk P w K mg base CX0 1 f fd ["self"] (getSp C "_name") := by
  refine F.ok sc_Painter_name (fun vs H Q E h => ?_) (fun cdv A outer s H vs Q E hr h => ?_)
  · obtain ⟨a, dx, fs, v, rfl, _⟩ := h
    rfl
  obtain ⟨a, dx, fs, v, rfl, ha, hl, q⟩ := h
  exact ⟨_, (pss_one (ps_ret (pe_fld (pv 0) rfl))), _, rfl, a, C, dx, fs, v, rfl, ha, T.cl, T.nN, hl, q⟩
end
abbrev s_Painter_day : Stmt := (inClass (topS 61) 5)
abbrev N_sc_Painter_day : List Str := ["self"]
abbrev P_Painter_day : List Str := ["self"]
theorem sc_Painter_day : FnScope N_sc_Painter_day P_Painter_day (defScope s_Painter_day) := ⟨rfl, rfl, rfl, by decide +kernel, rfl, by decide +kernel, by decide +kernel⟩
section
variable {P : Program} {w : World} {K : PySem.W.Frag} {mg : Str → Option Value} {base : Heap} {C : Addr} {f : Addr} {fd : FuncData}
theorem ok_get_day (F : Fun K "day" "Painter.day" s_Painter_day f fd) (T : PTxt K mg C) : FnOk P w K mg base CX0 1 f fd ["self"] (getSp C "_day") := by
  refine F.ok sc_Painter_day (fun vs H Q E h => ?_) (fun cdv A outer s H vs Q E hr h => ?_)
  · obtain ⟨a, dx, fs, v, rfl, _⟩ := h
    rfl
  obtain ⟨a, dx, fs, v, rfl, ha, hl, q⟩ := h
  exact ⟨_, (pss_one (ps_ret (pe_fld (pv 0) rfl))), _, rfl, a, C, dx, fs, v, rfl, ha, T.cl, T.nD, hl, q⟩
end
abbrev s_Painter_post : Stmt := (inClass (topS 61) 6)
abbrev N_sc_Painter_post : List Str := ["self"]
abbrev P_Painter_post : List Str := ["self"]
theorem sc_Painter_post : FnScope N_sc_Painter_post P_Painter_post (defScope s_Painter_post) := ⟨rfl, rfl, rfl, by decide +kernel, rfl, by decide +kernel, by decide +kernel⟩
section
variable {P : Program} {w : World} {K : PySem.W.Frag} {mg : Str → Option Value} {base : Heap} {C : Addr} {f : Addr} {fd : FuncData}
theorem ok_get_post (F : Fun K "post" "Painter.post" s_Painter_post f fd) (T : PTxt K mg C) : FnOk P w K mg base CX0 1 f fd ["self"] (getSp C "_post") := by
  refine F.ok sc_Painter_post (fun vs H Q E h => ?_) (fun cdv A outer s H vs Q E hr h => ?_)
  · obtain ⟨a, dx, fs, v, rfl, _⟩ := h
    rfl
  obtain ⟨a, dx, fs, v, rfl, ha, hl, q⟩ := h
  exact ⟨_, (pss_one (ps_ret (pe_fld (pv 0) rfl))), _, rfl, a, C, dx, fs, v, rfl, ha, T.cl, T.nP, hl, q⟩
end
abbrev s_Painter_stride : Stmt := (inClass (topS 61) 7)
abbrev N_sc_Painter_stride : List Str := ["self"]
abbrev P_Painter_stride : List Str := ["self"]
theorem sc_Painter_stride : FnScope N_sc_Painter_stride P_Painter_stride (defScope s_Painter_stride) := ⟨rfl, rfl, rfl, by decide +kernel, rfl, by decide +kernel, by decide +kernel⟩
section
variable {P : Program} {w : World} {K : PySem.W.Frag} {mg : Str → Option Value} {base : Heap} {C : Addr} {f : Addr} {fd : FuncData}
theorem ok_get_stride (F : Fun K "stride" "Painter.stride" s_Painter_stride f fd) (T : PTxt K mg C) : FnOk P w K mg base CX0 1 f fd ["self"] (getSp C "_stride") := by
  refine F.ok sc_Painter_stride (fun vs H Q E h => ?_) (fun cdv A outer s H vs Q E hr h => ?_)
  · obtain ⟨a, dx, fs, v, rfl, _⟩ := h
    rfl
  obtain ⟨a, dx, fs, v, rfl, ha, hl, q⟩ := h
  exact ⟨_, (pss_one (ps_ret (pe_fld (pv 0) rfl))), _, rfl, a, C, dx, fs, v, rfl, ha, T.cl, T.nS, hl, q⟩
end
section
variable {P : Program} {w : World} {K : PySem.W.Frag} {mg : Str → Option Value} {base : Heap} {C : Addr} {f : Addr} {fd : FuncData}
end
abbrev s_check_count : Stmt := (topS 23)
abbrev N_sc_check_count : List Str := ["value"]
abbrev P_check_count : List Str := ["value"]
theorem sc_check_count : FnScope N_sc_check_count P_check_count (defScope s_check_count) := ⟨rfl, rfl, rfl, by decide +kernel, rfl, by decide +kernel, by decide +kernel⟩
def spCount : Sp := fun vs H Q _ => ∃ c : Int, vs = [.int c] ∧ 0 ≤ c ∧ c ≤ 10 ^ 80 ∧ Q .non H
section
variable {P : Program} {w : World} {K : PySem.W.Frag} {mg : Str → Option Value} {base : Heap} {C : Addr} {f : Addr} {fd : FuncData}
theorem ok_check_count (D : Dfn K mg "check_count" s_check_count P_check_count) {uM : Value} (hM : mg "MAX_ARGUMENT" = some uM) (rM : L2.RelV (.int (10 ^ 80)) uM) (CB : Cal P w K mg base 2 "is_between" P_is_between spBetween) : Cal P w K mg base 3 "check_count" P_check_count spCount := by
  refine D.cal sc_check_count (fun vs H Q E h => ?_) fun f cdv A outer s H vs Q E hr h => ?_
  · obtain ⟨c, rfl, _⟩ := h
    rfl
  obtain ⟨c, rfl, c0, c1, q⟩ := h
  refine ⟨_, (pss_one (ps_if (pt_not (pt_val (pe_cal CB (hr.mono (by decide)) (pa_cons (pv 0) (pa_cons pe_int (pa_cons (pe_glob (v := .int (10 ^ 80)) rfl hM rM) pa_nil)))))) (pss_one ps_never) pss_nil)), ?_⟩
  exact ⟨_, rfl, c, _, _, rfl, _, rfl, iteNS ⟨c0, c1⟩ q⟩
end
end Ur
/-! UrM: the mathematics of common posts, in plain numbers. -/
namespace Ur
/-! ### the divisor and its factor -/
structure Euc (n m d r f g : Int) : Prop where
  d0 : 0 ≤ d
  r0 : 0 ≤ r
  sg : (0 ≤ f ∧ g ≤ 0 ∧ f * r - g * d = m) ∨ (f ≤ 0 ∧ 0 ≤ g ∧ g * d - f * r = m)
  c1 : m ∣ n * f - d
  c2 : m ∣ n * g - r
  dv : ∀ c : Int, c ∣ d → c ∣ r → c ∣ n ∧ c ∣ m
  f0 : -m ≤ f
  f1 : f ≤ m
  g0 : -m ≤ g
  g1 : g ≤ m
theorem Euc.start {n m : Int} (hn : 0 ≤ n) (hm : 0 < m) : Euc n m n m 1 0 :=
  ⟨hn, by omega, Or.inl ⟨by omega, by omega, by omega⟩, ⟨0, by omega⟩, ⟨-1, by omega⟩, fun c a b => ⟨a, b⟩, by omega, by omega, by omega, by omega⟩
theorem le_of_mul {a b m : Int} (ha : 0 ≤ a) (hb : 1 ≤ b) (h : a * b ≤ m) : a ≤ m := by
  have := Int.mul_le_mul_of_nonneg_left hb ha
  omega
theorem Euc.step {n m d r f g : Int} (E : Euc n m d r f g) (hr : r ≠ 0) : Euc n m r (d - d / r * r) g (f - d / r * g) := by
  obtain ⟨d0, r0, sg, c1, c2, dv, f0, f1, g0, g1⟩ := E
  have rp : 0 < r := by omega
  have e : d - d / r * r = d % r := by
    have h := Int.mul_ediv_add_emod d r
    have h2 : r * (d / r) = d / r * r := Int.mul_comm _ _
    omega
  have m0 : 0 ≤ d % r := Int.emod_nonneg d (by omega)
  have t0 : 0 ≤ d / r := Int.ediv_nonneg d0 r0
  have q0 : 0 ≤ d - d / r * r := by omega
  generalize d / r = t at *
  have sg' : (0 ≤ g ∧ f - t * g ≤ 0 ∧ g * (d - t * r) - (f - t * g) * r = m) ∨ (g ≤ 0 ∧ 0 ≤ f - t * g ∧ (f - t * g) * r - g * (d - t * r) = m) := by
    rcases sg with ⟨a, b, c⟩ | ⟨a, b, c⟩
    · refine Or.inr ⟨b, ?_, by grind⟩
      have : t * g ≤ 0 := Int.mul_nonpos_of_nonneg_of_nonpos t0 b
      omega
    · refine Or.inl ⟨b, ?_, by grind⟩
      have : 0 ≤ t * g := Int.mul_nonneg t0 b
      omega
  refine ⟨r0, q0, sg', c2, ?_, fun c h1 h2 => dv c ?_ h1, g0, g1, ?_, ?_⟩
  · obtain ⟨a, ha⟩ := c1
    obtain ⟨b, hb⟩ := c2
    exact ⟨a - t * b, by grind⟩
  · obtain ⟨a, ha⟩ := h1
    obtain ⟨b, hb⟩ := h2
    exact ⟨b + t * a, by grind⟩
  · rcases sg' with ⟨a, b, c⟩ | ⟨a, b, c⟩
    · have z : 0 ≤ g * (d - t * r) := Int.mul_nonneg a q0
      have y : -(f - t * g) * r = -((f - t * g) * r) := Int.neg_mul _ _
      have := le_of_mul (a := -(f - t * g)) (b := r) (m := m) (by omega) (by omega) (by omega)
      omega
    · omega
  · rcases sg' with ⟨a, b, c⟩ | ⟨a, b, c⟩
    · omega
    · have z : g * (d - t * r) ≤ 0 := Int.mul_nonpos_of_nonpos_of_nonneg a q0
      exact le_of_mul (b := r) b (by omega) (by omega)
/-- what comes out: a divisor of both, and its factor -/
structure DivFac (n m d f : Int) : Prop where
  pos : 0 < d
  dn : d ∣ n
  dm : d ∣ m
  cg : m ∣ n * f - d
  f0 : -m ≤ f
  f1 : f ≤ m
theorem Euc.done {n m d f g : Int} (E : Euc n m d 0 f g) (hm : 0 < m) : DivFac n m d f := by
  have z := E.dv d (Int.dvd_refl d) (Int.dvd_zero d)
  refine ⟨?_, z.1, z.2, E.c1, E.f0, E.f1⟩
  have d0 := E.d0
  by_cases h : d = 0
  · have := z.2
    rw [h] at this
    have := Int.zero_dvd.mp this
    omega
  · omega
/-! ### common posts -/
/-- q is on the way that starts at p with the stride s -/
def On (p s q : Int) : Prop := ∃ j : Int, 0 ≤ j ∧ q = p + j * s
/-- how two strides meet: every step-th number of the first one -/
def Steps (s1 s2 step : Int) : Prop := 0 < step ∧ ∀ k : Int, s2 ∣ k * s1 ↔ step ∣ k
/-- the numbers of common posts, on the way of the first one -/
inductive Comm (p1 s1 p2 s2 : Int) : Option (Int × Option Int × Int) → Prop where
  | no : (∀ k : Int, 0 ≤ k → ¬ On p2 s2 (p1 + k * s1)) → Comm p1 s1 p2 s2 none
  | inf {first step : Int} : (0 < s1 ↔ 0 < s2) → Steps s1 s2 step → 0 ≤ first → first ≤ (p2 - p1).natAbs + step → (∀ k : Int, 0 ≤ k → (On p2 s2 (p1 + k * s1) ↔ first ≤ k ∧ step ∣ k - first)) → Comm p1 s1 p2 s2 (some (first, none, step))
  | fin {first last step : Int} : ¬ (0 < s1 ↔ 0 < s2) → Steps s1 s2 step → 0 ≤ first → first ≤ last → last ≤ (p2 - p1).natAbs → step ∣ last - first → (∀ k : Int, 0 ≤ k → (On p2 s2 (p1 + k * s1) ↔ first ≤ k ∧ k ≤ last ∧ step ∣ k - first)) → Comm p1 s1 p2 s2 (some (first, some last, step))
/-- n, m as the program has them: the first stride's remainder by the size of the second -/
structure Meet (s1 s2 gap d step res : Int) : Prop where
  d0 : 0 < d
  d1 : d ∣ s1
  d2 : d ∣ s2
  dg : d ∣ gap
  st : Steps s1 s2 step
  se : step * d = s2.natAbs
  /-- the numbers at which the two ways, taken as endless, have the same post -/
  at_ : ∀ k : Int, s2 ∣ k * s1 - gap ↔ step ∣ k - res
  r0 : 0 ≤ res
  r1 : res < step
theorem meet_of {s1 s2 gap d f : Int} (hs2 : s2 ≠ 0) (D : DivFac (s1 % (s2.natAbs : Int)) (s2.natAbs : Int) d f) (hg : d ∣ gap) :
    Meet s1 s2 gap d ((s2.natAbs : Int) / d) ((gap / d * f) % ((s2.natAbs : Int) / d)) := by
  obtain ⟨d0, dn, dm, cg, f0, f1⟩ := D
  generalize hm : (s2.natAbs : Int) = m at *
  have mp : 0 < m := by omega
  obtain ⟨st, hst⟩ := dm
  have est : m / d = st := by rw [hst]; exact Int.mul_ediv_cancel_left _ (by omega)
  rw [est]
  have stp : 0 < st := by
    by_cases h : 0 < st
    · exact h
    · have : d * st ≤ 0 := Int.mul_nonpos_of_nonneg_of_nonpos (by omega) (by omega)
      omega
  obtain ⟨gq, hgq⟩ := hg
  have egq : gap / d = gq := by rw [hgq]; exact Int.mul_ediv_cancel_left _ (by omega)
  rw [egq]
  -- d divides s1
  have e1 : s1 = m * (s1 / m) + s1 % m := (Int.mul_ediv_add_emod s1 m).symm
  obtain ⟨a, ha⟩ := dn
  have d1 : d ∣ s1 := ⟨st * (s1 / m) + a, by grind⟩
  obtain ⟨u, hu⟩ := d1
  -- u * f is 1 modulo st
  obtain ⟨b, hb⟩ := cg
  have uf : ∃ c, u * f - 1 = st * c := by
    refine ⟨b + f * (s1 / m), ?_⟩
    have z : d * (u * f - 1) = d * (st * (b + f * (s1 / m))) := by grind
    exact Int.eq_of_mul_eq_mul_left (by omega) z
  obtain ⟨c, hc⟩ := uf
  have key : ∀ x : Int, d * st ∣ d * x ↔ st ∣ x := fun x => ⟨fun h => Int.dvd_of_mul_dvd_mul_left (by omega) h, fun h => Int.mul_dvd_mul_left d h⟩
  have m2 : ∀ x : Int, s2 ∣ x ↔ m ∣ x := fun x => by rw [← hm]; exact Int.natAbs_dvd.symm
  refine ⟨d0, ⟨u, hu⟩, ?_, ⟨gq, hgq⟩, ⟨stp, fun k => ?_⟩, by rw [hm, hst]; exact Int.mul_comm _ _, fun k => ?_, Int.emod_nonneg _ (by omega), Int.emod_lt_of_pos _ stp⟩
  · have : d ∣ (s2.natAbs : Int) := by rw [hm]; exact ⟨st, hst⟩
    exact Int.dvd_natAbs.mp this
  · rw [m2, hst, hu, show k * (d * u) = d * (k * u) by grind, key]
    constructor
    · intro ⟨x, hx⟩
      exact ⟨x * f - k * c, by grind⟩
    · intro ⟨x, hx⟩
      exact ⟨x * u, by grind⟩
  · rw [m2, hst, hu, hgq, show k * (d * u) - d * gq = d * (k * u - gq) by grind, key]
    have er : gq * f = st * (gq * f / st) + gq * f % st := (Int.mul_ediv_add_emod _ _).symm
    generalize gq * f / st = w at er
    generalize gq * f % st = res at er
    constructor
    · intro ⟨x, hx⟩
      exact ⟨x * f - k * c + w, by grind⟩
    · intro ⟨x, hx⟩
      exact ⟨x * u + gq * c - w * u, by grind⟩
theorem le_fdiv {k a s : Int} (hs : s ≠ 0) : k ≤ a.fdiv s ↔ (0 < s → k * s ≤ a) ∧ (s < 0 → a ≤ k * s) := by
  by_cases h : 0 < s
  · rw [Int.fdiv_eq_ediv_of_nonneg a (by omega), Int.le_ediv_iff_mul_le h]
    exact ⟨fun z => ⟨fun _ => z, fun y => by omega⟩, fun z => z.1 h⟩
  · have h2 : 0 < -s := by omega
    have e : a.fdiv s = (-a) / (-s) := by
      rw [← Int.fdiv_eq_ediv_of_nonneg (-a) (by omega : (0 : Int) ≤ -s), Int.neg_fdiv_neg]
    rw [e, Int.le_ediv_iff_mul_le h2, Int.mul_neg]
    exact ⟨fun z => ⟨fun y => by omega, fun _ => by omega⟩, fun z => by have := z.2 (by omega); omega⟩
theorem on_iff {p1 s1 p2 s2 k : Int} (hs : s2 ≠ 0) : On p2 s2 (p1 + k * s1) ↔ s2 ∣ k * s1 - (p2 - p1) ∧ (0 < s2 → p2 - p1 ≤ k * s1) ∧ (s2 < 0 → k * s1 ≤ p2 - p1) := by
  generalize k * s1 = x
  constructor
  · rintro ⟨j, j0, h⟩
    refine ⟨⟨j, by grind⟩, fun z => ?_, fun z => ?_⟩
    · have : 0 ≤ j * s2 := Int.mul_nonneg j0 (by omega)
      omega
    · have : j * s2 ≤ 0 := Int.mul_nonpos_of_nonneg_of_nonpos j0 (by omega)
      omega
  · rintro ⟨⟨j, hj⟩, h1, h2⟩
    refine ⟨j, ?_, by grind⟩
    by_cases c : 0 ≤ j
    · exact c
    · exfalso
      by_cases z : 0 < s2
      · have := h1 z
        have : s2 * j ≤ s2 * (-1) := Int.mul_le_mul_of_nonneg_left (by omega) (by omega)
        omega
      · have := h2 (by omega)
        have : s2 * (-1) ≤ s2 * j := Int.mul_le_mul_of_nonpos_left (by omega) (by omega)
        omega
theorem abs_mul_ge {g s : Int} (hs : s ≠ 0) : (0 < s → (g.natAbs : Int) * 1 ≤ g.natAbs * s) ∧ (s < 0 → (g.natAbs : Int) * s ≤ g.natAbs * (-1)) :=
  ⟨fun h => Int.mul_le_mul_of_nonneg_left (by omega) (by omega), fun h => Int.mul_le_mul_of_nonneg_left (by omega) (by omega)⟩
/-- a number behind a bound, one of each step -/
theorem from_on {step res low k : Int} (hp : 0 < step) : (low ≤ k ∧ step ∣ k - res) ↔ (low + (res - low) % step ≤ k ∧ step ∣ k - (low + (res - low) % step)) := by
  have e : res - low = step * ((res - low) / step) + (res - low) % step := (Int.mul_ediv_add_emod _ _).symm
  have r0 : 0 ≤ (res - low) % step := Int.emod_nonneg _ (by omega)
  have r1 : (res - low) % step < step := Int.emod_lt_of_pos _ hp
  generalize (res - low) / step = q at e
  generalize (res - low) % step = r at *
  constructor
  · rintro ⟨h, x, hx⟩
    refine ⟨?_, x + q, by grind⟩
    by_cases c : low + r ≤ k
    · exact c
    · have z : step * (x + q) = k - (low + r) := by grind
      have : step * (x + q) ≤ step * (-1) := Int.mul_le_mul_of_nonneg_left (by
        by_cases y : x + q ≤ -1
        · exact y
        · have : 0 ≤ step * (x + q) := Int.mul_nonneg (by omega) (by omega)
          omega) (by omega)
      omega
  · rintro ⟨h, x, hx⟩
    exact ⟨by omega, x - q, by grind⟩
theorem comm_same {p1 s1 p2 s2 d step res : Int} (h1 : s1 ≠ 0) (h2 : s2 ≠ 0) (hs : 0 < s1 ↔ 0 < s2) (M : Meet s1 s2 (p2 - p1) d step res) :
    Comm p1 s1 p2 s2 (some ((if -((-(p2 - p1)).fdiv s1) > 0 then -((-(p2 - p1)).fdiv s1) else 0) + (res - (if -((-(p2 - p1)).fdiv s1) > 0 then -((-(p2 - p1)).fdiv s1) else 0)) % step, none, step)) := by
  have sp := M.st.1
  have low : ∀ k : Int, -((-(p2 - p1)).fdiv s1) ≤ k ↔ (0 < s2 → p2 - p1 ≤ k * s1) ∧ (s2 < 0 → k * s1 ≤ p2 - p1) := fun k => by
    have z := le_fdiv (k := -k) (a := -(p2 - p1)) h1
    have e : -k * s1 = -(k * s1) := Int.neg_mul _ _
    rw [e] at z
    constructor
    · intro y
      have z := z.mp (by omega)
      exact ⟨fun c => by have := z.1 (hs.mpr c); omega, fun c => by have := z.2 (by omega); omega⟩
    · intro y
      have z := z.mpr ⟨fun c => by have := y.1 (hs.mp c); omega, fun c => by have := y.2 (by omega); omega⟩
      omega
  have lowle : -((-(p2 - p1)).fdiv s1) ≤ (p2 - p1).natAbs := by
    rw [low]
    have z := abs_mul_ge (g := p2 - p1) h1
    exact ⟨fun c => by have := z.1 (hs.mpr c); omega, fun c => by have := z.2 (by omega); omega⟩
  generalize -((-(p2 - p1)).fdiv s1) = lo at low lowle ⊢
  have m0 : 0 ≤ (if lo > 0 then lo else 0) ∧ (if lo > 0 then lo else 0) ≤ ((p2 - p1).natAbs : Int) ∧ ∀ k : Int, 0 ≤ k → (lo ≤ k ↔ (if lo > 0 then lo else 0) ≤ k) := by
    split <;> exact ⟨by omega, by omega, fun k _ => by omega⟩
  generalize (if lo > 0 then lo else 0) = l at m0 ⊢
  have r0 : 0 ≤ (res - l) % step := Int.emod_nonneg _ (by omega)
  have r1 : (res - l) % step < step := Int.emod_lt_of_pos _ sp
  refine .inf hs M.st (by omega) (by omega) fun k hk => ?_
  rw [on_iff h2, M.at_ k, ← low k, m0.2.2 k hk, ← from_on sp]
  exact And.comm
theorem opp_low {p1 s1 p2 s2 : Int} (h1 : s1 ≠ 0) (h2 : s2 ≠ 0) (hs : ¬ (0 < s1 ↔ 0 < s2)) (k : Int) : k ≤ (p2 - p1).fdiv s1 ↔ (0 < s2 → p2 - p1 ≤ k * s1) ∧ (s2 < 0 → k * s1 ≤ p2 - p1) := by
  rw [le_fdiv h1]
  constructor
  · intro y
    exact ⟨fun c => y.2 (by omega), fun c => y.1 (by omega)⟩
  · intro y
    exact ⟨fun c => y.2 (by omega), fun c => y.1 (by omega)⟩
/-- beside one another modulo step, and neither below nought: the remainder is the least -/
theorem least_res {step res k : Int} (h0 : 0 ≤ k) (r1 : res < step) (hk : step ∣ k - res) : res ≤ k := by
  obtain ⟨x, hx⟩ := hk
  by_cases c : res ≤ k
  · exact c
  · exfalso
    by_cases y : 0 ≤ x
    · have : 0 ≤ step * x := Int.mul_nonneg (by omega) y
      omega
    · have : step * x ≤ step * (-1) := Int.mul_le_mul_of_nonneg_left (by omega) (by omega)
      omega
theorem comm_no {p1 s1 p2 s2 d step res : Int} (h1 : s1 ≠ 0) (h2 : s2 ≠ 0) (hs : ¬ (0 < s1 ↔ 0 < s2)) (M : Meet s1 s2 (p2 - p1) d step res) (hr : (p2 - p1).fdiv s1 < res) : Comm p1 s1 p2 s2 none := by
  refine .no fun k hk h => ?_
  rw [on_iff h2, M.at_ k, ← opp_low h1 h2 hs k] at h
  have := least_res hk M.r1 h.1
  omega
theorem comm_opp {p1 s1 p2 s2 d step res : Int} (h1 : s1 ≠ 0) (h2 : s2 ≠ 0) (hs : ¬ (0 < s1 ↔ 0 < s2)) (M : Meet s1 s2 (p2 - p1) d step res) (hr : res ≤ (p2 - p1).fdiv s1) :
    Comm p1 s1 p2 s2 (some (res, some ((p2 - p1).fdiv s1 - ((p2 - p1).fdiv s1 - res) % step), step)) := by
  have sp := M.st.1
  have low := opp_low (p1 := p1) (p2 := p2) h1 h2 hs
  have mle : (p2 - p1).fdiv s1 ≤ (p2 - p1).natAbs := by
    by_cases c : (p2 - p1).fdiv s1 ≤ (p2 - p1).natAbs
    · exact c
    · exfalso
      have y := (le_fdiv (k := ((p2 - p1).natAbs : Int) + 1) (a := p2 - p1) h1).mp (by omega)
      have z := abs_mul_ge (g := p2 - p1) h1
      have e : (((p2 - p1).natAbs : Int) + 1) * s1 = (p2 - p1).natAbs * s1 + s1 := by rw [Int.add_mul, Int.one_mul]
      by_cases c : 0 < s1
      · have := y.1 c
        have := z.1 c
        omega
      · have := y.2 (by omega)
        have := z.2 (by omega)
        omega
  generalize (p2 - p1).fdiv s1 = mo at low hr mle ⊢
  have e : mo - res = step * ((mo - res) / step) + (mo - res) % step := (Int.mul_ediv_add_emod _ _).symm
  have q0 : 0 ≤ (mo - res) / step := Int.ediv_nonneg (by omega) (by omega)
  have r0 : 0 ≤ (mo - res) % step := Int.emod_nonneg _ (by omega)
  have r1 : (mo - res) % step < step := Int.emod_lt_of_pos _ sp
  generalize (mo - res) / step = q at e q0
  generalize (mo - res) % step = r at *
  have sq : 0 ≤ step * q := Int.mul_nonneg (by omega) q0
  refine .fin hs M.st M.r0 (by omega) (by omega) ⟨q, by omega⟩ fun k hk => ?_
  rw [on_iff h2, M.at_ k, ← low k]
  constructor
  · rintro ⟨h, hm⟩
    refine ⟨least_res hk M.r1 h, ?_, h⟩
    obtain ⟨x, hx⟩ := h
    by_cases c : k ≤ mo - r
    · exact c
    · exfalso
      have : step * (q + 1) ≤ step * x := Int.mul_le_mul_of_nonneg_left (by
        by_cases y : q + 1 ≤ x
        · exact y
        · have : step * x ≤ step * q := Int.mul_le_mul_of_nonneg_left (by omega) (by omega)
          omega) (by omega)
      have : step * (q + 1) = step * q + step := by rw [Int.mul_add, Int.mul_one]
      omega
  · rintro ⟨_, h, hd⟩
    exact ⟨hd, by omega⟩
theorem comm_gap {p1 s1 p2 s2 d : Int} (h1 : d ∣ s1) (h2 : d ∣ s2) (hg : ¬ d ∣ p2 - p1) : Comm p1 s1 p2 s2 none := by
  refine .no fun k hk ⟨j, _, h⟩ => hg ?_
  obtain ⟨a, rfl⟩ := h1
  obtain ⟨b, rfl⟩ := h2
  exact ⟨k * a - j * b, by grind⟩
theorem mul_bd {a b A B : Int} (h0 : 0 ≤ a) (h1 : a ≤ A) (h2 : -B ≤ b) (h3 : b ≤ B) (hB : 0 ≤ B) : -(A * B) ≤ a * b ∧ a * b ≤ A * B := by
  have x1 : a * b ≤ a * B := Int.mul_le_mul_of_nonneg_left h3 h0
  have x2 : a * B ≤ A * B := Int.mul_le_mul_of_nonneg_right h1 hB
  have x3 : a * (-B) ≤ a * b := Int.mul_le_mul_of_nonneg_left h2 h0
  rw [Int.mul_neg] at x3
  omega
end Ur
/-! KC: common numbers, common posts. -/
namespace Ur
open PySem PySem.Spec PyProof.Rows L2
abbrev s_divisor_and_factor : Stmt := (topS 32)
abbrev N_sc_divisor_and_factor : List Str := ["number", "modulus", "divisor", "factor", "rest", "rest_factor", "times"]
abbrev P_divisor_and_factor : List Str := ["number", "modulus"]
theorem sc_divisor_and_factor : FnScope N_sc_divisor_and_factor P_divisor_and_factor (defScope s_divisor_and_factor) := ⟨rfl, rfl, rfl, by decide +kernel, rfl, by decide +kernel, by decide +kernel⟩
def spDF : Sp := fun vs H Q _ => ∃ n m : Int, vs = [.int n, .int m] ∧ 0 ≤ n ∧ n < m ∧ m < 2 ^ 100 ∧ ∀ (d f : Int) (t : Addr) (H' : Hp), DivFac n m d f → H' t = some (.tup [.int d, .int f]) → Same H H' → Q (.ref t) H'
def restOf (σ : List (Option L2.V)) : Nat := match σ[4]? with
  | some (some (L2.V.int r)) => r.toNat
  | _ => 0
section
variable {P : Program} {w : World} {K : PySem.W.Frag} {mg : Str → Option Value} {base : Heap}
theorem ok_df (D : Dfn K mg "divisor_and_factor" s_divisor_and_factor P_divisor_and_factor) : Cal P w K mg base 1 "divisor_and_factor" P_divisor_and_factor spDF := by
  refine D.cal sc_divisor_and_factor (fun vs H Q E h => ?_) fun f cdv A outer s H vs Q E hr h => ?_
  · obtain ⟨n, m, rfl, _⟩ := h
    rfl
  obtain ⟨n, m, rfl, n0, n1, m1, q⟩ := h
  refine ⟨_, (pss_cons (ps_par (i := 2) (j := 3) rfl sc_divisor_and_factor.nd rfl rfl (by decide) rfl rfl (pa_cons (pv 0) (pa_cons pe_int pa_nil)) (by rfl)) (pss_cons (ps_par (i := 4) (j := 5) rfl sc_divisor_and_factor.nd rfl rfl (by decide) rfl rfl (pa_cons (pv 1) (pa_cons pe_int pa_nil)) (by rfl)) (pss_cons (ps_while PassesOwn.never (pt_cmpR op_ne (pv 4) pe_int (nomark _)) (pss_cons (ps_set (i := 6) sc_divisor_and_factor.nd rfl (Or.inl rfl) (pe_op op_fdivW (pv 2) (pv 4))) (pss_cons (ps_par (i := 2) (j := 4) rfl sc_divisor_and_factor.nd rfl rfl (by decide) rfl rfl (pa_cons (pv 4) (pa_cons (pe_op op_sub (pv 2) (pe_op op_mulW (pv 6) (pv 4))) pa_nil)) (by rfl)) (pss_one (ps_par (i := 3) (j := 5) rfl sc_divisor_and_factor.nd rfl rfl (by decide) rfl rfl (pa_cons (pv 5) (pa_cons (pe_op op_sub (pv 3) (pe_op op_mulW (pv 6) (pv 5))) pa_nil)) (by rfl)))))) (pss_one (ps_ret (pe_tup (pa_cons (pv 2) (pa_cons (pv 3) pa_nil)))))))), ?_⟩
  refine ⟨_, rfl, _, _, rfl, _, rfl, _, _, rfl, ?_⟩
  refine while_by (fun σ' H' => ∃ (d f r g : Int) (t : Option V), σ' = [some (.int n), some (.int m), some (.int d), some (.int f), some (.int r), some (.int g), t] ∧ Euc n m d r f g ∧ d ≤ m ∧ r ≤ m ∧ H' = H) (fun σ _ => restOf σ) ⟨_, _, _, _, _, rfl, Euc.start n0 (by omega), by omega, by omega, rfl⟩ ?_ (fun σ H Q Q' k ⟨v, hv, hs, b, hb, q⟩ => ⟨v, hv, hs, b, hb, k _ _ q⟩)
  rintro σ' H' ⟨d, f, r, g, t, rfl, E, dm, rm, rfl⟩
  refine ⟨_, rfl, rfl, _, rfl, ?_⟩
  by_cases hr0 : r = 0
  · subst hr0
    refine iteNS rfl ?_
    refine ⟨_, rfl, _, rfl, (by show 2 ≤ sizeLine; decide), fun t ht => ?_⟩
    exact q d f t _ (E.done (by omega)) upd_same (same_new ht _)
  · have c : (!decide (V.int r = V.int 0)) = true := by
      rw [decide_eq_false fun e => hr0 (V.int.inj e)]
      rfl
    show (if (!decide (V.int r = V.int 0)) = true then _ else _)
    rw [if_pos c]
    have r0 := E.r0
    have d0 := E.d0
    have f0 := E.f0
    have f1 := E.f1
    have g0 := E.g0
    have g1 := E.g1
    have t0 : 0 ≤ d / r := Int.ediv_nonneg d0 r0
    have t1 : d / r ≤ d := Int.ediv_le_self r d0
    have em := Int.emod_lt_of_pos d (show 0 < r by omega)
    have en := Int.emod_nonneg d hr0
    have e : d - d / r * r = d % r := by
      have h := Int.mul_ediv_add_emod d r
      have h2 : r * (d / r) = d / r * r := Int.mul_comm _ _
      omega
    refine ⟨_, rfl, _, rfl, _, _, rfl, rfl, wide_div (b := 120) (by omega) (by omega) (by decide) (by decide), ?_⟩
    refine ⟨_, rfl, _, rfl, _, rfl, _, rfl, _, _, rfl, rfl, wide_mul (a := 120) (b := 120) (by omega) (by omega) (by decide) (by decide) (by decide), _, _, rfl, rfl, _, _, rfl, ?_⟩
    refine ⟨_, rfl, _, rfl, _, rfl, _, rfl, _, _, rfl, rfl, wide_mul (a := 120) (b := 120) (by omega) (by omega) (by decide) (by decide) (by decide), _, _, rfl, rfl, _, _, rfl, ?_⟩
    refine ⟨⟨_, _, _, _, _, rfl, E.step hr0, rm, by omega, rfl⟩, ?_⟩
    show (d - d / r * r).toNat < r.toNat
    omega
end
def optV : Option Int → V
  | none => .non
  | some i => .int i
/-- the numbers as the program hands them back -/
def CNval (H : Hp) (v : V) : Option (Int × Option Int × Int) → Prop
  | none => v = .non
  | some (a, l, s) => ∃ t, v = .ref t ∧ H t = some (.tup [.int a, optV l, .int s])
/-- two painters -/
structure Two (C : Addr) (H : Hp) (a1 a2 : Addr) (nm1 : Str) (d1 p1 s1 : Int) (nm2 : Str) (d2 p2 s2 : Int) : Prop where
  h1 : PnAt C H a1 nm1 d1 p1 s1
  h2 : PnAt C H a2 nm2 d2 p2 s2
  o1 : PartOk nm1 d1 p1 s1
  o2 : PartOk nm2 d2 p2 s2
abbrev s_common_numbers : Stmt := (topS 30)
abbrev N_sc_common_numbers : List Str := ["one", "other", "size", "divisor", "factor", "gap", "step", "residue", "least", "most"]
abbrev P_common_numbers : List Str := ["one", "other"]
theorem sc_common_numbers : FnScope N_sc_common_numbers P_common_numbers (defScope s_common_numbers) := ⟨rfl, rfl, rfl, by decide +kernel, rfl, by decide +kernel, by decide +kernel⟩
def spCN (C : Addr) : Sp := fun vs H Q _ => ∃ (a1 a2 : Addr) (nm1 : Str) (d1 p1 s1 : Int) (nm2 : Str) (d2 p2 s2 : Int), vs = [.ref a1, .ref a2] ∧ Two C H a1 a2 nm1 d1 p1 s1 nm2 d2 p2 s2 ∧
  ∀ (r : Option (Int × Option Int × Int)) (v : V) (H' : Hp), Comm p1 s1 p2 s2 r → CNval H' v r → Same H H' → Q v H'
theorem df_both {s1 s2 d f : Int} (D : DivFac (s1 % (s2.natAbs : Int)) (s2.natAbs : Int) d f) : d ∣ s1 ∧ d ∣ s2 := by
  obtain ⟨d0, ⟨a, ha⟩, ⟨b, hb⟩, _⟩ := D
  have e1 : s1 = (s2.natAbs : Int) * (s1 / (s2.natAbs : Int)) + s1 % (s2.natAbs : Int) := (Int.mul_ediv_add_emod s1 _).symm
  refine ⟨⟨b * (s1 / (s2.natAbs : Int)) + a, by grind⟩, Int.dvd_natAbs.mp ⟨b, hb⟩⟩
section
variable {P : Program} {w : World} {K : PySem.W.Frag} {mg : Str → Option Value} {base : Heap} {C : Addr}
set_option maxHeartbeats 16000000 in
theorem ok_cn (D : Dfn K mg "common_numbers" s_common_numbers P_common_numbers) (B : Blt mg) (T : PTxt K mg C) (hPost : PropS P w K mg base C "post" 1 (getSp C "_post")) (hStride : PropS P w K mg base C "stride" 1 (getSp C "_stride"))
    (CDF : Cal P w K mg base 1 "divisor_and_factor" P_divisor_and_factor spDF) : Cal P w K mg base 3 "common_numbers" P_common_numbers (spCN C) := by
  refine D.cal sc_common_numbers (fun vs H Q E h => ?_) fun f cdv A outer s H vs Q E hr h => ?_
  · obtain ⟨a1, a2, _, _, _, _, _, _, _, _, rfl, _⟩ := h
    rfl
  obtain ⟨a1, a2, nm1, d1, p1, s1, nm2, d2, p2, s2, rfl, Tw, q⟩ := h
  obtain ⟨dx1, h1⟩ := Tw.h1
  obtain ⟨dx2, h2⟩ := Tw.h2
  obtain ⟨_, _, _, p10, p11, s10, s11, s1n⟩ := Tw.o1
  obtain ⟨_, _, _, p20, p21, s20, s21, s2n⟩ := Tw.o2
  refine ⟨_, (C8.pss_cut (ps_set (i := 2) sc_common_numbers.nd rfl (Or.inl rfl) (pe_callB call_abs rfl B.abs_ (by decide +kernel) (pa_cons (pe_prS (pv 1) T.cl hStride (hr.mono (by decide))) pa_nil))) (pss_cons (ps_asg (pe_cal CDF (hr.mono (by decide)) (pa_cons (pe_op op_mod (pe_prS (pv 0) T.cl hStride (hr.mono (by decide))) (pv 2)) (pa_cons (pv 2) pa_nil))) (pg_tup rfl (pgs_cons (pg_name (i := 3) sc_common_numbers.nd rfl (Or.inl rfl)) (pgs_cons (pg_name (i := 4) sc_common_numbers.nd rfl (Or.inl rfl)) pgs_nil)))) (pss_cons (ps_set (i := 5) sc_common_numbers.nd rfl (Or.inl rfl) (pe_op op_sub (pe_prS (pv 1) T.cl hPost (hr.mono (by decide))) (pe_prS (pv 0) T.cl hPost (hr.mono (by decide))))) (pss_cons (ps_if (pt_cmpR op_ne (pe_op op_mod (pv 5) (pv 3)) pe_int (nomark _)) (pss_one (ps_ret pe_non)) pss_nil) (pss_cons (ps_set (i := 6) sc_common_numbers.nd rfl (Or.inl rfl) (pe_op op_fdivW (pv 2) (pv 3))) (C8.pss_cut (ps_set (i := 7) sc_common_numbers.nd rfl (Or.inl rfl) (pe_op op_mod (pe_op op_mulW (pe_op op_fdivW (pv 5) (pv 3)) (pv 4)) (pv 6))) (pss_cons (ps_if (pt_cmpR op_eq (pe_cmpR op_gt (pe_prS (pv 0) T.cl hStride (hr.mono (by decide))) pe_int (nomark _)) (pe_cmpR op_gt (pe_prS (pv 1) T.cl hStride (hr.mono (by decide))) pe_int (nomark _)) (nomark _)) (pss_cons (ps_set (i := 8) sc_common_numbers.nd rfl (Or.inl rfl) (pe_callB (call_max2 rfl) rfl B.max_ (by decide +kernel) (pa_cons pe_int (pa_cons (pe_un un_neg (pe_op op_fdivX (pe_un un_neg (pv 5)) (pe_prS (pv 0) T.cl hStride (hr.mono (by decide))))) pa_nil)))) (pss_one (ps_ret (pe_tup (pa_cons (pe_op op_add (pv 8) (pe_op op_mod (pe_op op_sub (pv 7) (pv 8)) (pv 6))) (pa_cons pe_non (pa_cons (pv 6) pa_nil))))))) pss_nil) (pss_cons (ps_set (i := 9) sc_common_numbers.nd rfl (Or.inl rfl) (pe_op op_fdivX (pv 5) (pe_prS (pv 0) T.cl hStride (hr.mono (by decide))))) (pss_cons (ps_if (pt_cmpR op_gt (pv 7) (pv 9) (nomark _)) (pss_one (ps_ret pe_non)) pss_nil) (pss_one (ps_ret (pe_tup (pa_cons (pv 7) (pa_cons (pe_op op_sub (pv 9) (pe_op op_mod (pe_op op_sub (pv 9) (pv 7)) (pv 6))) (pa_cons (pv 6) pa_nil))))))))))))))), ?_⟩
  refine ⟨fun σ' H' => σ' = [some (.ref a1), some (.ref a2), some (.int (s2.natAbs : Int)), none, none, none, none, none, none, none] ∧ H' = H, ?_, ?_⟩
  · refine ⟨_, rfl, a2, dx2, _, rfl, h2, a2, dx2, _, _, rfl, h2, pfs_stride _ _ _ _, _, rfl, ?_⟩
    have e : (if s2 < 0 then -s2 else s2) = (s2.natAbs : Int) := by split <;> omega
    exact ⟨by rw [e]; rfl, rfl⟩
  rintro σ' H' ⟨rfl, rfl⟩
  have sz : 0 < (s2.natAbs : Int) := by omega
  refine ⟨_, rfl, a1, dx1, _, rfl, h1, a1, dx1, _, _, rfl, h1, pfs_stride _ _ _ _, _, rfl, _, _, rfl, rfl, sz, _, rfl, _, _, rfl, em0 _ sz, em1 _ sz, by omega, fun d f t H1 D ht sm1 => ?_⟩
  refine ⟨t, _, rfl, SqT.of ht, rfl, _, _, rfl, _, _, rfl, rfl, ?_⟩
  have h1' := sm1 _ _ h1
  have h2' := sm1 _ _ h2
  refine ⟨_, rfl, a2, dx2, _, rfl, h2', a2, dx2, _, _, rfl, h2', pfs_post _ _ _ _, _, rfl, a1, dx1, _, rfl, h1', a1, dx1, _, _, rfl, h1', pfs_post _ _ _ _, _, _, rfl, rfl, ?_⟩
  have dp := D.pos
  refine ⟨_, rfl, _, rfl, _, _, rfl, rfl, dp, rfl, _, rfl, ?_⟩
  by_cases hg : (p2 - p1) % d = 0
  · have c : (V.int ((p2 - p1) % d) = V.int 0) := by rw [hg]
    refine iteNS c ?_
    have M := meet_of (gap := p2 - p1) s2n D (Int.dvd_of_emod_eq_zero hg)
    have dle : d ≤ (s2.natAbs : Int) := Int.le_of_dvd sz D.dm
    refine ⟨_, rfl, _, rfl, _, _, rfl, rfl, wide_div (b := 120) dp (by omega) (by decide) (by decide), ?_⟩
    have stp := M.st.1
    have stl : (s2.natAbs : Int) / d ≤ s2.natAbs := Int.ediv_le_self d (by omega)
    have gq : ((p2 - p1) / d).natAbs < 2 ^ 200 := by
      have : ((p2 - p1) / d).natAbs ≤ (p2 - p1).natAbs := Int.natAbs_ediv_le_natAbs (p2 - p1) d
      omega
    have f0 := D.f0
    have f1 := D.f1
    refine ⟨fun σ' H' => ∃ st res : Int, σ' = [some (.ref a1), some (.ref a2), some (.int (s2.natAbs : Int)), some (.int d), some (.int f), some (.int (p2 - p1)), some (.int st), some (.int res), none, none] ∧ Meet s1 s2 (p2 - p1) d st res ∧ st ≤ s2.natAbs ∧ H' = H1, ?_, ?_⟩
    · refine ⟨_, rfl, _, rfl, _, _, rfl, rfl, wide_div (b := 120) dp (by omega) (by decide) (by decide), _, rfl, _, _, rfl, rfl, wide_mul (a := 200) (b := 120) gq (by omega) (by decide) (by decide) (by decide), _, rfl, _, _, rfl, rfl, stp, ?_⟩
      exact ⟨_, _, rfl, M, stl, rfl⟩
    rintro σ' H' ⟨st, res, rfl, M, stl, rfl⟩
    have stp := M.st.1
    refine ⟨_, rfl, a1, dx1, _, rfl, h1', a1, dx1, _, _, rfl, h1', pfs_stride _ _ _ _, _, _, rfl, rfl, _, rfl, a2, dx2, _, rfl, h2', a2, dx2, _, _, rfl, h2', pfs_stride _ _ _ _, _, _, rfl, rfl, rfl, _, rfl, ?_⟩
    have dvx : CDivX (p2 - p1) s1 := ⟨s1n, Nat.lt_of_lt_of_le (PySem.Flt.log2_lt_of (by decide) (show s1.natAbs < 2 ^ 120 by omega)) (by decide)⟩
    have dvy : CDivX (-(p2 - p1)) s1 := dvx
    refine ite2 (fun c => ?_) (fun c => ?_)
    · have hs : 0 < s1 ↔ 0 < s2 := by
        have e := V.bl.inj (of_decide_eq_true c)
        by_cases a : 0 < s1
        · rw [decide_eq_true a] at e
          exact ⟨fun _ => of_decide_eq_true e.symm, fun _ => a⟩
        · rw [decide_eq_false a] at e
          exact ⟨fun z => absurd z a, fun z => by rw [decide_eq_true z] at e; cases e⟩
      refine ⟨_, rfl, _, rfl, _, rfl, a1, dx1, _, rfl, h1', a1, dx1, _, _, rfl, h1', pfs_stride _ _ _ _, _, _, rfl, rfl, dvy, _, rfl, _, _, rfl, ?_⟩
      refine ⟨_, rfl, _, rfl, _, rfl, _, _, rfl, rfl, _, rfl, _, _, rfl, rfl, stp, _, _, rfl, rfl, _, rfl, (by show 3 ≤ sizeLine; decide), fun t ht => ?_⟩
      exact q _ _ _ (comm_same s1n s2n hs M) ⟨t, rfl, upd_same⟩ (sm1.trans (same_new ht _))
    · have hs : ¬ (0 < s1 ↔ 0 < s2) := by
        intro z
        have z2 : decide (0 < s1) = decide (0 < s2) := by
          by_cases a : 0 < s1
          · rw [decide_eq_true a, decide_eq_true (z.mp a)]
          · rw [decide_eq_false a, decide_eq_false fun y => a (z.mpr y)]
        exact c (decide_eq_true (congrArg V.bl z2))
      refine ⟨_, rfl, _, rfl, a1, dx1, _, rfl, h1', a1, dx1, _, _, rfl, h1', pfs_stride _ _ _ _, _, _, rfl, rfl, dvx, ?_⟩
      refine ⟨_, rfl, _, rfl, _, _, rfl, rfl, _, rfl, ?_⟩
      refine ite2 (fun c => ?_) (fun c => ?_)
      · have c := of_decide_eq_true c
        exact q _ _ _ (comm_no s1n s2n hs M c) rfl sm1
      · have c : ¬ (p2 - p1).fdiv s1 < res := of_decide_eq_false (Bool.eq_false_iff.mpr c)
        refine ⟨_, rfl, _, rfl, _, rfl, _, rfl, _, _, rfl, rfl, _, rfl, _, _, rfl, rfl, stp, _, _, rfl, rfl, _, rfl, (by show 3 ≤ sizeLine; decide), fun t ht => ?_⟩
        exact q _ _ _ (comm_opp s1n s2n hs M (by omega)) ⟨t, rfl, upd_same⟩ (sm1.trans (same_new ht _))
  · have c : (!decide (V.int ((p2 - p1) % d) = V.int 0)) = true := by
      rw [decide_eq_false fun e => hg (V.int.inj e)]
      rfl
    show (if (!decide (V.int ((p2 - p1) % d) = V.int 0)) = true then _ else _)
    rw [if_pos c]
    obtain ⟨y1, y2⟩ := df_both D
    exact q _ _ _ (comm_gap y1 y2 fun z => hg (Int.emod_eq_zero_of_dvd z)) rfl sm1
end
end Ur
/-! KP: common posts. -/
namespace Ur
open PySem PySem.Spec PyProof.Rows L2
theorem Comm.first_le {p1 s1 p2 s2 a s : Int} {l : Option Int} (C : Comm p1 s1 p2 s2 (some (a, l, s))) : 0 ≤ a ∧ a ≤ (p2 - p1).natAbs + s ∧ Steps s1 s2 s ∧ ∀ x, l = some x → 0 ≤ x ∧ x ≤ (p2 - p1).natAbs := by
  cases C with
  | inf h1 h2 h3 h4 h5 => exact ⟨h3, h4, h2, fun x e => by cases e⟩
  | fin h1 h2 h3 h4 h5 h6 h7 => exact ⟨h3, by have := h2.1; omega, h2, fun x e => by cases e; omega⟩
theorem step_le {s1 s2 s : Int} (h : s2 ≠ 0) (S : Steps s1 s2 s) : s ≤ s2.natAbs := by
  have z := (S.2 (s2.natAbs : Int)).mp (Int.dvd_trans (Int.dvd_natAbs.mpr (Int.dvd_refl s2)) ⟨s1, rfl⟩)
  exact Int.le_of_dvd (by omega) z
end Ur
/-! UrL: lists of numbers that pass a test. -/
namespace Ur
end Ur
/-! UrN: common numbers by remainders. -/
namespace Ur
/-- the numbers of common posts, without a word of their size -/
inductive CommW (p1 s1 p2 s2 : Int) : Option (Int × Option Int × Int) → Prop where
  | no : (∀ k : Int, 0 ≤ k → ¬ On p2 s2 (p1 + k * s1)) → CommW p1 s1 p2 s2 none
  | inf {first step : Int} : (0 < s1 ↔ 0 < s2) → Steps s1 s2 step → 0 ≤ first → (∀ k : Int, 0 ≤ k → (On p2 s2 (p1 + k * s1) ↔ first ≤ k ∧ step ∣ k - first)) → CommW p1 s1 p2 s2 (some (first, none, step))
  | fin {first last step : Int} : ¬ (0 < s1 ↔ 0 < s2) → Steps s1 s2 step → 0 ≤ first → first ≤ last → step ∣ last - first → (∀ k : Int, 0 ≤ k → (On p2 s2 (p1 + k * s1) ↔ first ≤ k ∧ k ≤ last ∧ step ∣ k - first)) → CommW p1 s1 p2 s2 (some (first, some last, step))
theorem Comm.weak {p1 s1 p2 s2 : Int} {r : Option (Int × Option Int × Int)} (C : Comm p1 s1 p2 s2 r) : CommW p1 s1 p2 s2 r := by
  cases C with
  | no h => exact .no h
  | inf h1 h2 h3 h4 h5 => exact .inf h1 h2 h3 h5
  | fin h1 h2 h3 h4 h5 h6 h7 => exact .fin h1 h2 h3 h4 h6 h7
/-- Meet from a common divisor and an inverse -/
theorem meet_by {s1 s2 gap d st u i : Int} (d0 : 0 < d) (hu : s1 = d * u) (hm : (s2.natAbs : Int) = d * st) (stp : 0 < st) (hi : st ∣ u * i - 1) (hg : d ∣ gap) : Meet s1 s2 gap d st ((gap / d * i) % st) := by
  obtain ⟨gq, hgq⟩ := hg
  have egq : gap / d = gq := by rw [hgq]; exact Int.mul_ediv_cancel_left _ (by omega)
  rw [egq]
  obtain ⟨c, hc⟩ := hi
  have key : ∀ x : Int, d * st ∣ d * x ↔ st ∣ x := fun x => ⟨fun h => Int.dvd_of_mul_dvd_mul_left (by omega) h, fun h => Int.mul_dvd_mul_left d h⟩
  have m2 : ∀ x : Int, s2 ∣ x ↔ d * st ∣ x := fun x => by rw [← hm]; exact Int.natAbs_dvd.symm
  refine ⟨d0, ⟨u, hu⟩, ?_, ⟨gq, hgq⟩, ⟨stp, fun k => ?_⟩, by rw [hm]; exact Int.mul_comm _ _, fun k => ?_, Int.emod_nonneg _ (by omega), Int.emod_lt_of_pos _ stp⟩
  · have : d ∣ (s2.natAbs : Int) := ⟨st, hm⟩
    exact Int.dvd_natAbs.mp this
  · rw [m2, hu, show k * (d * u) = d * (k * u) by grind, key]
    constructor
    · intro ⟨x, hx⟩
      exact ⟨x * i - k * c, by grind⟩
    · intro ⟨x, hx⟩
      exact ⟨x * u, by grind⟩
  · rw [m2, hu, hgq, show k * (d * u) - d * gq = d * (k * u - gq) by grind, key]
    have er : gq * i = st * (gq * i / st) + gq * i % st := (Int.mul_ediv_add_emod _ _).symm
    generalize gq * i / st = w at er
    generalize gq * i % st = res at er
    constructor
    · intro ⟨x, hx⟩
      exact ⟨x * i - k * c + w, by grind⟩
    · intro ⟨x, hx⟩
      exact ⟨x * u + gq * c - w * u, by grind⟩
section
variable {p1 s1 p2 s2 d st k j sp : Int}
theorem sp_sign (h1 : s1 ≠ 0) (h2 : s2 ≠ 0) (stp : 0 < st) (hs : sp * s2 = s1 * st) : (0 < sp ↔ (0 < s1 ↔ 0 < s2)) ∧ sp ≠ 0 := by
  by_cases a : 0 < s1
  · have z : 0 < s1 * st := Int.mul_pos a stp
    by_cases b : 0 < s2
    · have : 0 < sp := by
        by_cases c : 0 < sp
        · exact c
        · have := Int.mul_nonpos_of_nonpos_of_nonneg (show sp ≤ 0 by omega) (show 0 ≤ s2 by omega)
          omega
      exact ⟨⟨fun _ => ⟨fun _ => b, fun _ => a⟩, fun _ => this⟩, by omega⟩
    · have : sp < 0 := by
        by_cases c : sp < 0
        · exact c
        · have := Int.mul_nonpos_of_nonneg_of_nonpos (show 0 ≤ sp by omega) (show s2 ≤ 0 by omega)
          omega
      exact ⟨⟨fun y => by omega, fun y => absurd (y.mp a) b⟩, by omega⟩
  · have z : s1 * st < 0 := Int.mul_neg_of_neg_of_pos (by omega) stp
    by_cases b : 0 < s2
    · have : sp < 0 := by
        by_cases c : sp < 0
        · exact c
        · have := Int.mul_nonneg (show 0 ≤ sp by omega) (show 0 ≤ s2 by omega)
          omega
      exact ⟨⟨fun y => by omega, fun y => absurd (y.mpr b) a⟩, by omega⟩
    · have : 0 < sp := by
        by_cases c : 0 < sp
        · exact c
        · have := Int.mul_nonneg_of_nonpos_of_nonpos (show sp ≤ 0 by omega) (show s2 ≤ 0 by omega)
          omega
      exact ⟨⟨fun _ => ⟨fun y => absurd y a, fun y => absurd y b⟩, fun _ => this⟩, by omega⟩
end
/-- dividing by the greatest common divisor -/
theorem gcd_parts {s1 s2 : Int} (h : s2 ≠ 0) : ∃ u st, s1 = (Int.gcd s1 s2 : Int) * u ∧ (s2.natAbs : Int) = (Int.gcd s1 s2 : Int) * st ∧ 0 < st ∧ 0 < (Int.gcd s1 s2 : Int) ∧ Int.gcd u st = 1 ∧ (Int.gcd s1 s2 : Int) ≤ s2.natAbs := by
  have g0 : 0 < Int.gcd s1 s2 := Int.gcd_pos_of_ne_zero_right s1 h
  obtain ⟨u, hu⟩ := Int.gcd_dvd_left s1 s2
  have dz : (Int.gcd s1 s2 : Int) ∣ (s2.natAbs : Int) := Int.dvd_natAbs.mpr (Int.gcd_dvd_right s1 s2)
  obtain ⟨st, hst⟩ := dz
  have g1 : (Int.gcd s1 s2 : Int) ≤ s2.natAbs := Int.le_of_dvd (by omega) ⟨st, hst⟩
  have stp : 0 < st := by
    by_cases c : 0 < st
    · exact c
    · have := Int.mul_nonpos_of_nonneg_of_nonpos (show 0 ≤ (Int.gcd s1 s2 : Int) by omega) (show st ≤ 0 by omega)
      omega
  refine ⟨u, st, hu, hst, stp, by omega, ?_, g1⟩
  have e : Int.gcd s1 s2 = Int.gcd s1 s2 * Int.gcd u st := by
    have z : Int.gcd ((Int.gcd s1 s2 : Int) * u) ((Int.gcd s1 s2 : Int) * st) = Int.gcd s1 s2 * Int.gcd u st := by rw [Int.gcd_mul_left]; rfl
    rw [← hu, ← hst] at z
    rw [← z]
    simp [Int.gcd]
  exact Nat.eq_of_mul_eq_mul_left g0 (by rw [Nat.mul_one]; exact e.symm)
end Ur
/-! UrF: the mathematics of first blocks. -/
namespace Ur
/-- at the n-th post of the one, the other one, with this count, was before -/
def Blk (p1 d1 s1 p2 d2 s2 : Int) (cnt : Option Int) (fl : Bool) (n : Int) : Prop := ∃ j : Int, 0 ≤ j ∧ p1 + n * s1 = p2 + j * s2 ∧ (∀ c, cnt = some c → j < c) ∧ (d2 + j < d1 + n ∨ fl = true ∧ d2 + j = d1 + n)
/-- the least number from 0 on, if there is one -/
def Least (P : Int → Prop) : Option Int → Prop
  | none => ∀ n, 0 ≤ n → ¬ P n
  | some n => 0 ≤ n ∧ P n ∧ ∀ m, 0 ≤ m → m < n → ¬ P m
theorem Least.uniq {P : Int → Prop} : ∀ {a b : Option Int}, Least P a → Least P b → a = b
  | none, none, _, _ => rfl
  | none, some b, h, g => absurd g.2.1 (h b g.1)
  | some a, none, h, g => absurd h.2.1 (g a h.1)
  | some a, some b, h, g => by
    have x : ¬ a < b := fun z => g.2.2 a h.1 z h.2.1
    have y : ¬ b < a := fun z => h.2.2 b g.1 z g.2.1
    obtain rfl : a = b := by omega
    rfl
theorem Least.congr {P Q : Int → Prop} (h : ∀ n, 0 ≤ n → (P n ↔ Q n)) : ∀ {r : Option Int}, Least P r → Least Q r
  | none, l => fun n n0 q => l n n0 ((h n n0).mpr q)
  | some a, l => ⟨l.1, (h a l.1).mp l.2.1, fun m m0 ml q => l.2.2 m m0 ml ((h m m0).mpr q)⟩
/-- no line is below nought at x -/
def Up (ls : List (Int × Int)) (x : Int) : Prop := ∀ z ∈ ls, 0 ≤ z.1 + x * z.2
/-- the index when the lines ws were looked at -/
structure Idx (M : Int) (ws : List (Int × Int)) (x : Int) : Prop where
  x0 : 0 ≤ x
  xM : x ≤ M
  ok : ∀ z ∈ ws, 0 < z.2 → 0 ≤ z.1 + x * z.2
  lt : ∀ y, 0 ≤ y → y < x → ∃ z ∈ ws, z.1 + y * z.2 < 0
theorem ceil_iff {a b : Int} (hb : 0 < b) (x : Int) : -(a / b) ≤ x ↔ 0 ≤ a + x * b := by
  have z := Int.le_ediv_iff_mul_le (a := -x) (b := a) hb
  rw [Int.neg_mul] at z
  omega
/-! ### the lines of two painters -/
theorem Comm.iff {p1 s1 p2 s2 f st : Int} {l : Option Int} (C : Comm p1 s1 p2 s2 (some (f, l, st))) (n : Int) (n0 : 0 ≤ n) : On p2 s2 (p1 + n * s1) ↔ f ≤ n ∧ (∀ m, l = some m → n ≤ m) ∧ st ∣ n - f := by
  cases C with
  | inf h1 h2 h3 h4 h5 => rw [h5 n n0]; exact ⟨fun z => ⟨z.1, fun m e => (by cases e), z.2⟩, fun z => ⟨z.1, z.2.2⟩⟩
  | fin h1 h2 h3 h4 h5 h6 h7 => rw [h7 n n0]; exact ⟨fun z => ⟨z.1, fun m e => by cases e; exact z.2.1, z.2.2⟩, fun z => ⟨z.1, z.2.1 _ rfl, z.2.2⟩⟩
theorem Comm.pos {p1 s1 p2 s2 f st : Int} {l : Option Int} (C : Comm p1 s1 p2 s2 (some (f, l, st))) : 0 ≤ f ∧ 0 < st ∧ (∀ m, l = some m → f ≤ m) ∧ Steps s1 s2 st := by
  cases C with
  | inf h1 h2 h3 h4 h5 => exact ⟨h3, h2.1, fun m e => (by cases e), h2⟩
  | fin h1 h2 h3 h4 h5 h6 h7 => exact ⟨h3, h2.1, fun m e => (by cases e; exact h4), h2⟩
section
variable {p1 d1 s1 p2 d2 s2 f st j0 o : Int} {l cnt : Option Int} {fl : Bool}
end
end Ur
/-! UrB: first blocks by bounds from below and from above. -/
namespace Ur
/-- (factor, free): no line is below nought at x -/
def UpF (ls : List (Int × Int)) (x : Int) : Prop := ∀ z ∈ ls, 0 ≤ z.2 + x * z.1
structure LH (M : Int) (ws : List (Int × Int)) (low : Int) (high : Option Int) : Prop where
  l0 : 0 ≤ low
  lM : low ≤ M
  hM : ∀ h, high = some h → -M ≤ h ∧ h ≤ M
  iff : ∀ x, 0 ≤ x → (UpF ws x ↔ low ≤ x ∧ ∀ h, high = some h → x ≤ h)
theorem floor_iff {a b : Int} (ha : a < 0) (x : Int) : x ≤ b / (0 - a) ↔ 0 ≤ b + x * a := by
  rw [Int.le_ediv_iff_mul_le (by omega), Int.mul_sub]
  omega
section
variable {p1 d1 s1 p2 d2 s2 d st k j sp : Int} {cnt : Option Int} {fl : Bool}
end
end Ur
/-! UrP: the numbers at which several lines are not below nought; the common numbers within bounds. -/
namespace Ur
open PySem PySem.Spec PyProof.Rows L2
/-- at most, if there is a bound -/
def Le (b : Option Int) (x : Int) : Prop := ∀ m, b = some m → x ≤ m
/-- from a on, up to b -/
structure Spn (M : Int) (ws : List (Int × Int)) (a : Int) (b : Option Int) : Prop where
  a0 : 0 ≤ a
  aM : a ≤ M
  iff : ∀ x, 0 ≤ x → (Up ws x ↔ a ≤ x ∧ Le b x)
theorem Up.snoc {ws : List (Int × Int)} {s k x : Int} : Up (ws ++ [(s, k)]) x ↔ Up ws x ∧ 0 ≤ s + x * k := by
  unfold Up
  constructor
  · exact fun h => ⟨fun z hz => h z (List.mem_append_left _ hz), h (s, k) (List.mem_append_right _ (List.mem_singleton.mpr rfl))⟩
  · rintro ⟨h, g⟩ z hz
    rcases List.mem_append.mp hz with hz | hz
    · exact h z hz
    · obtain rfl := List.mem_singleton.mp hz
      exact g
theorem Spn.start {M : Int} (h : 0 ≤ M) : Spn M [] 0 none := ⟨Int.le_refl 0, h, fun x x0 => ⟨fun _ => ⟨x0, fun m e => (by cases e)⟩, fun _ z hz => absurd hz List.not_mem_nil⟩⟩
theorem Spn.pos {M s k a : Int} {b : Option Int} {ws : List (Int × Int)} (I : Spn M ws a b) (hk : 0 < k) (hM : -M ≤ s) : Spn M (ws ++ [(s, k)]) (max a (-(s / k))) b := by
  have q1 : -(s / k) ≤ M := by
    rw [ceil_iff hk]
    have := Int.mul_le_mul_of_nonneg_left (show 1 ≤ k by omega) (show 0 ≤ M by have := I.a0; have := I.aM; omega)
    omega
  have a0 := I.a0
  have aM := I.aM
  refine ⟨by omega, by omega, fun x x0 => ?_⟩
  rw [Up.snoc, I.iff x x0, ← ceil_iff hk]
  constructor
  · rintro ⟨⟨h1, h2⟩, h3⟩
    exact ⟨by omega, h2⟩
  · rintro ⟨h1, h2⟩
    exact ⟨⟨by omega, h2⟩, by omega⟩
theorem Spn.neg {M s k a : Int} {b : Option Int} {ws : List (Int × Int)} (I : Spn M ws a b) (hk : k < 0) : Spn M (ws ++ [(s, k)]) a (some (match b with | none => s / (-k) | some m => min m (s / (-k)))) := by
  refine ⟨I.a0, I.aM, fun x x0 => ?_⟩
  have e := floor_iff (a := k) (b := s) hk x
  rw [show (0 : Int) - k = -k by omega] at e
  rw [Up.snoc, I.iff x x0, ← e]
  cases b with
  | none =>
    constructor
    · rintro ⟨⟨h1, h2⟩, h3⟩
      exact ⟨h1, fun m em => by cases em; exact h3⟩
    · rintro ⟨h1, h2⟩
      exact ⟨⟨h1, fun m em => by cases em⟩, h2 _ rfl⟩
  | some m =>
    constructor
    · rintro ⟨⟨h1, h2⟩, h3⟩
      have := h2 m rfl
      exact ⟨h1, fun n en => by have en : min m (s / (-k)) = n := Option.some.inj en; omega⟩
    · rintro ⟨h1, h2⟩
      have h2 : x ≤ min m (s / (-k)) := h2 _ rfl
      exact ⟨⟨h1, fun n en => by have en := Option.some.inj en; omega⟩, by omega⟩
theorem Spn.flat {M s a : Int} {b : Option Int} {ws : List (Int × Int)} (I : Spn M ws a b) (hs : 0 ≤ s) : Spn M (ws ++ [(s, 0)]) a b :=
  ⟨I.a0, I.aM, fun x x0 => by rw [Up.snoc, I.iff x x0, Int.mul_zero]; exact ⟨fun h => h.1, fun h => ⟨h, by omega⟩⟩⟩
/-- what is answered of lines -/
def SpnOf (ls : List (Int × Int)) : Option (Int × Option Int) → Prop
  | none => ∀ x, 0 ≤ x → ¬ Up ls x
  | some (a, b) => 0 ≤ a ∧ (∀ m, b = some m → a ≤ m) ∧ ∀ x, 0 ≤ x → (Up ls x ↔ a ≤ x ∧ Le b x)
theorem spn_zero {ls : List (Int × Int)} {s : Int} (h : (s, 0) ∈ ls) (hs : s < 0) : SpnOf ls none := fun x x0 u => by
  have := u _ h
  rw [Int.mul_zero] at this
  omega
theorem Spn.done {M a : Int} {b : Option Int} {ws : List (Int × Int)} (I : Spn M ws a b) (h : ∀ m, b = some m → a ≤ m) : SpnOf ws (some (a, b)) := ⟨I.a0, h, I.iff⟩
theorem Spn.fail {M a m : Int} {ws : List (Int × Int)} (I : Spn M ws a (some m)) (h : m < a) : SpnOf ws none := fun x x0 u => by
  obtain ⟨h1, h2⟩ := (I.iff x x0).mp u
  have := h2 m rfl
  omega
/-! ### two painters -/
/-- of the common posts: among the first c1 of one, the first c2 of the other, the other there L days before -/
def CrP (p1 d1 s1 p2 d2 s2 : Int) (c1 c2 L : Option Int) (n : Int) : Prop := ∃ j : Int, 0 ≤ j ∧ p1 + n * s1 = p2 + j * s2 ∧ (∀ c, c1 = some c → n < c) ∧ (∀ c, c2 = some c → j < c) ∧ (∀ k, L = some k → d2 + j + k ≤ d1 + n)
def CrR (p1 d1 s1 p2 d2 s2 : Int) (c1 c2 L : Option Int) : Option (Int × Int × Option Int) → Prop
  | none => ∀ n, 0 ≤ n → ¬ CrP p1 d1 s1 p2 d2 s2 c1 c2 L n
  | some (f, st, m) => 0 ≤ f ∧ 0 < st ∧ (∀ k, m = some k → 1 ≤ k) ∧ ∀ n, 0 ≤ n → (CrP p1 d1 s1 p2 d2 s2 c1 c2 L n ↔ ∃ k, 0 ≤ k ∧ n = f + k * st ∧ ∀ mm, m = some mm → k < mm)
def crLines (d1 d2 f st j0 o : Int) (l c1 c2 L : Option Int) : List (Int × Int) :=
  l.toList.map (fun m => (m - f, -st)) ++ c1.toList.map (fun c => (c - 1 - f, -st)) ++ c2.toList.map (fun c => (c - 1 - j0, -o)) ++ L.toList.map (fun k => (d1 + f - d2 - j0 - k, st - o))
theorem mem_opt {α β : Type} {o : Option α} {g : α → β} {P : β → Prop} : (∀ z ∈ o.toList.map g, P z) ↔ ∀ m, o = some m → P (g m) := by
  cases o with
  | none => exact ⟨fun _ m e => (by cases e), fun _ z hz => absurd hz List.not_mem_nil⟩
  | some a => exact ⟨fun h m e => (by cases e; exact h _ (List.mem_singleton.mpr rfl)), fun h z hz => by obtain rfl := List.mem_singleton.mp hz; exact h a rfl⟩
theorem up_app {xs ys : List (Int × Int)} {x : Int} : Up (xs ++ ys) x ↔ Up xs x ∧ Up ys x := by
  unfold Up
  exact ⟨fun h => ⟨fun z hz => h z (List.mem_append_left _ hz), fun z hz => h z (List.mem_append_right _ hz)⟩, fun ⟨h, g⟩ z hz => (List.mem_append.mp hz).elim (h z) (g z)⟩
theorem up_opt {o : Option Int} {g : Int → Int × Int} {x : Int} : Up (o.toList.map g) x ↔ ∀ m, o = some m → 0 ≤ (g m).1 + x * (g m).2 := mem_opt
section
variable {p1 d1 s1 p2 d2 s2 f st j0 o : Int} {l c1 c2 L : Option Int}
theorem cr_at (h2 : s2 ≠ 0) (C : Comm p1 s1 p2 s2 (some (f, l, st))) (hj : j0 * s2 = p1 + f * s1 - p2) (ho : o * s2 = st * s1) (x : Int) (x0 : 0 ≤ x) :
    CrP p1 d1 s1 p2 d2 s2 c1 c2 L (f + x * st) ↔ Up (crLines d1 d2 f st j0 o l c1 c2 L) x := by
  obtain ⟨f0, stp, fm, S⟩ := C.pos
  have xs := Int.mul_nonneg x0 (show 0 ≤ st by omega)
  have ej : p1 + (f + x * st) * s1 = p2 + (j0 + x * o) * s2 := by grind
  have uj : ∀ j : Int, p1 + (f + x * st) * s1 = p2 + j * s2 → j = j0 + x * o := fun j h => Int.eq_of_mul_eq_mul_right h2 (by rw [ej] at h; omega)
  have e1 : x * (st - o) = x * st - x * o := Int.mul_sub x st o
  have e2 : x * (-o) = -(x * o) := Int.mul_neg x o
  have e3 : x * (-st) = -(x * st) := Int.mul_neg x st
  have iff := C.iff (f + x * st) (by omega)
  have dv : st ∣ f + x * st - f := ⟨x, by rw [Int.mul_comm]; omega⟩
  unfold crLines
  rw [up_app, up_app, up_app, up_opt, up_opt, up_opt, up_opt]
  constructor
  · rintro ⟨j, jn, e, h1, h2', h3⟩
    obtain rfl := uj j e
    have lm := (iff.mp ⟨_, jn, e⟩).2.1
    refine ⟨⟨⟨fun m em => ?_, fun c ec => ?_⟩, fun c ec => ?_⟩, fun k ek => ?_⟩
    · have := lm m em
      show 0 ≤ m - f + x * (-st)
      omega
    · have := h1 c ec
      show 0 ≤ c - 1 - f + x * (-st)
      omega
    · have := h2' c ec
      show 0 ≤ c - 1 - j0 + x * (-o)
      omega
    · have := h3 k ek
      show 0 ≤ d1 + f - d2 - j0 - k + x * (st - o)
      omega
  · rintro ⟨⟨⟨g0, g1⟩, g2⟩, g3⟩
    have lm : ∀ m, l = some m → f + x * st ≤ m := fun m e => by
      have : 0 ≤ m - f + x * (-st) := g0 m e
      omega
    obtain ⟨j, jn, e⟩ := iff.mpr ⟨by omega, lm, dv⟩
    obtain rfl := uj j e
    refine ⟨_, jn, ej, fun c ec => ?_, fun c ec => ?_, fun k ek => ?_⟩
    · have : 0 ≤ c - 1 - f + x * (-st) := g1 c ec
      omega
    · have : 0 ≤ c - 1 - j0 + x * (-o) := g2 c ec
      omega
    · have : 0 ≤ d1 + f - d2 - j0 - k + x * (st - o) := g3 k ek
      omega
theorem cr_span (h2 : s2 ≠ 0) (C : Comm p1 s1 p2 s2 (some (f, l, st))) (hj : j0 * s2 = p1 + f * s1 - p2) (ho : o * s2 = st * s1) : ∀ {r : Option (Int × Option Int)}, SpnOf (crLines d1 d2 f st j0 o l c1 c2 L) r →
    CrR p1 d1 s1 p2 d2 s2 c1 c2 L (r.map fun z => (f + z.1 * st, st, z.2.map fun m => m - z.1 + 1)) := by
  obtain ⟨f0, stp, fm, S⟩ := C.pos
  have at_ : ∀ n, 0 ≤ n → CrP p1 d1 s1 p2 d2 s2 c1 c2 L n → ∃ x, 0 ≤ x ∧ n = f + x * st ∧ Up (crLines d1 d2 f st j0 o l c1 c2 L) x := fun n n0 h => by
    obtain ⟨j, jn, e, _⟩ := id h
    obtain ⟨a, b, x, hx⟩ := (C.iff n n0).mp ⟨j, jn, e⟩
    have x0 : 0 ≤ x := by
      by_cases c : 0 ≤ x
      · exact c
      · have := Int.mul_le_mul_of_nonneg_left (show x ≤ -1 by omega) (show 0 ≤ st by omega)
        omega
    obtain rfl : n = f + x * st := by rw [Int.mul_comm] at hx; omega
    exact ⟨x, x0, rfl, (cr_at h2 C hj ho x x0).mp h⟩
  intro r hr
  cases r with
  | none => exact fun n n0 h => let ⟨x, x0, _, u⟩ := at_ n n0 h; hr x x0 u
  | some z =>
    obtain ⟨a, b⟩ := z
    obtain ⟨a0, ab, iff⟩ := hr
    have as := Int.mul_nonneg a0 (show 0 ≤ st by omega)
    refine ⟨show 0 ≤ f + a * st by omega, stp, fun k e => ?_, fun n n0 => ⟨fun h => ?_, ?_⟩⟩
    · cases b with
      | none => cases e
      | some m =>
        have e : m - a + 1 = k := Option.some.inj e
        have := ab m rfl
        omega
    · obtain ⟨x, x0, rfl, u⟩ := at_ n n0 h
      obtain ⟨g1, g2⟩ := (iff x x0).mp u
      refine ⟨x - a, by omega, ?_, fun mm e => ?_⟩
      · show f + x * st = f + a * st + (x - a) * st
        rw [Int.sub_mul]
        omega
      · cases b with
        | none => cases e
        | some m =>
          have e : m - a + 1 = mm := Option.some.inj e
          have := g2 m rfl
          omega
    · rintro ⟨k, k0, e, hm⟩
      have e : n = f + (a + k) * st := by rw [Int.add_mul]; have : n = f + a * st + k * st := e; omega
      subst e
      refine (cr_at h2 C hj ho (a + k) (by omega)).mpr ((iff (a + k) (by omega)).mpr ⟨by omega, fun m em => ?_⟩)
      subst em
      have : k < m - a + 1 := hm _ rfl
      omega
theorem cr_none (C : Comm p1 s1 p2 s2 none) : CrR p1 d1 s1 p2 d2 s2 c1 c2 L none := by
  cases C with
  | no h => exact fun n n0 b => let ⟨j, a, e, _⟩ := b; h n n0 ⟨j, a, e⟩
/-- the first block out of it -/
theorem cr_block {cnt : Option Int} {fl : Bool} : ∀ {r : Option (Int × Int × Option Int)}, CrR p1 d1 s1 p2 d2 s2 none cnt (some (if fl = true then 0 else 1)) r → Least (Blk p1 d1 s1 p2 d2 s2 cnt fl) (r.map fun z => z.1) := by
  have key : ∀ n, CrP p1 d1 s1 p2 d2 s2 none cnt (some (if fl = true then 0 else 1)) n ↔ Blk p1 d1 s1 p2 d2 s2 cnt fl n := fun n => by
    constructor
    · rintro ⟨j, jn, e, _, h2, h3⟩
      refine ⟨j, jn, e, h2, ?_⟩
      have h3 := h3 _ rfl
      cases fl with
      | true =>
        have h3 : d2 + j + 0 ≤ d1 + n := h3
        by_cases c : d2 + j < d1 + n
        · exact .inl c
        · exact .inr ⟨rfl, by omega⟩
      | false =>
        have h3 : d2 + j + 1 ≤ d1 + n := h3
        exact .inl (by omega)
    · rintro ⟨j, jn, e, h2, h3⟩
      refine ⟨j, jn, e, (fun c ec => by cases ec), h2, fun k ek => ?_⟩
      have ek := Option.some.inj ek
      subst ek
      rcases h3 with h3 | ⟨rfl, h3⟩
      · split <;> omega
      · show d2 + j + 0 ≤ d1 + n
        omega
  intro r hr
  cases r with
  | none => exact fun n n0 h => hr n n0 ((key n).mpr h)
  | some z =>
    obtain ⟨f, st, m⟩ := z
    obtain ⟨f0, stp, m1, iff⟩ := hr
    refine ⟨f0, (key f).mp ((iff f f0).mpr ⟨0, Int.le_refl 0, by omega, fun mm e => by have := m1 mm e; omega⟩), fun n n0 nl h => ?_⟩
    obtain ⟨k, k0, e, _⟩ := (iff n n0).mp ((key n).mpr h)
    have := Int.mul_nonneg k0 (show 0 ≤ st by omega)
    have nl : n < f := nl
    omega
end
end Ur
/-! K4B: picks of whole numbers, rows. -/
namespace Ur
open PySem PySem.Spec PyProof.Rows L2
/-- a pick out of whole numbers -/
def spPickI (K : PySem.W.Frag) : Sp := fun vs H Q _ => ∃ (p l a : Addr) (ns : List Int) (n : Nat), vs = [.ref p, .ref a] ∧ Pen H p l n ∧ n ≤ 2 ^ 39 ∧ SqL K H a (ns.map V.int) ∧ 1 ≤ ns.length ∧ ns.length ≤ 1000000 ∧
  ∀ i H', i ∈ ns → Pen H' p l (n + 12) → Keep p H H' → Q (.int i) H'
section
variable {P : Program} {w : World} {K : PySem.W.Frag} {mg : Str → Option Value} {base : Heap}
theorem ok_pickI (C : Cal P w K mg base 13 "_law_pick" P__law_pick (spPickL K)) : Cal P w K mg base 13 "_law_pick" P__law_pick (spPickI K) := by
  obtain ⟨f, fd, F, r⟩ := C
  refine ⟨f, fd, F.imp fun vs H Q E h => ?_, r⟩
  obtain ⟨p, l, a, ns, n, rfl, h1, h2, h3, h4, h5, q⟩ := h
  refine ⟨p, l, a, _, n, rfl, h1, h2, h3, by rw [List.length_map]; exact h4, by rw [List.length_map]; exact h5, fun v H' hv P' k' => ?_⟩
  obtain ⟨i, hi, rfl⟩ := List.mem_map.mp hv
  exact q i H' hi P' k'
end
theorem iteDT {c A B : Prop} [Decidable c] (hc : c) (h : A) : if decide c = true then A else B := by
  rw [decide_eq_true hc]
  exact iteT h
theorem iteDF {c A B : Prop} [Decidable c] (hc : ¬ c) (h : B) : if decide c = true then A else B := by
  rw [decide_eq_false hc]
  exact iteF h
theorem iteNN {c A B : Prop} [Decidable c] (hc : ¬ c) (h : A) : if (!decide c) = true then A else B := by
  rw [decide_eq_false hc]
  exact iteT h
end Ur
/-! KF: spans of lines, crossings, first blocks. -/
namespace Ur
open PySem PySem.Spec PyProof.Rows L2
abbrev s__span_of : Stmt := (topS 33)
abbrev N_sc__span_of : List Str := ["lines", "least", "most", "start", "slope", "end"]
abbrev P__span_of : List Str := ["lines"]
theorem sc__span_of : FnScope N_sc__span_of P__span_of (defScope s__span_of) := ⟨rfl, rfl, rfl, by decide +kernel, rfl, by decide +kernel, by decide +kernel⟩
/-- the span as the program hands it back -/
def SpV (H : Hp) (v : V) : Option (Int × Option Int) → Prop
  | none => v = .non
  | some (a, b) => ∃ t, v = .ref t ∧ H t = some (.tup [.int a, optV b])
def spSpan : Sp := fun vs H Q _ => ∃ (L : Addr) (zs : List (Addr × Int × Int)) (M : Int), vs = [.ref L] ∧ H L = some (.lst (zs.map fun z => V.ref z.1)) ∧ (∀ z ∈ zs, H z.1 = some (.tup [.int z.2.1, .int z.2.2])) ∧ zs.length ≤ 4 ∧ 0 ≤ M ∧
  (∀ z ∈ zs, -M ≤ z.2.1 ∧ -(10 ^ 40) ≤ z.2.2 ∧ z.2.2 ≤ 10 ^ 40) ∧ ∀ r v H', SpnOf (zs.map (·.2)) r → (∀ a b, r = some (a, b) → a ≤ M) → SpV H' v r → Same H H' → Q v H'
section
variable {P : Program} {w : World} {K : PySem.W.Frag} {mg : Str → Option Value} {base : Heap} {C : Addr}
set_option maxHeartbeats 16000000 in
theorem ok_span (D : Dfn K mg "_span_of" s__span_of P__span_of) (B : Blt mg) : Cal P w K mg base 1 "_span_of" P__span_of spSpan := by
  refine D.cal sc__span_of (fun vs H Q E h => ?_) fun f cdv A outer s H vs Q E hr h => ?_
  · obtain ⟨L, zs, M, rfl, _⟩ := h
    rfl
  obtain ⟨L, zs, M, rfl, hL, hz, lz, M0, bd, q⟩ := h
  refine ⟨_, (pss_cons (ps_asg (pe_tup (pa_cons pe_int (pa_cons pe_non pa_nil))) (pg_tup rfl (pgs_cons (pg_name (i := 1) sc__span_of.nd rfl (Or.inl rfl)) (pgs_cons (pg_name (i := 2) sc__span_of.nd rfl (Or.inl rfl)) pgs_nil)))) (pss_cons (ps_for PassesOwn.never rfl (pi_list (pv 0)) (pg_tup rfl (pgs_cons (pg_name (i := 3) sc__span_of.nd rfl (Or.inl rfl)) (pgs_cons (pg_name (i := 4) sc__span_of.nd rfl (Or.inl rfl)) pgs_nil))) (pss_one (ps_if (pt_cmpR op_gt (pv 4) pe_int (nomark _)) (pss_one (ps_set (i := 1) sc__span_of.nd rfl (Or.inl rfl) (pe_callB (call_max2 rfl) rfl B.max_ (by decide +kernel) (pa_cons (pv 1) (pa_cons (pe_un un_neg (pe_op op_fdivW (pv 3) (pv 4))) pa_nil))))) (pss_one (ps_if (pt_cmpR op_lt (pv 4) pe_int (nomark _)) (pss_cons (ps_set (i := 5) sc__span_of.nd rfl (Or.inl rfl) (pe_op op_fdivW (pv 3) (pe_un un_neg (pv 4)))) (pss_one (ps_set (i := 2) sc__span_of.nd rfl (Or.inl rfl) (pe_ifExp (pt_cmpR op_isN (pv 2) pe_non (nomark _)) (pv 5) (pe_callB (call_min2 rfl) rfl B.min_ (by decide +kernel) (pa_cons (pv 2) (pa_cons (pv 5) pa_nil))))))) (pss_one (ps_if (pt_cmpR op_lt (pv 3) pe_int (nomark _)) (pss_one (ps_ret pe_non)) pss_nil))))))) (pss_cons (ps_if (PW.pt (pw_and (pt_cmpR op_notN (pv 2) pe_non (nomark _)) (pw_and1 (pt_cmpR op_lt (pv 2) (pv 1) (nomark _))))) (pss_one (ps_ret pe_non)) pss_nil) (pss_one (ps_ret (pe_tup (pa_cons (pv 1) (pa_cons (pv 2) pa_nil)))))))), ?_⟩
  have zget : ∀ (i : Nat) (x : V), (zs.map fun z => V.ref z.1)[i]? = some x → ∃ z, z ∈ zs ∧ x = V.ref z.1 ∧ (zs.map (·.2)).take (i + 1) = (zs.map (·.2)).take i ++ [z.2] := fun i x hx => by
    rw [List.getElem?_map] at hx
    cases e : zs[i]? with
    | none => rw [e] at hx; cases hx
    | some z =>
      rw [e] at hx
      refine ⟨z, List.mem_of_getElem? e, (Option.some.inj hx).symm, ?_⟩
      rw [List.take_succ, List.getElem?_map, e]
      rfl
  refine ⟨(by show 2 ≤ sizeLine; decide), fun u0 hu0 => ⟨u0, _, rfl, SqT.of upd_same, rfl, _, _, rfl, _, _, rfl, rfl, ?_⟩⟩
  obtain ⟨H0, eH0, s0, _⟩ := (show ∃ H', H' = upd H u0 (.tup [.int 0, .non]) ∧ Same H H' ∧ True from ⟨_, rfl, same_new hu0 _, trivial⟩)
  rw [← eH0]
  refine ⟨_, rfl, L, rfl, ⟨_, SqL.of (s0 _ _ hL)⟩, for_list (K := K) (a := L) (xs := zs.map fun z => V.ref z.1) (fun i σ' H' => ∃ (a : Int) (b : Option Int) (o3 o4 o5 : Option V), σ' = [some (.ref L), some (.int a), some (optV b), o3, o4, o5] ∧ Spn M ((zs.map (·.2)).take i) a b ∧ Same H H') ⟨0, none, none, none, none, rfl, Spn.start M0, s0⟩ (fun i σ' H' _ h => by obtain ⟨_, _, _, _, _, _, _, h⟩ := h; exact SqL.of (h _ _ hL)) ?_ ?_⟩
  · rintro i v σ' H' hv ⟨a, b, o3, o4, o5, rfl, I, sm⟩
    obtain ⟨z, zm, rfl, tk⟩ := zget i v hv
    obtain ⟨t, s1, k⟩ := z
    have ht : H' t = some (.tup [.int s1, .int k]) := sm _ _ (hz _ zm)
    obtain ⟨a0, b0, b1⟩ : -M ≤ s1 ∧ -(10 ^ 40) ≤ k ∧ k ≤ 10 ^ 40 := bd _ zm
    have tk : (zs.map (·.2)).take (i + 1) = (zs.map (·.2)).take i ++ [(s1, k)] := tk
    refine ⟨t, _, rfl, SqT.of ht, rfl, _, _, rfl, _, _, rfl, rfl, ?_⟩
    refine ⟨_, rfl, _, _, rfl, rfl, _, rfl, ?_⟩
    by_cases pos : 0 < k
    · refine iteDT pos ?_
      refine ⟨_, rfl, _, rfl, _, rfl, _, _, rfl, rfl, wide_div (b := 200) pos (by omega) (by decide) (by decide), _, rfl, _, _, rfl, ?_⟩
      have e : (if -(s1 / k) > a then -(s1 / k) else a) = max a (-(s1 / k)) := by split <;> omega
      exact ⟨_, b, _, _, _, rfl, by rw [tk, e]; exact I.pos pos a0, sm⟩
    · refine iteDF pos ⟨_, rfl, _, _, rfl, rfl, _, rfl, ?_⟩
      by_cases neg : k < 0
      · refine iteDT neg ?_
        refine ⟨_, rfl, _, rfl, _, rfl, _, _, rfl, rfl, wide_div (i := s1) (j := -k) (b := 200) (by omega) (by omega) (by decide) (by decide), ?_⟩
        cases b with
        | none => exact ⟨_, rfl, rfl, _, rfl, iteDT rfl ⟨_, rfl, a, some (s1 / -k), _, _, _, rfl, by rw [tk]; exact I.neg neg, sm⟩⟩
        | some m =>
          have e : (if s1 / -k < m then s1 / -k else m) = min m (s1 / -k) := by split <;> omega
          exact ⟨_, rfl, rfl, _, rfl, iteDF (by intro z; cases z) ⟨_, rfl, _, rfl, m, _, rfl, a, some _, _, _, _, rfl, by rw [tk, e]; exact I.neg neg, sm⟩⟩
      · refine iteDF neg ⟨_, rfl, _, _, rfl, rfl, _, rfl, ?_⟩
        obtain rfl : k = 0 := by omega
        by_cases c : s1 < 0
        · refine iteDT c ?_
          exact q none .non H' (spn_zero (List.mem_map.mpr ⟨_, zm, rfl⟩) c) (fun a b e => by cases e) rfl sm
        · exact iteDF c ⟨a, b, _, _, _, rfl, by rw [tk]; exact I.flat (by omega), sm⟩
  rintro σ' H' ⟨a, b, o3, o4, o5, rfl, I, sm⟩
  rw [List.length_map, ← List.length_map (f := fun z : Addr × Int × Int => z.2), List.take_length] at I
  refine ⟨_, rfl, rfl, _, rfl, ?_⟩
  cases b with
  | none =>
    refine ⟨_, rfl, _, rfl, (by show 2 ≤ sizeLine; decide), fun u hu => ?_⟩
    exact q (some (a, none)) _ _ (I.done fun m e => by cases e) (fun a' b' e => by cases e; exact I.aM) ⟨u, rfl, upd_same⟩ (sm.trans (same_new hu _))
  | some m =>
    refine ⟨_, rfl, _, rfl, _, _, rfl, rfl, _, rfl, ?_⟩
    by_cases c : m < a
    · exact iteDT c (q none .non H' (I.fail c) (fun a b e => by cases e) rfl sm)
    · refine iteDF c ⟨_, rfl, _, rfl, (by show 2 ≤ sizeLine; decide), fun u hu => ?_⟩
      exact q (some (a, some m)) _ _ (I.done fun n e => by cases e; omega) (fun a' b' e => by cases e; exact I.aM) ⟨u, rfl, upd_same⟩ (sm.trans (same_new hu _))
end
/-- the list of lines, as it stands -/
structure LinesAt (H1 H' : Hp) (L : Addr) (zs : List (Addr × Int × Int)) (ls : List (Int × Int)) : Prop where
  nw : H1 L = none
  at_ : H' L = some (.lst (zs.map fun z => V.ref z.1))
  tp : ∀ z ∈ zs, H' z.1 = some (.tup [.int z.2.1, .int z.2.2])
  mp : zs.map (·.2) = ls
  sm : Same H1 H'
theorem LinesAt.snoc {H1 H' : Hp} {L t : Addr} {zs : List (Addr × Int × Int)} {ls : List (Int × Int)} {a b : Int} (h : LinesAt H1 H' L zs ls) (ht : H' t = none) :
    LinesAt H1 (upd (upd H' t (.tup [.int a, .int b])) L (.lst ((zs.map fun z => V.ref z.1) ++ [.ref t]))) L (zs ++ [(t, a, b)]) (ls ++ [(a, b)]) := by
  have nL : t ≠ L := fun e => by rw [e, h.at_] at ht; cases ht
  refine ⟨h.nw, by rw [upd_same, List.map_append]; rfl, fun z hz => ?_, by rw [List.map_append, h.mp]; rfl, sameAt (h.sm.trans (same_new ht _)) h.nw⟩
  rcases List.mem_append.mp hz with hz | hz
  · have e := h.tp z hz
    rw [upd_ne (ne_of e h.at_ (by intro z; cases z)), upd_ne (ne_of_none e ht)]
    exact e
  · obtain rfl := List.mem_singleton.mp hz
    show upd _ L _ t = _
    rw [upd_ne nL, upd_same]
theorem abs_of_mul {j s x : Int} (h : s ≠ 0) (e : j * s = x) : j.natAbs ≤ x.natAbs := by
  rw [← e, Int.natAbs_mul]
  exact Nat.le_mul_of_pos_right _ (by omega)
theorem abs_mul_lt {a b : Int} {A B : Nat} (h1 : a.natAbs ≤ A) (h2 : b.natAbs ≤ B) : (a * b).natAbs ≤ A * B := by
  rw [Int.natAbs_mul]
  exact Nat.mul_le_mul h1 h2
theorem LinesAt.nil {H1 : Hp} {L : Addr} (h : H1 L = none) : LinesAt H1 (upd H1 L (.lst [])) L [] [] := ⟨h, upd_same, (fun z hz => nomatch hz), rfl, same_new h _⟩
theorem LinesAt.len {H1 H' : Hp} {L : Addr} {zs : List (Addr × Int × Int)} {ls : List (Int × Int)} (h : LinesAt H1 H' L zs ls) : zs.length = ls.length := by rw [← h.mp, List.length_map]
theorem optl {o : Option Int} {g : Int → Int × Int} : (o.toList.map g).length ≤ 1 := by cases o <;> simp
/-! ### crossing -/
abbrev s_crossing : Stmt := (topS 31)
abbrev N_sc_crossing : List Str := ["one", "other", "count", "other_count", "lead", "numbers", "first", "last", "step", "other_first", "other_step", "lines", "span", "least", "most"]
abbrev P_crossing : List Str := ["one", "other", "count", "other_count", "lead"]
theorem sc_crossing : FnScope N_sc_crossing P_crossing (defScope s_crossing) := ⟨rfl, rfl, rfl, by decide +kernel, rfl, by decide +kernel, by decide +kernel⟩
def CrV (H : Hp) (v : V) : Option (Int × Int × Option Int) → Prop
  | none => v = .non
  | some (f, st, m) => ∃ t, v = .ref t ∧ H t = some (.tup [.int f, .int st, optV m])
def InB (o : Option Int) : Prop := ∀ c, o = some c → 0 ≤ c ∧ c ≤ 10 ^ 80
/-- days ahead -/
def InL (o : Option Int) : Prop := ∀ c, o = some c → -(10 ^ 80) ≤ c ∧ c ≤ 10 ^ 40
def spCr (C : Addr) : Sp := fun vs H Q _ => ∃ (a1 a2 : Addr) (nm1 : Str) (d1 p1 s1 : Int) (nm2 : Str) (d2 p2 s2 : Int) (c1 c2 L : Option Int), vs = [.ref a1, .ref a2, optV c1, optV c2, optV L] ∧ Two C H a1 a2 nm1 d1 p1 s1 nm2 d2 p2 s2 ∧ InB c1 ∧ InB c2 ∧ InL L ∧
  ∀ r v H', CrR p1 d1 s1 p2 d2 s2 c1 c2 L r → (∀ f st m, r = some (f, st, m) → f ≤ 10 ^ 70 ∧ st ≤ 10 ^ 18) → CrV H' v r → Same H H' → Q v H'
def CrF (K : PySem.W.Frag) (f : Addr) (fd : FuncData) : Prop := FunD K "crossing" "crossing" (defArgs s_crossing) (defBody s_crossing) (defScope s_crossing) [] [("count", .non), ("other_count", .non), ("lead", .non)] f fd
section
variable {P : Program} {w : World} {K : PySem.W.Frag} {mg : Str → Option Value} {base : Heap} {C : Addr}
set_option maxHeartbeats 40000000 in
theorem ok_cr {f : Addr} {fd : FuncData} (F : CrF K f fd) (B : Blt mg) (T : PTxt K mg C) (hDay : PropS P w K mg base C "day" 1 (getSp C "_day")) (hPost : PropS P w K mg base C "post" 1 (getSp C "_post")) (hStride : PropS P w K mg base C "stride" 1 (getSp C "_stride"))
    (CCN : Cal P w K mg base 3 "common_numbers" P_common_numbers (spCN C)) (CSp : Cal P w K mg base 1 "_span_of" P__span_of spSpan) : FnOk P w K mg base CX0 5 f fd P_crossing (spCr C) := by
  refine FunD.ok F sc_crossing (fun vs H Q E h => ?_) (fun cdv A outer s H vs Q E hr h => ?_)
  · obtain ⟨a1, a2, _, _, _, _, _, _, _, _, _, _, _, rfl, _⟩ := h
    rfl
  obtain ⟨a1, a2, nm1, d1, p1, s1, nm2, d2, p2, s2, c1, c2, Ld, rfl, Tw, hc1, hc2, hLd, q⟩ := h
  obtain ⟨dx1, h1⟩ := Tw.h1
  obtain ⟨dx2, h2⟩ := Tw.h2
  obtain ⟨_, d10, d11, p10, p11, s10, s11, s1n⟩ := Tw.o1
  obtain ⟨_, d20, d21, p20, p21, s20, s21, s2n⟩ := Tw.o2
  refine ⟨_, PSs.nox (pss_cons (ps_set (i := 5) sc_crossing.nd rfl (Or.inl rfl) (pe_cal CCN (hr.mono (by decide)) (pa_cons (pv 0) (pa_cons (pv 1) pa_nil)))) (pss_cons (ps_if (pt_cmpR op_isN (pv 5) pe_non (nomark _)) (pss_one (ps_ret pe_non)) pss_nil) (pss_cons (ps_asg (pv 5) (pg_tup rfl (pgs_cons (pg_name (i := 6) sc_crossing.nd rfl (Or.inl rfl)) (pgs_cons (pg_name (i := 7) sc_crossing.nd rfl (Or.inl rfl)) (pgs_cons (pg_name (i := 8) sc_crossing.nd rfl (Or.inl rfl)) pgs_nil))))) (C8.pss_cut (ps_set (i := 9) sc_crossing.nd rfl (Or.inl rfl) (pe_op op_fdivX (pe_op op_sub (pe_op op_add (pe_prS (pv 0) T.cl hPost (hr.mono (by decide))) (pe_op op_mulW (pv 6) (pe_prS (pv 0) T.cl hStride (hr.mono (by decide))))) (pe_prS (pv 1) T.cl hPost (hr.mono (by decide)))) (pe_prS (pv 1) T.cl hStride (hr.mono (by decide))))) (C8.pss_cut (ps_set (i := 10) sc_crossing.nd rfl (Or.inl rfl) (pe_op op_fdivX (pe_op op_mulW (pv 8) (pe_prS (pv 0) T.cl hStride (hr.mono (by decide)))) (pe_prS (pv 1) T.cl hStride (hr.mono (by decide))))) (C8.pss_cut (ps_set (i := 11) sc_crossing.nd rfl (Or.inl rfl) (pe_lst pa_nil)) (C8.pss_cut (ps_if (pt_cmpR op_notN (pv 7) pe_non (nomark _)) (pss_one (ps_expr (pe_bm PySem.F.plainAttrs_list PySem.F.slot_list_append PySem.F.type_list_append mt_append (pv 11) (pa_cons (pe_tup (pa_cons (pe_op op_sub (pv 7) (pv 6)) (pa_cons (pe_un un_neg (pv 8)) pa_nil))) pa_nil)))) pss_nil) (C8.pss_cut (ps_if (pt_cmpR op_notN (pv 2) pe_non (nomark _)) (pss_one (ps_expr (pe_bm PySem.F.plainAttrs_list PySem.F.slot_list_append PySem.F.type_list_append mt_append (pv 11) (pa_cons (pe_tup (pa_cons (pe_op op_sub (pe_op op_sub (pv 2) pe_int) (pv 6)) (pa_cons (pe_un un_neg (pv 8)) pa_nil))) pa_nil)))) pss_nil) (C8.pss_cut (ps_if (pt_cmpR op_notN (pv 3) pe_non (nomark _)) (pss_one (ps_expr (pe_bm PySem.F.plainAttrs_list PySem.F.slot_list_append PySem.F.type_list_append mt_append (pv 11) (pa_cons (pe_tup (pa_cons (pe_op op_sub (pe_op op_sub (pv 3) pe_int) (pv 9)) (pa_cons (pe_un un_neg (pv 10)) pa_nil))) pa_nil)))) pss_nil) (C8.pss_cut (ps_if (pt_cmpR op_notN (pv 4) pe_non (nomark _)) (pss_one (ps_expr (pe_bm PySem.F.plainAttrs_list PySem.F.slot_list_append PySem.F.type_list_append mt_append (pv 11) (pa_cons (pe_tup (pa_cons (pe_op op_sub (pe_op op_sub (pe_op op_sub (pe_op op_add (pe_prS (pv 0) T.cl hDay (hr.mono (by decide))) (pv 6)) (pe_prS (pv 1) T.cl hDay (hr.mono (by decide)))) (pv 9)) (pv 4)) (pa_cons (pe_op op_sub (pv 8) (pv 10)) pa_nil))) pa_nil)))) pss_nil) (pss_cons (ps_set (i := 12) sc_crossing.nd rfl (Or.inl rfl) (pe_cal CSp (hr.mono (by decide)) (pa_cons (pv 11) pa_nil))) (pss_cons (ps_if (pt_cmpR op_isN (pv 12) pe_non (nomark _)) (pss_one (ps_ret pe_non)) pss_nil) (pss_cons (ps_asg (pv 12) (pg_tup rfl (pgs_cons (pg_name (i := 13) sc_crossing.nd rfl (Or.inl rfl)) (pgs_cons (pg_name (i := 14) sc_crossing.nd rfl (Or.inl rfl)) pgs_nil)))) (pss_one (ps_ret (pe_tup (pa_cons (pe_op op_add (pv 6) (pe_op op_mulW (pv 13) (pv 8))) (pa_cons (pv 8) (pa_cons (pe_ifExp (pt_cmpR op_isN (pv 14) pe_non (nomark _)) pe_non (pe_op op_add (pe_op op_sub (pv 14) (pv 13)) pe_int)) pa_nil))))))))))))))))))), ?_⟩
  refine ⟨_, rfl, _, rfl, a1, a2, nm1, d1, p1, s1, nm2, d2, p2, s2, rfl, Tw, fun r v H1 Cm hv sm => ?_⟩
  refine ⟨_, rfl, rfl, _, rfl, ?_⟩
  cases r with
  | none =>
    have hv : v = .non := hv
    subst hv
    exact q none .non _ (cr_none Cm) (fun f st m e => by cases e) rfl sm
  | some x =>
    obtain ⟨a, l, st⟩ := x
    obtain ⟨t, rfl, ht⟩ := hv
    have h1' := sm _ _ h1
    have h2' := sm _ _ h2
    obtain ⟨a0, ab, S, lb⟩ := Cm.first_le
    have sl := step_le s2n S
    have sp := S.1
    have fb : (a * s1).natAbs ≤ 10 ^ 31 * 10 ^ 18 := abs_mul_lt (by omega) (by omega)
    have ob : (st * s1).natAbs ≤ 10 ^ 18 * 10 ^ 18 := abs_mul_lt (by omega) (by omega)
    have dvx : CDivX (p1 + a * s1 - p2) s2 := ⟨s2n, Nat.lt_of_lt_of_le (PySem.Flt.log2_lt_of (by decide) (show s2.natAbs < 2 ^ 120 by omega)) (by decide)⟩
    have dvy : CDivX (st * s1) s2 := dvx
    refine ⟨_, rfl, t, _, rfl, SqT.of ht, rfl, _, _, rfl, _, _, rfl, _, _, rfl, rfl, ?_⟩
    refine ⟨fun σ' H' => ∃ j0 : Int, σ' = [some (.ref a1), some (.ref a2), some (optV c1), some (optV c2), some (optV Ld), some (.ref t), some (.int a), some (optV l), some (.int st), some (.int j0), none, none, none, none, none] ∧ j0 * s2 = p1 + a * s1 - p2 ∧ H' = H1, ?_, ?_⟩
    · refine ⟨_, rfl, a1, dx1, _, rfl, h1', a1, dx1, _, _, rfl, h1', pfs_post _ _ _ _, _, rfl, _, rfl, a1, dx1, _, rfl, h1', a1, dx1, _, _, rfl, h1', pfs_stride _ _ _ _, _, _, rfl, rfl, wide_mul (a := 200) (b := 120) (by omega) (by omega) (by decide) (by decide) (by decide), _, _, rfl, rfl, _, rfl, a2, dx2, _, rfl, h2', a2, dx2, _, _, rfl, h2', pfs_post _ _ _ _, _, _, rfl, rfl, _, rfl, a2, dx2, _, rfl, h2', a2, dx2, _, _, rfl, h2', pfs_stride _ _ _ _, _, _, rfl, rfl, dvx, ?_⟩
      refine ⟨_, rfl, ?_, rfl⟩
      obtain ⟨j, jn, e⟩ := (Cm.iff a a0).mpr ⟨Int.le_refl _, fun m e => (Cm.pos).2.2.1 m e, ⟨0, by omega⟩⟩
      have e2 : p1 + a * s1 - p2 = j * s2 := by omega
      rw [e2, Int.mul_fdiv_cancel j s2n]
    rintro σ' H' ⟨j0, rfl, hj, rfl⟩
    refine ⟨fun σ' H2 => ∃ o : Int, σ' = [some (.ref a1), some (.ref a2), some (optV c1), some (optV c2), some (optV Ld), some (.ref t), some (.int a), some (optV l), some (.int st), some (.int j0), some (.int o), none, none, none, none] ∧ o * s2 = st * s1 ∧ H2 = H', ?_, ?_⟩
    · refine ⟨_, rfl, _, rfl, a1, dx1, _, rfl, h1', a1, dx1, _, _, rfl, h1', pfs_stride _ _ _ _, _, _, rfl, rfl, wide_mul (a := 120) (b := 120) (by omega) (by omega) (by decide) (by decide) (by decide), _, rfl, a2, dx2, _, rfl, h2', a2, dx2, _, _, rfl, h2', pfs_stride _ _ _ _, _, _, rfl, rfl, dvy, ?_⟩
      refine ⟨_, rfl, ?_, rfl⟩
      obtain ⟨j, e⟩ := (S.2 st).mpr (Int.dvd_refl st)
      rw [e, Int.mul_comm s2 j, Int.mul_fdiv_cancel j s2n]
    rintro σ' H2 ⟨o, rfl, ho, rfl⟩
    have jb := abs_of_mul s2n hj
    have obb := abs_of_mul s2n ho
    obtain ⟨g0, eg0⟩ : ∃ g : Int → Int × Int, g = fun m => (m - a, -st) := ⟨_, rfl⟩
    obtain ⟨g1, eg1⟩ : ∃ g : Int → Int × Int, g = fun c => (c - 1 - a, -st) := ⟨_, rfl⟩
    obtain ⟨g2, eg2⟩ : ∃ g : Int → Int × Int, g = fun c => (c - 1 - j0, -o) := ⟨_, rfl⟩
    obtain ⟨g3, eg3⟩ : ∃ g : Int → Int × Int, g = fun k => (d1 + a - d2 - j0 - k, st - o) := ⟨_, rfl⟩
    have eLn : crLines d1 d2 a st j0 o l c1 c2 Ld = l.toList.map g0 ++ c1.toList.map g1 ++ c2.toList.map g2 ++ Ld.toList.map g3 := by rw [eg0, eg1, eg2, eg3]; rfl
    have l0 := optl (o := l) (g := g0)
    have l1 := optl (o := c1) (g := g1)
    have l2 := optl (o := c2) (g := g2)
    have l3 := optl (o := Ld) (g := g3)
    refine ⟨fun σ' H3 => ∃ L : Addr, σ' = [some (.ref a1), some (.ref a2), some (optV c1), some (optV c2), some (optV Ld), some (.ref t), some (.int a), some (optV l), some (.int st), some (.int j0), some (.int o), some (.ref L), none, none, none] ∧ LinesAt H2 H3 L [] [], ?_, ?_⟩
    · exact ⟨(by show 0 ≤ sizeLine; decide), fun L hL => ⟨L, rfl, LinesAt.nil hL⟩⟩
    rintro σ' H3 ⟨L, rfl, z0⟩
    refine ⟨fun σ' H4 => ∃ zs : List (Addr × Int × Int), σ' = [some (.ref a1), some (.ref a2), some (optV c1), some (optV c2), some (optV Ld), some (.ref t), some (.int a), some (optV l), some (.int st), some (.int j0), some (.int o), some (.ref L), none, none, none] ∧ LinesAt H2 H4 L zs (l.toList.map g0), ?_, ?_⟩
    · refine ⟨_, rfl, rfl, _, rfl, ?_⟩
      cases l with
      | none => exact ⟨[], rfl, z0⟩
      | some m =>
        refine ⟨_, rfl, .inl ⟨rfl, _, SqL.of z0.at_⟩, ?_⟩
        refine ⟨_, rfl, _, rfl, _, _, rfl, rfl, _, rfl, _, rfl, (by show 2 ≤ sizeLine; decide), fun u hu => ?_⟩
        refine ⟨L, _, _, rfl, rfl, same_new hu _ _ _ z0.at_, by decide, ?_⟩
        exact ⟨_, rfl, by rw [eg0]; exact z0.snoc hu⟩
    rintro σ' H4 ⟨zs, rfl, z1⟩
    have n1 := z1.len
    refine ⟨fun σ' H5 => ∃ zs : List (Addr × Int × Int), σ' = [some (.ref a1), some (.ref a2), some (optV c1), some (optV c2), some (optV Ld), some (.ref t), some (.int a), some (optV l), some (.int st), some (.int j0), some (.int o), some (.ref L), none, none, none] ∧ LinesAt H2 H5 L zs (l.toList.map g0 ++ c1.toList.map g1), ?_, ?_⟩
    · refine ⟨_, rfl, rfl, _, rfl, ?_⟩
      cases c1 with
      | none => exact ⟨zs, rfl, (List.append_nil _).symm ▸ z1⟩
      | some c =>
        refine ⟨_, rfl, .inl ⟨rfl, _, SqL.of z1.at_⟩, ?_⟩
        refine ⟨_, rfl, _, _, rfl, rfl, _, rfl, _, _, rfl, rfl, _, rfl, _, rfl, (by show 2 ≤ sizeLine; decide), fun u hu => ?_⟩
        refine ⟨L, _, _, rfl, rfl, same_new hu _ _ _ z1.at_, by rw [List.length_map]; exact small1000 (by omega), ?_⟩
        exact ⟨_, rfl, by rw [eg1]; exact z1.snoc hu⟩
    rintro σ' H5 ⟨zs1, rfl, z2⟩
    have n2 := z2.len
    rw [List.length_append] at n2
    refine ⟨fun σ' H6 => ∃ zs : List (Addr × Int × Int), σ' = [some (.ref a1), some (.ref a2), some (optV c1), some (optV c2), some (optV Ld), some (.ref t), some (.int a), some (optV l), some (.int st), some (.int j0), some (.int o), some (.ref L), none, none, none] ∧ LinesAt H2 H6 L zs (l.toList.map g0 ++ c1.toList.map g1 ++ c2.toList.map g2), ?_, ?_⟩
    · refine ⟨_, rfl, rfl, _, rfl, ?_⟩
      cases c2 with
      | none => exact ⟨zs1, rfl, (List.append_nil _).symm ▸ z2⟩
      | some c =>
        refine ⟨_, rfl, .inl ⟨rfl, _, SqL.of z2.at_⟩, ?_⟩
        refine ⟨_, rfl, _, _, rfl, rfl, _, rfl, _, _, rfl, rfl, _, rfl, _, rfl, (by show 2 ≤ sizeLine; decide), fun u hu => ?_⟩
        refine ⟨L, _, _, rfl, rfl, same_new hu _ _ _ z2.at_, by rw [List.length_map]; exact small1000 (by omega), ?_⟩
        exact ⟨_, rfl, by rw [eg2]; exact z2.snoc hu⟩
    rintro σ' H6 ⟨zs2, rfl, z3⟩
    have n3 := z3.len
    rw [List.length_append, List.length_append] at n3
    have h1z := z3.sm _ _ h1'
    have h2z := z3.sm _ _ h2'
    refine ⟨fun σ' H7 => ∃ zs : List (Addr × Int × Int), σ' = [some (.ref a1), some (.ref a2), some (optV c1), some (optV c2), some (optV Ld), some (.ref t), some (.int a), some (optV l), some (.int st), some (.int j0), some (.int o), some (.ref L), none, none, none] ∧ LinesAt H2 H7 L zs (crLines d1 d2 a st j0 o l c1 c2 Ld), ?_, ?_⟩
    · rw [eLn]
      refine ⟨_, rfl, rfl, _, rfl, ?_⟩
      cases Ld with
      | none => exact ⟨zs2, rfl, (List.append_nil _).symm ▸ z3⟩
      | some k =>
        refine ⟨_, rfl, .inl ⟨rfl, _, SqL.of z3.at_⟩, ?_⟩
        refine ⟨_, rfl, a1, dx1, _, rfl, h1z, a1, dx1, _, _, rfl, h1z, pfs_day _ _ _ _, _, rfl, _, _, rfl, rfl, _, rfl, a2, dx2, _, rfl, h2z, a2, dx2, _, _, rfl, h2z, pfs_day _ _ _ _, _, _, rfl, rfl, _, rfl, _, _, rfl, rfl, _, rfl, _, _, rfl, rfl, _, rfl, _, rfl, _, _, rfl, rfl, (by show 2 ≤ sizeLine; decide), fun u hu => ?_⟩
        refine ⟨L, _, _, rfl, rfl, same_new hu _ _ _ z3.at_, by rw [List.length_map]; exact small1000 (by omega), ?_⟩
        exact ⟨_, rfl, by rw [eg3]; exact z3.snoc hu⟩
    rintro σ' H7 ⟨ws, rfl, hw⟩
    have nw := hw.len
    rw [eLn, List.length_append, List.length_append, List.length_append] at nw
    have bds : ∀ y ∈ crLines d1 d2 a st j0 o l c1 c2 Ld, -(10 ^ 50) ≤ y.1 ∧ -(10 ^ 40) ≤ y.2 ∧ y.2 ≤ 10 ^ 40 := by
      intro y hy
      unfold crLines at hy
      rw [List.mem_append, List.mem_append, List.mem_append] at hy
      rcases hy with ((hy | hy) | hy) | hy
      · obtain ⟨m, hm, rfl⟩ := List.mem_map.mp hy
        obtain ⟨m0, m1⟩ := lb m (Option.mem_toList.mp hm)
        show -(10 ^ 50) ≤ m - a ∧ -(10 ^ 40) ≤ -st ∧ -st ≤ 10 ^ 40
        omega
      · obtain ⟨c, hc', rfl⟩ := List.mem_map.mp hy
        obtain ⟨c0, c1⟩ := hc1 c (Option.mem_toList.mp hc')
        show -(10 ^ 50) ≤ c - 1 - a ∧ -(10 ^ 40) ≤ -st ∧ -st ≤ 10 ^ 40
        omega
      · obtain ⟨c, hc', rfl⟩ := List.mem_map.mp hy
        obtain ⟨c0, c1⟩ := hc2 c (Option.mem_toList.mp hc')
        show -(10 ^ 50) ≤ c - 1 - j0 ∧ -(10 ^ 40) ≤ -o ∧ -o ≤ 10 ^ 40
        omega
      · obtain ⟨c, hc', rfl⟩ := List.mem_map.mp hy
        obtain ⟨c0, c1⟩ := hLd c (Option.mem_toList.mp hc')
        show -(10 ^ 50) ≤ d1 + a - d2 - j0 - c ∧ -(10 ^ 40) ≤ st - o ∧ st - o ≤ 10 ^ 40
        omega
    refine ⟨_, rfl, L, ws, 10 ^ 50, rfl, hw.at_, hw.tp, by omega, by decide, fun z hz => bds z.2 (by rw [← hw.mp]; exact List.mem_map.mpr ⟨z, hz, rfl⟩), fun rx v8 H8 lx xm hv8 sm8 => ?_⟩
    rw [hw.mp] at lx
    have R9 := cr_span s2n Cm hj ho lx
    have sm9 := sm.trans (hw.sm.trans sm8)
    refine ⟨_, rfl, rfl, _, rfl, ?_⟩
    cases rx with
    | none =>
      have hv8 : v8 = .non := hv8
      subst hv8
      exact q none .non _ R9 (fun f st m e => by cases e) rfl sm9
    | some y =>
      obtain ⟨x, b⟩ := y
      obtain ⟨t8, rfl, ht8⟩ := hv8
      have x0 : 0 ≤ x := lx.1
      have x1 := xm x b rfl
      have xb := mul_bd (a := x) (b := st) (A := 10 ^ 50) (B := 10 ^ 18) x0 x1 (by omega) (by omega) (by decide)
      refine ⟨_, rfl, t8, _, rfl, SqT.of ht8, rfl, _, _, rfl, _, _, rfl, rfl, ?_⟩
      refine ⟨_, rfl, _, rfl, _, rfl, _, _, rfl, rfl, wide_mul (a := 400) (b := 64) (by omega) (by omega) (by decide) (by decide) (by decide), _, _, rfl, rfl, _, rfl, _, rfl, rfl, _, rfl, ?_⟩
      have fin : ∀ (u : Addr) (m' : Option Int), H8 u = none → m' = b.map (fun m => m - x + 1) → Q (.ref u) (upd H8 u (.tup [.int (a + x * st), .int st, optV m'])) := by
        intro u m' hu em
        subst em
        exact q _ _ _ R9 (fun f st' m e => by
          have e := Option.some.inj e
          have e1 : a + x * st = f := congrArg (·.1) e
          have e2 : st = st' := congrArg (·.2.1) e
          omega) ⟨u, rfl, upd_same⟩ (sm9.trans (same_new hu _))
      cases b with
      | none => exact ⟨(by show 3 ≤ sizeLine; decide), fun u hu => fin u none hu rfl⟩
      | some m => exact ⟨_, rfl, _, rfl, _, _, rfl, rfl, _, _, rfl, rfl, (by show 3 ≤ sizeLine; decide), fun u hu => fin u (some (m - x + 1)) hu rfl⟩
end
/-! ### first_block -/
/-- crossing, as first_block calls it -/
def CrC (P : Program) (w : World) (K : PySem.W.Frag) (mg : Str → Option Value) (base : Heap) (C : Addr) : Prop := ∃ (f : Addr) (fd : FuncData), FnOk P w K mg base CX0 5 f fd P_crossing (spCr C) ∧ PySem.W.keepIn K (.ref f) = true ∧ mg "crossing" = some (.ref f) ∧
  ∃ g, KBn K fd P_crossing 2 ["other_count", "lead"] g (fun vs zs => vs ++ ([.non] ++ zs))
theorem CrC.of {P : Program} {w : World} {K : PySem.W.Frag} {mg : Str → Option Value} {base : Heap} {C : Addr} {f : Addr} {fd : FuncData} (F : CrF K f fd) (h : FnOk P w K mg base CX0 5 f fd P_crossing (spCr C)) (m : mg "crossing" = some (.ref f)) : CrC P w K mg base C := by
  refine ⟨f, fd, h, F.kp, m, ?_⟩
  obtain ⟨mv, h⟩ := FunD.kbinds0 F (ps := P_crossing) 2 ["other_count", "lead"] [("count", .non)] (fun us mv ws => us ++ (mv ++ ws)) (by simp) (fun q hq => by simp only [List.mem_cons, List.not_mem_nil, or_false] at hq; subst hq; exact List.mem_cons_self) (fun r1 r2 r3 => r1.append (r2.append r3)) fun D doc pm an cdv ct us mv ws h1 h2 h3 => match us, mv, ws, h1, h2, h3 with | [_, _], [_], [_, _], _, _, _ => ⟨_, _, _, _, _, _, rfl, rfl, rfl⟩
  exact ⟨_, h⟩
theorem pe_crOL {X : Cx} {C : Addr} {e : Expr} {es : List Expr} {kws : List Keyword} {t tk : TA} {p pos : Pos} (c : CrC X.prog X.w X.K X.mg X.base C) (hr : Room 5 X.A) (ha : PA X (e :: es) t) (hkw : PK X kws tk) (hg : Gl X "crossing" := by rfl)
    (hall : (backToKw pos (keywordEach kws X.env)).all (·.1.isSome) = true := by rfl) (hks : (backToKw pos (keywordEach kws X.env)).filterMap (·.1) = (["other_count", "lead"] : List Str) := by rfl)
    (he : starEach (e :: es) X.env = (false, eval e X.env) :: starEach es X.env := by rfl)
    (hpl : ((backTo pos (starEach (e :: es) X.env)).any (·.1) || (backToKw pos (keywordEach kws X.env)).any (·.1.isNone)) = false := by rfl) :
    PE X (.Call (.Name "crossing" p) (e :: es) kws pos) (tCallN 2 2 (spCr C) (fun vs zs => vs ++ ([.non] ++ zs)) E0 t tk) := by
  obtain ⟨f, fd, F, kp, m, g, b⟩ := c
  exact pe_callN F hr hg m kp b pass0 ha hkw hall hks (he := he) (hpl := hpl)
abbrev s_first_block : Stmt := (topS 35)
abbrev N_sc_first_block : List Str := ["one", "other", "count", "is_earlier", "numbers"]
abbrev P_first_block : List Str := ["one", "other", "count", "is_earlier"]
theorem sc_first_block : FnScope N_sc_first_block P_first_block (defScope s_first_block) := ⟨rfl, rfl, rfl, by decide +kernel, rfl, by decide +kernel, by decide +kernel⟩
def spFB (C : Addr) : Sp := fun vs H Q _ => ∃ (a1 a2 : Addr) (nm1 : Str) (d1 p1 s1 : Int) (nm2 : Str) (d2 p2 s2 : Int) (cnt : Option Int) (fl : Bool), vs = [.ref a1, .ref a2, optV cnt, .bl fl] ∧ Two C H a1 a2 nm1 d1 p1 s1 nm2 d2 p2 s2 ∧ (∀ c, cnt = some c → 0 ≤ c ∧ c ≤ 10 ^ 80) ∧
  ∀ (r : Option Int) (H' : Hp), Least (Blk p1 d1 s1 p2 d2 s2 cnt fl) r → (∀ n, r = some n → n ≤ 10 ^ 70) → Same H H' → Q (optV r) H'
/-- first_block, as it can be called -/
def FBk (K : PySem.W.Frag) (f : Addr) (fd : FuncData) : Prop := FunD K "first_block" "first_block" (defArgs s_first_block) (defBody s_first_block) (defScope s_first_block) [] [("count", .non), ("is_earlier", .bl false)] f fd
section
variable {P : Program} {w : World} {K : PySem.W.Frag} {mg : Str → Option Value} {base : Heap} {C : Addr}
theorem ok_fb {f : Addr} {fd : FuncData} (F : FBk K f fd) (B : Blt mg) (T : PTxt K mg C) (CC : Cal P w K mg base 3 "check_count" P_check_count spCount) (CCr : CrC P w K mg base C) : FnOk P w K mg base CX0 6 f fd P_first_block (spFB C) := by
  refine FunD.ok F sc_first_block (fun vs H Q E h => ?_) (fun cdv A outer s H vs Q E hr h => ?_)
  · obtain ⟨a1, a2, _, _, _, _, _, _, _, _, _, _, rfl, _⟩ := h
    rfl
  obtain ⟨a1, a2, nm1, d1, p1, s1, nm2, d2, p2, s2, cnt, fl, rfl, Tw, hc, q⟩ := h
  refine ⟨_, PSs.nox (C8.pss_cut (ps_if (pt_cmpR op_notN (pv 2) pe_non (nomark _)) (pss_one (ps_expr (pe_cal CC (hr.mono (by decide)) (pa_cons (pv 2) pa_nil)))) pss_nil) (pss_cons (ps_set (i := 4) sc_first_block.nd rfl (Or.inl rfl) (pe_crOL CCr (hr.mono (by decide)) (pa_cons (pv 0) (pa_cons (pv 1) pa_nil)) (pk_cons (pv 2) (pk_cons (pe_ifExp (pt_val (pv 3)) pe_int pe_int) pk_nil)))) (pss_one (ps_ret (pe_ifExp (pt_cmpR op_isN (pv 4) pe_non (nomark _)) pe_non (pe_ix (show IxR _ (rIxT K) from ix_tup) (pv 4) pe_int (fun _ _ => rfl))))))), ?_⟩
  refine ⟨fun σ' H' => σ' = [some (.ref a1), some (.ref a2), some (optV cnt), some (.bl fl), none] ∧ H' = H, ?_, ?_⟩
  · refine ⟨_, rfl, rfl, _, rfl, ?_⟩
    cases cnt with
    | none => exact ⟨rfl, rfl⟩
    | some c => exact ⟨_, rfl, c, rfl, (hc c rfl).1, (hc c rfl).2, rfl, rfl⟩
  rintro σ' H' ⟨rfl, rfl⟩
  have ic : InB cnt := hc
  cases fl
  all_goals
    refine ⟨_, rfl, _, rfl, _, rfl, _, rfl, _, rfl, ?_⟩
    first | refine iteT ?_ | refine iteF ?_
    refine ⟨rfl, rfl, a1, a2, nm1, d1, p1, s1, nm2, d2, p2, s2, none, cnt, some _, rfl, Tw, (fun c e => by cases e), ic, (fun c e => by cases e; decide), fun r v H1 R bd hv sm => ?_⟩
    refine ⟨_, rfl, rfl, _, rfl, ?_⟩
    cases r with
    | none =>
      have hv : v = .non := hv
      subst hv
      exact q none H1 (cr_block (fl := _) (r := none) R) (fun n e => by cases e) sm
    | some z =>
      obtain ⟨f, st, m⟩ := z
      obtain ⟨t, rfl, ht⟩ := hv
      have b := (bd f st m rfl).1
      exact ⟨_, rfl, t, _, _, _, rfl, rfl, SqT.of ht, atI_nat (j := 0) rfl, q (some f) H1 (cr_block (fl := _) (r := some (f, st, m)) R) (fun n e => by cases e; exact b) sm⟩
end
end Ur
/-! KFC: the ways first_block is called. -/
namespace Ur
open PySem PySem.Spec PyProof.Rows L2
/-- first_block, with all the ways its arguments are bound -/
def FBC (P : Program) (w : World) (K : PySem.W.Frag) (mg : Str → Option Value) (base : Heap) (C : Addr) : Prop := ∃ (f : Addr) (fd : FuncData), FnOk P w K mg base CX0 6 f fd P_first_block (spFB C) ∧ PySem.W.keepIn K (.ref f) = true ∧ mg "first_block" = some (.ref f) ∧
  (∃ ds, Vals [.non, .bl false] ds ∧ Binds K fd P_first_block ds) ∧ (∃ g, KBn K fd P_first_block 2 ["count", "is_earlier"] g (fun vs zs => vs ++ ([] ++ zs))) ∧ (∃ g, KBn K fd P_first_block 2 ["is_earlier"] g (fun vs zs => vs ++ ([.non] ++ zs))) ∧ (∃ g, KBn K fd P_first_block 2 ["count"] g (fun vs zs => vs ++ (zs ++ [.bl false])))
theorem FBC.of {P : Program} {w : World} {K : PySem.W.Frag} {mg : Str → Option Value} {base : Heap} {C : Addr} {f : Addr} {fd : FuncData} (F : FBk K f fd) (h : FnOk P w K mg base CX0 6 f fd P_first_block (spFB C)) (m : mg "first_block" = some (.ref f)) : FBC P w K mg base C := by
  refine ⟨f, fd, h, F.kp, m, ?_, ?_, ?_, ?_⟩
  · exact FunD.binds0 F 2 (by simp) rfl fun D doc pm an cdv ct us ks h1 h2 => match us, ks, h1, h2 with | [_, _], [_, _], _, _ => ⟨_, _, _, _, _, _, rfl, rfl, ⟨_, _, _, _, _, _, rfl, rfl, rfl⟩⟩
  · obtain ⟨mv, h⟩ := FunD.kbinds0 F (ps := P_first_block) 2 ["count", "is_earlier"] [] (fun us mv ws => us ++ (mv ++ ws)) (by simp) (fun q hq => by cases hq) (fun r1 r2 r3 => r1.append (r2.append r3)) fun D doc pm an cdv ct us mv ws h1 h2 h3 => match us, mv, ws, h1, h2, h3 with | [_, _], [], [_, _], _, _, _ => rfl
    exact ⟨_, h⟩
  · obtain ⟨mv, h⟩ := FunD.kbinds0 F (ps := P_first_block) 2 ["is_earlier"] [("count", .non)] (fun us mv ws => us ++ (mv ++ ws)) (by simp) (fun q hq => by simp only [List.mem_cons, List.not_mem_nil, or_false] at hq; subst hq; exact List.mem_cons_self) (fun r1 r2 r3 => r1.append (r2.append r3)) fun D doc pm an cdv ct us mv ws h1 h2 h3 => match us, mv, ws, h1, h2, h3 with | [_, _], [_], [_], _, _, _ => ⟨_, _, _, _, _, _, rfl, rfl, rfl⟩
    exact ⟨_, h⟩
  · obtain ⟨mv, h⟩ := FunD.kbinds0 F (ps := P_first_block) 2 ["count"] [("is_earlier", .bl false)] (fun us mv ws => us ++ (ws ++ mv)) (by simp) (fun q hq => by simp only [List.mem_cons, List.not_mem_nil, or_false] at hq; subst hq; exact List.mem_cons_of_mem _ List.mem_cons_self) (fun r1 r2 r3 => r1.append (r3.append r2)) fun D doc pm an cdv ct us mv ws h1 h2 h3 => match us, mv, ws, h1, h2, h3 with | [_, _], [_], [_], _, _, _ => ⟨_, _, _, _, _, _, rfl, rfl, rfl⟩
    exact ⟨_, h⟩
section
variable {X : Cx} {C : Addr} {e : Expr} {es : List Expr} {kws : List Keyword} {t tk : TA} {p pos : Pos}
theorem pe_fbCE (c : FBC X.prog X.w X.K X.mg X.base C) (hr : Room 6 X.A) (ha : PA X (e :: es) t) (hkw : PK X kws tk) (hg : Gl X "first_block" := by rfl)
    (hall : (backToKw pos (keywordEach kws X.env)).all (·.1.isSome) = true := by rfl) (hks : (backToKw pos (keywordEach kws X.env)).filterMap (·.1) = (["count", "is_earlier"] : List Str) := by rfl)
    (he : starEach (e :: es) X.env = (false, eval e X.env) :: starEach es X.env := by rfl)
    (hpl : ((backTo pos (starEach (e :: es) X.env)).any (·.1) || (backToKw pos (keywordEach kws X.env)).any (·.1.isNone)) = false := by rfl) :
    PE X (.Call (.Name "first_block" p) (e :: es) kws pos) (tCallN 2 2 (spFB C) (fun vs zs => vs ++ ([] ++ zs)) E0 t tk) := by
  obtain ⟨f, fd, F, kp, m, _, ⟨g, b⟩, _⟩ := c
  exact pe_callN F hr hg m kp b pass0 ha hkw hall hks (he := he) (hpl := hpl)
end
end Ur
/-! UrE: for i, x in enumerate(t), t a tuple; instances made with a star among the arguments. -/
namespace Ur
open PySem PySem.Spec PyProof.Rows L2
theorem meets_enumerate_newB1 {v : Value} {o : Obj} {H : Heap → Prop} (B : Begins v o H) :
    Meets (Builtin.«enumerate.__new__» ⟨[.type "enumerate", v], []⟩) (fun _ R s => H s.heap ∧
      R (.ok (.ret (.ref (s.heap.push o).objs.size))) { s with heap := (s.heap.push o).push { cls := .type "enumerate", data := .fields #[.none, .bool false, .ref s.heap.objs.size, rawInt 0, .none, .none] } }) :=
  .of_wp fun prog w A R s h => by
    obtain ⟨hp, g, d, tk, os⟩ := s; obtain ⟨h1, h⟩ := h
    have hsub := sub_enumerate
    have q1 : ∀ {A' : Around} {E : Value → Shared → Prop} {Q : Value → Shared → Prop}, Q (.ref hp.objs.size) ⟨hp.push o, g, d, tk, os⟩ → wpAny (model prog w) A' (pyIter v) Q E ⟨hp, g, d, tk, os⟩ :=
      fun q => B.iter prog w _ _ ⟨hp, g, d, tk, os⟩ _ h1 q
    wp_walk using q1
    refine wpAny_stack_any fun st => wpAny_pure ?_
    split
    · rename_i c _ _ _ _ _
      cases (c == Value.type "enumerate")
      · wp_walk using q1
        exact ⟨_, rfl, h⟩
      · wp_walk using q1
        exact ⟨_, rfl, h⟩
    · wp_walk using q1
      exact ⟨_, rfl, h⟩
section
variable {prog : Program} {w : World} {A : Around} {E : Value → Shared → Prop} {s : Shared}
theorem enum_begins1 {v : Value} {o : Obj} {H : Heap → Prop} {Q : Value → Shared → Prop} (B : Begins v o H) (h1 : H s.heap)
    (h : ∀ h', IsEnum h' (s.heap.objs.size + 1) s.heap.objs.size 0 .none → h'.get? s.heap.objs.size = some o → h'.objs.size = s.heap.objs.size + 2 →
      (∀ b o, s.heap.get? b = some o → h'.get? b = some o) → Q (.ref (s.heap.objs.size + 1)) { s with heap := h' }) :
    wpAny (model prog w) A (call (.type "enumerate") [v]) Q E s := by
  refine callType_new F.called_enumerate (by decide) (F.typeCall_enumerate_1 _) (F.newCall_enumerate_1 _) (fun obj => F.args_object_init_2 obj _) F.entry_enumerate_new
    (meets_enumerate_newB1 B) ⟨h1, ?_⟩
  have hz : (s.heap.push o).objs.size = s.heap.objs.size + 1 := Heap.size_push ..
  show _ ∧ _
  rw [hz]
  have he : IsEnum ((s.heap.push o).push { cls := .type "enumerate", data := .fields #[.none, .bool false, .ref s.heap.objs.size, rawInt 0, .none, .none] }) (s.heap.objs.size + 1) s.heap.objs.size 0 .none := by
    have := Heap.get?_push_size (s.heap.push o) (o := { cls := .type "enumerate", data := .fields #[.none, .bool false, .ref s.heap.objs.size, rawInt 0, .none, .none] }) rfl
    rw [hz] at this; exact this
  refine ⟨⟨_, he, rfl⟩, h _ he (Heap.get?_push_of_some _ (Heap.get?_push_size _ B.free)) (by rw [Heap.size_push, hz]) fun b o x => Heap.get?_push_of_some _ (Heap.get?_push_of_some _ x)⟩
end
/-- the tuple at a, each item in a new pair -/
def Ient (K : PySem.W.Frag) (a : Addr) : It :=
  ⟨fun i H => ∃ (xs : List V) (x : V), SqT K H a xs ∧ xs[i]? = some x, fun i H v H' => ∃ T x, v = .ref T ∧ H T = none ∧ H' = upd H T (.tup [.int (i : Nat), x]) ∧ ∀ xs, SqT K H a xs → xs[i]? = some x, fun i H => ∃ xs : List V, SqT K H a xs ∧ xs.length = i⟩
theorem turn_enumT {P : Program} {w : World} {K : PySem.W.Frag} {elts : List Expr} {kk : Nat} {tpos : Pos} (a e it : Addr) :
    Turn P w K (.Tuple elts kk tpos) (Ient K a) [e, it] e (fun i h => (∃ old, IsEnum h e it ((i : Nat) : Int) old) ∧ h.IsTupleIter it a i ∧ e ≠ it ∧ a ≠ it ∧ e ≠ a) where
  mem := by simp
  obj := fun i h st b hb => by
    obtain ⟨⟨old, he⟩, ⟨o, ho, hc, hd⟩, _⟩ := st
    have e' : b = e ∨ b = it := by simpa using hb
    rcases e' with z | z
    · rw [z]; exact ⟨_, he, fun v q => nomatch q⟩
    · rw [z]; exact ⟨o, ho, fun v q => by rw [hd] at q; cases q⟩
  keep := fun i h h' st k => let ⟨⟨old, he⟩, hi, hne⟩ := st; ⟨⟨old, k e (by simp) _ he⟩, hi.at fun o q => k it (by simp) o q, hne⟩
  item := by
    intro X hP hw hK hc i pins s σ H E I hf st hg
    subst hP hw hK
    obtain ⟨⟨old, he⟩, hit, hne, hai, hea⟩ := st
    obtain ⟨xs, x, hq, hx⟩ := hg
    obtain ⟨its, rv, p, hz⟩ := I.tuple hq
    obtain ⟨u, hu, ru⟩ := rv.get hx
    have hi : i < its.toArray.size := by
      have := (List.getElem?_eq_some_iff.mp hu).1
      simpa using this
    have hel : e < s.heap.objs.size := Heap.lt_size he
    have hil : it < s.heap.objs.size := by obtain ⟨_, q, _⟩ := hit; exact Heap.lt_size q
    have D := Draws.tuple (prog := X.prog) (w := X.w) (A := X.A.in1) (I.ok.hd hc) it a hai its.toArray
    refine wpAny_pyNext_enum_itemD D he ⟨hit, p⟩ hi hne (by simp [hne, hea]) fun x0 h' tk hP ho hst' hT hsz hk => ?_
    have ex : x0 = u := by
      have hP : its.toArray[i]? = some x0 := hP
      have h2 : its.toArray[i]? = some u := by simpa using hu
      rw [hP] at h2
      exact Option.some.inj h2
    subst ex
    refine ⟨_, rfl, wpAny_letOwnedTupleGo_enum (s := { s with heap := h', toks := tk + 1 }) ho fun h'' he' sb => ?_⟩
    have hT2 : h''.get? s.heap.objs.size = some { cls := .type "tuple", data := .seq #[.int i tk, x0] } := (sb.2 _ (Nat.ne_of_gt hel)).trans hT
    have new : ObjOk X.prog X.w (upd H s.heap.objs.size (.tup [.int (i : Nat), x])) h'' s.heap.objs.size (.tup [.int (i : Nat), x]) :=
      ⟨by show 2 ≤ sizeLine; decide, [.int i tk, x0], .cons ⟨_, rfl⟩ (.cons ru .nil), ⟨_, hT2, rfl, _, rfl⟩⟩
    have I1 : Inv X pins σ (upd H s.heap.objs.size (.tup [.int (i : Nat), x])) { s with heap := h'', toks := tk + 1 } :=
      I.turnedNew (ch := [e, it]) (fun b ob hb q => (sb.2 b (fun z => hb (by simp [z]))).trans (hk b ob (fun z => hb (by simp [z])) (fun z => hb (by simp [z])) q)) hf (Nat.le_refl _) new
    refine ⟨.ref s.heap.objs.size, _, I1, rfl, ⟨_, x, rfl, I.hok.fresh (Nat.le_refl _), rfl, fun ys hy => by rw [I.tuple_inj hy hq]; exact hx⟩, ⟨⟨x0, ?_⟩, hst'.1.at fun o q => (sb.2 it (Ne.symm hne)).trans q, hne, hai, hea⟩, fun b hb => ?_⟩
    · have e1 : ((i + 1 : Nat) : Int) = (i : Int) + 1 := by omega
      rw [e1]; exact he'
    · have hb' : b < s.heap.objs.size := by
        have e' : b = e ∨ b = it := by simpa using hb
        rcases e' with z | z
        · rw [z]; exact hel
        · rw [z]; exact hil
      rw [upd_ne (Nat.ne_of_lt hb')]
      exact (hf b hb).1
  done := by
    intro X hP hw hK hc i pins s σ H E I hf st hg
    subst hP hw hK
    obtain ⟨⟨old, he⟩, hit, hne, hai, hea⟩ := st
    obtain ⟨xs, hq, hx⟩ := hg
    obtain ⟨its, rv, p, hz⟩ := I.tuple hq
    obtain ⟨f0, f1, f2, f3, f4, f5⟩ := hf it (by simp)
    have hl := rv.length
    have D := Draws.tuple (prog := X.prog) (w := X.w) (A := X.A.in1) (I.ok.hd hc) it a hai its.toArray
    have en : i = its.toArray.size := by simp; omega
    rw [en] at hit
    exact wpAny_pyNext_enum_endD D he ⟨hit, p⟩ fun h' eb => ⟨rfl, I.turned (t' := s.toks) (fun b o hb q => eb b o hb q) f0 f1 f3 f4 f5⟩
  self := fun A i s Q E st h => let ⟨⟨_, he⟩, _⟩ := st; wpAny_pyIter_enum he h
def iEnumT (K : PySem.W.Frag) (ta : TA) : TI := fun σ H R => ta σ H fun vs H1 => ∃ a xs, vs = [.ref a] ∧ SqT K H1 a xs ∧ R (Ient K a) H1
theorem pi_enumT {X : Cx} {e : Expr} {ta : TA} {p pos tpos : Pos} {elts : List Expr} {kk : Nat} (hg : Gl X "enumerate") (hm : X.mg "enumerate" = none) (ha : PA X [e] ta) (hs : starEach [e] X.env = [(false, eval e X.env)] := by rfl) :
    PI X (.Tuple elts kk tpos) (.Call (.Name "enumerate" p) [e] [] pos) (iEnumT X.K ta) := by
  refine ⟨fun pins s σ H R I h => ?_⟩
  refine Call_ (ld_blt I hg hm boot_enumerate (PyProof.Rows.callWith_type1 (thn (ha.run pos pins s σ H _ I h) fun us s1 ⟨vs, H1, I1, r1, q1⟩ => ?_) hs rfl))
  obtain ⟨a, xs, ex, hq, q⟩ := q1
  subst ex
  cases r1 with
  | cons r rr =>
    cases rr
    cases r
    obtain ⟨its, rv, p', hz⟩ := I1.tuple hq
    have p' : s1.heap.IsTuple a its.toArray := p'
    have hal : a < s1.heap.objs.size := by obtain ⟨_, q, _⟩ := p'; exact Heap.lt_size q
    refine enum_begins1 (begins_tuple a its.toArray) p' fun h' he hit hsz hk => wpAny_pyIter_enum he ?_
    have I2 : Inv X pins σ H1 { s1 with heap := h' } := I1.kept (t' := s1.toks) hk
    refine ⟨s1.heap.objs.size + 1, [s1.heap.objs.size + 1, s1.heap.objs.size], _, _, H1, rfl, I2, turn_enumT a (s1.heap.objs.size + 1) s1.heap.objs.size, ⟨⟨.none, he⟩, ⟨_, hit, rfl, rfl⟩, Nat.succ_ne_self _, Nat.ne_of_lt hal, ?_⟩, fun b hb => ?_, q⟩
    · exact fun z => absurd (show s1.heap.objs.size + 1 < s1.heap.objs.size from z ▸ hal) (by omega)
    have e' : b = s1.heap.objs.size + 1 ∨ b = s1.heap.objs.size := by simpa using hb
    have hle : s1.heap.objs.size ≤ b := by
      rcases e' with z | z
      · rw [z]; exact Nat.le_add_right _ _
      · rw [z]; exact Nat.le_refl _
    exact I1.fpOk hle (I1.hok.fresh hle)
theorem walk_enumT {K : PySem.W.Frag} {a : Addr} {xs : List V} : Walk (Ient K a) xs.length (fun H => SqT K H a xs) (YPair (fun i => some (.int (i : Nat))) (fun i => xs[i]?)) := by
  refine ⟨fun i _ hi q => ⟨xs, xs[i], q, by simp [hi]⟩, fun _ q => ⟨xs, q, rfl⟩, fun i H v H' _ q y => ?_⟩
  obtain ⟨T, x, h1, h2, h3, h4⟩ := y
  exact ⟨T, .int (i : Nat), x, h1, h2, h3, rfl, h4 xs q⟩
/-! ### C( *y), C( *y, e) -/
theorem evalArgs_star2 {M : Model} {A : Around} {E : Value → Shared → Prop} {s : Shared} {f : Value} {x : Sem Value} {y : Bool × Sem Value} {rest : List (Bool × Sem Value)} {Q : Args → Shared → Prop}
    (h : wpAny M A (spliced ((true, x) :: y :: rest)) (fun vs s' => Q ⟨vs, []⟩ s') E s) : wpAny M A (evalArgs f true ((true, x) :: y :: rest) []) Q E s := by
  unfold evalArgs
  show wpAny M A (spliced ((true, x) :: y :: rest) >>= _) Q E s
  refine wpAny_bind (wpAny_mono h (fun vs s' h' => ?_) fun _ _ x => x)
  refine wpAny_holding ?_
  exact wpAny_bind (wpAny_pure (wpAny_bind (wpAny_pure (wpAny_pure h'))))
section
variable {X : Cx} {CX : CXT} {k : Nat} {f C : Addr} {sp : Sp} {E : XK} {x : Str} {e e2 : Expr} {te : TE} {t : TA} {p sp_ pos : Pos}
/-- C( *y, e) -/
theorem pe_makeS2 (M : Mk X.K C f) (F : FnR X.prog X.w X.K X.mg X.base CX k f sp) (hr : Room (k + 1) X.A) (hg : Gl X x) (hm : X.mg x = some (.ref C)) (hx : Passes CX X E) (ha : PA X [.Starred e sp_, e2] t) (hd : (x == ("__debug__" : Str)) = false := by decide)
    (hst : starEach [.Starred e sp_, e2] X.env = [(true, eval e X.env), (false, eval e2 X.env)] := by rfl) :
    PE X (.Call (.Name x p) [.Starred e sp_, e2] [] pos) (StX.tMakeR C sp E t) := by
  refine ⟨fun pins s σ H Q I h => ?_⟩
  refine wpAny_Call_Name_kw (ld_glob I hg hm ?_ hd)
  have z := thn (ha.run pos pins s σ H _ I h) fun us s1 ⟨vs, H1, I1, r, q⟩ => (⟨I1.kIn, StX.run_makeR M F hr hx I1 r q⟩ : X.K.In s1.heap ∧ wpAny (model X.prog X.w) X.A (call (.ref C) ([] ++ us)) (EP X pins σ Q) X.xe s1)
  rw [hst] at z ⊢
  exact PySem.W.ks_call rfl (PySem.W.keeps_K M.kp) (evalArgs_star2 z)
/-- C() -/
theorem pe_makeR0 (M : Mk X.K C f) (F : FnR X.prog X.w X.K X.mg X.base CX k f sp) (hr : Room (k + 1) X.A) (hg : Gl X x) (hm : X.mg x = some (.ref C)) (hx : Passes CX X E) (hd : (x == ("__debug__" : Str)) = false := by decide) :
    PE X (.Call (.Name x p) [] [] pos) (fun σ H1 Q => ∀ x dx, H1 x = Option.none → H1 dx = Option.none → dx ≠ x → sp [V.ref x] (upd (upd H1 dx (.own x)) x (.ins C dx [])) (fun v H2 => v = .non ∧ Q (.ref x) H2) E) := by
  refine ⟨fun pins s σ H Q I h => ?_⟩
  refine wpAny_Call_Name_kw (ld_glob I hg hm ?_ hd)
  exact PySem.W.callWith_K0 I.kIn M.kp (StX.run_makeR (us := []) M F hr hx I .nil h)
end
end Ur
/-! FA: a fence is made: Fence.__init__. -/
namespace Ur
open PySem PySem.Spec PyProof.Rows L2
/-- a painter as it stands -/
structure Pt where
  a : Addr
  nm : Str
  d : Int
  p : Int
  s : Int
def PtAt (C : Addr) (H : Hp) (x : Pt) : Prop := PnAt C H x.a x.nm x.d x.p x.s ∧ PartOk x.nm x.d x.p x.s
def refsOf (L : List Pt) : List V := L.map fun x => V.ref x.a
def kvOf (L : List Pt) : List (Key × V) := L.map fun x => (Sum.inr x.nm, V.ref x.a)
def ffs (t d : Addr) : List (Str × V) := [("_painters", .ref t), ("_by_name", .ref d)]
theorem ffs_p (t d : Addr) : (ffs t d).lookup ("_painters" : Str) = some (V.ref t) := rfl
/-- painters that can stand in a fence -/
structure Crew (C : Addr) (H : Hp) (L : List Pt) : Prop where
  at_ : ∀ x ∈ L, PtAt C H x
  nd : (L.map Pt.nm).Nodup
  few : L.length ≤ 40
/-- a fence stands at f -/
structure FcAt (C CF : Addr) (H : Hp) (f : Addr) (L : List Pt) : Prop where
  ex : ∃ dx t d, H f = some (.ins CF dx (ffs t d)) ∧ H t = some (.tup (refsOf L)) ∧ H d = some (.dK (kvOf L))
  crew : Crew C H L
theorem PtAt.same {C : Addr} {H H' : Hp} {x : Pt} (h : PtAt C H x) (s : Same H H') : PtAt C H' x := let ⟨⟨dx, e⟩, z⟩ := h; ⟨⟨dx, s _ _ e⟩, z⟩
theorem Crew.same {C : Addr} {H H' : Hp} {L : List Pt} (h : Crew C H L) (s : Same H H') : Crew C H' L := ⟨fun x hx => (h.at_ x hx).same s, h.nd, h.few⟩
theorem FcAt.same {C CF : Addr} {H H' : Hp} {f : Addr} {L : List Pt} (h : FcAt C CF H f L) (s : Same H H') : FcAt C CF H' f L :=
  let ⟨dx, t, d, h1, h2, h3⟩ := h.ex
  ⟨⟨dx, t, d, s _ _ h1, s _ _ h2, s _ _ h3⟩, h.crew.same s⟩
theorem valV_of {L : List Pt} {nm : Str} (h : nm ∉ L.map Pt.nm) : valV (kvOf L) (Sum.inr nm : Key) = none := by
  induction L with
  | nil => rfl
  | cons x r ih =>
    have h1 : ¬ nm = x.nm := fun e => h (by rw [e]; exact List.mem_cons_self)
    have h2 : nm ∉ r.map Pt.nm := fun e => h (List.mem_cons_of_mem _ e)
    show valV ((Sum.inr x.nm, V.ref x.a) :: kvOf r) _ = none
    rw [valV_neg (fun e => h1 (Sum.inr.inj e).symm)]
    exact ih h2
/-- what the class of fences must have -/
structure FTxt (K : PySem.W.Frag) (mg : Str → Option Value) (CF : Addr) : Prop where
  cl : Cls K CF
  nP : NoAttr K CF "_painters"
  nB : NoAttr K CF "_by_name"
  mgF : mg "Fence" = some (.ref CF)
theorem fun_star {K : PySem.W.Frag} {P : Program} {w : World} {mg : Str → Option Value} {base : Heap} {x qual : Str} {st : Stmt} {f : Addr} {fd : FuncData} {N : List Str} {p1 pv : Str} {k : Nat} {sp : Sp} (F : Fun K x qual st f fd) (S : FnScope N [p1, pv] (defScope st))
    (h0 : ∀ (kV doc pm : Value) (an : Option Addr) (cdv ct : Value) (a : Value), bindArgs (PySem.W.fnOf x qual (defArgs st) (defBody st) (defScope st) .none kV doc pm an cdv ct) ⟨[a], []⟩ = (newTuple [] >>= fun t => pure [(p1, a), (pv, t)]))
    (h1 : ∀ (kV doc pm : Value) (an : Option Addr) (cdv ct : Value) (a r : Value) (rs : List Value), bindArgs (PySem.W.fnOf x qual (defArgs st) (defBody st) (defScope st) .none kV doc pm an cdv ct) ⟨a :: r :: rs, []⟩ = (newTuple (r :: rs) >>= fun t => pure [(p1, a), (pv, t)]))
    (hbody : ∀ (cdv : Value) (A : Around) (outer : List Env) (s : Shared) (H : Hp) (vs : List V) (Q : VK) (E : XK), Room k (A.deeper (envOfC qual (defScope st) s.heap.objs.size f cdv)) → sp vs H Q E →
      ∃ t, PSs (cxOf CX0 P w K mg base N qual (defScope st) f cdv A outer s H E).nox (defBody st) t ∧ t { nx := fun _ H' => Q .non H', rt := Q } (start N vs) H) :
    FnR P w K mg base CX0 (k + 1) f (fun vs H Q E => ∃ w rest, vs = w :: rest ∧ rest.length ≤ sizeLine ∧ ∀ p, H p = Option.none → sp [w, V.ref p] (upd H p (.tup rest)) Q E) := by
  obtain ⟨oc, od, kV, doc, pm, an, cdv, ct, osl, rfl, lk, hcd⟩ := F.ex
  refine (StX.fn_star (ps := [p1]) (pv := pv) (sp := sp) lk hcd S StX.cxUp_none (StX.bind_star1 (B := fun us => bindArgs (PySem.W.fnOf x qual (defArgs st) (defBody st) (defScope st) .none kV doc pm an cdv ct) ⟨us, []⟩) (h0 kV doc pm an cdv ct) (h1 kV doc pm an cdv ct)) fun A outer s H vs Q E hr hsp => ?_).imp ?_
  · obtain ⟨t, h, q⟩ := hbody cdv A outer s H vs Q E hr hsp
    exact ⟨t, h.nox, q⟩
  · rintro vs H Q E ⟨w, rest, rfl, hl, q⟩
    exact ⟨[w], rest, rfl, rfl, hl, q⟩
abbrev s_Fence_init : Stmt := (inClass (topS 63) 0)
abbrev N_sc_Fence_init : List Str := ["self", "painters", "index", "painter", "by_name"]
abbrev P_Fence_init : List Str := ["self", "painters"]
theorem sc_Fence_init : FnScope N_sc_Fence_init P_Fence_init (defScope s_Fence_init) := ⟨rfl, rfl, rfl, by decide +kernel, rfl, by decide +kernel, by decide +kernel⟩
def spFInit (C CF : Addr) : Sp := fun vs H Q _ => ∃ (x dx t : Addr) (L : List Pt), vs = [.ref x, .ref t] ∧ H x = some (.ins CF dx []) ∧ H t = some (.tup (refsOf L)) ∧ Crew C H L ∧
  ∀ H' d, H' x = some (.ins CF dx (ffs t d)) → H' d = some (.dK (kvOf L)) → Keep x H H' → Q .non H'
section
variable {P : Program} {w : World} {K : PySem.W.Frag} {mg : Str → Option Value} {base : Heap}
theorem refs_at {L : List Pt} {i : Nat} {v : V} (h : (refsOf L)[i]? = some v) : ∃ x, L[i]? = some x ∧ v = V.ref x.a := by
  unfold refsOf at h
  rw [List.getElem?_map] at h
  cases e : L[i]? with
  | none => rw [e] at h; cases h
  | some x => rw [e] at h; exact ⟨x, rfl, (Option.some.inj h).symm⟩
theorem take_snoc {α : Type} {L : List α} {i : Nat} {x : α} (h : L[i]? = some x) : L.take (i + 1) = L.take i ++ [x] := by
  rw [List.take_add_one, h]
  rfl
set_option maxHeartbeats 16000000 in
theorem ok_finit {C CF f : Addr} {fd : FuncData} (F : Fun K "__init__" "Fence.__init__" s_Fence_init f fd) (B : Blt mg) (hEn : mg "enumerate" = none) (T : PTxt K mg C) (U : FTxt K mg CF) (hI : C8.InsC K C) (hName : PropS P w K mg base C "name" 1 (getSp C "_name"))
    {uM : Value} (hMP : mg "MAX_PAINTERS" = some uM) (rMP : L2.RelV (.int 40) uM) :
    FnR P w K mg base CX0 3 f (fun vs H Q E => ∃ w rest, vs = w :: rest ∧ rest.length ≤ sizeLine ∧ ∀ p, H p = Option.none → spFInit C CF [w, V.ref p] (upd H p (.tup rest)) Q E) := by
  refine fun_star F (k := 2) sc_Fence_init (fun _ _ _ _ _ _ _ => rfl) (fun _ _ _ _ _ _ _ _ _ => rfl) (fun cdv A outer s H vs Q E hr h => ?_)
  obtain ⟨x, dx, t, L, rfl, hx, ht, cr, q⟩ := h
  have hu := hu_of hr
  refine ⟨_, (pss_cons (ps_for PassesOwn.never rfl (pi_enumT rfl hEn (pa_cons (pv 1) pa_nil)) (pg_tup rfl (pgs_cons (pg_name (i := 2) sc_Fence_init.nd rfl (Or.inl rfl)) (pgs_cons (pg_name (i := 3) sc_Fence_init.nd rfl (Or.inl rfl)) pgs_nil))) (pss_one (ps_if (pt_not (pt_val (pe_callB (C8.call_isC hI) rfl B.isinstance_ (by decide +kernel) (pa_cons (pv 3) (pa_cons (pe_glob (v := V.ref C) rfl T.mgP rfl) pa_nil))))) (pss_one ps_never) pss_nil))) (pss_cons (ps_set (i := 4) sc_Fence_init.nd rfl (Or.inl rfl) pe_dnewK) (pss_cons (ps_for PassesOwn.never rfl (pi_tup (pv 1)) (pg_name (i := 3) sc_Fence_init.nd rfl (Or.inl rfl)) (pss_cons (ps_if (pt_cmp (pc_din hu (pe_prS (pv 3) T.cl hName (hr.mono (by decide))) (pv 4))) (pss_one ps_never) pss_nil) (pss_one (ps_dput hu (pv 4) (pe_prS (pv 3) T.cl hName (hr.mono (by decide))) (pv 3) rfl)))) (pss_cons (ps_if (pt_cmpR op_gt (pe_callB call_len_seq rfl B.len_ PySem.boot_len (pa_cons (pv 1) pa_nil)) (pe_glob (v := .int 40) rfl hMP rMP) (nomark _)) (pss_one ps_never) pss_nil) (pss_cons (ps_fld (pv 0) (pv 1) rfl) (pss_one (ps_fld (pv 0) (pv 4) rfl))))))), ?_⟩
  refine ⟨_, rfl, t, _, rfl, .inl (.inl ht), ?_⟩
  refine for_it walk_enumT (fun i σ H1 => ∃ o2 o3, σ = [some (.ref x), some (.ref t), o2, o3, none] ∧ Same H H1) ⟨_, _, rfl, Same.refl _⟩ (fun i σ H1 _ h => by obtain ⟨_, _, _, h⟩ := h; exact sameTup h (.inl (.inl ht))) ?_ ?_
  · rintro i v σ H1 H2 hi ⟨o2, o3, rfl, s1⟩ ⟨T0, y1, y2, rfl, hT, rfl, e1, e2⟩
    obtain rfl := Option.some.inj e1
    obtain ⟨z, hz, rfl⟩ := refs_at e2
    refine ⟨T0, _, rfl, .inl (.inl upd_same), rfl, _, _, rfl, _, _, rfl, rfl, ?_⟩
    have pz := ((cr.at_ z (List.mem_of_getElem? hz)).same s1).same (same_new hT (.tup [V.int (i : Int), V.ref z.a]))
    obtain ⟨dz, ez⟩ := pz.1
    refine ⟨_, rfl, z.a, dz, _, rfl, ez, true, rfl, iteF ?_⟩
    exact ⟨_, _, rfl, s1.trans (same_new hT _)⟩
  · rintro σ H1 ⟨o2, o3, rfl, s1⟩
    refine fun d hd => ?_
    have ht1 := s1 _ _ ht
    have cr1 := cr.same s1
    have hx1 := s1 _ _ hx
    refine ⟨_, rfl, t, rfl, ⟨_, .inl (.inl (same_new hd _ _ _ ht1))⟩, for_tup (K := K) (a := t) (xs := refsOf L) (fun i σ H2 => ∃ o3, σ = [some (.ref x), some (.ref t), o2, o3, some (.ref d)] ∧ H2 d = some (.dK (kvOf (L.take i))) ∧ Same H1 H2) ⟨_, rfl, upd_same, same_new hd _⟩ (fun i σ H2 _ h => by obtain ⟨_, _, _, h⟩ := h; exact .inl (.inl (h _ _ ht1))) ?_ ?_⟩
    · rintro i v σ H2 e2 ⟨o3, rfl, hd2, s2⟩
      obtain ⟨z, hz, rfl⟩ := refs_at e2
      have hi : i < L.length := (List.getElem?_eq_some_iff.mp hz).1
      have pz := (cr1.at_ z (List.mem_of_getElem? hz)).same s2
      obtain ⟨dz, ez⟩ := id pz.1
      have nk : z.nm ∉ (L.take i).map Pt.nm := by
        have h1 := cr.nd
        have h2 : L = L.take i ++ z :: L.drop (i + 1) := by
          have h3 : L.drop i = z :: L.drop (i + 1) := by
            rw [List.drop_eq_getElem_cons hi]
            congr 1
            exact Option.some.inj ((List.getElem?_eq_getElem hi).symm.trans hz)
          rw [← h3, List.take_append_drop]
        rw [h2, List.map_append, List.map_cons] at h1
        exact fun e => (List.nodup_append.mp h1).2.2 _ e _ List.mem_cons_self rfl
      have vn := valV_of nk
      refine ⟨_, rfl, z.a, dz, _, rfl, ez, z.a, dz, _, _, rfl, ez, pfs_name _ _ _ _, ?_⟩
      refine ⟨_, rfl, d, none, rfl, ?_, _, rfl, iteF ?_⟩
      · have g := DGet.k (k := (Sum.inr z.nm : Key)) hd2
        rw [vn] at g
        exact g
      refine ⟨_, rfl, _, rfl, _, rfl, z.a, dz, _, rfl, ez, z.a, dz, _, _, rfl, ez, pfs_name _ _ _ _, d, _, rfl, DPut.k (k := (Sum.inr z.nm : Key)) hd2 (by show (kvOf (L.take i)).length < sizeLine; unfold kvOf; rw [List.length_map, List.length_take]; exact Nat.lt_of_le_of_lt (Nat.le_trans (Nat.min_le_right _ _) cr.few) (by decide)), ?_⟩
      refine ⟨_, rfl, ?_, fun b o e => ?_⟩
      · rw [upd_same, putK_new _ vn, take_snoc hz]
        show some (HO.dK (kvOf (L.take i) ++ [(Sum.inr z.nm, V.ref z.a)])) = some (HO.dK (kvOf (L.take i ++ [z])))
        unfold kvOf
        rw [List.map_append]
        rfl
      · have nb : b ≠ d := ne_of_none e hd
        rw [upd_ne nb]
        exact s2 _ _ e
    · rintro σ H2 ⟨o3, rfl, hd2, s2⟩
      have hl : (refsOf L).length = L.length := by unfold refsOf; rw [List.length_map]
      rw [hl, List.take_length] at hd2
      have ht2 := s2 _ _ ht1
      have hx2 := s2 _ _ hx1
      refine ⟨_, rfl, t, _, rfl, .inr (SqT.of ht2), _, _, rfl, rfl, _, rfl, ?_⟩
      have c : decide ((40 : Int) < ((refsOf L).length : Int)) = false := decide_eq_false (by have := cr.few; rw [hl]; omega)
      show (if decide ((40 : Int) < ((refsOf L).length : Int)) = true then _ else _)
      rw [c]
      refine iteF ?_
      refine ⟨_, rfl, _, rfl, x, CF, dx, [], rfl, hx2, U.cl, U.nP, (by show 0 < 1000; decide), ?_⟩
      refine ⟨_, rfl, _, rfl, x, CF, dx, _, rfl, upd_same, U.cl, U.nB, (by show 1 < 1000; decide), ?_⟩
      have nd : d ≠ x := fun e => by rw [e] at hd; rw [hx1] at hd; cases hd
      refine q _ d upd_same ?_ fun b o e nb => ?_
      · rw [upd_ne nd, upd_ne nd]
        exact hd2
      · rw [upd_ne nb, upd_ne nb]
        exact s2 _ _ (s1 _ _ e)
end
end Ur
/-! UrO: operators of own classes: + with another own class at its right, ==, != with both answers, in, len, [..]; == and != of tuples whose items have an own ==. -/
namespace PySem.W
open PySem PySem.Calls PyProof.Rows Builtin
section
variable {prog : Program} {w : World} {A : Around} {E : Value → Shared → Prop} {s : Shared} {K : Frag} {x C C2 L f f2 : Addr} {h₀ : Heap} {m : Str → Option Value} {ox : Obj} {od : Option Obj} {b tb : Value}
/-- a + b, b of another own class that has the operator too, but not the reflected one -/
theorem ur_binC {op : Operator} {Q : Value → Shared → Prop} (F : Fr h₀ L s.heap m) (X₀ : K.In h₀) (I : InstAt s.heap x ox C od) (hb : Looks (model prog w) s.heap (typeOf b) (.ref C2)) (hc : selfFirst K C = true) (hc2 : selfFirst K C2 = true) (hne : C ≠ C2)
    (hs : findIn K (.ref C) (PySem.dunder op.info.2) = some (some (.ref f))) (hf : isFn K (.ref f) = true) (hr : findIn K (.ref C) (dunderR op.info.2) = some none)
    (hs2 : findIn K (.ref C2) (PySem.dunder op.info.2) = some (some (.ref f2))) (hr2 : findIn K (.ref C2) (dunderR op.info.2) = some none) (hsub : subIn K (.ref C2) (.ref C) = some false)
    (h : wpAny (model prog w) A (call (.ref f) [.ref x, b]) (CmpBack Q) E s) : wpAny (model prog w) A (binaryOp op (.ref x) b) Q E s := by
  have X := X₀.keeps F.keep
  obtain ⟨cd, rest, hcd, hm⟩ := ksp_first hc
  obtain ⟨cd2, rest2, hcd2, hm2⟩ := ksp_first hc2
  rcases hi : op.info with ⟨sym, nm'⟩
  rw [hi] at hs hr hs2 hr2
  dsimp only at hs hr hs2 hr2
  have one := ksp_try X I hs hf h
  obtain ⟨hh, g, d, tt, os⟩ := s
  have L1 : Looks (model prog w) hh (typeOf (.ref x)) (.ref C) := I.type
  have L2 : Looks (model prog w) hh (typeOf b) (.ref C2) := hb
  have L3 : Looks (model prog w) hh (fillsNumberSlot (.ref C) nm') true := fills_K X hcd hm hs
  have L4 : Looks (model prog w) hh (fillsNumberSlot (.ref C2) nm') true := fills_K X hcd2 hm2 hs2
  have L5 : Looks (model prog w) hh (isSubtype (.ref C2) (.ref C)) false := looks_subIn X hsub
  have L6 : Looks (model prog w) hh (numberSlotInPython (.ref C) nm') true := ksp_inPy X hs hr (.inl rfl)
  have L7 : Looks (model prog w) hh (numberSlotInPython (.ref C2) nm') true := ksp_inPy X hs2 hr2 (.inl rfl)
  have hne : (Value.ref C == Value.ref C2) = false := Bool.eq_false_iff.mpr fun q => by cases beq_iff_eq.mp q; exact hne rfl
  simp only [binaryOp, hi]
  refine wpAny_holding (wpAny_bind ?_)
  unfold binaryOp1
  refine wpAny_bind (L1.at (wpAny_bind (L2.at (wpAny_bind (L3.at ?_)))))
  simp only [hne, Bool.false_eq_true, if_false]
  ksp_lk
  refine wpAny_mono one (fun r s' hr' => ?_) fun _ _ e => e
  obtain ⟨v, rfl, hq⟩ := hr'
  ksp_lk
  exact hq
end
end PySem.W
/-! UrQ: == and != of tuples whose items have an own ==, with both answers. -/
namespace GQ
open PySem PySem.SeqAt
open AutoSeq1 (wpAny_loadPart')
open MeetsSeq MeetsSeq2 MeetsSeq3 SeqRoads2
section
variable {prog : Program} {w : World} {A : Around} {R : Result → Shared → Prop}
end
section
variable {prog : Program} {w : World} {A : Around} {E : Value → Shared → Prop} {s : Shared}
end
end GQ
/-! UrV: the rules for == and != of own instances and of tuples of them, for in, len and [..] of own instances. -/
namespace Ur
open PySem PySem.Spec PyProof.Rows L2
section
variable {X : Cx} {n m : Nat} {D : EqvB}
theorem look_ref {M : Model} {h : Heap} {a : Addr} {o : Obj} {t : Value} (ho : h.get? a = some o) (hc : o.cls = t) : PySem.W.Looks M h (typeOf (.ref a)) t := fun A Q E s k q => wpAny_typeOf_ref (k _ _ ho) (by rw [hc]; exact q)
/-- of what kind a value is -/
inductive Knd (H : Hp) : V → Value → Prop where
  | non : Knd H .non (.type "NoneType")
  | bl (x : Bool) : Knd H (.bl x) (.type "bool")
  | int (i : Int) : Knd H (.int i) (.type "int")
  | str (x : Str) : Knd H (.str x) (.type "str")
  | lst {a : Addr} {xs : List V} (e : H a = some (.lst xs)) : Knd H (.ref a) (.type "list")
  | tup {a : Addr} {xs : List V} (e : H a = some (.tup xs)) : Knd H (.ref a) (.type "tuple")
  | dK {a : Addr} {kvs : List (Key × V)} (e : H a = some (.dK kvs)) : Knd H (.ref a) (.type "dict")
  | ins {a C dx : Addr} {fs : List (Str × V)} (e : H a = some (.ins C dx fs)) : Knd H (.ref a) (.ref C)
theorem ty_looks {M : Model} {pins : List (Addr × Obj)} {s : Shared} {σ : L2.St} {H : Hp} {y : V} {v t : Value} (I : Inv X pins σ H s) (r : L2.RelV y v) (ty : Knd H y t) : PySem.W.Looks M s.heap (typeOf v) t := by
  cases ty with
  | non => obtain rfl : v = Value.none := r; exact PySem.W.Looks.of_pure rfl
  | bl x => obtain rfl : v = Value.bool x := r; exact PySem.W.Looks.of_pure rfl
  | int i => obtain ⟨tk, rfl⟩ := (show ∃ tk, v = Value.int i tk from r); exact PySem.W.Looks.of_pure rfl
  | str z => obtain ⟨tk, rfl⟩ := (show ∃ tk, v = Value.str z tk from r); exact PySem.W.Looks.of_pure rfl
  | @lst a xs e =>
    obtain rfl : v = Value.ref a := r
    obtain ⟨_, its, m, rv, g⟩ := (show ObjOk X.prog X.w H s.heap a (.lst xs) from I.hok a _ e)
    exact look_ref g rfl
  | @tup a xs e =>
    obtain rfl : v = Value.ref a := r
    obtain ⟨_, its, rv, o, g, gc, m, gd⟩ := (show ObjOk X.prog X.w H s.heap a (.tup xs) from I.hok a _ e)
    exact look_ref g gc
  | @dK a kvs e =>
    obtain rfl : v = Value.ref a := r
    obtain ⟨_, nsys, kv, rk, o, es0, ep, g, ex, gd, _, prs, _⟩ := dk_of I.hok e
    exact look_ref g ex.1
  | @ins a C dx fs e =>
    obtain rfl : v = Value.ref a := r
    obtain ⟨mA, J0, _⟩ := ins_get I.hok e
    obtain ⟨od, J, _⟩ := J0.look
    exact J.type
/-! ### in, not in, len, [..] -/
/-- a method with what it promises, as an operator is found -/
def OwnR (P : Program) (w : World) (K : PySem.W.Frag) (mg : Str → Option Value) (base : Heap) (C : Addr) (m : Str) (k : Nat) (ps : List Str) (sp : Sp) : Prop :=
  ∃ f fd, PySem.W.findIn K (.ref C) m = some (some (.ref f)) ∧ PySem.W.isFn K (.ref f) = true ∧ PySem.W.fnIn K f = true ∧ FnOk P w K mg base CX0 k f fd ps sp ∧ Binds K fd ps []
variable {C : Addr} {k : Nat} {sp : Sp} {ps : List Str}
/-! ### + of an instance and an instance of another class -/
structure AddTwo (K : PySem.W.Frag) (C C2 : Addr) : Prop where
  self : PySem.W.selfFirst K C = true
  self2 : PySem.W.selfFirst K C2 = true
  back : PySem.W.findIn K (.ref C) "__radd__" = some none
  back2 : PySem.W.findIn K (.ref C2) "__radd__" = some none
  add2 : ∃ f, PySem.W.findIn K (.ref C2) "__add__" = some (some (.ref f))
  sub : PySem.W.subIn K (.ref C2) (.ref C) = some false
  ne : C ≠ C2
theorem op_addTwo {C2 : Addr} (h : OwnR X.prog X.w X.K X.mg X.base C "__add__" k ps sp) (c : AddTwo X.K C C2) (hr : Room k X.A) :
    OpR X (binaryOp .Add) (fun x y H Q => ∃ a dx fs c dy gs, x = .ref a ∧ y = .ref c ∧ H a = some (.ins C dx fs) ∧ H c = some (.ins C2 dy gs) ∧ sp [.ref a, .ref c] H (fun v H' => (∃ r, v = .ref r) ∧ Q v H') E0) := by
  intro pins s σ H x y v u Q I rx ry hq
  obtain ⟨a, dx, fs, b, dy, gs, rfl, rfl, ha, hb, q⟩ := hq
  obtain ⟨f, fd, hs, hf, _, F, hbi⟩ := h
  obtain rfl : v = Value.ref a := rx
  obtain rfl : u = Value.ref b := ry
  obtain ⟨mA, J0, _⟩ := ins_get I.hok ha
  obtain ⟨od, J, _⟩ := J0.look
  obtain ⟨m, F0⟩ := I.fr
  obtain ⟨f2, h2⟩ := c.add2
  refine PySem.W.ur_binC (op := .Add) F0 I.ok.mod.kin J (ty_looks I (show L2.RelV (.ref b) (.ref b) from rfl) (.ins hb)) c.self c.self2 c.ne hs hf c.back h2 c.back2 c.sub (wpAny_mono (run_fn F hr hbi .nil pass0 I (.cons (show L2.RelV (.ref a) (.ref a) from rfl) (.cons (show L2.RelV (.ref b) (.ref b) from rfl) .nil)) q) (fun r s' z => ?_) fun _ _ z => z)
  obtain ⟨z, H', I', rz, ⟨d, ed⟩, q'⟩ := z
  subst ed
  obtain rfl : r = Value.ref d := rz
  exact ⟨.ref d, H', I', rfl, q'⟩
end
end Ur
/-! UrX: errors: several except clauses with names; an error that was caught and is kept as a value; isinstance of it. -/
namespace Ur
open PySem PySem.Spec PyProof.Rows L2
section
variable {X : Cx} {pins : List (Addr × Obj)} {σ : L2.St} {H : Hp} {s : Shared} {p : Addr} {o : Obj} {cls : Value} {d : Option Addr}
end
/-! ### try: .. except A as e: .. except B as e: .. -/
abbrev Suite := Addr → Value → Option Addr → TS
inductive Clauses (X : Cx) : List ExceptHandler → List (Value × Nat × Suite) → Prop
  | nil : Clauses X [] []
  | cons {x n : Str} {c : Value} {i : Nat} {ts : Suite} {b0 : Stmt} {rest : List Stmt} {np hp : Pos} {hs : List ExceptHandler} {l : List (Value × Nat × Suite)} (names : Names X x c) (slot : X.N[i]? = some n) (kind : X.env.kindOf n = some .local)
      (suite : ∀ (p : Addr) (o : Obj) (cls : Value) (d : Option Addr) (pn : List (Addr × Obj)), Zc cls d o → (∃ vs, o.data = .fields vs) → PSs (X.suite p ((p, o) :: pn)) (b0 :: rest) (ts p cls d)) (more : Clauses X hs l) :
      Clauses X (.ExceptHandler (some (.Name x np)) (some n) (b0 :: rest) hp :: hs) ((c, i, ts) :: l)
section
variable {X : Cx} {body : List Stmt} {h1 : ExceptHandler} {hs : List ExceptHandler} {l : List (Value × Nat × Suite)} {pos : Pos} {tb : WX → TS} {W0 : WX}
end
/-! ### isinstance -/
end Ur
/-! UrY: values of any kind: what they are, what isinstance says of them, how they are shown. -/
namespace Ur
open PySem PySem.Spec PyProof.Rows L2
/-- no object: None, a bool, a number, a text -/
inductive Flat : V → PyData → Prop
  | non : Flat .non .none
  | bl (b : Bool) : Flat (.bl b) (.bool b)
  | int (i : Int) : Flat (.int i) (.int i)
  | str (x : Str) : Flat (.str x) (.str x)
section
variable {X : Cx} {pins : List (Addr × Obj)} {σ : L2.St} {H : Hp} {s : Shared} {np : Addr}
end
/-! ### what can be shown, dicts too -/
structure ShX (d : PyData) (n k : Nat) : Prop where
  sh : d.showable = true
  dp : d.depth ≤ k
  lv : d.leavesShort 1930 = true
  wt : d.weight ≤ n
structure ShXAll (ds : List PyData) (n k : Nat) : Prop where
  sh : PyData.showableAll ds = true
  dp : PyData.depthAll ds ≤ k
  lv : PyData.leavesShortAll 1930 ds = true
  wt : PyData.weightAll ds ≤ n
section
variable {X : Cx}
end
/-! ### isinstance -/
def kindD : PyData → String
  | .none => "NoneType"
  | .bool _ => "bool"
  | .int _ => "int"
  | .str _ => "str"
  | .list _ => "list"
  | .tuple _ => "tuple"
  | .dict _ => "dict"
/-! ### a list's display: no table of the modules -/
end Ur
/-! FB: fences: painters, names, len, in, [..], + . -/
namespace Ur
open PySem PySem.Spec PyProof.Rows L2
theorem refs_len (L : List Pt) : (refsOf L).length = L.length := by unfold refsOf; rw [List.length_map]
theorem refs_snoc (L : List Pt) (x : Pt) : refsOf (L ++ [x]) = refsOf L ++ [V.ref x.a] := by unfold refsOf; rw [List.map_append]; rfl
/-- a fence that was just made -/
theorem fence_made {C CF : Addr} {H H2 : Hp} {x dx p d : Addr} {L : List Pt} (nx : H x = none) (nd : H dx = none) (np : upd (upd H dx (.own x)) x (.ins CF dx []) p = none) (h1 : H2 x = some (.ins CF dx (ffs p d))) (h2 : H2 d = some (.dK (kvOf L)))
    (k : Keep x (upd (upd (upd H dx (.own x)) x (.ins CF dx [])) p (.tup (refsOf L))) H2) (cr : Crew C H L) : FcAt C CF H2 x L ∧ Same H H2 := by
  have px : p ≠ x := fun e => by rw [e, upd_same] at np; cases np
  have sm : Same H H2 := Same.made nx nd fun b o e hb => k b o (by rw [upd_ne (ne_of_none e np)]; exact e) hb
  exact ⟨⟨⟨dx, p, d, h1, k _ _ upd_same px, h2⟩, cr.same sm⟩, sm⟩
/-- what a crew asks where the fence is made -/
theorem Crew.made {C CF : Addr} {H : Hp} {x dx p : Addr} {L : List Pt} (nx : H x = none) (nd : H dx = none) (np : upd (upd H dx (.own x)) x (.ins CF dx []) p = none) (cr : Crew C H L) (u : HO) : Crew C (upd (upd (upd H dx (.own x)) x (.ins CF dx [])) p u) L :=
  cr.same fun b o e => by
    have e2 : upd (upd H dx (.own x)) x (.ins CF dx []) b = some o := by rw [upd_ne (ne_of_none e nx), upd_ne (ne_of_none e nd)]; exact e
    rw [upd_ne (ne_of_none e2 np)]
    exact e2
/-- the promise of Fence.__init__ as it is called -/
abbrev spFI (C CF : Addr) : Sp := fun vs H Q E => ∃ w rest, vs = w :: rest ∧ rest.length ≤ sizeLine ∧ ∀ p, H p = Option.none → spFInit C CF [w, V.ref p] (upd H p (.tup rest)) Q E
/-- how it is asked where a fence is made of a crew -/
theorem ask_fence {C CF : Addr} {H : Hp} {x dx : Addr} {L : List Pt} {Q : VK} {E : XK} (nx : H x = none) (nd : H dx = none) (cr : Crew C H L) (q : ∀ H', FcAt C CF H' x L → Same H H' → Q .non H') :
    spFI C CF (V.ref x :: refsOf L) (upd (upd H dx (.own x)) x (.ins CF dx [])) Q E := by
  refine ⟨_, _, rfl, by rw [refs_len]; exact Nat.le_trans cr.few (by decide), fun p np => ?_⟩
  have px : x ≠ p := fun e => by rw [← e, upd_same] at np; cases np
  refine ⟨x, dx, p, L, rfl, by rw [upd_ne px]; exact upd_same, upd_same, cr.made nx nd np _, fun H' d h1 h2 k => ?_⟩
  obtain ⟨f, s⟩ := fence_made nx nd np h1 h2 k cr
  exact q H' f s
def MkF (P : Program) (w : World) (K : PySem.W.Frag) (mg : Str → Option Value) (base : Heap) (C CF : Addr) : Prop := ∃ f, Mk K CF f ∧ FnR P w K mg base CX0 3 f (spFI C CF)
abbrev s_Fence_add : Stmt := (inClass (topS 63) 9)
abbrev N_sc_Fence_add : List Str := ["self", "other"]
abbrev P_Fence_add : List Str := ["self", "other"]
theorem sc_Fence_add : FnScope N_sc_Fence_add P_Fence_add (defScope s_Fence_add) := ⟨rfl, rfl, rfl, by decide +kernel, rfl, by decide +kernel, by decide +kernel⟩
def spFAdd (C CF : Addr) : Sp := fun vs H Q _ => ∃ (f : Addr) (L : List Pt) (x : Pt), vs = [.ref f, .ref x.a] ∧ FcAt C CF H f L ∧ Crew C H (L ++ [x]) ∧ ∀ g H', FcAt C CF H' g (L ++ [x]) → Same H H' → Q (.ref g) H'
section
variable {P : Program} {w : World} {K : PySem.W.Frag} {mg : Str → Option Value} {base : Heap} {C CF : Addr} {f : Addr} {fd : FuncData}
theorem ok_fadd (F : Fun K "__add__" "Fence.__add__" s_Fence_add f fd) (U : FTxt K mg CF) (hMk : MkF P w K mg base C CF) : FnOk P w K mg base CX0 5 f fd P_Fence_add (spFAdd C CF) := by
  obtain ⟨fI, MF, FI⟩ := hMk
  refine F.ok sc_Fence_add (fun vs H Q E h => ?_) (fun cdv A outer s H vs Q E hr h => ?_)
  · obtain ⟨f, L, x, rfl, _⟩ := h
    rfl
  obtain ⟨f, L, x, rfl, hf, cr, q⟩ := h
  obtain ⟨dx, t, d, h1, h2, h3⟩ := hf.ex
  refine ⟨_, (pss_one (ps_ret (pe_makeS2 MF FI (hr.mono (by decide)) rfl U.mgF pass0 (StX.pa_star (pe_fld (pv 0) rfl) (pa_cons (pv 1) pa_nil))))), ?_⟩
  refine ⟨_, rfl, f, CF, dx, _, _, rfl, h1, U.cl, U.nP, ffs_p _ _, t, _, rfl, .inl (.inl (.inl h2)), _, rfl, fun x1 dx1 nx nd ne => ?_⟩
  rw [show refsOf L ++ [V.ref x.a] = refsOf (L ++ [x]) from (refs_snoc _ _).symm]
  exact ask_fence nx nd cr fun H' hf' s' => ⟨rfl, q x1 H' hf' s'⟩
end
abbrev s_Fence_painters : Stmt := (inClass (topS 63) 1)
abbrev N_sc_Fence_painters : List Str := ["self"]
abbrev P_Fence_painters : List Str := ["self"]
theorem sc_Fence_painters : FnScope N_sc_Fence_painters P_Fence_painters (defScope s_Fence_painters) := ⟨rfl, rfl, rfl, by decide +kernel, rfl, by decide +kernel, by decide +kernel⟩
section
variable {P : Program} {w : World} {K : PySem.W.Frag} {mg : Str → Option Value} {base : Heap} {C CF : Addr} {f : Addr} {fd : FuncData}
theorem ok_get_painters (F : Fun K "painters" "Fence.painters" s_Fence_painters f fd) (U : FTxt K mg CF) : FnOk P w K mg base CX0 1 f fd ["self"] (getSp CF "_painters") := by
  refine F.ok sc_Fence_painters (fun vs H Q E h => ?_) (fun cdv A outer s H vs Q E hr h => ?_)
  · obtain ⟨a, dx, fs, v, rfl, _⟩ := h
    rfl
  obtain ⟨a, dx, fs, v, rfl, ha, hl, q⟩ := h
  exact ⟨_, (pss_one (ps_ret (pe_fld (pv 0) rfl))), _, rfl, a, CF, dx, fs, v, rfl, ha, U.cl, U.nP, hl, q⟩
end
section
variable {P : Program} {w : World} {K : PySem.W.Frag} {mg : Str → Option Value} {base : Heap} {C CF : Addr} {f : Addr} {fd : FuncData}
end
section
variable {P : Program} {w : World} {K : PySem.W.Frag} {mg : Str → Option Value} {base : Heap} {C CF : Addr} {f : Addr} {fd : FuncData}
end
section
variable {P : Program} {w : World} {K : PySem.W.Frag} {mg : Str → Option Value} {base : Heap} {C CF : Addr} {f : Addr} {fd : FuncData}
end
section
variable {P : Program} {w : World} {K : PySem.W.Frag} {mg : Str → Option Value} {base : Heap} {C CF : Addr} {f : Addr} {fd : FuncData}
end
end Ur
/-! FC: == and != of painters and of fences. -/
namespace Ur
open PySem PySem.Spec PyProof.Rows L2
/-! ### isinstance of an own class, both answers -/
structure KitC (K : PySem.W.Frag) (C : Addr) : Prop where
  no : ∀ d : PyData, PySem.W.kitOne K (.type (kindD d)) (.ref C) = some false
/-! ### painters -/
def Pt.parts (x : Pt) : Str × Int × Int × Int := (x.nm, x.d, x.p, x.s)
section
variable {P : Program} {w : World} {K : PySem.W.Frag} {mg : Str → Option Value} {base : Heap} {C : Addr} {f : Addr} {fd : FuncData}
end
section
variable {X : Cx} {C : Addr}
end
/-! ### tuples of painters -/
def partsOf (L : List Pt) : List (Str × Int × Int × Int) := L.map Pt.parts
/-! ### fences -/
section
variable {P : Program} {w : World} {K : PySem.W.Frag} {mg : Str → Option Value} {base : Heap} {C CF : Addr} {f : Addr} {fd : FuncData}
end
section
variable {X : Cx} {C CF : Addr}
end
end Ur
/-! K5: rows of painters: small. -/
namespace Ur
open PySem PySem.Spec PyProof.Rows L2
end Ur
/-! K6: rows of painters with great numbers: aimed, lined. -/
namespace Ur
open PySem PySem.Spec PyProof.Rows L2
end Ur
/-! K7: lined, painters. -/
namespace Ur
open PySem PySem.Spec PyProof.Rows L2
/-! ### painters: none, or rows of one of the three kinds -/
end Ur
/-! N3: the names are different ones. -/
namespace Ur
open PySem PySem.Spec PyProof.Rows L2
def baseN (stem : Str) (c : Nat) : Str := if stem.length % 2 = 0 then stem ++ ⟨#[c]⟩ else ⟨#[c]⟩ ++ stem
/-- the j-th name -/
def NmAt (stem : Str) (fr sp : Int) (j : Nat) (g : Str) : Prop := ∃ (c : Nat) (t : Str), lett.cps.toList[((fr + sp * (j : Int)) % 26).toNat]? = some c ∧ t.length = (if j < 26 then 0 else 1) ∧ g = baseN stem c ++ t
theorem at_emod {a : Int} {c : Nat} (h : atI lett.cps.toList (a % 26) = some c) : lett.cps.toList[(a % 26).toNat]? = some c := by
  obtain ⟨j, hj⟩ : ∃ j : Nat, a % 26 = (j : Int) := ⟨(a % 26).toNat, by have := Int.emod_nonneg a (show (26 : Int) ≠ 0 by decide); omega⟩
  have hl : j < 26 := by have := Int.emod_lt_of_pos a (show (0 : Int) < 26 by decide); omega
  rw [hj] at h ⊢
  rw [atI_nat (List.getElem?_eq_getElem (show j < lett.cps.toList.length by rw [lett_tl]; exact hl))] at h
  rw [Int.toNat_natCast, List.getElem?_eq_getElem (show j < lett.cps.toList.length by rw [lett_tl]; exact hl)]
  exact h
theorem nmAt_snoc {stem : Str} {fr sp : Int} {ss : List Str} {i : Nat} {g : Str} (hl : ss.length = i) (h : ∀ j g, ss[j]? = some g → NmAt stem fr sp j g) (hg : NmAt stem fr sp i g) : ∀ j y, (ss ++ [g])[j]? = some y → NmAt stem fr sp j y := by
  intro j y e
  by_cases hj : j < ss.length
  · rw [List.getElem?_append_left hj] at e
    exact h j y e
  · have hj2 : j < (ss ++ [g]).length := (List.getElem?_eq_some_iff.mp e).1
    rw [List.length_append] at hj2
    have : j = i := by have h1 : ([g] : List Str).length = 1 := rfl; omega
    subst this
    rw [List.getElem?_append_right (by omega), hl, Nat.sub_self] at e
    obtain rfl := Option.some.inj e
    exact hg
theorem base_inj {stem : Str} {c d : Nat} {t u : Str} (hl : t.length = u.length) (e : baseN stem c ++ t = baseN stem d ++ u) : c = d := by
  have e2 : (baseN stem c).cps.toList ++ t.cps.toList = (baseN stem d).cps.toList ++ u.cps.toList := by
    have z := congrArg (fun s : Str => s.cps.toList) e
    simpa [Str.cps_append, Array.toList_append] using z
  have hl2 : t.cps.toList.length = u.cps.toList.length := by rw [Array.length_toList, Array.length_toList]; exact hl
  have e3 := (List.append_inj' e2 hl2).1
  unfold baseN at e3
  by_cases ev : stem.length % 2 = 0
  · rw [if_pos ev, if_pos ev, Str.cps_append, Str.cps_append, Array.toList_append, Array.toList_append] at e3
    simpa using e3
  · rw [if_neg ev, if_neg ev, Str.cps_append, Str.cps_append, Array.toList_append, Array.toList_append] at e3
    simpa using e3
theorem lett_inj : ∀ i < 26, ∀ j < 26, lett.cps.toList[i]? = lett.cps.toList[j]? → i = j := by decide +kernel
theorem step_inj {sp d : Int} (h : sp ∈ ([1, 3, 5, 7, 9, 11, 15, 17, 19, 21, 23, 25] : List Int)) (e : (sp * d) % 26 = 0) : d % 26 = 0 := by
  simp only [List.mem_cons, List.not_mem_nil, or_false] at h
  rcases h with rfl | rfl | rfl | rfl | rfl | rfl | rfl | rfl | rfl | rfl | rfl | rfl <;> omega
theorem nm_ne {stem : Str} {fr sp : Int} (h : sp ∈ ([1, 3, 5, 7, 9, 11, 15, 17, 19, 21, 23, 25] : List Int)) {i j : Nat} {g : Str} (hij : i < j) (hj : j < 52) (a : NmAt stem fr sp i g) (b : NmAt stem fr sp j g) : False := by
  obtain ⟨c, t, hc, ht, e1⟩ := a
  obtain ⟨d, u, hd, hu, e2⟩ := b
  have len : ∀ (c : Nat) (t : Str), (baseN stem c ++ t).length = stem.length + 1 + t.length := fun c t => by
    rw [Str.length_append]
    congr 1
    unfold baseN
    split
    · rw [Str.length_append]; rfl
    · rw [Str.length_append]
      show 1 + stem.length = _
      omega
  have hl : t.length = u.length := by
    have z := congrArg Str.length (e1.symm.trans e2)
    rw [len, len] at z
    omega
  have hcd := base_inj hl (e1.symm.trans e2)
  subst hcd
  have b1 := Int.emod_nonneg (fr + sp * (i : Int)) (show (26 : Int) ≠ 0 by decide)
  have b2 := Int.emod_lt_of_pos (fr + sp * (i : Int)) (show (0 : Int) < 26 by decide)
  have b3 := Int.emod_nonneg (fr + sp * (j : Int)) (show (26 : Int) ≠ 0 by decide)
  have b4 := Int.emod_lt_of_pos (fr + sp * (j : Int)) (show (0 : Int) < 26 by decide)
  have ei := lett_inj _ (by omega) _ (by omega) (hc.trans hd.symm)
  have em : (fr + sp * (i : Int)) % 26 = (fr + sp * (j : Int)) % 26 := by omega
  have ez : (sp * ((j : Int) - (i : Int))) % 26 = 0 := by
    rw [Int.mul_sub]
    generalize sp * (j : Int) = x at em ⊢
    generalize sp * (i : Int) = y at em ⊢
    omega
  have zz := step_inj h ez
  rw [hl, hu] at ht
  split at ht <;> split at ht <;> omega
theorem nm_nodup {stem : Str} {fr sp : Int} (h : sp ∈ ([1, 3, 5, 7, 9, 11, 15, 17, 19, 21, 23, 25] : List Int)) {ss : List Str} (hl : ss.length ≤ 52) (hs : ∀ j g, ss[j]? = some g → NmAt stem fr sp j g) : ss.Nodup := by
  rw [List.nodup_iff_pairwise_ne, List.pairwise_iff_getElem]
  intro i j hi hj hij e
  exact nm_ne h hij (by omega) (hs i _ (List.getElem?_eq_getElem hi)) (by rw [e]; exact hs j _ (List.getElem?_eq_getElem hj))
def spNamesN : Sp := fun vs H Q _ => ∃ (p l : Addr) (m n : Nat), vs = [.ref p, .int (m : Int)] ∧ Pen H p l n ∧ n + 12 * (m + 9) ≤ 2 ^ 39 ∧ m ≤ 52 ∧
  ∀ (F : Addr) (ss : List Str) (H' : Hp), H' F = some (.lst (ss.map V.str)) → ss.length = m → (∀ z ∈ ss, NameOk z) → ss.Nodup → H F = none → Pen H' p l (n + 12 * (m + 9)) → Keep p H H' → Q (.ref F) H'
section
variable {P : Program} {w : World} {K : PySem.W.Frag} {mg : Str → Option Value} {base : Heap}
set_option maxHeartbeats 16000000 in
theorem ok_namesN (D : Dfn K mg "_law_names" s__law_names P__law_names) (B : Blt mg) (CD : Cal P w K mg base 12 "_law_draw" P__law_draw spDr) (CP : Cal P w K mg base 13 "_law_pick" P__law_pick (spPickL K)) (CS : Cal P w K mg base 13 "_law_pick" P__law_pick spPickS) :
    Cal P w K mg base 14 "_law_names" P__law_names spNamesN := by
  refine D.cal sc__law_names (fun vs H Q E h => ?_) fun f cdv A outer s H vs Q E hr h => ?_
  · obtain ⟨p, l, m, n, rfl, _⟩ := h
    rfl
  obtain ⟨p, l, m, n, rfl, Pn, hn, hm, q⟩ := h
  obtain ⟨kvs, hp⟩ := Pn.dk
  have small : ∀ x : Nat, x ≤ 1000 → x ≤ sizeLine := fun x h => Nat.le_trans h (by decide)
  refine ⟨_, (pss_cons (ps_set (i := 2) sc__law_names.nd rfl (Or.inr rfl) pe_str) (C8.pss_cut (ps_set (i := 3) sc__law_names.nd rfl (Or.inl rfl) (pe_join pe_str (pe_lc (own := [("_law_k", 4)]) (g := gName 4) (tt := tYes) rfl sc__law_names.nd (pi_range1 rfl B.range_ (pa_cons (pe_cal CD (hr.mono (by decide)) (pa_cons (pv 0) (pa_cons pe_int pa_nil))) pa_nil)) (blkOk_by (N := N_sc__law_names) (sc := defScope s__law_names) (by decide +kernel)) (fun _ _ _ _ _ => pg_name (i := 4) sc__law_names.nd rfl (Or.inl rfl)) (fun _ _ _ _ _ => pts_nil) (fun _ _ _ _ _ => (pe_cal CS (hr.mono (by decide)) (pa_cons (pv 0) (pa_cons (pv 2) pa_nil))))))) (pss_cons (ps_par (i := 5) (j := 6) rfl sc__law_names.nd rfl rfl (by decide) rfl rfl (pa_cons (pe_cal CD (hr.mono (by decide)) (pa_cons (pv 0) (pa_cons pe_int pa_nil))) (pa_cons (pe_lst pa_nil) pa_nil)) (by rfl)) (pss_cons (ps_set (i := 7) sc__law_names.nd rfl (Or.inl rfl) (pe_cal CP (hr.mono (by decide)) (pa_cons (pv 0) (pa_cons (pe_lst (pa_cons pe_int (pa_cons pe_int (pa_cons pe_int (pa_cons pe_int (pa_cons pe_int (pa_cons pe_int (pa_cons pe_int (pa_cons pe_int (pa_cons pe_int (pa_cons pe_int (pa_cons pe_int (pa_cons pe_int pa_nil))))))))))))) pa_nil)))) (pss_cons (ps_for PassesOwn.never rfl (pi_range1 rfl B.range_ (pa_cons (pv 1) pa_nil)) (pg_name (i := 4) sc__law_names.nd rfl (Or.inl rfl)) (pss_cons (ps_set (i := 8) sc__law_names.nd rfl (Or.inl rfl) (pe_ix ix_str (pv 2) (pe_op op_mod (pe_callTy call_int1 rfl B.int_ (by decide +kernel) (pa_cons (pe_op op_add (pv 5) (pe_op op_mul (pv 7) (pv 4))) pa_nil)) pe_int) (fun _ _ => rfl))) (C8.pss_cut (ps_set (i := 9) sc__law_names.nd rfl (Or.inl rfl) (pe_ifExp (pt_cmpR op_lt (pv 4) pe_int (nomark _)) pe_str (pe_cal CS (hr.mono (by decide)) (pa_cons (pv 0) (pa_cons (pv 2) pa_nil))))) (pss_one (ps_expr (pe_bm PySem.F.plainAttrs_list PySem.F.slot_list_append PySem.F.type_list_append mt_append (pv 6) (pa_cons (pe_op op_add_str (pe_ix ix_list (pe_lst (pa_cons (pe_op op_add_str (pv 3) (pv 8)) (pa_cons (pe_op op_add_str (pv 8) (pv 3)) pa_nil))) (pe_op op_mod (pe_callB call_len_str rfl B.len_ PySem.boot_len (pa_cons (pv 3) pa_nil)) pe_int) (fun _ _ => rfl)) (pv 9)) pa_nil))))))) (pss_one (ps_ret (pv 6)))))))), ?_⟩
  refine ⟨fun σ' H' => ∃ stem : Str, σ' = [some (.ref p), some (.int (m : Int)), some (.str lett), some (.str stem), none, none, none, none, none, none] ∧ stem.length ≤ 6 ∧ LetOk stem ∧ Pen H' p l (n + 84) ∧ Keep p H H', ?_, ?_⟩
  · refine ⟨⟨_, rfl⟩, _, rfl, p, l, 7, n, rfl, Pn, by omega, by omega, by omega, fun v0 H1 a0 b0 P1 k1 => ?_⟩
    refine ⟨v0, rfl, by omega, by omega, fun D hD => lc_range (lo := 0) (n := v0.toNat) (fun i H' => ∃ ss : List Str, H' D = some (.lst (ss.map V.str)) ∧ ss.length = i ∧ (∀ z ∈ ss, z.length = 1 ∧ LetOk z) ∧ Pen H' p l (n + 12 + 12 * i) ∧ Keep p H H')
      ⟨[], upd_same, rfl, fun z hz => absurd hz List.not_mem_nil, (P1.new hD).le (by omega), k1.new hD⟩ ?_ ?_⟩
    · rintro i H' hi ⟨ss, hs, hl, ho, Pi, ki⟩
      refine ⟨rfl, ?_⟩
      refine ⟨_, rfl, _, rfl, p, l, lett, _, rfl, Pi, by omega, by rw [lett_len]; decide, by rw [lett_len]; decide, fun c H3 hc P3 k3 => ?_⟩
      have nD := P1.ne hD
      have nDl := P1.nl hD
      have hD0 : H D = none := k1.none_of hD nD
      refine ⟨ss.map V.str, k3 _ _ hs nD, by rw [List.length_map]; exact small1000 (by omega), ss ++ [⟨#[c]⟩], by rw [upd_same, List.map_append]; rfl, by rw [List.length_append, hl]; rfl, mem_snoc ho ⟨rfl, LetOk.one (lett_ok c hc)⟩, (P3.le (by omega)).upd nD nDl, (ki.trans k3).at_new hD0⟩
    · rintro H' ⟨ss, hs, hl, ho, Pi, ki⟩
      refine ⟨_, D, ss, rfl, rfl, .inl (SqL.of hs), ?_, ?_⟩
      · rw [sum_ones ss ho]
        show ss.length + ss.length * 0 ≤ _
        omega
      · obtain ⟨j1, j2⟩ := join_ok ss ho
        exact ⟨_, rfl, by show (Txt.join Str.empty ss).length ≤ 6; omega, j2, Pi.le (by omega), ki⟩
  rintro σ' H1 ⟨stem, rfl, st1, st2, P1, k1⟩
  refine ⟨_, rfl, p, l, 26, _, rfl, P1, by omega, by omega, by omega, fun fr H2 f0 f1 P2 k2 => ?_⟩
  refine ⟨(by show 0 ≤ sizeLine; decide), fun F hF => ?_⟩
  have nF := P2.ne hF
  have nFl := P2.nl hF
  have hF0 : H F = none := (k1.trans k2).none_of hF nF
  refine ⟨_, _, rfl, ?_⟩
  refine ⟨_, rfl, (by show 12 ≤ sizeLine; decide), fun t ht => ?_⟩
  refine ⟨p, l, t, _, _, rfl, (P2.new hF).new ht, by omega, SqL.of upd_same, by show 1 ≤ 12; decide, by show 12 ≤ 1000000; decide, fun st H4 hst P4 k4 => ?_⟩
  obtain ⟨sp, hsp, rfl⟩ : ∃ i : Int, i ∈ ([1, 3, 5, 7, 9, 11, 15, 17, 19, 21, 23, 25] : List Int) ∧ V.int i = st := List.mem_map.mp (show st ∈ ([1, 3, 5, 7, 9, 11, 15, 17, 19, 21, 23, 25] : List Int).map V.int from hst)
  have sp1 : 1 ≤ sp ∧ sp ≤ 25 := (by decide : ∀ i ∈ ([1, 3, 5, 7, 9, 11, 15, 17, 19, 21, 23, 25] : List Int), 1 ≤ i ∧ i ≤ 25) sp hsp
  have hF4 : H4 F = some (.lst []) := k4 _ _ (same_new ht (.lst (([1, 3, 5, 7, 9, 11, 15, 17, 19, 21, 23, 25] : List Int).map V.int)) _ _ upd_same) nF
  have k5 : Keep p H H4 := (((k1.trans k2).new hF).new ht).trans k4
  refine ⟨_, rfl, (m : Int), rfl, by omega, by omega, for_range (lo := 0) (n := (m : Int).toNat) (fun i σ' H' => ∃ (ss : List Str) (k own tail : Option V), σ' = [some (.ref p), some (.int (m : Int)), some (.str lett), some (.str stem), k, some (.int fr), some (.ref F), some (.int sp), own, tail] ∧
      H' F = some (.lst (ss.map V.str)) ∧ ss.length = i ∧ i ≤ m ∧ (∀ z ∈ ss, NameOk z) ∧ (∀ j g, ss[j]? = some g → NmAt stem fr sp j g) ∧ Pen H' p l (n + 108 + 12 * i) ∧ Keep p H H') ⟨[], none, none, none, rfl, hF4, rfl, Nat.zero_le _, fun z hz => absurd hz List.not_mem_nil, fun j g e => by simp at e, P4.le (by omega), k5⟩ ?_ ?_⟩
  · rintro i σ' H' hi ⟨ss, k, own, tail, rfl, hFi, hl, him, ho, hnm, Pi, ki⟩
    have him : i < m := by omega
    obtain ⟨c, hc, hcm⟩ := at_some (xs := lett.cps.toList) (em0 (fr + sp * (0 + (i : Int))) (m := 26) (by decide)) (by rw [lett_tl]; exact em1 _ (by decide))
    refine ⟨_, rfl, _, rfl, _, rfl, _, rfl, _, _, rfl, rfl, .inl (by omega), _, _, rfl, rfl, .inl ⟨_, rfl, _, _, rfl, rfl, by omega, lett, _, c, rfl, rfl, by rw [lett_len]; decide, hc, ?_⟩⟩
    have hcl := lett_ok c hcm
    refine ⟨fun σ' H'' => ∃ t : Str, σ' = [some (.ref p), some (.int (m : Int)), some (.str lett), some (.str stem), some (.int (0 + (i : Int))), some (.int fr), some (.ref F), some (.int sp), some (.str ⟨#[c]⟩), some (.str t)] ∧ t.length = (if i < 26 then 0 else 1) ∧ LetOk t ∧ Pen H'' p l (n + 108 + 12 * i + 12) ∧ Keep p H' H'', ?_, ?_⟩
    · refine ⟨_, rfl, _, _, rfl, rfl, _, rfl, ?_⟩
      refine ite2 (fun hc1 => ?_) (fun hc1 => ?_)
      · have hc1 := of_decide_eq_true hc1
        exact ⟨Str.empty, rfl, by rw [if_pos (by omega)]; rfl, LetOk.empty, Pi.le (by omega), Keep.refl⟩
      · refine ⟨_, rfl, _, rfl, p, l, lett, _, rfl, Pi, by omega, by rw [lett_len]; decide, by rw [lett_len]; decide, fun c2 H3 hc2 P3 k3 => ?_⟩
        have hc1 : ¬ (0 + (i : Int) < 26) := fun z => hc1 (decide_eq_true z)
        exact ⟨⟨#[c2]⟩, rfl, by rw [if_neg (by omega)]; rfl, LetOk.one (lett_ok c2 hc2), P3, k3⟩
    rintro σ' H3 ⟨t, rfl, t0, t2, P3, k3⟩
    have t1 : t.length ≤ 1 := by rw [t0]; split <;> omega
    have hF3 := k3 _ _ hFi nF
    have cl : (⟨#[c]⟩ : Str).length = 1 := rfl
    refine ⟨_, rfl, .inl ⟨rfl, _, SqL.of hF3⟩, ?_⟩
    refine ⟨_, rfl, _, rfl, _, _, rfl, rfl, small _ (by rw [cl]; omega), _, rfl, _, rfl, _, _, rfl, rfl, small _ (by rw [cl]; omega), (by show 2 ≤ sizeLine; decide), fun u hu => ?_⟩
    obtain ⟨v, hv, hvm⟩ := at_some (xs := [V.str (stem ++ ⟨#[c]⟩), V.str (⟨#[c]⟩ ++ stem)]) (em0 (stem.length : Int) (m := 2) (by decide)) (em1 (stem.length : Int) (m := 2) (by decide))
    obtain ⟨g, rfl, g1, g2, g3⟩ : ∃ g : Str, v = .str g ∧ g.length = stem.length + 1 ∧ LetOk g ∧ g = baseN stem c := by
      by_cases ev : stem.length % 2 = 0
      · have e0 : (stem.length : Int) % 2 = ((0 : Nat) : Int) := by omega
        rw [e0, atI_nat (show ([V.str (stem ++ ⟨#[c]⟩), V.str (⟨#[c]⟩ ++ stem)] : List V)[0]? = some (V.str (stem ++ ⟨#[c]⟩)) from rfl)] at hv
        obtain rfl := Option.some.inj hv
        exact ⟨_, rfl, by rw [Str.length_append, cl], st2.app (LetOk.one hcl), by unfold baseN; rw [if_pos ev]⟩
      · have e0 : (stem.length : Int) % 2 = ((1 : Nat) : Int) := by omega
        rw [e0, atI_nat (show ([V.str (stem ++ ⟨#[c]⟩), V.str (⟨#[c]⟩ ++ stem)] : List V)[1]? = some (V.str (⟨#[c]⟩ ++ stem)) from rfl)] at hv
        obtain rfl := Option.some.inj hv
        exact ⟨_, rfl, by rw [Str.length_append, cl]; omega, (LetOk.one hcl).app st2, by unfold baseN; rw [if_neg ev]⟩
    refine ⟨_, rfl, _, rfl, small _ (by omega), _, _, rfl, rfl, by omega, u, _, _, _, rfl, rfl, SqL.of upd_same, hv, _, rfl, _, _, rfl, rfl, small _ (by omega), ?_⟩
    have hF5 := same_new hu (.lst [V.str (stem ++ ⟨#[c]⟩), V.str (⟨#[c]⟩ ++ stem)]) _ _ hF3
    refine ⟨F, _, _, rfl, rfl, hF5, by rw [List.length_map]; exact small1000 (by omega), ?_⟩
    refine ⟨ss ++ [g ++ t], _, _, _, rfl, by rw [upd_same, List.map_append]; rfl, by rw [List.length_append, hl]; rfl, by omega, mem_snoc ho ⟨by rw [Str.length_append]; omega, by rw [Str.length_append]; omega, g2.app t2⟩, nmAt_snoc hl hnm ⟨c, t, by rw [Int.zero_add] at hc; exact at_emod hc, t0, by rw [g3]⟩, ((P3.new hu).le (by omega)).upd nF nFl, ((ki.trans k3).new hu).at_new hF0⟩
  · rintro σ' H' ⟨ss, k, own, tail, rfl, hFi, hl, him, ho, hnm, Pi, ki⟩
    refine ⟨_, rfl, ?_⟩
    exact q F ss H' hFi (by omega) ho (nm_nodup hsp (by omega) hnm) hF0 (Pi.le (by omega)) ki
end
end Ur
/-! N5: rows with different names: small. -/
namespace Ur
open PySem PySem.Spec PyProof.Rows L2
section
variable {H H' : Hp} {t p F y : Addr} {z : Str} {R S : Int → Int → Int → Prop} {ts us : List Addr} {zs ss : List Str} {kvs : List (Key × V)} {xs ys : List V} {i : Nat}
end
end Ur
/-! N6: rows with different names: aimed. -/
namespace Ur
open PySem PySem.Spec PyProof.Rows L2
end Ur
/-! N7: rows with different names: lined. -/
namespace Ur
open PySem PySem.Spec PyProof.Rows L2
end Ur
/-! FD: the laws' own fences: _law_painter, _law_fence, _law_some, _law_odd. -/
namespace Ur
open PySem PySem.Spec PyProof.Rows L2
/-- one row's values -/
abbrev Quad := Str × Int × Int × Int
def quadV (q : Quad) : List V := [.str q.1, .int q.2.1, .int q.2.2.1, .int q.2.2.2]
def QuadOk (q : Quad) : Prop := PartOk q.1 q.2.1 q.2.2.1 q.2.2.2
/-- rows of painters that can stand in one fence -/
structure Team (H : Hp) (ts : List Addr) (qs : List Quad) : Prop where
  len : ts.length = qs.length
  at_ : ∀ (j : Nat) (t : Addr) (q : Quad), ts[j]? = some t → qs[j]? = some q → H t = some (.tup (quadV q))
  ok : ∀ q ∈ qs, QuadOk q
  nd : (qs.map (·.1)).Nodup
  few : qs.length ≤ 40
section
variable {H H' : Hp} {ts : List Addr} {qs : List Quad} {p F : Addr} {kvs : List (Key × V)} {xs ys : List V}
theorem Team.same (h : Team H ts qs) (s : Same H H') : Team H' ts qs := ⟨h.len, fun j t q a b => s _ _ (h.at_ j t q a b), h.ok, h.nd, h.few⟩
theorem Team.keep (h : Team H ts qs) (k : Keep p H H') (hp : H p = some (.dK kvs)) : Team H' ts qs := ⟨h.len, fun j t q a b => k _ _ (h.at_ j t q a b) (ne_of (h.at_ j t q a b) hp (by intro z; cases z)), h.ok, h.nd, h.few⟩
theorem Team.get (h : Team H ts qs) {j : Nat} {v : V} (e : (ts.map V.ref)[j]? = some v) : ∃ t q, v = .ref t ∧ ts[j]? = some t ∧ qs[j]? = some q ∧ H t = some (.tup (quadV q)) ∧ QuadOk q := by
  rw [List.getElem?_map] at e
  cases e1 : ts[j]? with
  | none => rw [e1] at e; cases e
  | some t =>
    rw [e1] at e
    have hj : j < qs.length := by rw [← h.len]; exact (List.getElem?_eq_some_iff.mp e1).1
    exact ⟨t, qs[j], (Option.some.inj e).symm, rfl, List.getElem?_eq_getElem hj, h.at_ j t _ e1 (List.getElem?_eq_getElem hj), h.ok _ (List.getElem_mem hj)⟩
end
section
variable {P : Program} {w : World} {K : PySem.W.Frag} {mg : Str → Option Value} {base : Heap} {C CF : Addr}
theorem partsOf_names (L : List Pt) : (partsOf L).map (·.1) = L.map Pt.nm := by unfold partsOf; rw [List.map_map]; rfl
theorem crew_snoc {C : Addr} {H : Hp} {L : List Pt} {x : Pt} {qs : List Quad} {i : Nat} {q : Quad} (cr : Crew C H L) (e : partsOf L = qs.take i) (hq : qs[i]? = some q) (hx : PnAt C H x.a x.nm x.d x.p x.s) (ex : x.parts = q) (ok : ∀ q ∈ qs, QuadOk q) (nd : (qs.map (·.1)).Nodup) (few : qs.length ≤ 40) :
    Crew C H (L ++ [x]) ∧ partsOf (L ++ [x]) = qs.take (i + 1) := by
  have hp : partsOf (L ++ [x]) = qs.take (i + 1) := by
    rw [take_snoc hq, ← e, ← ex]
    unfold partsOf
    rw [List.map_append]
    rfl
  refine ⟨⟨fun y hy => ?_, ?_, ?_⟩, hp⟩
  · rcases List.mem_append.mp hy with hy | hy
    · exact cr.at_ y hy
    · obtain rfl := List.mem_singleton.mp hy
      have o := ok q (List.mem_of_getElem? hq)
      rw [← ex] at o
      exact ⟨hx, o⟩
  · rw [← partsOf_names, hp, List.map_take]
    exact nd.sublist (List.take_sublist _ _)
  · have z := congrArg List.length hp
    unfold partsOf at z
    rw [List.length_map, List.length_take] at z
    omega
end
end Ur
/-! UrH: histories as numbers: who stops where; there is at most one. SP i n j m: the post number n of i is the post number m of j. -/
namespace Ur
open PySem PySem.Spec PyProof.Rows L2
abbrev SPt := Nat → Int → Nat → Int → Prop
/-- i paints its post number n -/
def Paints (cnt : Nat → Option Int) (i : Nat) (n : Int) : Prop := ∀ c, cnt i = some c → n < c
/-- i comes to its post number n behind j, which paints cnt posts -/
def PBlk (d : Nat → Int) (SP : SPt) (i j : Nat) (cnt : Option Int) (n : Int) : Prop := ∃ m, 0 ≤ m ∧ SP i n j m ∧ (∀ c, cnt = some c → m < c) ∧ (d j + m < d i + n ∨ d j + m = d i + n ∧ j < i)
/-- i comes to its post number n behind somebody -/
def HBlk (N : Nat) (d : Nat → Int) (SP : SPt) (cnt : Nat → Option Int) (i : Nat) (n : Int) : Prop := ∃ j, j < N ∧ PBlk d SP i j (cnt j) n
/-- the counts are those of a history -/
def IsHist (N : Nat) (d : Nat → Int) (SP : SPt) (cnt : Nat → Option Int) : Prop := ∀ i, i < N → Least (HBlk N d SP cnt i) (cnt i)
/-- whoever stops, stops where its blocker painted -/
def Blkr (N : Nat) (SP : SPt) (cnt : Nat → Option Int) (blk : Nat → Nat) : Prop := ∀ i c, i < N → cnt i = some c → blk i < N ∧ ∃ m, 0 ≤ m ∧ SP i c (blk i) m ∧ Paints cnt (blk i) m
section
variable {N : Nat} {d : Nat → Int} {SP : SPt} {cnt cnt' : Nat → Option Int}
theorem paints_iff {i : Nat} {n : Int} {P : Int → Prop} (h : Least P (cnt i)) : Paints cnt i n ↔ ∀ k, 0 ≤ k → k ≤ n → ¬ P k := by
  unfold Paints
  cases e : cnt i with
  | none =>
    rw [e] at h
    exact ⟨fun _ k k0 _ => h k k0, fun _ c ec => by cases ec⟩
  | some a =>
    rw [e] at h
    obtain ⟨a0, pa, lt⟩ := h
    constructor
    · intro g k k0 kn
      have := g a rfl
      exact lt k k0 (by omega)
    · intro g c ec
      obtain rfl := Option.some.inj ec
      by_cases c : n < a
      · exact c
      · exact absurd pa (g a a0 (by omega))
/-- the order in which they come: by days, then by the list -/
theorem key_lt {N t u i j : Nat} (hi : i < N) (hj : j < N) (h : t < u ∨ t = u ∧ j < i) : t * N + j < u * N + i := by
  rcases h with h | ⟨rfl, h⟩
  · have := Nat.mul_le_mul_right N (show t + 1 ≤ u from h)
    rw [Nat.add_mul] at this
    omega
  · omega
theorem hist_same (d0 : ∀ i, i < N → 0 ≤ d i) (h : IsHist N d SP cnt) (h' : IsHist N d SP cnt') : ∀ (k : Nat) (i : Nat) (n : Int), i < N → 0 ≤ n → (d i + n).toNat * N + i = k → (HBlk N d SP cnt i n ↔ HBlk N d SP cnt' i n) ∧ (Paints cnt i n ↔ Paints cnt' i n) := by
  intro k
  induction k using Nat.strongRecOn with
  | _ k ih =>
    have blk : ∀ (i : Nat) (n : Int), i < N → 0 ≤ n → (d i + n).toNat * N + i ≤ k → (HBlk N d SP cnt i n ↔ HBlk N d SP cnt' i n) := by
      intro i n hi n0 hk
      have di := d0 i hi
      have key : ∀ j m, j < N → 0 ≤ m → (d j + m < d i + n ∨ d j + m = d i + n ∧ j < i) → (Paints cnt j m ↔ Paints cnt' j m) := by
        intro j m hj m0 o
        have dj := d0 j hj
        have lt : (d j + m).toNat * N + j < (d i + n).toNat * N + i := key_lt hi hj (by
          rcases o with o | ⟨o, q⟩
          · exact .inl (by omega)
          · exact .inr ⟨by omega, q⟩)
        exact (ih _ (by omega) j m hj m0 rfl).2
      constructor
      · rintro ⟨j, hj, m, m0, e, pj, o⟩
        exact ⟨j, hj, m, m0, e, (key j m hj m0 o).mp pj, o⟩
      · rintro ⟨j, hj, m, m0, e, pj, o⟩
        exact ⟨j, hj, m, m0, e, (key j m hj m0 o).mpr pj, o⟩
    intro i n hi n0 hk
    have di := d0 i hi
    refine ⟨blk i n hi n0 (by omega), ?_⟩
    rw [paints_iff (h i hi), paints_iff (h' i hi)]
    have le : ∀ x, 0 ≤ x → x ≤ n → (d i + x).toNat * N + i ≤ k := fun x x0 xn => by
      have := Nat.mul_le_mul_right N (show (d i + x).toNat ≤ (d i + n).toNat by omega)
      omega
    exact ⟨fun g x x0 xn b => g x x0 xn ((blk i x hi x0 (le x x0 xn)).mpr b), fun g x x0 xn b => g x x0 xn ((blk i x hi x0 (le x x0 xn)).mp b)⟩
/-- there is one history only -/
theorem hist_uniq (d0 : ∀ i, i < N → 0 ≤ d i) (h : IsHist N d SP cnt) (h' : IsHist N d SP cnt') {i : Nat} (hi : i < N) : cnt i = cnt' i :=
  Least.uniq (h i hi) (Least.congr (fun n n0 => ((hist_same d0 h h' _ i n hi n0 rfl).1).symm) (h' i hi))
/-! ### how it is found: the first block of all, again and again -/
def KLt (a b : Int × Nat) : Prop := a.1 < b.1 ∨ a.1 = b.1 ∧ a.2 < b.2
/-- the key of a coming -/
abbrev kOf (d : Nat → Int) (i : Nat) (n : Int) : Int × Nat := (d i + n, i)
/-- some painters are known to stop, at posts of their blockers, the last of them at the key K -/
structure Part (N : Nat) (d : Nat → Int) (SP : SPt) (C : Nat → Option Int) (B : Nat → Nat) (K : Int × Nat) : Prop where
  old : ∀ i c, i < N → C i = some c → 0 ≤ c ∧ (B i < N ∧ PBlk d SP i (B i) (C (B i)) c) ∧ (∀ n, 0 ≤ n → n < c → ¬ HBlk N d SP C i n) ∧ ¬ KLt K (kOf d i c)
  new : ∀ i n, i < N → C i = none → 0 ≤ n → HBlk N d SP C i n → ¬ KLt (kOf d i n) K
theorem Part.start {B : Nat → Nat} {K : Int × Nat} (h : ∀ i n, i < N → 0 ≤ n → ¬ KLt (kOf d i n) K) : Part N d SP (fun _ => none) B K := ⟨fun i c _ e => (by cases e), fun i n hi _ n0 _ => h i n hi n0⟩
/-- one more is known to stop -/
def putC (C : Nat → Option Int) (i : Nat) (c : Int) : Nat → Option Int := fun j => if j = i then some c else C j
def putB (B : Nat → Nat) (i j : Nat) : Nat → Nat := fun k => if k = i then j else B k
theorem putC_at {C : Nat → Option Int} {i : Nat} {c : Int} : putC C i c i = some c := by unfold putC; rw [if_pos rfl]
theorem putC_ne {C : Nat → Option Int} {i j : Nat} {c : Int} (h : j ≠ i) : putC C i c j = C j := by unfold putC; rw [if_neg h]
theorem putB_at {B : Nat → Nat} {i j : Nat} : putB B i j i = j := by unfold putB; rw [if_pos rfl]
theorem putB_ne {B : Nat → Nat} {i j k : Nat} (h : k ≠ i) : putB B i j k = B k := by unfold putB; rw [if_neg h]
theorem putC_le {C : Nat → Option Int} {i j : Nat} {c m : Int} (hi : C i = none) (h : ∀ x, putC C i c j = some x → m < x) : ∀ x, C j = some x → m < x := fun x ex => by
  by_cases e : j = i
  · subst e
    rw [hi] at ex
    cases ex
  · exact h x (by rw [putC_ne e]; exact ex)
theorem HBlk.less {C : Nat → Option Int} {i k : Nat} {c n : Int} (hi : C i = none) (h : HBlk N d SP (putC C i c) k n) : HBlk N d SP C k n :=
  let ⟨j, hj, m, m0, e, pj, o⟩ := h
  ⟨j, hj, m, m0, e, putC_le hi pj, o⟩
theorem Part.step {C : Nat → Option Int} {B : Nat → Nat} {K : Int × Nat} (h : Part N d SP C B K) {i b : Nat} {c : Int} (hi : i < N) (hb : b < N) (ni : C i = none) (c0 : 0 ≤ c) (pb : PBlk d SP i b (C b) c) (least : ∀ k n, k < N → C k = none → 0 ≤ n → HBlk N d SP C k n → ¬ KLt (kOf d k n) (kOf d i c)) :
    Part N d SP (putC C i c) (putB B i b) (kOf d i c) := by
  have up : ¬ KLt (kOf d i c) K := h.new i c hi ni c0 ⟨b, hb, pb⟩
  refine ⟨fun k ck hk ek => ?_, fun k n hk ek n0 b => ?_⟩
  · by_cases e : k = i
    · subst e
      rw [putC_at] at ek
      obtain rfl := Option.some.inj ek
      rw [putB_at]
      refine ⟨c0, ⟨hb, ?_⟩, fun n n0 nl b => ?_, fun z => by unfold KLt at z; omega⟩
      · obtain ⟨m, m0, e, pj, o⟩ := pb
        refine ⟨m, m0, e, fun x ex => ?_, o⟩
        by_cases eb : b = k
        · subst eb
          rw [putC_at] at ex
          obtain rfl := Option.some.inj ex
          omega
        · rw [putC_ne eb] at ex
          exact pj x ex
      · exact least k n hk ni n0 (HBlk.less ni b) (by unfold KLt; show d k + n < d k + c ∨ _; omega)
    · have ek : C k = some ck := by rw [putC_ne e] at ek; exact ek
      obtain ⟨k0, ⟨kB, kb⟩, kl, kK⟩ := h.old k ck hk ek
      rw [putB_ne e]
      refine ⟨k0, ⟨kB, ?_⟩, fun n n0 nl b => kl n n0 nl (HBlk.less ni b), fun z => ?_⟩
      · obtain ⟨m, m0, ee, pj, o⟩ := kb
        refine ⟨m, m0, ee, fun x ex => ?_, o⟩
        by_cases ej : B k = i
        · rw [ej, putC_at] at ex
          obtain rfl := Option.some.inj ex
          rw [ej] at o
          have z1 : KLt (kOf d i m) (kOf d k ck) := o
          have z2 : ¬ KLt K (kOf d k ck) := kK
          unfold KLt at z1 z2 up
          simp only [kOf] at z1 z2 up
          omega
        · rw [putC_ne ej] at ex
          exact pj x ex
      · have z2 : ¬ KLt K (kOf d k ck) := kK
        unfold KLt at z z2 up
        simp only [kOf] at z z2 up
        omega
  · have ne : k ≠ i := fun e => by rw [e, putC_at] at ek; cases ek
    have ek : C k = none := by rw [putC_ne ne] at ek; exact ek
    exact least k n hk ek n0 (HBlk.less ni b)
/-- nobody else is blocked: this is the history -/
theorem Part.done {C : Nat → Option Int} {B : Nat → Nat} {K : Int × Nat} (h : Part N d SP C B K) (no : ∀ i n, i < N → C i = none → 0 ≤ n → ¬ HBlk N d SP C i n) : IsHist N d SP C ∧ Blkr N SP C B := by
  refine ⟨fun i hi => ?_, fun i c hi e => ?_⟩
  · cases e : C i with
    | none => exact fun n n0 => no i n hi e n0
    | some c =>
      obtain ⟨c0, b, l, _⟩ := h.old i c hi e
      exact ⟨c0, ⟨_, b⟩, l⟩
  · obtain ⟨c0, ⟨bB, m, m0, ee, pj, o⟩, l, _⟩ := h.old i c hi e
    exact ⟨bB, m, m0, ee, pj⟩
/-- a post is painted once -/
theorem paint_once (h : IsHist N d SP cnt) {i j : Nat} {n m : Int} (hi : i < N) (hj : j < N) (n0 : 0 ≤ n) (m0 : 0 ≤ m) (pi : Paints cnt i n) (pj : Paints cnt j m) (e : SP i n j m) (e' : SP j m i n) : i = j := by
  by_cases ne : i = j
  · exact ne
  have bi := (paints_iff (h i hi)).mp pi n n0 (Int.le_refl n)
  have bj := (paints_iff (h j hj)).mp pj m m0 (Int.le_refl m)
  by_cases c : d j + m < d i + n ∨ d j + m = d i + n ∧ j < i
  · exact absurd ⟨j, hj, m, m0, e, pj, c⟩ bi
  · exact absurd ⟨i, hi, n, n0, e', pi, by omega⟩ bj
/-- the blocker is one painter only -/
theorem blkr_uniq (h : IsHist N d SP cnt) (sy : ∀ i n j m k l, SP i n j m → SP i n k l → SP j m k l) {blk blk' : Nat → Nat} (b : Blkr N SP cnt blk) (b' : Blkr N SP cnt blk') {i : Nat} {c : Int} (hi : i < N) (e : cnt i = some c) : blk i = blk' i := by
  obtain ⟨h1, m, m0, e1, p1⟩ := b i c hi e
  obtain ⟨h2, m', m0', e2, p2⟩ := b' i c hi e
  exact paint_once h h1 h2 m0 m0' p1 p2 (sy _ _ _ _ _ _ e1 e2) (sy _ _ _ _ _ _ e2 e1)
/-! ### by pairs -/
/-- the first blocks of all pairs, of those who are not known to stop -/
def PairsOk (N : Nat) (d : Nat → Int) (SP : SPt) (C : Nat → Option Int) (R : Nat → Nat → Option Int) : Prop := ∀ i j, i < N → j < N → C i = none → Least (PBlk d SP i j (C j)) (R i j)
theorem PairsOk.block {C : Nat → Option Int} {R : Nat → Nat → Option Int} (h : PairsOk N d SP C R) {i j : Nat} {c : Int} (hi : i < N) (hj : j < N) (ni : C i = none) (e : R i j = some c) : 0 ≤ c ∧ PBlk d SP i j (C j) c := by
  have l := h i j hi hj ni
  rw [e] at l
  exact ⟨l.1, l.2.1⟩
theorem PairsOk.found {C : Nat → Option Int} {R : Nat → Nat → Option Int} (h : PairsOk N d SP C R) {i : Nat} {n : Int} (hi : i < N) (ni : C i = none) (n0 : 0 ≤ n) (b : HBlk N d SP C i n) : ∃ j c, j < N ∧ R i j = some c ∧ c ≤ n := by
  obtain ⟨j, hj, b⟩ := b
  have l := h i j hi hj ni
  cases e : R i j with
  | none =>
    rw [e] at l
    exact absurd b (l n n0)
  | some c =>
    rw [e] at l
    refine ⟨j, c, hj, e, ?_⟩
    by_cases z : c ≤ n
    · exact z
    · exact absurd b (l.2.2 n n0 (by omega))
/-- the first of all first blocks is a stop -/
theorem Part.next {C : Nat → Option Int} {B : Nat → Nat} {K : Int × Nat} {R : Nat → Nat → Option Int} (h : Part N d SP C B K) (ok : PairsOk N d SP C R) {i j : Nat} {c : Int} (hi : i < N) (hj : j < N) (ni : C i = none) (e : R i j = some c)
    (least : ∀ k l x, k < N → l < N → C k = none → R k l = some x → ¬ KLt (kOf d k x) (kOf d i c)) : Part N d SP (putC C i c) (putB B i j) (kOf d i c) := by
  obtain ⟨c0, b⟩ := ok.block hi hj ni e
  refine h.step hi hj ni c0 b fun k n hk nk n0 bk => ?_
  obtain ⟨l, x, hl, ex, le⟩ := ok.found hk nk n0 bk
  have z := least k l x hk hl nk ex
  unfold KLt at *
  simp only [kOf] at *
  omega
theorem Part.end_ {C : Nat → Option Int} {B : Nat → Nat} {K : Int × Nat} {R : Nat → Nat → Option Int} (h : Part N d SP C B K) (ok : PairsOk N d SP C R) (no : ∀ k l, k < N → l < N → C k = none → R k l = none) : IsHist N d SP C ∧ Blkr N SP C B :=
  h.done fun i n hi ni n0 b => by
    obtain ⟨l, x, hl, ex, _⟩ := ok.found hi ni n0 b
    rw [no i l hi hl ni] at ex
    cases ex
theorem PairsOk.put {C : Nat → Option Int} {R R' : Nat → Nat → Option Int} (h : PairsOk N d SP C R) {i : Nat} {c : Int} (hi : i < N)
    (same : ∀ k l, k < N → l < N → putC C i c k = none → l ≠ i → R' k l = R k l) (col : ∀ k, k < N → putC C i c k = none → Least (PBlk d SP k i (some c)) (R' k i)) : PairsOk N d SP (putC C i c) R' := by
  intro k l hk hl nk
  have ne : k ≠ i := fun e => by rw [e, putC_at] at nk; cases nk
  have nk' : C k = none := by rw [putC_ne ne] at nk; exact nk
  by_cases e : l = i
  · subst e
    rw [putC_at]
    exact col k hk nk
  · rw [same k l hk hl nk e, putC_ne e]
    exact h k l hk hl nk'
/-- only as many stop as there are -/
def openN (N : Nat) (C : Nat → Option Int) : Nat := ((List.range N).filter fun i => (C i).isNone).length
theorem openN_put {C : Nat → Option Int} {i : Nat} {c : Int} (hi : i < N) (ni : C i = none) : openN N (putC C i c) < openN N C := by
  unfold openN
  have sub : ∀ l : List Nat, (l.filter fun j => (putC C i c j).isNone).length ≤ (l.filter fun j => (C j).isNone).length ∧ (i ∈ l → (l.filter fun j => (putC C i c j).isNone).length < (l.filter fun j => (C j).isNone).length) := by
    intro l
    induction l with
    | nil => exact ⟨Nat.le_refl _, fun h => nomatch h⟩
    | cons x r ih =>
      by_cases e : x = i
      · subst e
        have h1 : (putC C x c x).isNone = false := by rw [putC_at]; rfl
        have h2 : (C x).isNone = true := by rw [ni]; rfl
        rw [List.filter_cons, List.filter_cons, h1, h2]
        simp only [Bool.false_eq_true, if_false, if_true, List.length_cons]
        exact ⟨by omega, fun _ => by omega⟩
      · rw [List.filter_cons, List.filter_cons, putC_ne e]
        cases (C x).isNone with
        | true =>
          simp only [if_true, List.length_cons]
          refine ⟨by omega, fun h => ?_⟩
          rcases List.mem_cons.mp h with h | h
          · exact absurd h.symm e
          · have := ih.2 h
            omega
        | false =>
          simp only [Bool.false_eq_true, if_false]
          refine ⟨ih.1, fun h => ?_⟩
          rcases List.mem_cons.mp h with h | h
          · exact absurd h.symm e
          · exact ih.2 h
  exact (sub (List.range N)).2 (List.mem_range.mpr hi)
end
end Ur
/-! UrRg: a range that is kept, and walked again and again. -/
namespace Ur
open PySem PySem.Spec PyProof.Rows L2
def RngO (lo hi : Int) (a : Addr) : HO := .ext fun h => ∃ t u v, IsRange h a lo hi 1 t u v
theorem rngO_ok {P : Program} {w : World} {H : Hp} {h : Heap} {a : Addr} {lo hi : Int} {t u v : Tok} (g : IsRange h a lo hi 1 t u v) : ObjOk P w H h a (RngO lo hi a) := by
  refine ⟨⟨t, u, v, g⟩, ⟨_, g⟩, fun h1 h2 p k => ?_⟩
  obtain ⟨t, u, v, p⟩ := p
  exact ⟨t, u, v, k _ p⟩
section
variable {X : Cx} {tg : Expr}
def tRng (ta : TA) : TE := fun σ H Q => ta σ H fun vs H1 => ∃ j : Int, vs = [.int j] ∧ -(2 ^ 62) ≤ j ∧ j < 2 ^ 62 ∧ ∀ r, H1 r = none → Q (.ref r) (upd H1 r (RngO 0 j r))
theorem pe_rng {a : Expr} {ta : TA} {p pos : Pos} (hg : Gl X "range") (hm : X.mg "range" = none) (ha : PA X [a] ta) (hs : starEach [a] X.env = [(false, eval a X.env)] := by rfl) : PE X (.Call (.Name "range" p) [a] [] pos) (tRng ta) := by
  refine ⟨fun pins s σ H Q I h => ?_⟩
  refine Call_ (ld_blt I hg hm boot_range (PyProof.Rows.callWith_type1 (thn (ha.run pos pins s σ H _ I h) fun us s1 ⟨vs, H1, I1, r1, q1⟩ => ?_) hs rfl))
  obtain ⟨j, e, q1, q2, q⟩ := q1
  subst e
  cases r1 with
  | cons r rr =>
    cases rr
    obtain ⟨t, rfl⟩ := r
    refine call_range_1 ?_
    have g := IsRange.new s1.heap 0 j 1 s1.toks t (s1.toks + 1)
    exact ⟨.ref s1.heap.objs.size, _, I1.laid (fun b u z => Heap.get?_push_of_some _ z) (Nat.le_refl _) (rngO_ok g), rfl, q _ (I1.hok.fresh (Nat.le_refl _))⟩
def iRngV (te : TE) : TI := fun σ H R => te σ H fun x H1 => ∃ (r : Addr) (lo hi : Int), x = .ref r ∧ H1 r = some (RngO lo hi r) ∧ (-(2 ^ 62) ≤ lo ∧ lo < 2 ^ 62 ∧ -(2 ^ 62) ≤ hi ∧ hi < 2 ^ 62) ∧ R (Itr lo (hi - lo).toNat) H1
theorem pi_rngV {e : Expr} {te : TE} (he : PE X e te) : PI X tg e (iRngV te) := by
  refine ⟨fun pins s σ H R I h => ?_⟩
  refine thn (he.run pins s σ H _ I h) fun v s1 ⟨x, H1, I1, r1, q1⟩ => ?_
  obtain ⟨r, lo, hi, e, hr, ⟨b1, b2, b3, b4⟩, q⟩ := q1
  subst e
  cases r1
  obtain ⟨t, u, w, g⟩ := (I1.hok r _ hr).1
  refine wpAny_pyIter_range g (small_one b1 b2 b3 b4) ?_
  refine ⟨s1.heap.objs.size, [s1.heap.objs.size], _, _, H1, rfl, I1.kept (t' := s1.toks) fun b o e => Heap.get?_push_of_some _ e, turn_range _ lo (hi - lo).toNat, ?_, fun b hb => ?_, q⟩
  · have e1 : lo + ((0 : Nat) : Int) * 1 = lo := by simp
    have e2 : (((hi - lo).toNat : Nat) : Int) - ((0 : Nat) : Int) = Builtin.Range.rangeSize lo hi 1 := by rw [rangeSize_one]; split <;> omega
    show IsRangeIter _ _ (lo + ((0 : Nat) : Int) * 1) ((((hi - lo).toNat : Nat) : Int) - ((0 : Nat) : Int)) 1
    rw [e1, e2]
    exact Heap.get?_push_size _ rfl
  · have e : b = s1.heap.objs.size := by simpa using hb
    subst e
    exact I1.fpOk (Nat.le_refl _) (I1.hok.fresh (Nat.le_refl _))
end
end Ur
/-! UrLm: a lambda with parameters and one captured name, handed to a def that calls it deep within. -/
namespace Ur
open PySem PySem.Spec PyProof.Rows L2
/-! ### a heap without one address; a cell that is locked -/
def del (H : Hp) (c : Addr) : Hp := fun b => if b = c then none else H b
theorem del_same {H : Hp} {c : Addr} : del H c c = none := by unfold del; rw [if_pos rfl]
theorem del_ne {H : Hp} {b c : Addr} (h : b ≠ c) : del H c b = H b := by unfold del; rw [if_neg h]
theorem del_none {H : Hp} {b c : Addr} (h : H b = none) : del H c b = none := by unfold del; split; rfl; exact h
/-- a cell that holds v -/
def CellV (c : Addr) (v : V) : HO := .ext fun h => ∃ u, RelV v u ∧ ∃ o, h.get? c = some o ∧ o.data = .cell (some u)
section
variable {P : Program} {w : World} {K : PySem.W.Frag} {mg : Str → Option Value} {base : Heap} {A : Around} {outer : List Env} {s : Shared} {H H' : Hp} {h h' : Heap} {c : Addr} {oc : Obj} {v : V} {x : HO} {fs : List Addr}
theorem hok_del (hok : HOk P w H h) (hc : H c = some (.frz oc x)) : HOk P w (del H c) h := fun a o e => by
  by_cases ne : a = c
  · rw [ne, del_same] at e
    cases e
  · rw [del_ne ne] at e
    exact (hok a o e).stay (fun b u _ q => q) (fun b q => by rw [del_ne (ne_of q hc (by intro z; cases z))]; exact q) fun b xs q => by rw [del_ne (ne_of q hc (by intro z; cases z))]; exact q
theorem cellV_ok (ho : h.get? c = some oc) (hv : ∃ u, RelV v u ∧ oc.data = .cell (some u)) : ObjOk P w H h c (.frz oc (CellV c v)) := by
  obtain ⟨u, r, hd⟩ := hv
  exact ⟨ho, ⟨u, r, oc, ho, hd⟩, ⟨oc, ho⟩, fun h1 h2 ⟨u, r, o, e1, e2⟩ k => ⟨u, r, o, k _ e1, e2⟩⟩
theorem hok_lock (hok : HOk P w H h) (hc : H c = none) (ho : h.get? c = some oc) (hv : ∃ u, RelV v u ∧ oc.data = .cell (some u)) : HOk P w (upd H c (.frz oc (CellV c v))) h := fun a o e => by
  by_cases ne : a = c
  · subst ne
    rw [upd_same] at e
    cases e
    exact cellV_ok ho hv
  · rw [upd_ne ne] at e
    exact (hok a o e).stay (fun b u _ q => q) (fun b q => by rw [upd_ne (ne_of_none q hc)]; exact q) fun b xs q => by rw [upd_ne (ne_of_none q hc)]; exact q
theorem lock_data (hok : HOk P w H h) (hc : H c = some (.frz oc (CellV c v))) : h.get? c = some oc ∧ ∃ u, RelV v u ∧ oc.data = .cell (some u) := by
  obtain ⟨ho, ⟨u, r, o, e, hd⟩, _⟩ := hok c _ hc
  rw [ho] at e
  cases e
  exact ⟨ho, u, r, hd⟩
theorem un_of_lock (u : Un fs [] (upd H c (.frz oc x)) H' h h') (hc : H c = none) (ho : h.get? c = some oc) (hok : HOk P w H' h') : Un fs [] H (del H' c) h h' := by
  have at_ : h'.get? c = some oc := (hok c _ (u.frzs c oc x upd_same)).1
  have nh : ∀ b, H b = none → b ≠ c → upd H c (.frz oc x) b = none := fun b n ne => by rw [upd_ne ne]; exact n
  have sh : ∀ b o, H b = some o → b ≠ c := fun b o e => ne_of_none e hc
  refine ⟨fun b o q n hb hx => ?_, fun b o q n hb hx => ?_, fun b o q n hx => ?_, fun b o q hx => u.there b o q hx, fun b xs q => ?_, fun b o y q => ?_, fun b ps q => ?_⟩
  · by_cases ne : b = c
    · rw [ne, ho] at q
      cases q
      rw [ne]
      exact at_
    · exact u.keep b o q (nh b n ne) hb hx
  · by_cases ne : b = c
    · rw [ne, ho] at q
      cases q
      rw [ne]
      exact ⟨oc.slots, at_⟩
    · exact u.slot b o q (nh b n ne) hb hx
  · by_cases ne : b = c
    · rw [ne]
      exact del_same
    · exact del_none (u.free b o q (nh b n ne) hx)
  · rw [del_ne (sh b _ q)]
    exact u.tups b xs (by rw [upd_ne (sh b _ q)]; exact q)
  · rw [del_ne (sh b _ q)]
    exact u.frzs b o y (by rw [upd_ne (sh b _ q)]; exact q)
  · obtain ⟨more, e⟩ := u.tbls b ps (by rw [upd_ne (sh b _ q)]; exact q)
    exact ⟨more, by rw [del_ne (sh b _ q)]; exact e⟩
theorem un_of_del (u : Un fs [] (del H c) H' h h') (hc : H c = some (.frz oc x)) : Un fs [] H (upd H' c (.frz oc x)) h h' := by
  have ne : ∀ b, H b = none → b ≠ c := fun b n z => by rw [z, hc] at n; cases n
  have nt : ∀ b o, H b = some o → (∀ ob y, o ≠ .frz ob y) → b ≠ c := fun b o e n => ne_of e hc (n _ _)
  refine ⟨fun b o q n hb hx => u.keep b o q (del_none n) hb hx, fun b o q n hb hx => u.slot b o q (del_none n) hb hx, fun b o q n hx => by rw [upd_ne (ne b n)]; exact u.free b o q (del_none n) hx, fun b o q hx => u.there b o q hx, fun b xs q => ?_, fun b o y q => ?_, fun b ps q => ?_⟩
  · have n := nt b _ q (fun ob y z => by cases z)
    rw [upd_ne n]
    exact u.tups b xs (by rw [del_ne n]; exact q)
  · by_cases n : b = c
    · subst n
      rw [hc] at q
      rw [upd_same, q]
    · rw [upd_ne n]
      exact u.frzs b o y (by rw [del_ne n]; exact q)
  · have n := nt b _ q (fun ob y z => by cases z)
    obtain ⟨more, e⟩ := u.tbls b ps (by rw [del_ne n]; exact q)
    exact ⟨more, by rw [upd_ne n]; exact e⟩
theorem env0_del (e0 : Env0 P w K mg base A outer s H) (hc : H c = some (.frz oc x)) : Env0 P w K mg base A outer s (del H c) :=
  ⟨e0.frames, e0.mod, fun b o e => ⟨(e0.bs b o e).1, del_none (e0.bs b o e).2⟩, e0.bsz, e0.funs, fun b hb => del_none (e0.frf b hb), hok_del e0.hok hc, e0.bare⟩
theorem env0_lock (e0 : Env0 P w K mg base A outer s H) (hc : H c = none) (nb : base.get? c = none) (nf : c ∉ frs outer) (ho : s.heap.get? c = some oc) (hv : ∃ u, RelV v u ∧ oc.data = .cell (some u)) : Env0 P w K mg base A outer s (upd H c (.frz oc (CellV c v))) :=
  ⟨e0.frames, e0.mod, fun b o e => ⟨(e0.bs b o e).1, by rw [upd_ne (fun z => by rw [z, nb] at e; cases e)]; exact (e0.bs b o e).2⟩, e0.bsz, e0.funs, fun b hb => by rw [upd_ne (fun z => nf (by rw [← z]; exact hb))]; exact e0.frf b hb, hok_lock e0.hok hc ho hv, e0.bare⟩
theorem same_lock {o : HO} (hc : H c = none) (s : Same (upd H c o) H') : Same H (del H' c) := fun b u e => by
  have n := ne_of_none e hc
  rw [del_ne n]
  exact s b u (by rw [upd_ne n]; exact e)
theorem same_del {o : HO} (hc : H c = some o) (s : Same (del H c) H') : Same H (upd H' c o) := fun b u e => by
  by_cases n : b = c
  · subst n
    rw [hc] at e
    rw [upd_same, e]
  · rw [upd_ne n]
    exact s b u (by rw [del_ne n]; exact e)
end
/-! ### the lambda's object -/
structure LF where
  qual : Str
  params : Arguments
  body : Expr
  scope : Scope
  cl : List (Str × Addr)
  c : Addr
abbrev LF.nf (F : LF) : NdefX.NF := ⟨"<lambda>", F.qual, F.params, [], F.scope, F.cl, F.c⟩
def LamO (f : Addr) (F : LF) : HO := .ext fun h => ∃ pm ctv, h.get? f = some (PySem.W.kla_obj "<lambda>" F.qual F.params F.body F.scope F.cl pm F.c ctv)
/-- the one name x that it captures lies in the cell at cp -/
def OneCell (cl : List (Str × Addr)) (x : Str) (cp : Addr) : Prop := cl.lookup x = some cp ∧ ∀ y a, cl.lookup y = some a → y = x ∧ a = cp
/-- what is asked of the heap where it is called -/
def LamH (H : Hp) (f : Addr) (F : LF) (x : Str) (cp : Addr) (oc : Obj) (v : V) : Prop :=
  H f = some (LamO f F) ∧ H F.c = some (LamX.CodeO F.c F.qual) ∧ OneCell F.cl x cp ∧ H cp = some (.frz oc (CellV cp v))
theorem LamH.same {H H' : Hp} {f : Addr} {F : LF} {x : Str} {cp : Addr} {oc : Obj} {v : V} (h : LamH H f F x cp oc v) (s : Same H H') : LamH H' f F x cp oc v := ⟨s _ _ h.1, s _ _ h.2.1, h.2.2.1, s _ _ h.2.2.2⟩
section
variable {X : Cx} {pins : List (Addr × Obj)} {σ : L2.St} {H : Hp} {s : Shared}
theorem inv_lam {F : LF} {o : Obj} {t' : Nat} {pm ctv : Value} (I : Inv X pins σ H s) (ho : o = PySem.W.kla_obj "<lambda>" F.qual F.params F.body F.scope F.cl pm F.c ctv) :
    Inv X pins σ (upd H s.heap.objs.size (LamO s.heap.objs.size F)) { s with heap := s.heap.push o, toks := t' } := by
  subst ho
  refine I.laid (a := s.heap.objs.size) (fun b u e => Heap.get?_push_of_some _ e) (Nat.le_refl _) ?_
  have e := Heap.get?_push_size s.heap (o := PySem.W.kla_obj "<lambda>" F.qual F.params F.body F.scope F.cl pm F.c ctv) rfl
  exact ⟨⟨pm, ctv, e⟩, ⟨_, e⟩, fun h1 h2 ⟨p, t, z⟩ st => ⟨p, t, st _ z⟩⟩
/-- the lambda is made -/
theorem lam_make3 {T : List (Addr × Str)} {c P : Addr} {params : Arguments} {body : Expr} {scope : Scope} {pos : Pos} {E : Value → Shared → Prop} {Q : Value → Shared → Prop} (I : Inv X pins σ H s) (TB : LamX.TabB X.base X.mg c P) (hcode : X.env.code = .ref c)
    (hm : (P, X.env.qual ++ "<lambda>") ∈ T) (hu : ∀ p ∈ T, p.1 = P → p.2 = X.env.qual ++ "<lambda>") (hT : LamX.Tabs T H) (hdef : defaultsOf params X.env = ([], [])) (hfree : ∀ y ∈ scope.names, y.2 = .free → ∃ c, X.env.cells.lookup y.1 = some c)
    (h : ∀ (f c' : Addr) (H1 : Hp) (s' : Shared), Inv X pins σ H1 s' → LamX.ExtN H H1 → (∀ b, H1 b = none → H b = none) → LamX.Tabs T H1 → H f = none → H1 f = some (LamO f ⟨X.env.qual ++ "<lambda>", params, body, scope, cloFrom X.env.cells scope.names [], c'⟩) →
      H1 c' = some (LamX.CodeO c' (X.env.qual ++ "<lambda>")) → Q (.ref f) s') :
    wpAny (model X.prog X.w) X.A (eval (.Lambda params body scope pos) X.env) Q E s := by
  obtain ⟨ps, hP, ht, ha⟩ := hT _ hm
  refine PySem.W.kla_eval hdef ?_
  have bP : s.heap.BuiltinsAt X.mg P := TB.bm.keeps I.bk
  have hP' : s.heap.get? P = some { cls := .none, data := .fields ps } := I.hok P _ hP
  cases hc : codeAmong pos ps.toList with
  | none =>
    refine PySem.W.kla_makeFunction (mg := X.mg) (c := c) (P := P) (ps := ps) (closure_ok hfree) I.ok.glob (I.mod.glob.keeps I.bk) hcode (TB.code.keeps I.bk) hP' ht hc TB.gP bP fun c' ctv h' tk hx hge hlt hrec htb => ?_
    obtain ⟨c2, oc, vs, t, e2, hoc, hd, hv⟩ := hrec
    cases e2
    have nC : H c' = none := I.hok.fresh hge
    have I1 := LamX.inv_table (t' := tk) (more := #[rawInt pos.line, rawInt pos.col, .ref c']) (h' := h') I hP (fun b o hb e => hx b o hb e) htb hge ⟨oc, vs, t, hoc, hd, hv⟩
    have hE : LamX.ExtN H (upd (upd H P (.tbl (ps ++ #[rawInt pos.line, rawInt pos.col, .ref c']))) c' (LamX.CodeO c' (X.env.qual ++ "<lambda>"))) := fun b o e n => by
      rw [upd_ne (ne_of_none e nC), upd_ne (fun z => n ps (Option.some.inj (e.symm.trans (by rw [z]; exact hP))))]
      exact e
    have eL : (ps ++ #[rawInt pos.line, rawInt pos.col, .ref c']).toList = ps.toList ++ [rawInt pos.line, rawInt pos.col, .ref c'] := by simp
    have T1 : LamX.Tabs T (upd (upd H P (.tbl (ps ++ #[rawInt pos.line, rawInt pos.col, .ref c']))) c' (LamX.CodeO c' (X.env.qual ++ "<lambda>"))) := fun p hp => by
      by_cases hb : p.1 = P
      · rw [hu p hp hb, hb]
        refine ⟨_, by rw [upd_ne (ne_of_none hP nC), upd_same], by rw [eL]; exact PySem.TriplesOk_snoc _ _ _ _ ht, fun p' cv hcv => ?_⟩
        rw [eL] at hcv
        rcases LamX.among_app _ ht hcv with z | z
        · obtain ⟨c0, e1, e2⟩ := ha p' cv z
          exact ⟨c0, e1, hE _ _ e2 LamX.codeO_ne⟩
        · exact ⟨c', z, upd_same⟩
      · obtain ⟨ps', a1, a2, a3⟩ := hT p hp
        refine ⟨ps', by rw [upd_ne (ne_of_none a1 nC), upd_ne hb]; exact a1, a2, fun p' cv hcv => ?_⟩
        obtain ⟨c0, e1, e2⟩ := a3 p' cv hcv
        exact ⟨c0, e1, hE _ _ e2 LamX.codeO_ne⟩
    have nF := I1.hok.fresh (Nat.le_refl _)
    have I2 := inv_lam (F := ⟨X.env.qual ++ "<lambda>", params, body, scope, cloFrom X.env.cells scope.names [], c'⟩) (t' := tk) (pm := (X.mg "__name__").getD .none) (ctv := ctv) I1 rfl
    refine h h'.objs.size c' _ _ I2 (fun b o e n => ?_) (fun b e => NdefX.upd_none (NdefX.upd_none (NdefX.upd_none e))) (T1.ext fun b o e => ?_) (I.hok.fresh (Nat.le_trans hge (Nat.le_of_lt hlt))) upd_same ?_
    · have e1 := hE b o e n
      exact (upd_ne (ne_of_none e1 nF)).trans e1
    · exact (upd_ne (ne_of_none e nF)).trans e
    · exact (upd_ne (Nat.ne_of_lt hlt)).trans upd_same
  | some cv =>
    obtain ⟨c', e, hco⟩ := ha pos cv hc
    subst e
    refine PySem.W.kla_makeFunctionHit (mg := X.mg) (c := c) (P := P) (ps := ps) (closure_ok hfree) I.ok.glob (I.mod.glob.keeps I.bk) hcode (TB.code.keeps I.bk) hP' ht hc bP fun ctv h' tk hx hsz => ?_
    have I1 : Inv X pins σ H { s with heap := h', toks := tk } := I.kept hx
    have nF : H h'.objs.size = none := I1.hok.fresh (Nat.le_refl _)
    have I2 := inv_lam (F := ⟨X.env.qual ++ "<lambda>", params, body, scope, cloFrom X.env.cells scope.names [], c'⟩) (t' := tk) (pm := (X.mg "__name__").getD .none) (ctv := ctv) I1 rfl
    refine h h'.objs.size c' _ _ I2 (fun b o e n => ?_) (fun b e => NdefX.upd_none e) (hT.ext fun b o e => ?_) nF upd_same ?_
    · exact (upd_ne (ne_of_none e nF)).trans e
    · exact (upd_ne (ne_of_none e nF)).trans e
    · exact (upd_ne (ne_of_none hco nF)).trans hco
end
/-! ### what it promises where it is called -/
/-- a function that stands in the heap keeps the promise sp -/
structure LOk (P : Program) (w : World) (K : PySem.W.Frag) (mg : Str → Option Value) (base : Heap) (k n : Nat) (f : Addr) (sp : Sp) : Prop where
  len : ∀ vs H Q E, sp vs H Q E → vs.length = n
  run : ∀ (A : Around) (outer : List Env) (s : Shared) (H : Hp) (us : List Value) (vs : List V) (Q : VK), Room k A → Env0 P w K mg base A outer s H → Vals vs us → sp vs H Q E0 → codeAny (model P w) A (.call (.ref f) ⟨us, []⟩) (CR CX0 outer P w H s Q E0) s
section
variable {P : Program} {w : World} {K : PySem.W.Frag} {mg : Str → Option Value} {base : Heap} {N ps : List Str} {F : LF} {f cp : Addr} {k : Nat} {x : Str} {sp : V → Sp}
/-- the lambda's promise: where its object, its code object and its cell stand -/
def spLam (f : Addr) (F : LF) (x : Str) (sp : V → Sp) : Sp := fun vs H Q E => ∃ cp oc v, LamH H f F x cp oc v ∧ sp v vs (del H cp) (fun r H' => Q r (upd H' cp (.frz oc (CellV cp v)))) E
theorem lok_of (S : NdefX.NScope N ps [x] F.scope) (hb : ∀ (pm ctv : Value) (us : List Value), us.length = ps.length → bindArgs (PySem.W.kla_fn "<lambda>" F.qual F.params F.body F.scope F.cl pm (.ref F.c) ctv) ⟨us, []⟩ = pure (ps.zip us)) (len : ∀ v vs H Q E, sp v vs H Q E → vs.length = ps.length)
    (hbody : ∀ (A : Around) (outer : List Env) (s : Shared) (H : Hp) (v : V) (vs : List V) (Q : VK) (E : XK), Room k (A.deeper (NdefX.envF F.nf f s.heap.objs.size)) → sp v vs H Q E → ∃ t, PE (NdefX.ncx CX0 P w K mg base N F.nf f A outer s H E) F.body t ∧ t (NdefX.startF N vs [some v]) H Q) :
    LOk P w K mg base (k + 1) ps.length f (spLam f F x sp) := by
  refine ⟨fun vs H Q E h => ?_, fun A outer s H us vs Q hr e0 r h => ?_⟩
  · obtain ⟨_, _, v, _, h⟩ := h
    exact len v _ _ _ _ h
  obtain ⟨cp, oc, v, ⟨hf, hc, oneC, hcp⟩, hsp⟩ := h
  have hl := len v _ _ _ _ hsp
  have lim : s.heap.NoLimit := e0.mod.nolimit.keeps fun b o e => (e0.bs b o e).1
  obtain ⟨⟨pm, ctv, ho⟩, _, _⟩ := e0.hok f _ hf
  obtain ⟨hoc, hdat⟩ := lock_data e0.hok hcp
  refine PySem.W.kla_callFunE hr.depth ho rfl S.co S.gen rfl (NdefX.codeO_at e0.hok hc) ?_
  rw [hb pm ctv us (by rw [← r.length]; exact hl)]
  refine wpAny_pure (wpAny_newFunctionEnv S.nocell (fun ⟨n, _⟩ hy => S.par n (List.of_mem_zip hy).1) (fun h₁ hns hsb => ⟨lim.fresh _ hsb, ?_⟩) S.kind)
  show codeAny _ _ (.expr F.body (NdefX.envF F.nf f s.heap.objs.size)) _ _
  have kp : ∀ b o, s.heap.get? b = some o → h₁.get? b = some o := fun b o e => hsb.extBut b o (Nat.ne_of_lt (Heap.lt_size e)) (Heap.get?_push_of_some _ e)
  have e1 : Env0 P w K mg base A outer s (del H cp) := env0_del e0 hcp
  obtain ⟨u0, r0, d0⟩ := hdat
  have C : NdefX.CellsAt F.nf.cl [x] [some v] s.heap (del H cp) := by
    refine ⟨rfl, fun y c e => ?_, fun y z c e1 e2 => (oneC.2 y c e1).1.trans (oneC.2 z c e2).1.symm, fun i y e => ?_⟩
    · obtain ⟨_, rfl⟩ := oneC.2 y c e
      exact ⟨del_same, some u0, oc, hoc, d0⟩
    · match i, e with
      | 0, e =>
        cases e
        refine ⟨cp, oneC.1, fun v' ev => ?_⟩
        cases ev
        exact ⟨u0, r0, oc, hoc, d0⟩
  obtain ⟨t, ht, hq⟩ := hbody A outer s (del H cp) v vs _ E0 (hr.deeper _) hsp
  have I : Inv (NdefX.ncx CX0 P w K mg base N F.nf f A outer s (del H cp) E0) [] (NdefX.startF N vs [some v]) (del H cp) { s with heap := h₁, toks := s.toks + (ps.zip us).length } := NdefX.inv_startN (F := F.nf) S hr.hd e1 hl r C hns kp
  refine PySem.W.kla_codeExpr (wpAny_mono (ht.run [] _ _ _ _ I hq) (fun u s' hs => ?_) fun e s' hs => hs)
  obtain ⟨y, H', J', rv, q⟩ := hs
  have nf : cp ∉ frs outer := fun z => by
    have := e0.frf cp z
    rw [hcp] at this
    cases this
  have un : Un (frs outer) [] (del H cp) H' s.heap s'.heap := J'.base
  have h1 : H' cp = none := un.free cp oc hoc del_same (by simp)
  have h2 : s'.heap.get? cp = some oc := un.keep cp oc hoc del_same nf (by simp)
  exact ⟨y, upd H' cp (.frz oc (CellV cp v)), J'.os, J'.bare, un_of_del un hcp, hok_lock J'.hok h1 h2 ⟨u0, r0, d0⟩, rv, q⟩
end
/-- a(..), a name that holds a function -/
def tCallV (i : Nat) (sp : Addr → Sp) (t : TA) : TE := fun σ H Q => ∃ f, σ[i]? = some (some (.ref f)) ∧ (∃ o, H f = some o ∧ ∃ F, o = LamO f F) ∧ t σ H fun vs H1 => (∃ F, H1 f = some (LamO f F)) ∧ sp f vs H1 Q E0
section
variable {X : Cx} {k n i : Nat} {x : Str} {sp : Addr → Sp} {t : TA} {e : Expr} {es : List Expr} {p pos : Pos}
theorem lamAt_of {pins : List (Addr × Obj)} {σ : L2.St} {H : Hp} {s : Shared} {f : Addr} {F : LF} (I : Inv X pins σ H s) (e : H f = some (LamO f F)) : PySem.W.FnAt f s.heap := by
  obtain ⟨⟨pm, ctv, ho⟩, _, _⟩ := I.hok f _ e
  exact ⟨_, _, _, _, ho⟩
theorem pe_callV (Fn : ∀ f, LOk X.prog X.w X.K X.mg X.base k n f (sp f)) (hr : Room k X.A) (ha : PA X (e :: es) t) (hN : X.N[i]? = some x := by rfl) (hv : Vis X.env.scope x := by first | exact Or.inl rfl | exact Or.inr (Or.inl rfl) | exact Or.inr (Or.inr rfl))
    (hd : (x == ("__debug__" : Str)) = false := by decide) (hcd : (x == ("__classdict__" : Str)) = false := by decide)
    (he : starEach (e :: es) X.env = (false, eval e X.env) :: starEach es X.env := by rfl) (hpl : (backTo pos (starEach es X.env)).any (·.1) = false := by rfl) :
    PE X (.Call (.Name x p) (e :: es) [] pos) (tCallV i sp t) := by
  refine ⟨fun pins s σ H Q I h => ?_⟩
  obtain ⟨f, hs, ⟨o, hf, F, eo⟩, ht⟩ := h
  subst eo
  refine wpAny_Call_Name_kw (thn ((pe_var (pos := p) hN hv hd hcd).run pins s σ H (fun v H1 => v = .ref f ∧ H1 = H) I ⟨.ref f, hs, rfl, rfl⟩) fun u s1 ⟨v, H1, I1, r1, q1⟩ => ?_)
  obtain ⟨ev, eH⟩ := q1
  subst ev
  rw [eH] at I1
  obtain rfl : u = Value.ref f := r1
  refine PySem.W.callWith_F (first := []) (lamAt_of I1 hf) (thn (ha.run pos pins s1 σ H _ I1 ht) fun us s2 ⟨vs, H2, I2, r, ⟨F2, h1⟩, q⟩ => ⟨lamAt_of I2 h1, ?_⟩) he hpl
  show wpAny _ _ (call (.ref f) us) _ _ _
  refine wpAny_call (codeAny_mono ((Fn f).run X.A X.stack s2 H2 us vs Q hr I2.env0 r q) fun r s' hq => ?_)
  cases r with
  | error e => exact (show False from hq).elim
  | ok fl =>
    cases fl with
    | ret u => exact I2.after hq
    | next => exact False.elim hq
    | brk => exact False.elim hq
    | cont => exact False.elim hq
end
/-! ### g(e, lambda ..) -/
/-- the lambda's words -/
def tLamTo (T : List (Addr × Str)) (mk : List (Str × Addr) → Addr → LF) (q : Str) (i : Nat) (y0 : Str) (sp : Sp) (te : TE) : TE := fun σ H Q => te σ H fun v1 H1 => LamX.Tabs T H1 ∧ ∃ v, σ[i]? = some (some v) ∧
  ∀ f c' cp oc cl H2, LamX.ExtN H1 H2 → (∀ b, H2 b = none → H1 b = none) → LamX.Tabs T H2 → H1 f = none → LamH (upd H2 cp (.frz oc (CellV cp v))) f (mk cl c') y0 cp oc v → H2 cp = none →
    sp [v1, .ref f] (upd H2 cp (.frz oc (CellV cp v))) (fun r H' => Q r (del H' cp)) E0
section
variable {X : Cx} {k : Nat} {x y0 : Str} {ps : List Str} {sp : Sp} {e : Expr} {te : TE} {p pos lpos : Pos} {params : Arguments} {body : Expr} {scope : Scope} {T : List (Addr × Str)} {c P : Addr} {i : Nat}
theorem pe_lamTo (cal : Cal X.prog X.w X.K X.mg X.base k x ps sp) (hr : Room k X.A) (he : PE X e te) (TB : LamX.TabB X.base X.mg c P) (hcode : X.env.code = .ref c) (hm : (P, X.env.qual ++ "<lambda>") ∈ T) (hu : ∀ p ∈ T, p.1 = P → p.2 = X.env.qual ++ "<lambda>")
    (hy : (y0, NameKind.free) ∈ scope.names) (ho : ∀ y ∈ scope.names, y.2 = .free → y.1 = y0) (hce : X.env.scope.names.lookup y0 = some .cell) (hfn : X.fn y0 = true) (hN : X.N[i]? = some y0) (hdef : defaultsOf params X.env = ([], [])) (hg : Gl X x := by rfl) (hdb : (x == ("__debug__" : Str)) = false := by decide)
    (hst : starEach [e, .Lambda params body scope lpos] X.env = (false, eval e X.env) :: starEach [.Lambda params body scope lpos] X.env := by rfl) (hpl : (backTo pos (starEach [.Lambda params body scope lpos] X.env)).any (·.1) = false := by rfl)
    (hst2 : starEach [.Lambda params body scope lpos] X.env = (false, eval (.Lambda params body scope lpos) X.env) :: starEach [] X.env := by rfl) :
    PE X (.Call (.Name x p) [e, .Lambda params body scope lpos] [] pos) (tLamTo T (fun cl c' => ⟨X.env.qual ++ "<lambda>", params, body, scope, cl, c'⟩) (X.env.qual ++ "<lambda>") i y0 sp te) := by
  refine ⟨fun pins s σ H Q I h => ?_⟩
  obtain ⟨g, fd, F, kp, b, mx⟩ := cal
  have hfree : ∀ y ∈ scope.names, y.2 = .free → ∃ c, X.env.cells.lookup y.1 = some c := fun y hy e => by
    rw [ho y hy e]
    exact I.ok.has _ (.inl hce)
  refine wpAny_Call_Name_kw (ld_glob I hg mx ?_ hdb)
  refine PySem.W.callWith_K (h₀ := X.base) I.ok.mod.kin kp ?_ hst hpl
  rw [hst]
  show wpAny _ _ (spliced ((false, eval e X.env) :: backTo pos (starEach [.Lambda params body scope lpos] X.env))) _ _ s
  refine Calls.spliced_cons (thn (he.run pins s σ H _ I h) fun u1 s1 ⟨v1, H1, I1, r1, hT, v, hs, q⟩ => ?_)
  rw [hst2]
  refine Calls.spliced_cons (lam_make3 I1 TB hcode hm hu hT hdef hfree fun f c' H2 s2 I2 eN nn T2 hf1 hf2 hc2 => ?_)
  refine Calls.spliced_nil ⟨I2.kIn, ?_⟩
  obtain ⟨cp, hcp⟩ := I.ok.has y0 (.inl hce)
  have ncp : H2 cp = none := I2.freeC y0 cp hcp
  have oneC : OneCell (cloFrom X.env.cells scope.names []) y0 cp := by
    refine ⟨NdefX.clo_has hfree hy hcp, fun y a e => ?_⟩
    have e1 := NdefX.clo_cm hfree e
    rcases cloFrom_mem (PySem.mem_of_lookup e) with hm | ⟨h1, _⟩
    · cases hm
    · have e2 := ho _ h1 rfl
      simp only at e2
      subst e2
      rw [hcp] at e1
      exact ⟨rfl, (Option.some.inj e1).symm⟩
  obtain ⟨m, hn, hl⟩ := I2.loc
  obtain ⟨u, ru, lk⟩ := hl i y0 v hN hs (.inr (.inl hce))
  obtain ⟨oc, hoc, hd⟩ : ∃ oc, s2.heap.get? cp = some oc ∧ oc.data = .cell (some u) := by
    rcases lk with ⟨z, _⟩ | ⟨_, a', ha', oc, h1, h2⟩
    · have z' : X.env.scope.names.lookup y0 = some .local := z
      rw [hce] at z'
      cases z'
    · rw [hcp] at ha'
      cases ha'
      exact ⟨oc, h1, h2⟩
  have hge := I.ok.cab y0 cp hfn hcp
  have nb : X.base.get? cp = none := by
    cases e : X.base.get? cp with
    | none => rfl
    | some o => exact absurd (Nat.lt_of_lt_of_le (Heap.lt_size e) (Nat.le_trans I.ok.bsz hge)) (Nat.lt_irrefl _)
  have nf : cp ∉ frs X.stack := fun z => by
    rcases List.mem_cons.mp (I2.stkSub cp z) with e | hb
    · exact I2.cne y0 cp hcp e
    · obtain ⟨_, o, ho, _⟩ := I.ok.funs.mem hb
      exact absurd (Nat.lt_of_lt_of_le (Heap.lt_size ho) hge) (Nat.lt_irrefl _)
  have e0 := env0_lock (v := v) I2.env0 ncp nb nf hoc ⟨u, ru, hd⟩
  have nfc : f ≠ cp := ne_of_none hf2 ncp
  have ncc : c' ≠ cp := ne_of_none hc2 ncp
  have q2 := q f c' cp oc _ H2 eN nn T2 hf1 ⟨by rw [upd_ne nfc]; exact hf2, by show upd H2 cp _ c' = _; rw [upd_ne ncc]; exact hc2, oneC, upd_same⟩ ncp
  have r2 : Vals [v1, .ref f] [u1, .ref f] := .cons r1 (.cons rfl .nil)
  have bb := b s2 [u1, .ref f] I2.kIn (by rw [List.append_nil]; exact (r2.length.symm.trans (F.len _ _ _ _ q2)))
  rw [List.append_nil] at bb
  refine wpAny_call (codeAny_mono (F.run X.A X.stack s2 _ ⟨[u1, .ref f], []⟩ [u1, .ref f] [v1, .ref f] _ E0 hr e0 bb r2 q2) fun r s' hq => ?_)
  cases r with
  | error e => exact (show False from hq).elim
  | ok fl =>
    cases fl with
    | ret u =>
      obtain ⟨y, H', os, bare, un, hok, rv, q3⟩ := hq
      have un2 := un_of_lock un ncp hoc hok
      have hok2 : HOk X.prog X.w (del H' cp) s'.heap := hok_del hok (un.frzs cp oc _ upd_same)
      exact I2.after ⟨y, del H' cp, os, bare, un2, hok2, rv, q3⟩
    | next => exact False.elim hq
    | brk => exact False.elim hq
    | cont => exact False.elim hq
end
/-! ### a def whose code object is known -/
section
variable {P : Program} {w : World} {K : PySem.W.Frag} {mg : Str → Option Value} {base : Heap}
theorem fun_okc {x qual : Str} {st : Stmt} {f c : Addr} {fd : FuncData} {N ps : List Str} {k : Nat} {sp : Sp} (F : Fun K x qual st f fd) (code : fd.code = .ref c) (S : FnScope N ps (defScope st)) (len : ∀ vs H Q E, sp vs H Q E → vs.length = ps.length)
    (hbody : ∀ (A : Around) (outer : List Env) (s : Shared) (H : Hp) (vs : List V) (Q : VK) (E : XK), Room k (A.deeper (envOfC qual (defScope st) s.heap.objs.size f (.ref c))) → sp vs H Q E →
      ∃ t, PSs (cxOf CX0 P w K mg base N qual (defScope st) f (.ref c) A outer s H E).nox (defBody st) t ∧ t { nx := fun _ H' => Q .non H', rt := Q } (start N vs) H) : FnOk P w K mg base CX0 (k + 1) f fd ps sp := by
  obtain ⟨oc, od, kV, doc, pm, an, cdv, ct, osl, efd, lk, hcd⟩ := F.ex
  subst efd
  have ec : cdv = .ref c := code
  subst ec
  refine fn_of lk hcd S len fun A outer s H vs Q E hr hsp => ?_
  obtain ⟨t, h, q⟩ := hbody A outer s H vs Q E hr hsp
  exact ⟨t, h.nox, q⟩
end
end Ur
/-! UrMn: min and max of a list of tuples of whole numbers, with and without default=; walks within walks. -/
namespace Ur
open PySem PySem.Spec PyProof.Rows L2
/-- the items are tuples of whole numbers -/
def TupsI (H : Hp) (xs : List V) (ks : List (List Int)) : Prop := Paired (fun x k => ∃ t, x = V.ref t ∧ H t = some (.tup (k.map V.int))) xs ks
theorem paired_get {α β : Type} {F : α → β → Prop} : ∀ {xs : List α} {ys : List β} {i : Nat} {x : α}, Paired F xs ys → xs[i]? = some x → ∃ y, ys[i]? = some y ∧ F x y
  | _, _, _, _, .nil, e => by simp at e
  | _, _, 0, _, .cons r _, e => by simp at e; subst e; exact ⟨_, rfl, r⟩
  | _, _, i + 1, x, .cons _ t, e => by
    obtain ⟨u, h1, h2⟩ := paired_get (i := i) (x := x) t (by simpa using e)
    exact ⟨u, by simpa using h1, h2⟩
theorem map_get {α β : Type} {f : α → β} {l : List α} {i : Nat} {y : β} (h : (l.map f)[i]? = some y) : ∃ a, l[i]? = some a ∧ y = f a := by
  rw [List.getElem?_map] at h
  cases e : l[i]? with
  | none => rw [e] at h; cases h
  | some a => rw [e] at h; exact ⟨a, rfl, (Option.some.inj h).symm⟩
theorem holds_uniq {α : Type} [DecidableEq α] [PySem.W.Datum α] {h : Heap} {v : Value} {x y : α} (a : PySem.W.Holds h v x) (b : PySem.W.Holds h v y) : x = y := by
  obtain ⟨as, ra⟩ := a
  obtain ⟨bs, rb⟩ := b
  have e : PySem.W.Datum.toD x = PySem.W.Datum.toD y := (Reads.unique ra _ _ rb).1
  have e1 := PySem.W.Datum.eqv x y
  rw [← e, PySem.W.Datum.eqv x x] at e1
  exact of_decide_eq_true (e1.symm.trans (decide_eq_true rfl))
theorem hold_ints {h : Heap} : ∀ {k : List Int} {its : List Value}, Vals (k.map V.int) its → PySem.W.HoldAll h its k
  | [], [], _ => PySem.W.HoldAll.nil
  | [], _ :: _, r => nomatch r
  | _ :: _, [], r => nomatch r
  | i :: k, v :: its, r => by
    cases r with
    | cons r rs =>
      obtain ⟨t, rfl⟩ := r
      exact PySem.W.HoldAll.cons (PySem.W.holds_int i t) (hold_ints rs)
theorem hold_tups {P : Program} {w : World} {H : Hp} {h : Heap} (ok : HOk P w H h) : ∀ {xs : List V} {ks : List (List Int)} {its : List Value}, TupsI H xs ks → Vals xs its → PySem.W.HoldAll h its (ks.map PySem.W.Tup.mk)
  | [], [], [], _, _ => PySem.W.HoldAll.nil
  | [], _ :: _, _, t, _ => nomatch t
  | _ :: _, [], _, t, _ => nomatch t
  | [], _, _ :: _, _, r => nomatch r
  | _ :: _, _, [], _, r => nomatch r
  | x :: xs, k :: ks, v :: its, t, r => by
    cases t with
    | cons t ts =>
      cases r with
      | cons r rs =>
        obtain ⟨a, rfl, ha⟩ := t
        obtain rfl : v = Value.ref a := r
        obtain ⟨_, its2, r2, p⟩ := ok a _ ha
        exact PySem.W.HoldAll.cons (PySem.W.holds_tup p (by rw [List.toList_toArray]; exact hold_ints r2)) (hold_tups ok ts rs)
/-- the order of tuples of whole numbers -/
abbrev ltL (a b : List Int) : Bool := PySem.W.listLt a b
theorem ltL_irrefl : ∀ a : List Int, ltL a a = false
  | [] => rfl
  | x :: xs => by
    show (if x = x then PySem.W.listLt xs xs else PySem.W.DatumOrd.lt x x) = false
    rw [if_pos rfl]
    exact ltL_irrefl xs
theorem ltL_cons {x y : Int} {xs ys : List Int} : ltL (x :: xs) (y :: ys) = true ↔ x < y ∨ x = y ∧ ltL xs ys = true := by
  show (if x = y then PySem.W.listLt xs ys else decide (x < y)) = true ↔ _
  by_cases e : x = y
  · rw [if_pos e]
    constructor
    · exact fun h => .inr ⟨e, h⟩
    · rintro (h | ⟨_, h⟩)
      · omega
      · exact h
  · rw [if_neg e, decide_eq_true_eq]
    constructor
    · exact .inl
    · rintro (h | ⟨h, _⟩)
      · exact h
      · exact absurd h e
theorem ltL_trans : ∀ {a b c : List Int}, ltL a b = true → ltL b c = true → ltL a c = true
  | [], [], _, h, _ => by cases h
  | _ :: _, [], _, h, _ => by cases h
  | _, _ :: _, [], _, h => by cases h
  | [], _ :: _, _ :: _, _, _ => rfl
  | x :: xs, y :: ys, z :: zs, h, g => by
    rw [ltL_cons] at h g ⊢
    rcases h with h | ⟨rfl, h⟩
    · rcases g with g | ⟨rfl, _⟩
      · exact .inl (by omega)
      · exact .inl h
    · rcases g with g | ⟨rfl, g⟩
      · exact .inl g
      · exact .inr ⟨rfl, ltL_trans h g⟩
theorem ltL_total : ∀ {a b : List Int}, ltL a b = false → ltL b a = false → a = b
  | [], [], _, _ => rfl
  | [], _ :: _, h, _ => by cases h
  | _ :: _, [], _, h => by cases h
  | x :: xs, y :: ys, h, g => by
    have h' : ¬ (x < y ∨ x = y ∧ ltL xs ys = true) := fun z => by rw [ltL_cons.mpr z] at h; cases h
    have g' : ¬ (y < x ∨ y = x ∧ ltL ys xs = true) := fun z => by rw [ltL_cons.mpr z] at g; cases g
    have e : x = y := by omega
    subst e
    have e2 := ltL_total (Bool.eq_false_iff.mpr fun z => h' (.inr ⟨rfl, z⟩)) (Bool.eq_false_iff.mpr fun z => g' (.inr ⟨rfl, z⟩))
    rw [e2]
theorem minOf_spec (y : List Int) : ∀ (ys : List (List Int)), (PySem.W.minOf (PySem.W.Tup.mk y) (ys.map PySem.W.Tup.mk)).items ∈ y :: ys ∧ ∀ z ∈ y :: ys, ltL z (PySem.W.minOf (PySem.W.Tup.mk y) (ys.map PySem.W.Tup.mk)).items = false := by
  intro ys
  induction ys generalizing y with
  | nil =>
    refine ⟨List.mem_cons_self, fun z hz => ?_⟩
    obtain rfl := List.mem_singleton.mp hz
    exact ltL_irrefl _
  | cons z ys ih =>
    have step : PySem.W.minOf (PySem.W.Tup.mk y) ((z :: ys).map PySem.W.Tup.mk) = PySem.W.minOf (if ltL z y = true then PySem.W.Tup.mk z else PySem.W.Tup.mk y) (ys.map PySem.W.Tup.mk) := rfl
    rw [step]
    by_cases c : ltL z y = true
    · rw [if_pos c]
      obtain ⟨h1, h2⟩ := ih z
      refine ⟨List.mem_cons_of_mem _ h1, fun x hx => ?_⟩
      rcases List.mem_cons.mp hx with rfl | hx
      · refine Bool.eq_false_iff.mpr fun e => ?_
        have := h2 z List.mem_cons_self
        rw [ltL_trans c e] at this
        cases this
      · exact h2 x hx
    · rw [if_neg c]
      obtain ⟨h1, h2⟩ := ih y
      refine ⟨?_, fun x hx => ?_⟩
      · rcases List.mem_cons.mp h1 with e | h1
        · rw [e]
          exact List.mem_cons_self
        · exact List.mem_cons_of_mem _ (List.mem_cons_of_mem _ h1)
      · rcases List.mem_cons.mp hx with rfl | hx
        · exact h2 x List.mem_cons_self
        · rcases List.mem_cons.mp hx with rfl | hx
          · have c' : ltL x y = false := Bool.eq_false_iff.mpr c
            have h3 := h2 y List.mem_cons_self
            refine Bool.eq_false_iff.mpr fun e => ?_
            by_cases c2 : ltL y x = true
            · rw [ltL_trans c2 e] at h3
              cases h3
            · have := ltL_total c' (Bool.eq_false_iff.mpr c2)
              rw [this, h3] at e
              cases e
          · exact h2 x (List.mem_cons_of_mem _ hx)
/-- the least of the tuples: x, the one with the numbers k -/
def LeastT (xs : List V) (ks : List (List Int)) (x : V) (k : List Int) : Prop := (∃ i : Nat, xs[i]? = some x ∧ ks[i]? = some k) ∧ ∀ z ∈ ks, ltL z k = false
section
variable {X : Cx}
def rMinTD (K : PySem.W.Frag) : List V → List V → Hp → VK → Prop := fun vs zs H Q => ∃ (a : Addr) (xs : List V) (ks : List (List Int)) (d : V), vs = [V.ref a] ∧ zs = [d] ∧ SqL K H a xs ∧ TupsI H xs ks ∧ (xs = [] → Q d H) ∧ ∀ x k, LeastT xs ks x k → Q x H
theorem cr_minTD (hc : X.calm = true) (hu : X.A.units + 64 < cLine) : CallRK X (.builtin "min") [Str.ofString "default"] (rMinTD X.K) := by
  intro pins s σ H vs zs us ws Q I r rz h
  obtain ⟨a, xs, ks, d, rfl, rfl, hs, ht, q0, q⟩ := h
  obtain ⟨its, rv, hl, _⟩ := I.list hs
  obtain rfl := Vals.ref1 r
  obtain ⟨w1, rfl, e1⟩ := vals1 rz
  have HA := hold_tups I.hok ht rv
  have lk : its.length = ks.length := by
    have := HA.length
    rw [List.length_map] at this
    exact this
  refine PySem.W.min_list_datum_default (xs := ks.map PySem.W.Tup.mk) (I.ok.hd hc) hl.isList (by rw [List.toList_toArray]; exact HA) (by show X.A.units + 1 + 1 < cLine; omega) (fun e h' tk hk => ?_) fun y ys i v h' tk e hi hy hk => ?_
  · have e2 : ks = [] := List.map_eq_nil_iff.mp e
    have e3 : xs = [] := by
      have := rv.length
      rw [lk, e2] at this
      exact List.eq_nil_of_length_eq_zero this
    exact ⟨d, H, I.kept hk, e1, q0 e3⟩
  · have hi' : its[i]? = some v := by simpa using hi
    obtain ⟨z, hz, hvz⟩ := HA.at hi'
    have hvz' := hvz.keeps hk
    have em := holds_uniq hvz' hy
    rw [List.getElem?_map] at hz
    cases ek : ks[i]? with
    | none => rw [ek] at hz; cases hz
    | some k =>
      rw [ek] at hz
      obtain rfl : PySem.W.Tup.mk k = z := Option.some.inj hz
      obtain ⟨x, hx, rx⟩ : ∃ x, xs[i]? = some x ∧ RelV x v := by
        have hl : i < xs.length := by rw [rv.length]; exact (List.getElem?_eq_some_iff.mp hi').1
        obtain ⟨u, hu1, hu2⟩ := rv.get (List.getElem?_eq_getElem hl)
        rw [hi'] at hu1
        cases hu1
        exact ⟨_, List.getElem?_eq_getElem hl, hu2⟩
      refine ⟨x, H, I.kept hk, rx, q x k ⟨⟨i, hx, ek⟩, ?_⟩⟩
      cases ks with
      | nil => cases e
      | cons k0 ks0 =>
        rw [List.map_cons] at e
        injection e with e1 e2
        subst e1 e2
        have sp := (minOf_spec k0 ks0).2
        rw [← em] at sp
        exact sp
def rMinT (K : PySem.W.Frag) : List V → Hp → VK → Prop := fun vs H Q => ∃ (a : Addr) (xs : List V) (ks : List (List Int)), vs = [V.ref a] ∧ SqL K H a xs ∧ TupsI H xs ks ∧ 0 < ks.length ∧ ∀ x k, LeastT xs ks x k → Q x H
theorem cr_minT (hc : X.calm = true) (hu : X.A.units + 64 < cLine) : CallR X (.builtin "min") (rMinT X.K) := by
  intro pins s σ H vs us Q I r h
  obtain ⟨a, xs, ks, rfl, hs, ht, ne, q⟩ := h
  obtain ⟨its, rv, hl, _⟩ := I.list hs
  obtain rfl := Vals.ref1 r
  have HA := hold_tups I.hok ht rv
  cases ks with
  | nil => cases ne
  | cons k0 ks0 =>
    refine PySem.W.min_list_datum (x := PySem.W.Tup.mk k0) (xs := ks0.map PySem.W.Tup.mk) (I.ok.hd hc) hl.isList (by rw [List.toList_toArray]; exact HA) (by show X.A.units + 1 + 1 < cLine; omega) fun i v h' tk hi hy hk => ?_
    have hi' : its[i]? = some v := by simpa using hi
    obtain ⟨z, hz, hvz⟩ := HA.at hi'
    have em := holds_uniq (hvz.keeps hk) hy
    rw [List.getElem?_map] at hz
    cases ek : (k0 :: ks0)[i]? with
    | none => rw [ek] at hz; cases hz
    | some k =>
      rw [ek] at hz
      obtain rfl : PySem.W.Tup.mk k = z := Option.some.inj hz
      obtain ⟨x, hx, rx⟩ : ∃ x, xs[i]? = some x ∧ RelV x v := by
        have hl : i < xs.length := by rw [rv.length]; exact (List.getElem?_eq_some_iff.mp hi').1
        obtain ⟨u, hu1, hu2⟩ := rv.get (List.getElem?_eq_getElem hl)
        rw [hi'] at hu1
        cases hu1
        exact ⟨_, List.getElem?_eq_getElem hl, hu2⟩
      refine ⟨x, H, I.kept hk, rx, q x k ⟨⟨i, hx, ek⟩, ?_⟩⟩
      have sp := (minOf_spec k0 ks0).2
      rw [← em] at sp
      exact sp
end
/-! ### walks of any kind, within any reading -/
section
variable {J : It} {n : Nat} {G : Hp → Prop} {Y : Nat → Hp → V → Hp → Prop}
theorem gen_it (w : Walk J n G Y) {B : (Hp → Prop) → V → Hp → Prop} {Qd : Hp → Prop} {H0 : Hp} (Pv : Nat → Hp → Prop) (h0 : Pv 0 H0) (hG : ∀ i H, i ≤ n → Pv i H → G H)
    (hs : ∀ i x H H', i < n → Pv i H → Y i H x H' → B (Pv (i + 1)) x H') (hd : ∀ H, Pv n H → Qd H) :
    ∃ W : Nat → Nat → Hp → Prop, (∃ m, W 0 m H0) ∧ ∀ i m H, W i m H → (J.stop i H ∧ Qd H) ∨ (J.go i H ∧ ∃ Nx : Hp → Prop, (∀ H', Nx H' → ∃ m', m' < m ∧ W (i + 1) m' H') ∧ ∀ x H', J.yld i H x H' → B Nx x H') := by
  refine ⟨fun i m H => m = n - i ∧ i ≤ n ∧ Pv i H, ⟨n, by simp, Nat.zero_le _, h0⟩, ?_⟩
  rintro i m H ⟨rfl, hi, p⟩
  have q := hG i H hi p
  by_cases hlt : i < n
  · refine .inr ⟨w.goes i H hlt q, Pv (i + 1), fun H' p' => ⟨n - (i + 1), by omega, rfl, hlt, p'⟩, fun x H' y => hs i x H H' hlt p (w.yields i H x H' hlt q y)⟩
  · have e : i = n := by omega
    subst e
    exact .inl ⟨w.stops H q, hd H p⟩
end
theorem walk_range0 {n : Nat} : Walk (Itr 0 n) n (fun _ => True) (YFn fun i => .int (i : Nat)) := by
  have h := walk_range (lo := 0) (n := n)
  simp only [Int.zero_add] at h
  exact h
/-- while, by an invariant that bears its own measure -/
theorem while_ex {c : TT} {tb : TS} {D : Ends} {σ : L2.St} {H : Hp} (Pv : Nat → L2.St → Hp → Prop) (m0 : Nat) (h0 : Pv m0 σ H)
    (hs : ∀ m σ H, Pv m σ H → c σ H fun b H1 => if b = true then tb { D with nx := fun σ' H' => ∃ m', m' < m ∧ Pv m' σ' H', ct := fun σ' H' => ∃ m', m' < m ∧ Pv m' σ' H', bk := D.nx } σ H1 else D.nx σ H1)
    (mono : ∀ σ H Q Q', (∀ b H1, Q b H1 → Q' b H1) → c σ H Q → c σ H Q') : tWhile c tb D σ H := by
  refine ⟨Pv, ⟨m0, h0⟩, ?_⟩
  intro m σ H p
  refine mono σ H _ _ (fun b H1 q => ?_) (hs m σ H p)
  cases b with
  | true => exact ⟨_, fun σ' H' h => h, q⟩
  | false => exact q
end Ur
/-! HA: histories: _block, and the lambda that calls it. -/
namespace Ur
open PySem PySem.Spec PyProof.Rows L2
/-- the numbers of a list of painters -/
def nQ (qs : List Quad) (i : Nat) : Str := match qs[i]? with | some x => x.1 | none => ""
def dQ (qs : List Quad) (i : Nat) : Int := match qs[i]? with | some x => x.2.1 | none => 0
def pQ (qs : List Quad) (i : Nat) : Int := match qs[i]? with | some x => x.2.2.1 | none => 0
def sQ (qs : List Quad) (i : Nat) : Int := match qs[i]? with | some x => x.2.2.2 | none => 0
theorem q_at {qs : List Quad} {i : Nat} {x : Quad} (h : qs[i]? = some x) : nQ qs i = x.1 ∧ dQ qs i = x.2.1 ∧ pQ qs i = x.2.2.1 ∧ sQ qs i = x.2.2.2 := by
  unfold nQ dQ pQ sQ
  rw [h]
  exact ⟨rfl, rfl, rfl, rfl⟩
/-- posts of an endless fence -/
def fSP (qs : List Quad) : SPt := fun i n j m => pQ qs i + n * sQ qs i = pQ qs j + m * sQ qs j
theorem fSP_sy (qs : List Quad) : ∀ i n j m k l, fSP qs i n j m → fSP qs i n k l → fSP qs j m k l := fun i n j m k l h g => h.symm.trans g
theorem two_of {C : Addr} {H : Hp} {x z : Pt} (h : PtAt C H x) (g : PtAt C H z) : Two C H x.a z.a x.nm x.d x.p x.s z.nm z.d z.p z.s := ⟨h.1, g.1, h.2, g.2⟩
/-- the first block of a pair -/
def PairB (d : Nat → Int) (SP : SPt) (i j : Nat) (cnt : Option Int) (r : Option Int) : Prop := Least (PBlk d SP i j cnt) r ∧ ∀ n, r = some n → n ≤ 10 ^ 70
theorem parts_at {L : List Pt} {i : Nat} {x : Pt} (h : L[i]? = some x) : (partsOf L)[i]? = some (x.nm, x.d, x.p, x.s) := by
  unfold partsOf
  rw [List.getElem?_map, h]
  rfl
theorem refs_ix {L : List Pt} {i : Nat} {x : Pt} (h : L[i]? = some x) : (refsOf L)[i]? = some (V.ref x.a) := by
  unfold refsOf
  rw [List.getElem?_map, h]
  rfl
theorem no_self {qs : List Quad} {i : Nat} {x : Quad} (h : qs[i]? = some x) (ns : x.2.2.2 ≠ 0) {cnt : Option Int} {n : Int} : ¬ PBlk (dQ qs) (fSP qs) i i cnt n := by
  rintro ⟨m, m0, e, _, o⟩
  have e : pQ qs i + n * sQ qs i = pQ qs i + m * sQ qs i := e
  have e2 : n * sQ qs i = m * sQ qs i := by omega
  have e3 : n = m := Int.eq_of_mul_eq_mul_right (by rw [(q_at h).2.2.2]; exact ns) e2
  omega
abbrev s__block : Stmt := (topS 40)
abbrev N_sc__block : List Str := ["painters", "place", "other", "count"]
abbrev P__block : List Str := ["painters", "place", "other", "count"]
theorem sc__block : FnScope N_sc__block P__block (defScope s__block) := ⟨rfl, rfl, rfl, by decide +kernel, rfl, by decide +kernel, by decide +kernel⟩
def spBlock (C : Addr) : Sp := fun vs H Q _ => ∃ (t : Addr) (L : List Pt) (i j : Nat) (cnt : Option Int), vs = [.ref t, .int (i : Int), .int (j : Int), optV cnt] ∧ H t = some (.tup (refsOf L)) ∧ Crew C H L ∧ i < L.length ∧ j < L.length ∧ (∀ c, cnt = some c → 0 ≤ c ∧ c ≤ 10 ^ 80) ∧
  ∀ r H', PairB (dQ (partsOf L)) (fSP (partsOf L)) i j cnt r → Same H H' → Q (optV r) H'
section
variable {P : Program} {w : World} {K : PySem.W.Frag} {mg : Str → Option Value} {base : Heap} {C : Addr}
theorem ok_block (D : Dfn K mg "_block" s__block P__block) (B : Blt mg) (CFB : FBC P w K mg base C) : Cal P w K mg base 8 "_block" P__block (spBlock C) := by
  refine D.cal sc__block (fun vs H Q E h => ?_) fun f cdv A outer s H vs Q E hr h => ?_
  · obtain ⟨t, L, i, j, cnt, rfl, _⟩ := h
    rfl
  obtain ⟨t, L, i, j, cnt, rfl, ht, cr, hi, hj, hc, q⟩ := h
  obtain ⟨x, hx⟩ : ∃ x, L[i]? = some x := ⟨_, List.getElem?_eq_getElem hi⟩
  obtain ⟨z, hz⟩ : ∃ z, L[j]? = some z := ⟨_, List.getElem?_eq_getElem hj⟩
  have ax := cr.at_ x (List.mem_of_getElem? hx)
  have az := cr.at_ z (List.mem_of_getElem? hz)
  refine ⟨_, (pss_cons (ps_if (pt_cmpR op_eq (pv 1) (pv 2) (nomark _)) (pss_one (ps_ret pe_non)) pss_nil) (pss_one (ps_ret (pe_fbCE CFB (hr.mono (by decide)) (pa_cons (pe_ix (show IxR _ (rIxT K) from ix_tup) (pv 0) (pv 1) (fun _ _ => rfl)) (pa_cons (pe_ix (show IxR _ (rIxT K) from ix_tup) (pv 0) (pv 2) (fun _ _ => rfl)) pa_nil)) (pk_cons (pv 3) (pk_cons (pe_cmpR op_lt (pv 2) (pv 1) (nomark _)) pk_nil)))))), ?_⟩
  refine ⟨_, rfl, _, rfl, rfl, _, rfl, ?_⟩
  by_cases e : i = j
  · subst e
    refine iteDT rfl (q none H ⟨fun n _ => no_self (parts_at hx) ax.2.sn, fun n z => by cases z⟩ (Same.refl _))
  · refine iteDF (fun z => e (by have := V.int.inj z; omega)) ?_
    refine ⟨_, rfl, _, rfl, t, _, _, _, rfl, rfl, SqT.of ht, atI_nat (refs_ix hx), _, rfl, _, rfl, t, _, _, _, rfl, rfl, SqT.of ht, atI_nat (refs_ix hz), _, rfl, _, rfl, _, rfl, _, _, rfl, rfl, rfl, rfl, ?_⟩
    refine ⟨x.a, z.a, x.nm, x.d, x.p, x.s, z.nm, z.d, z.p, z.s, cnt, decide ((j : Int) < (i : Int)), rfl, two_of ax az, hc, fun r H' le bd sm => q r H' ⟨?_, fun n en => bd n en⟩ sm⟩
    obtain ⟨_, d1, d2, d3⟩ := q_at (parts_at hx)
    obtain ⟨_, d4, d5, d6⟩ := q_at (parts_at hz)
    refine le.congr fun n n0 => ?_
    unfold Blk PBlk fSP
    rw [d1, d2, d3, d4, d5, d6]
    constructor
    · rintro ⟨m, m0, e, pj, o⟩
      exact ⟨m, m0, e, pj, o.imp id fun q => ⟨q.2, by have := of_decide_eq_true q.1; omega⟩⟩
    · rintro ⟨m, m0, e, pj, o⟩
      exact ⟨m, m0, e, pj, o.imp id fun q => ⟨decide_eq_true (by omega), q.1⟩⟩
end
/-! ### the lambda -/
abbrev s__rows_of : Stmt := (topS 39)
abbrev N_sc__rows_of : List Str := ["fence", "painters"]
abbrev P__rows_of : List Str := ["fence"]
theorem sc__rows_of : FnScope N_sc__rows_of P__rows_of (defScope s__rows_of) := ⟨rfl, rfl, rfl, by decide +kernel, rfl, by decide +kernel, by decide +kernel⟩
def lamP : Expr → Arguments
  | .Lambda p _ _ _ => p
  | _ => default
def lamB : Expr → Expr
  | .Lambda _ b _ _ => b
  | e => e
def lamS : Expr → Scope
  | .Lambda _ _ s _ => s
  | _ => { kind := .function, names := [], isGenerator := false, isCoroutine := false }
def argLast : Expr → Expr
  | .Call _ es _ _ => es.getLast?.getD (.Constant .none 0 ⟨0, 0, 0, 0⟩)
  | e => e
def retE : List Stmt → Expr
  | [_, .Return (some e) _] => argLast e
  | _ => .Constant .none 0 ⟨0, 0, 0, 0⟩
/-- the lambda of _rows_of -/
abbrev rLam : Expr := retE (defBody s__rows_of)
def isRL (F : LF) : Prop := F.params = lamP rLam ∧ F.body = lamB rLam ∧ F.scope = lamS rLam
abbrev N_rl : List Str := ["place", "other", "count", "painters"]
abbrev P_rl : List Str := ["place", "other", "count"]
theorem rl_scope : NdefX.NScope N_rl P_rl ["painters"] (lamS rLam) := NdefX.nscope_by (by decide +kernel)
/-- block(place, other, count), by the lambda that stands at f -/
def spBlk (C f : Addr) : Sp := fun vs H Q _ => ∃ (F : LF) (cp : Addr) (oc : Obj) (t : Addr) (L : List Pt) (i j : Nat) (cnt : Option Int), isRL F ∧ LamH H f F "painters" cp oc (.ref t) ∧ vs = [.int (i : Int), .int (j : Int), optV cnt] ∧ H t = some (.tup (refsOf L)) ∧ Crew C H L ∧ i < L.length ∧ j < L.length ∧
  (∀ c, cnt = some c → 0 ≤ c ∧ c ≤ 10 ^ 80) ∧ ∀ r H', PairB (dQ (partsOf L)) (fSP (partsOf L)) i j cnt r → Same H H' → Q (optV r) H'
theorem Crew.del {C c : Addr} {H : Hp} {L : List Pt} {oc : Obj} {x : HO} (h : Crew C H L) (hc : H c = some (.frz oc x)) : Crew C (del H c) L :=
  ⟨fun y hy => let ⟨⟨dx, e⟩, z⟩ := h.at_ y hy; ⟨⟨dx, by rw [del_ne (ne_of e hc (by intro z; cases z))]; exact e⟩, z⟩, h.nd, h.few⟩
def spRL (C : Addr) : V → Sp := fun v vs H Q _ => ∃ (t : Addr) (L : List Pt) (i j : Nat) (cnt : Option Int), v = .ref t ∧ vs = [.int (i : Int), .int (j : Int), optV cnt] ∧ H t = some (.tup (refsOf L)) ∧ Crew C H L ∧ i < L.length ∧ j < L.length ∧
  (∀ c, cnt = some c → 0 ≤ c ∧ c ≤ 10 ^ 80) ∧ ∀ r H', PairB (dQ (partsOf L)) (fSP (partsOf L)) i j cnt r → Same H H' → Q (optV r) H'
section
variable {P : Program} {w : World} {K : PySem.W.Frag} {mg : Str → Option Value} {base : Heap} {C : Addr}
theorem ok_rl (CBk : Cal P w K mg base 8 "_block" P__block (spBlock C)) (f : Addr) : LOk P w K mg base 10 3 f (spBlk C f) := by
  have one : ∀ F : LF, isRL F → LOk P w K mg base 10 3 f (spLam f F "painters" (spRL C)) := by
    rintro ⟨q, pa, b, sc, cl, c⟩ ⟨e1, e2, e3⟩
    simp only at e1 e2 e3
    subst e1 e2 e3
    refine lok_of (N := N_rl) (ps := P_rl) (k := 9) rl_scope (fun pm ctv us hl => match us, hl with | [_, _, _], _ => rfl) (fun v vs H Q E h => ?_) fun A outer s H v vs Q E hr h => ?_
    · obtain ⟨_, _, _, _, _, _, rfl, _⟩ := h
      rfl
    obtain ⟨t, L, i, j, cnt, rfl, rfl, ht, cr, hi, hj, hc, q⟩ := h
    refine ⟨_, show PE _ (lamB rLam) _ from pe_cal CBk (hr.mono (by decide)) (pa_cons (pv 3) (pa_cons (pv 0) (pa_cons (pv 1) (pa_cons (pv 2) pa_nil)))), ?_⟩
    exact ⟨_, rfl, _, rfl, _, rfl, _, rfl, t, L, i, j, cnt, rfl, ht, cr, hi, hj, hc, q⟩
  refine ⟨fun vs H Q E h => ?_, fun A outer s H us vs Q hr e0 r h => ?_⟩
  · obtain ⟨_, _, _, _, _, _, _, _, _, _, rfl, _⟩ := h
    rfl
  obtain ⟨F, cp, oc, t, L, i, j, cnt, rl, lh, rfl, ht, cr, hi, hj, hc, q⟩ := h
  have hcp := lh.2.2.2
  refine (one F rl).run A outer s H us _ Q hr e0 r ⟨cp, oc, .ref t, lh, t, L, i, j, cnt, rfl, rfl, ?_, cr.del hcp, hi, hj, hc, fun r H' pb sm => q r _ pb (same_del hcp sm)⟩
  rw [del_ne (ne_of ht hcp (by intro z; cases z))]
  exact ht
end
end Ur
/-! HB: histories: _earliest_block. -/
namespace Ur
open PySem PySem.Spec PyProof.Rows L2
/-- the numbers of first blocks, by rows -/
def Rm (Rs : List (List (Option Int))) (i j : Nat) : Option Int := match Rs[i]? with | some r => (match r[j]? with | some x => x | none => none) | none => none
theorem Rm_at {Rs : List (List (Option Int))} {i j : Nat} {r : List (Option Int)} {x : Option Int} (h : Rs[i]? = some r) (g : r[j]? = some x) : Rm Rs i j = x := by
  unfold Rm
  rw [h]
  show (match r[j]? with | some x => x | none => none) = x
  rw [g]
structure MatAt (N : Nat) (H : Hp) (as : List Addr) (Rs : List (List (Option Int))) : Prop where
  al : as.length = N
  rl : Rs.length = N
  nd : as.Nodup
  row : ∀ (i : Nat) (a : Addr) (r : List (Option Int)), as[i]? = some a → Rs[i]? = some r → H a = some (.lst (r.map optV)) ∧ r.length = N
theorem MatAt.same {N : Nat} {H H' : Hp} {as : List Addr} {Rs : List (List (Option Int))} (h : MatAt N H as Rs) (s : Same H H') : MatAt N H' as Rs := ⟨h.al, h.rl, h.nd, fun i a r e1 e2 => ⟨s _ _ (h.row i a r e1 e2).1, (h.row i a r e1 e2).2⟩⟩
/-- the dict tells who is known to stop -/
def Known (kvs : List (Key × V)) (N : Nat) (Cn : Nat → Option Int) : Prop := ∀ i, i < N → (valV kvs (Sum.inl (i : Int) : Key)).isSome = (Cn i).isSome
/-- the entries of a part of the pairs -/
structure Ent (d : Nat → Int) (Cn : Nat → Option Int) (Rs : List (List (Option Int))) (S : Nat → Nat → Prop) (ks : List (List Int)) : Prop where
  snd : ∀ e ∈ ks, ∃ (k l : Nat) (x : Int), S k l ∧ Cn k = none ∧ Rm Rs k l = some x ∧ e = [d k + x, (k : Int), x, (l : Int)]
  cpl : ∀ (k l : Nat) (x : Int), S k l → Cn k = none → Rm Rs k l = some x → [d k + x, (k : Int), x, (l : Int)] ∈ ks
theorem Ent.imp {d : Nat → Int} {Cn : Nat → Option Int} {Rs : List (List (Option Int))} {S S' : Nat → Nat → Prop} {ks : List (List Int)} (h : Ent d Cn Rs S ks) (f : ∀ k l, S k l → S' k l) (g : ∀ k l, S' k l → S k l ∨ Cn k ≠ none ∨ Rm Rs k l = none) : Ent d Cn Rs S' ks :=
  ⟨fun e he => let ⟨k, l, x, a, b⟩ := h.snd e he; ⟨k, l, x, f k l a, b⟩, fun k l x s c e => by
    rcases g k l s with z | z | z
    · exact h.cpl k l x z c e
    · exact absurd c z
    · rw [z] at e
      cases e⟩
theorem Ent.snoc {d : Nat → Int} {Cn : Nat → Option Int} {Rs : List (List (Option Int))} {S S' : Nat → Nat → Prop} {ks : List (List Int)} {i j : Nat} {c : Int} (h : Ent d Cn Rs S ks) (ni : Cn i = none) (e : Rm Rs i j = some c) (s : S' i j) (f : ∀ k l, S k l → S' k l) (g : ∀ k l, S' k l → S k l ∨ k = i ∧ l = j) : Ent d Cn Rs S' (ks ++ [[d i + c, (i : Int), c, (j : Int)]]) :=
  ⟨fun z hz => by
    rcases List.mem_append.mp hz with hz | hz
    · obtain ⟨k, l, x, a, b⟩ := h.snd z hz
      exact ⟨k, l, x, f k l a, b⟩
    · obtain rfl := List.mem_singleton.mp hz
      exact ⟨i, j, c, s, ni, e, rfl⟩, fun k l x sk nk ek => by
    rcases g k l sk with z | ⟨rfl, rfl⟩
    · exact List.mem_append_left _ (h.cpl k l x z nk ek)
    · rw [e] at ek
      obtain rfl := Option.some.inj ek
      exact List.mem_append_right _ List.mem_cons_self⟩
theorem TupsI.same {H H' : Hp} {xs : List V} {ks : List (List Int)} (h : TupsI H xs ks) (s : Same H H') : TupsI H' xs ks := Paired.mapP h fun x k ⟨t, e, ht⟩ => ⟨t, e, s _ _ ht⟩
theorem paired_snoc {α β : Type} {F : α → β → Prop} : ∀ {xs : List α} {ys : List β} {x : α} {y : β}, Paired F xs ys → F x y → Paired F (xs ++ [x]) (ys ++ [y])
  | _, _, _, _, .nil, h => .cons h .nil
  | _, _, _, _, .cons r t, h => .cons r (paired_snoc t h)
theorem TupsI.updL {H : Hp} {D : Addr} {xs ys zs : List V} {ks : List (List Int)} (h : TupsI H xs ks) (hD : H D = some (.lst ys)) : TupsI (upd H D (.lst zs)) xs ks := Paired.mapP h fun x k ⟨t, e, ht⟩ => ⟨t, e, by rw [upd_ne (ne_of ht hD (by intro z; cases z))]; exact ht⟩
abbrev s__earliest_block : Stmt := (topS 4)
abbrev N_sc__earliest_block : List Str := ["painters", "blocks", "stopped", "found", "place", "row", "other", "count"]
abbrev P__earliest_block : List Str := ["painters", "blocks", "stopped"]
theorem sc__earliest_block : FnScope N_sc__earliest_block P__earliest_block (defScope s__earliest_block) := ⟨rfl, rfl, rfl, by decide +kernel, rfl, by decide +kernel, by decide +kernel⟩
/-- what the first block of all is -/
def FirstB (N : Nat) (d : Nat → Int) (Cn : Nat → Option Int) (R : Nat → Nat → Option Int) (v : V) (H : Hp) : Prop :=
  (v = .non ∧ ∀ k l, k < N → l < N → Cn k = none → R k l = none) ∨ ∃ (r : Addr) (i j : Nat) (c : Int), v = .ref r ∧ H r = some (.tup [.int (d i + c), .int (i : Int), .int c, .int (j : Int)]) ∧ i < N ∧ j < N ∧ Cn i = none ∧ R i j = some c ∧
    ∀ k l x, k < N → l < N → Cn k = none → R k l = some x → ¬ KLt (kOf d k x) (kOf d i c)
def spEB (C : Addr) : Sp := fun vs H Q _ => ∃ (t bl sd : Addr) (L : List Pt) (as : List Addr) (Rs : List (List (Option Int))) (kvs : List (Key × V)) (Cn : Nat → Option Int), vs = [.ref t, .ref bl, .ref sd] ∧ H t = some (.tup (refsOf L)) ∧ Crew C H L ∧ H bl = some (.lst (as.map V.ref)) ∧ MatAt L.length H as Rs ∧
  H sd = some (.dK kvs) ∧ Known kvs L.length Cn ∧ ∀ v H', Same H H' → FirstB L.length (dQ (partsOf L)) Cn (Rm Rs) v H' → Q v H'
section
variable {P : Program} {w : World} {K : PySem.W.Frag} {mg : Str → Option Value} {base : Heap} {C : Addr}
set_option maxHeartbeats 16000000 in
theorem ok_eb (D : Dfn K mg "_earliest_block" s__earliest_block P__earliest_block) (B : Blt mg) (hEn : mg "enumerate" = none) (T : PTxt K mg C) (hDay : PropS P w K mg base C "day" 1 (getSp C "_day")) : Cal P w K mg base 3 "_earliest_block" P__earliest_block (spEB C) := by
  refine D.cal sc__earliest_block (fun vs H Q E h => ?_) fun f cdv A outer s H vs Q E hr h => ?_
  · obtain ⟨t, bl, sd, _, _, _, _, _, rfl, _⟩ := h
    rfl
  obtain ⟨t, bl, sd, L, as, Rs, kvs, Cn, rfl, ht, cr, hbl, M, hsd, kn, q⟩ := h
  have hu := hu_of hr
  have hu64 := hr.units
  have few := cr.few
  refine ⟨_, (pss_cons (ps_setLc2 (i := 3) (own := [("place", 4), ("row", 5), ("other", 6), ("count", 7)]) (vs1 := [6, 7]) (g := gTup K 2 (gCons (gName 4) (gCons (gName 5) gNil))) (g1 := gTup K 2 (gCons (gName 6) (gCons (gName 7) gNil))) rfl sc__earliest_block.nd rfl rfl (sw_true rfl rfl rfl (by decide +kernel)) (pi_enum rfl hEn (pa_cons (pv 1) pa_nil)) (blkOk_by (N := N_sc__earliest_block) (sc := defScope s__earliest_block) (by decide +kernel)) (by decide) (fun _ _ _ _ _ => pg_tup rfl (pgs_cons (pg_name (i := 4) sc__earliest_block.nd rfl (Or.inl rfl)) (pgs_cons (pg_name (i := 5) sc__earliest_block.nd rfl (Or.inl rfl)) pgs_nil))) (fun _ _ _ _ _ => pts_one (pt_cmp (pc_dnotin hu (pv 4) (pv 2)))) (fun _ _ _ _ _ => (show PI _ _ _ (iEnum K (tCons (tVar 5) tNil)) from pi_enum rfl hEn (pa_cons (pv 5) pa_nil))) (fun _ _ _ _ _ => pg_tup rfl (pgs_cons (pg_name (i := 6) sc__earliest_block.nd rfl (Or.inl rfl)) (pgs_cons (pg_name (i := 7) sc__earliest_block.nd rfl (Or.inl rfl)) pgs_nil))) (fun _ _ _ _ _ => pts_one (pt_cmpR op_notN (pv 7) pe_non (nomark _))) (fun _ _ _ _ _ => pe_tup (pa_cons (pe_op op_add (pe_prS (pe_ix (show IxR _ (rIxT K) from ix_tup) (pv 0) (pv 4) (fun _ _ => rfl)) T.cl hDay (hr.mono (by decide))) (pv 7)) (pa_cons (pv 4) (pa_cons (pv 7) (pa_cons (pv 6) pa_nil)))))) (pss_one (ps_ret (pe_callBK (cr_minTD rfl hu64) rfl B.min_ (by decide +kernel) (pa_cons (pv 3) pa_nil) (pk_cons pe_non pk_nil))))), ?_⟩
  have al : (as.map V.ref).length = L.length := by rw [List.length_map, M.al]
  refine ⟨_, rfl, bl, _, rfl, SqL.of hbl, fun D nD => ?_⟩
  refine gen_it walk_enum (fun i H1 => ∃ (xs : List V) (ks : List (List Int)), H1 D = some (.lst xs) ∧ TupsI H1 xs ks ∧ Ent (dQ (partsOf L)) Cn Rs (fun k l => k < i ∧ l < L.length) ks ∧ xs.length ≤ 40 * i ∧ Same H H1) ⟨[], [], upd_same, .nil, ⟨(fun e h => nomatch h), fun k l x s => by omega⟩, Nat.zero_le _, same_new nD _⟩ (fun i H1 _ ⟨_, _, _, _, _, _, s1⟩ => SqL.of (s1 _ _ hbl)) ?_ ?_
  · rintro i v H1 H2 hi ⟨xs, ks, hD1, tu, en, lx, s1⟩ ⟨T0, y1, y2, rfl, hT, rfl, e1, e2⟩
    obtain rfl := Option.some.inj e1
    obtain ⟨a, ha, rfl⟩ := map_get e2
    have hiN : i < L.length := by rw [← al]; exact hi
    obtain ⟨r, hR⟩ : ∃ r, Rs[i]? = some r := ⟨_, List.getElem?_eq_getElem (by rw [M.rl]; exact hiN)⟩
    obtain ⟨x, hx⟩ : ∃ x, L[i]? = some x := ⟨_, List.getElem?_eq_getElem hiN⟩
    obtain ⟨hrow, rlen⟩ := M.row i a r ha hR
    have sT := same_new hT (.tup [V.int (i : Int), V.ref a])
    have s2 := s1.trans sT
    have hD2 := sT _ _ hD1
    refine ⟨T0, _, rfl, .inl (.inl upd_same), rfl, _, _, rfl, _, _, rfl, rfl, ?_⟩
    refine ⟨rfl, _, rfl, _, rfl, sd, _, rfl, DGet.k (k := (Sum.inl (i : Int) : Key)) (s2 _ _ hsd), _, rfl, ?_⟩
    have kni := kn i hiN
    cases ec : Cn i with
    | some c =>
      rw [ec] at kni
      cases ev : valV kvs (Sum.inl (i : Int) : Key) with
      | none => rw [ev] at kni; cases kni
      | some z =>
        refine iteF ?_
        refine ⟨xs, ks, hD2, tu.same sT, en.imp (fun k l h => ⟨by omega, h.2⟩) (fun k l h => ?_), by omega, s2⟩
        by_cases e : k = i
        · exact .inr (.inl (by rw [e, ec]; intro z; cases z))
        · exact .inl ⟨by omega, h.2⟩
    | none =>
      rw [ec] at kni
      cases ev : valV kvs (Sum.inl (i : Int) : Key) with
      | some z => rw [ev] at kni; cases kni
      | none =>
        refine iteT ?_
        have hrow2 := s2 _ _ hrow
        have rl : (r.map optV).length = L.length := by rw [List.length_map, rlen]
        refine ⟨_, rfl, a, _, rfl, SqL.of hrow2, ?_⟩
        refine gen_it walk_enum (fun j H3 => ∃ (xs : List V) (ks : List (List Int)), H3 D = some (.lst xs) ∧ TupsI H3 xs ks ∧ Ent (dQ (partsOf L)) Cn Rs (fun k l => (k < i ∧ l < L.length) ∨ k = i ∧ l < j) ks ∧ xs.length ≤ 40 * i + j ∧ Same H H3) ⟨xs, ks, hD2, tu.same sT, en.imp (fun k l h => .inl h) (fun k l h => by
          rcases h with h | h
          · exact .inl h
          · omega), by omega, s2⟩ (fun j H3 _ ⟨_, _, _, _, _, _, s3⟩ => SqL.of (s3 _ _ hrow)) ?_ ?_
        · rintro j v H3 H4 hj ⟨xs, ks, hD3, tu, en, lx, s3⟩ ⟨T1, z1, z2, rfl, hT1, rfl, e3, e4⟩
          obtain rfl := Option.some.inj e3
          obtain ⟨ro, hro, rfl⟩ := map_get e4
          have hjN : j < L.length := by rw [← rl]; exact hj
          have eR := Rm_at hR hro
          have sT1 := same_new hT1 (.tup [V.int (j : Int), optV ro])
          have s4 := s3.trans sT1
          refine ⟨T1, _, rfl, .inl (.inl upd_same), rfl, _, _, rfl, _, _, rfl, rfl, ?_⟩
          refine ⟨rfl, _, rfl, rfl, _, rfl, ?_⟩
          cases ro with
          | none =>
            refine iteNS rfl ?_
            refine ⟨xs, ks, sT1 _ _ hD3, tu.same sT1, en.imp (fun k l h => h.imp id fun h => ⟨h.1, by omega⟩) (fun k l h => ?_), by omega, s4⟩
            rcases h with h | h
            · exact .inl (.inl h)
            · by_cases e : l = j
              · exact .inr (.inr (by rw [h.1, e]; exact eR))
              · exact .inl (.inr ⟨h.1, by omega⟩)
          | some c =>
            refine iteNN (fun z => by cases z) ?_
            have ax := (cr.at_ x (List.mem_of_getElem? hx)).same s4
            obtain ⟨dx, edx⟩ := id ax.1
            refine ⟨_, rfl, _, rfl, t, _, _, _, rfl, rfl, SqT.of (s4 _ _ ht), atI_nat (refs_ix hx), x.a, dx, _, rfl, edx, x.a, dx, _, _, rfl, edx, pfs_day _ _ _ _, _, rfl, _, _, rfl, rfl, _, rfl, _, rfl, _, rfl, (by show 4 ≤ sizeLine; decide), fun t4 ht4 => ?_⟩
            have sT4 := same_new ht4 (.tup [V.int (x.d + c), V.int (i : Int), V.int c, V.int (j : Int)])
            have hD5 := sT4 _ _ (sT1 _ _ hD3)
            have ed := (q_at (parts_at hx)).2.1
            have en2 := en.snoc (S' := fun k l => (k < i ∧ l < L.length) ∨ k = i ∧ l < j + 1) ec eR (.inr ⟨rfl, by omega⟩) (fun k l h => h.imp id fun h => ⟨h.1, by omega⟩) (fun k l h => by
              rcases h with h | h
              · exact .inl (.inl h)
              · by_cases e : l = j
                · exact .inr ⟨h.1, e⟩
                · exact .inl (.inr ⟨h.1, by omega⟩))
            refine ⟨xs, hD5, Nat.lt_of_le_of_lt (show xs.length ≤ 1640 by omega) (by decide), xs ++ [.ref t4], _, upd_same, paired_snoc ((tu.same (sT1.trans sT4)).updL hD5) ⟨t4, rfl, ?_⟩, en2, by rw [List.length_append]; show xs.length + 1 ≤ _; omega, sameAt (s4.trans sT4) nD⟩
            rw [upd_ne (ne_of upd_same hD5 (by intro z; cases z)), upd_same, ed]
            rfl
        · rintro H3 ⟨xs, ks, hD3, tu, en, lx, s3⟩
          rw [rl] at en lx
          refine ⟨xs, ks, hD3, tu, en.imp (fun k l h => ?_) (fun k l h => ?_), by omega, s3⟩
          · rcases h with h | h
            · exact ⟨by omega, h.2⟩
            · exact ⟨by omega, h.2⟩
          · by_cases e : k = i
            · exact .inl (.inr ⟨e, h.2⟩)
            · exact .inl (.inl ⟨by omega, h.2⟩)
  · rintro H1 ⟨xs, ks, hD1, tu, en, lx, s1⟩
    rw [al] at en
    refine ⟨_, rfl, D, xs, ks, .non, rfl, rfl, SqL.of hD1, tu, fun e => q _ _ s1 (.inl ⟨rfl, fun k l hk hl nk => ?_⟩), fun v k lt => ?_⟩
    · subst e
      cases tu
      cases er : Rm Rs k l with
      | none => rfl
      | some x => exact nomatch en.cpl k l x ⟨hk, hl⟩ nk er
    · obtain ⟨⟨n, hx, hk⟩, least⟩ := lt
      obtain ⟨k2, hk2, t4, rfl, ht4⟩ := paired_get tu hx
      rw [hk] at hk2
      obtain rfl := Option.some.inj hk2
      obtain ⟨i, j, c, ⟨hi, hj⟩, ni, er, rfl⟩ := en.snd k (List.mem_of_getElem? hk)
      refine q _ _ s1 (.inr ⟨t4, i, j, c, rfl, ht4, hi, hj, ni, er, fun k l x hk hl nk ek z => ?_⟩)
      have lf := least _ (en.cpl k l x ⟨hk, hl⟩ nk ek)
      have : ltL [dQ (partsOf L) k + x, (k : Int), x, (l : Int)] [dQ (partsOf L) i + c, (i : Int), c, (j : Int)] = true := by
        rw [ltL_cons]
        rcases z with z | ⟨z1, z2⟩
        · exact .inl z
        · refine .inr ⟨z1, ?_⟩
          rw [ltL_cons]
          exact .inl (by have : k < i := z2; omega)
      rw [this] at lf
      cases lf
end
end Ur
/-! HC: histories: _find_stopped. -/
namespace Ur
open PySem PySem.Spec PyProof.Rows L2
theorem ixN_at {n j : Nat} (hj : j < n) : ixN n (j : Int) = some j := by
  unfold ixN
  rw [if_pos (by omega), if_pos (by omega)]
  simp
theorem Rm_set {Rs : List (List (Option Int))} {o p : Nat} {r : List (Option Int)} {v : Option Int} (h : Rs[o]? = some r) (hp : p < r.length) (i l : Nat) : Rm (Rs.set o (r.set p v)) i l = if i = o ∧ l = p then v else Rm Rs i l := by
  have ho : o < Rs.length := (List.getElem?_eq_some_iff.mp h).1
  by_cases e : i = o
  · subst e
    have e1 : (Rs.set i (r.set p v))[i]? = some (r.set p v) := by rw [List.getElem?_set_self ho]
    by_cases e2 : l = p
    · subst e2
      rw [if_pos ⟨rfl, rfl⟩]
      exact Rm_at e1 (by rw [List.getElem?_set_self hp])
    · rw [if_neg (fun z => e2 z.2)]
      unfold Rm
      rw [e1, h]
      show (match (r.set p v)[l]? with | some x => x | none => none) = (match r[l]? with | some x => x | none => none)
      rw [List.getElem?_set_ne (fun z => e2 z.symm)]
  · rw [if_neg (fun z => e z.1)]
    unfold Rm
    rw [List.getElem?_set_ne (fun z => e z.symm)]
theorem MatAt.set {N : Nat} {H : Hp} {as : List Addr} {Rs : List (List (Option Int))} {o p : Nat} {a : Addr} {r : List (Option Int)} {v : Option Int} (h : MatAt N H as Rs) (ha : as[o]? = some a) (hr : Rs[o]? = some r) : MatAt N (upd H a (.lst ((r.map optV).set p (optV v)))) as (Rs.set o (r.set p v)) := by
  have ho : o < Rs.length := (List.getElem?_eq_some_iff.mp hr).1
  refine ⟨h.al, by rw [List.length_set]; exact h.rl, h.nd, fun i b x e1 e2 => ?_⟩
  by_cases e : i = o
  · subst e
    rw [ha] at e1
    obtain rfl := Option.some.inj e1
    rw [List.getElem?_set_self ho] at e2
    obtain rfl := Option.some.inj e2
    rw [upd_same, List.map_set]
    exact ⟨rfl, by rw [List.length_set]; exact (h.row i a r ha hr).2⟩
  · rw [List.getElem?_set_ne (fun z => e z.symm)] at e2
    have ne : b ≠ a := fun z => by
      subst z
      have h1 := (List.getElem?_eq_some_iff.mp e1)
      have h2 := (List.getElem?_eq_some_iff.mp ha)
      exact e ((List.getElem_inj h.nd).mp (h1.2.trans h2.2.symm))
    rw [upd_ne ne]
    exact h.row i b x e1 e2
/-- the dict of those who stop: their counts, their blockers -/
def StopD (H : Hp) (kvs : List (Key × V)) (N : Nat) (Cn : Nat → Option Int) (Bn : Nat → Nat) : Prop := ∀ i, i < N → (Cn i = none ∧ valV kvs (Sum.inl (i : Int) : Key) = none) ∨ ∃ c a, Cn i = some c ∧ valV kvs (Sum.inl (i : Int) : Key) = some (.ref a) ∧ H a = some (.tup [.int c, .int (Bn i : Int)])
theorem StopD.known {H : Hp} {kvs : List (Key × V)} {N : Nat} {Cn : Nat → Option Int} {Bn : Nat → Nat} (h : StopD H kvs N Cn Bn) : Known kvs N Cn := fun i hi => by
  rcases h i hi with ⟨e1, e2⟩ | ⟨c, a, e1, e2, _⟩
  · rw [e1, e2]
    rfl
  · rw [e1, e2]
    rfl
theorem StopD.same {H H' : Hp} {kvs : List (Key × V)} {N : Nat} {Cn : Nat → Option Int} {Bn : Nat → Nat} (h : StopD H kvs N Cn Bn) (s : Same H H') : StopD H' kvs N Cn Bn := fun i hi => (h i hi).imp id fun ⟨c, a, e1, e2, e3⟩ => ⟨c, a, e1, e2, s _ _ e3⟩
theorem StopD.upd {H : Hp} {kvs : List (Key × V)} {N : Nat} {Cn : Nat → Option Int} {Bn : Nat → Nat} {b : Addr} {o o' : HO} (h : StopD H kvs N Cn Bn) (hb : H b = some o) (nt : ∀ xs, o ≠ .tup xs) : StopD (upd H b o') kvs N Cn Bn := fun i hi => (h i hi).imp id fun ⟨c, a, e1, e2, e3⟩ => ⟨c, a, e1, e2, by rw [upd_ne (ne_of e3 hb (fun z => nt _ z.symm))]; exact e3⟩
theorem StopD.put {H : Hp} {kvs : List (Key × V)} {N : Nat} {Cn : Nat → Option Int} {Bn : Nat → Nat} {i j : Nat} {c : Int} {a : Addr} (h : StopD H kvs N Cn Bn) (ha : H a = some (.tup [.int c, .int (j : Int)])) : StopD H (putK kvs (Sum.inl (i : Int)) (.ref a)) N (putC Cn i c) (putB Bn i j) := fun k hk => by
  rw [valV_put]
  by_cases e : k = i
  · subst e
    rw [putC_at, putB_at, if_pos rfl]
    exact .inr ⟨c, a, rfl, rfl, ha⟩
  · rw [putC_ne e, putB_ne e, if_neg (fun z => e (by have := Sum.inl.inj z; omega))]
    exact h k hk
/-- the counts and the blockers of a history, within bounds -/
structure HistC (N : Nat) (d : Nat → Int) (SP : SPt) (Cn : Nat → Option Int) (Bn : Nat → Nat) : Prop where
  is : IsHist N d SP Cn
  bl : Blkr N SP Cn Bn
  bd : ∀ i c, i < N → Cn i = some c → 0 ≤ c ∧ c ≤ 10 ^ 70
/-- what the function block stands on: the heap, its address, the tuple of painters, the painters, the posts -/
abbrev GBl := Hp → Addr → Addr → List Pt → SPt → Prop
def spBk (Gp : GBl) (C f : Addr) : Sp := fun vs H Q _ => ∃ (t : Addr) (L : List Pt) (SP : SPt) (i j : Nat) (cnt : Option Int), Gp H f t L SP ∧ vs = [.int (i : Int), .int (j : Int), optV cnt] ∧ H t = some (.tup (refsOf L)) ∧ Crew C H L ∧ i < L.length ∧ j < L.length ∧ (∀ c, cnt = some c → 0 ≤ c ∧ c ≤ 10 ^ 80) ∧
  ∀ r H', PairB (dQ (partsOf L)) SP i j cnt r → Same H H' → Q (optV r) H'
structure GOk (Gp : GBl) : Prop where
  same : ∀ H H' f t L SP, Same H H' → Gp H f t L SP → Gp H' f t L SP
  lam : ∀ H f t L SP, Gp H f t L SP → ∃ F, H f = some (LamO f F)
abbrev s__find_stopped : Stmt := (topS 3)
abbrev N_sc__find_stopped : List Str := ["painters", "block", "places", "blocks", "two", "one", "stopped", "found", "_", "place", "count", "blocker", "other"]
abbrev P__find_stopped : List Str := ["painters", "block"]
theorem sc__find_stopped : FnScope N_sc__find_stopped P__find_stopped (defScope s__find_stopped) := ⟨rfl, rfl, rfl, by decide +kernel, rfl, by decide +kernel, by decide +kernel⟩
def stE : Stmt → Expr
  | .Assign _ e _ => e
  | _ => .Constant .none 0 ⟨0, 0, 0, 0⟩
def lcSc : Expr → Scope
  | .ListComp _ _ s _ => s
  | _ => { kind := .function, names := [], isGenerator := false, isCoroutine := false }
def nth1 : List Stmt → Stmt
  | _ :: s :: _ => s
  | _ => .Pass ⟨0, 0, 0, 0⟩
abbrev fsSc : Scope := lcSc (stE (nth1 (defBody s__find_stopped)))
def spFS (Gp : GBl) (C : Addr) : Sp := fun vs H Q _ => ∃ (t f : Addr) (L : List Pt) (SP : SPt), vs = [.ref t, .ref f] ∧ H t = some (.tup (refsOf L)) ∧ Crew C H L ∧ Gp H f t L SP ∧
  ∀ sd kvs Cn Bn H', H' sd = some (.dK kvs) → StopD H' kvs L.length Cn Bn → HistC L.length (dQ (partsOf L)) SP Cn Bn → Same H H' → Q (.ref sd) H'
theorem crew_d0 {C : Addr} {H : Hp} {L : List Pt} (cr : Crew C H L) {i : Nat} (hi : i < L.length) : 0 ≤ dQ (partsOf L) i := by
  have hx := List.getElem?_eq_getElem hi
  rw [(q_at (parts_at hx)).2.1]
  exact (cr.at_ _ (List.getElem_mem hi)).2.d0
section
variable {P : Program} {w : World} {K : PySem.W.Frag} {mg : Str → Option Value} {base : Heap} {C : Addr} {Gp : GBl}
set_option maxHeartbeats 16000000 in
theorem ok_fs (hG : GOk Gp) (FnB : ∀ f, LOk P w K mg base 10 3 f (spBk Gp C f)) (D : Dfn K mg "_find_stopped" s__find_stopped P__find_stopped) (B : Blt mg) (CEB : Cal P w K mg base 3 "_earliest_block" P__earliest_block (spEB C)) : Cal P w K mg base 11 "_find_stopped" P__find_stopped (spFS Gp C) := by
  refine D.cal sc__find_stopped (fun vs H Q E h => ?_) fun f cdv A outer s H vs Q E hr h => ?_
  · obtain ⟨t, f, _, _, rfl, _⟩ := h
    rfl
  obtain ⟨t, f, L, SP, rfl, ht, cr, gp, q⟩ := h
  have hu := hu_of hr
  have few := cr.few
  refine ⟨_, (pss_cons (ps_set (i := 2) sc__find_stopped.nd rfl (Or.inr rfl) (pe_rng rfl B.range_ (pa_cons (pe_callB call_len_seq rfl B.len_ PySem.boot_len (pa_cons (pv 0) pa_nil)) pa_nil))) (pss_cons (ps_setLc (i := 3) (own := [("one", 5)]) (g := gName 5) (tt := tYes) rfl sc__find_stopped.nd rfl rfl (sw_true rfl rfl rfl (by decide +kernel)) (pi_rngV (pv 2)) (blkOk_by (N := N_sc__find_stopped) (sc := defScope s__find_stopped) (by decide +kernel)) (fun _ _ _ _ _ => pg_name (i := 5) sc__find_stopped.nd rfl (Or.inr rfl)) (fun _ _ _ _ _ => pts_nil) (fun _ _ _ _ _ => pe_lc (own := [("two", 4)]) (g := gName 4) (tt := tYes) rfl sc__find_stopped.nd (pi_rngV (pv 2)) (blkOk_by (N := N_sc__find_stopped) (sc := relS fsSc (defScope s__find_stopped)) (by decide +kernel)) (fun _ _ _ _ _ => pg_name (i := 4) sc__find_stopped.nd rfl (Or.inl rfl)) (fun _ _ _ _ _ => pts_nil) (fun _ _ _ _ _ => pe_callV (i := 1) FnB (hr.mono (by decide)) (pa_cons (pv 5) (pa_cons (pv 4) (pa_cons pe_non pa_nil)))))) (pss_cons (ps_set (i := 6) sc__find_stopped.nd rfl (Or.inl rfl) pe_dnewK) (pss_one (ps_while PassesOwn.never (pt_val pe_bl) (pss_cons (ps_set (i := 7) sc__find_stopped.nd rfl (Or.inl rfl) (pe_cal CEB (hr.mono (by decide)) (pa_cons (pv 0) (pa_cons (pv 3) (pa_cons (pv 6) pa_nil))))) (pss_cons (ps_if (pt_cmpR op_isN (pv 7) pe_non (nomark _)) (pss_one (ps_ret (pv 6))) pss_nil) (pss_cons (ps_asg (pv 7) (pg_tup rfl (pgs_cons (pg_name (i := 8) sc__find_stopped.nd rfl (Or.inl rfl)) (pgs_cons (pg_name (i := 9) sc__find_stopped.nd rfl (Or.inl rfl)) (pgs_cons (pg_name (i := 10) sc__find_stopped.nd rfl (Or.inl rfl)) (pgs_cons (pg_name (i := 11) sc__find_stopped.nd rfl (Or.inl rfl)) pgs_nil)))))) (pss_cons (ps_dput hu (pv 6) (pv 9) (pe_tup (pa_cons (pv 10) (pa_cons (pv 11) pa_nil))) rfl) (pss_one (ps_for PassesOwn.never rfl (pi_rngV (pv 2)) (pg_name (i := 12) sc__find_stopped.nd rfl (Or.inl rfl)) (pss_one (ps_if (pt_cmp (pc_dnotin hu (pv 12) (pv 6))) (pss_one (ps_asg (pe_callV (i := 1) FnB (hr.mono (by decide)) (pa_cons (pv 12) (pa_cons (pv 9) (pa_cons (pv 10) pa_nil)))) (pg_sub (pe_ix ix_list (pv 3) (pv 12) (fun _ _ => rfl)) (pv 9) set_list))) pss_nil))))))))))))), ?_⟩
  have rlen : (refsOf L).length = L.length := by unfold refsOf; rw [List.length_map]
  refine ⟨_, rfl, t, _, rfl, .inr (SqT.of ht), _, rfl, by omega, by omega, fun r nr => ?_⟩
  rw [rlen]
  have s0 := same_new nr (RngO 0 (L.length : Int) r)
  have toN : ((L.length : Int) - 0).toNat = L.length := by omega
  have call : ∀ (H1 : Hp) (i j : Nat) (cnt : Option Int) (Q1 : VK), Same H H1 → i < L.length → j < L.length → (∀ c, cnt = some c → 0 ≤ c ∧ c ≤ 10 ^ 80) → (∀ r H2, PairB (dQ (partsOf L)) SP i j cnt r → Same H1 H2 → Q1 (optV r) H2) → spBk Gp C f [.int (i : Int), .int (j : Int), optV cnt] H1 Q1 E0 :=
    fun H1 i j cnt Q1 s1 hi hj hc k => ⟨t, L, SP, i, j, cnt, hG.same _ _ _ _ _ _ s1 gp, rfl, s1 _ _ ht, cr.same s1, hi, hj, hc, k⟩
  have lamF : ∀ H1, Same H H1 → ∃ F, H1 f = some (LamO f F) := fun H1 s1 => hG.lam _ _ _ _ _ (hG.same _ _ _ _ _ _ s1 gp)
  have snone : ∀ {H1 H2 : Hp} {a : Addr}, Same H1 H2 → H2 a = none → H1 a = none := fun {H1 H2 a} s n => by
    cases e : H1 a with
    | none => rfl
    | some o => rw [s _ _ e] at n; cases n
  refine ⟨_, rfl, r, 0, (L.length : Int), rfl, upd_same, ⟨by omega, by omega, by omega, by omega⟩, fun bl nbl => ?_⟩
  rw [toN]
  have nbl0 : H bl = none := snone s0 nbl
  refine gen_it walk_range0 (fun i H1 => ∃ (as : List Addr) (Rs : List (List (Option Int))), H1 bl = some (.lst (as.map V.ref)) ∧ H1 r = some (RngO 0 (L.length : Int) r) ∧ as.length = i ∧ Rs.length = i ∧ as.Nodup ∧ bl ∉ as ∧ (∀ a ∈ as, H a = none) ∧
    (∀ (k : Nat) (a : Addr) (x : List (Option Int)), as[k]? = some a → Rs[k]? = some x → H1 a = some (.lst (x.map optV)) ∧ x.length = L.length ∧ ∀ (j : Nat) (y : Option Int), x[j]? = some y → PairB (dQ (partsOf L)) SP k j none y) ∧ Same H H1) ⟨[], [], upd_same, by rw [upd_ne (ne_of_none upd_same nbl)]; exact upd_same, rfl, rfl, List.nodup_nil, List.not_mem_nil, (fun a h => nomatch h), fun k a x e => by simp at e, sameAt s0 nbl0⟩ (fun _ _ _ _ => trivial) ?_ ?_
  · rintro i v H1 H2 hi ⟨as, Rs, hbl, hr1, al, Rl, nd, nb, new, rows, s1⟩ ⟨rfl, rfl⟩
    refine ⟨rfl, _, rfl, r, 0, (L.length : Int), rfl, hr1, ⟨by omega, by omega, by omega, by omega⟩, fun D nD => ?_⟩
    rw [toN]
    refine gen_it walk_range0 (fun j H3 => ∃ xs : List (Option Int), H3 D = some (.lst (xs.map optV)) ∧ xs.length = j ∧ (∀ (j' : Nat) (y : Option Int), xs[j']? = some y → PairB (dQ (partsOf L)) SP i j' none y) ∧ Same H2 H3) ⟨[], upd_same, rfl, fun j' y e => by simp at e, same_new nD _⟩ (fun _ _ _ _ => trivial) ?_ ?_
    · rintro j v H3 H4 hj ⟨xs, hD3, lx, hp, s3⟩ ⟨rfl, rfl⟩
      have s4 := s1.trans s3
      refine ⟨rfl, f, rfl, ⟨_, (lamF _ s4).choose_spec, _, rfl⟩, _, rfl, _, rfl, lamF _ s4, call _ i j none _ s4 hi hj (fun c z => by cases z) fun rr H5 pb s5 => ?_⟩
      refine ⟨xs.map optV, s5 _ _ hD3, by rw [List.length_map]; exact Nat.lt_of_le_of_lt (show xs.length ≤ 40 by omega) (by decide), xs ++ [rr], by rw [upd_same, List.map_append]; rfl, by rw [List.length_append, lx]; rfl, fun j' y e => ?_, sameAt (s3.trans s5) nD⟩
      by_cases c : j' < xs.length
      · rw [List.getElem?_append_left c] at e
        exact hp j' y e
      · rw [List.getElem?_append_right (by omega)] at e
        have e0 : j' - xs.length = 0 := by
          cases q : j' - xs.length with
          | zero => rfl
          | succ n => rw [q] at e; simp at e
        rw [e0] at e
        obtain rfl := Option.some.inj e
        have : j' = j := by omega
        subst this
        exact pb
    · rintro H3 ⟨xs, hD3, lx, hp, s3⟩
      have s4 := s1.trans s3
      have nDb : bl ≠ D := ne_of_none hbl nD
      have nDa : ∀ a ∈ as, a ≠ D := fun a ha => by
        obtain ⟨k, hk⟩ := List.mem_iff_getElem?.mp ha
        obtain ⟨x, hx⟩ : ∃ x, Rs[k]? = some x := ⟨_, List.getElem?_eq_getElem (by have := (List.getElem?_eq_some_iff.mp hk).1; omega)⟩
        exact ne_of_none (rows k a x hk hx).1 nD
      have hbl3 := s3 _ _ hbl
      refine ⟨as.map V.ref, hbl3, by rw [List.length_map]; exact Nat.lt_of_le_of_lt (show as.length ≤ 40 by omega) (by decide), as ++ [D], Rs ++ [xs], by rw [upd_same, List.map_append]; rfl, by rw [upd_ne (ne_of (s3 _ _ hr1) hbl3 (by intro z; unfold RngO at z; cases z))]; exact s3 _ _ hr1, by rw [List.length_append, al]; rfl, by rw [List.length_append, Rl]; rfl, ?_, ?_, ?_, ?_, sameAt s4 nbl0⟩
      · rw [List.nodup_append]
        exact ⟨nd, by simp, fun a ha b hb => by rw [List.mem_singleton.mp hb]; exact nDa a ha⟩
      · intro z
        rcases List.mem_append.mp z with z | z
        · exact nb z
        · exact nDb (List.mem_singleton.mp z)
      · intro a ha
        rcases List.mem_append.mp ha with ha | ha
        · exact new a ha
        · rw [List.mem_singleton.mp ha]
          exact snone s1 nD
      · intro k a x e1 e2
        by_cases c : k < i
        · rw [List.getElem?_append_left (by omega)] at e1 e2
          obtain ⟨g1, g2, g3⟩ := rows k a x e1 e2
          exact ⟨by rw [upd_ne (fun z => nb (by rw [← z]; exact List.mem_of_getElem? e1))]; exact s3 _ _ g1, g2, g3⟩
        · rw [List.getElem?_append_right (by omega)] at e1 e2
          have e0 : k - as.length = 0 := by
            cases q : k - as.length with
            | zero => rfl
            | succ n => rw [q] at e1; simp at e1
          rw [e0] at e1
          rw [show k - Rs.length = 0 by omega] at e2
          obtain rfl := Option.some.inj e1
          obtain rfl := Option.some.inj e2
          have : k = i := by omega
          subst this
          exact ⟨by rw [upd_ne nDb.symm]; exact hD3, lx, hp⟩
  · rintro H1 ⟨as, Rs, hbl, hr1, al, Rl, nd, nb, new, rows, s1⟩
    have M1 : MatAt L.length H1 as Rs := ⟨al, Rl, nd, fun i a x e1 e2 => ⟨(rows i a x e1 e2).1, (rows i a x e1 e2).2.1⟩⟩
    have pair0 : ∀ i j, i < L.length → j < L.length → PairB (dQ (partsOf L)) SP i j none (Rm Rs i j) := fun i j hi hj => by
      have e2 : Rs[i]? = some Rs[i] := List.getElem?_eq_getElem (by omega)
      obtain ⟨g1, g2, g3⟩ := rows i as[i] Rs[i] (List.getElem?_eq_getElem (by omega)) e2
      have e3 : (Rs[i])[j]? = some (Rs[i])[j] := List.getElem?_eq_getElem (by omega)
      rw [Rm_at e2 e3]
      exact g3 j _ e3
    refine fun sd nsd => ?_
    have nsd0 : H sd = none := snone s1 nsd
    have s2 := same_new nsd (.dK [])
    refine while_ex (fun m σ H2 => ∃ (kvs : List (Key × V)) (Cn : Nat → Option Int) (Bn : Nat → Nat) (Rs : List (List (Option Int))) (Kk : Int × Nat) (o4 o5 o7 o8 o9 o10 o11 o12 : Option V), σ = [some (.ref t), some (.ref f), some (.ref r), some (.ref bl), o4, o5, some (.ref sd), o7, o8, o9, o10, o11, o12] ∧ m = openN L.length Cn ∧ kvs.length + m ≤ L.length ∧
      H2 sd = some (.dK kvs) ∧ StopD H2 kvs L.length Cn Bn ∧ H2 bl = some (.lst (as.map V.ref)) ∧ H2 r = some (RngO 0 (L.length : Int) r) ∧ MatAt L.length H2 as Rs ∧ PairsOk L.length (dQ (partsOf L)) SP Cn (Rm Rs) ∧ (∀ i j x, i < L.length → j < L.length → Rm Rs i j = some x → x ≤ 10 ^ 70) ∧ Part L.length (dQ (partsOf L)) SP Cn Bn Kk ∧
      (∀ i c, i < L.length → Cn i = some c → 0 ≤ c ∧ c ≤ 10 ^ 70) ∧ Same H H2) (openN L.length fun _ => none) ⟨[], fun _ => none, fun _ => 0, Rs, (0, 0), _, _, _, _, _, _, _, _, rfl, rfl, ?_, upd_same, fun i hi => .inl ⟨rfl, rfl⟩, s2 _ _ hbl, s2 _ _ hr1, M1.same s2, fun i j hi hj _ => (pair0 i j hi hj).1, ?_, ?_, (fun i c _ z => by cases z), sameAt s1 nsd0⟩ ?_ (fun σ H Q Q' k h => h.elim fun b hb => ⟨b, hb.1, k _ _ hb.2⟩)
    · have le : openN L.length (fun _ => none) ≤ L.length := by
        unfold openN
        exact Nat.le_trans (List.length_filter_le _ _) (Nat.le_of_eq List.length_range)
      show 0 + openN L.length (fun _ => none) ≤ L.length
      omega
    · exact fun i j x hi hj e => (pair0 i j hi hj).2 x e
    · refine Part.start fun i n hi n0 z => ?_
      have := crew_d0 cr hi
      unfold KLt at z
      simp only [kOf] at z
      omega
    rintro m σ H2 ⟨kvs, Cn, Bn, Rs, Kk, o4, o5, o7, o8, o9, o10, o11, o12, rfl, rfl, lk, hsd, st, hbl2, hr2, M2, po, bd, pt, cb, sH2⟩
    refine ⟨true, rfl, ?_⟩
    refine ⟨_, rfl, _, rfl, _, rfl, t, bl, sd, L, as, Rs, kvs, Cn, rfl, sH2 _ _ ht, cr.same sH2, hbl2, M2, hsd, st.known, fun v H3 s3 fb => ?_⟩
    refine ⟨_, rfl, rfl, _, rfl, ?_⟩
    rcases fb with ⟨rfl, no⟩ | ⟨rr, i, j, c, rfl, htup, hi, hj, ni, er, least⟩
    · refine iteDT rfl ⟨_, rfl, ?_⟩
      obtain ⟨h1, h2⟩ := pt.end_ po fun k l hk hl nk => no k l hk hl nk
      exact q sd kvs Cn Bn H3 (s3 _ _ hsd) (st.same s3) ⟨h1, h2, cb⟩ (sH2.trans s3)
    refine iteDF (fun z => by cases z) ?_
    refine ⟨_, rfl, rr, _, rfl, .inl (.inl htup), rfl, _, _, rfl, _, _, rfl, _, _, rfl, _, _, rfl, rfl, ?_⟩
    obtain ⟨c0, pb⟩ := po.block hi hj ni er
    have c1 := bd i j c hi hj er
    have pt2 := pt.next po hi hj ni er least
    have sH3 := sH2.trans s3
    have op := openN_put (c := c) hi ni
    refine ⟨_, rfl, _, rfl, by show 2 ≤ sizeLine; decide, fun tp ntp => ?_⟩
    have sT := same_new ntp (.tup [V.int c, V.int (j : Int)])
    have sd4 := sT _ _ (s3 _ _ hsd)
    refine ⟨_, rfl, _, rfl, sd, _, rfl, DPut.k (k := (Sum.inl (i : Int) : Key)) sd4 (Nat.lt_of_le_of_lt (show kvs.length ≤ 40 by omega) (by decide)), ?_⟩
    have vn : valV kvs (Sum.inl (i : Int) : Key) = none := by
      rcases st i hi with ⟨_, e⟩ | ⟨c', _, e, _⟩
      · exact e
      · rw [ni] at e
        cases e
    have lput : (putK kvs (Sum.inl (i : Int) : Key) (.ref tp)).length = kvs.length + 1 := by
      rw [putK_new _ vn, List.length_append]
      rfl
    have kp : ∀ (b : Addr) (o : HO), H2 b = some o → (∀ z, o ≠ .dK z) → upd (upd H3 tp (.tup [V.int c, V.int (j : Int)])) sd (.dK (putK kvs (Sum.inl (i : Int)) (.ref tp))) b = some o := fun b o e n => by
      have e2 := sT _ _ (s3 _ _ e)
      rw [upd_ne (ne_of e2 sd4 (n _))]
      exact e2
    have kS : Same H (upd (upd H3 tp (.tup [V.int c, V.int (j : Int)])) sd (.dK (putK kvs (Sum.inl (i : Int)) (.ref tp)))) := sameAt (sH3.trans sT) nsd0
    have st2 : StopD (upd (upd H3 tp (.tup [V.int c, V.int (j : Int)])) sd (.dK (putK kvs (Sum.inl (i : Int)) (.ref tp)))) (putK kvs (Sum.inl (i : Int)) (.ref tp)) L.length (putC Cn i c) (putB Bn i j) := (((st.same s3).same sT).put (i := i) upd_same).upd sd4 (fun xs z => by cases z)
    have M5 : MatAt L.length (upd (upd H3 tp (.tup [V.int c, V.int (j : Int)])) sd (.dK (putK kvs (Sum.inl (i : Int)) (.ref tp)))) as Rs := ⟨M2.al, M2.rl, M2.nd, fun k a x e1 e2 => ⟨kp _ _ (M2.row k a x e1 e2).1 (fun z e => by cases e), (M2.row k a x e1 e2).2⟩⟩
    refine ⟨_, rfl, r, 0, (L.length : Int), rfl, kp _ _ hr2 (fun z e => by unfold RngO at e; cases e), ⟨by omega, by omega, by omega, by omega⟩, ?_⟩
    rw [toN]
    refine for_it walk_range0 (fun k σ H5 => ∃ (Rs' : List (List (Option Int))) (o12 : Option V), σ = [some (.ref t), some (.ref f), some (.ref r), some (.ref bl), o4, o5, some (.ref sd), some (.ref rr), some (.int (dQ (partsOf L) i + c)), some (.int (i : Int)), some (.int c), some (.int (j : Int)), o12] ∧
      H5 sd = some (.dK (putK kvs (Sum.inl (i : Int)) (.ref tp))) ∧ StopD H5 (putK kvs (Sum.inl (i : Int)) (.ref tp)) L.length (putC Cn i c) (putB Bn i j) ∧ H5 bl = some (.lst (as.map V.ref)) ∧ H5 r = some (RngO 0 (L.length : Int) r) ∧ MatAt L.length H5 as Rs' ∧
      (∀ a l, a < L.length → l < L.length → (l ≠ i ∨ k ≤ a) → Rm Rs' a l = Rm Rs a l) ∧ (∀ a, a < k → a < L.length → putC Cn i c a = none → PairB (dQ (partsOf L)) SP a i (some c) (Rm Rs' a i)) ∧ (∀ i j x, i < L.length → j < L.length → Rm Rs' i j = some x → x ≤ 10 ^ 70) ∧ Same H H5)
      ⟨Rs, o12, rfl, upd_same, st2, kp _ _ hbl2 (fun z e => by cases e), kp _ _ hr2 (fun z e => by unfold RngO at e; cases e), M5, fun a l _ _ _ => rfl, (fun a ha => absurd ha (Nat.not_lt_zero a)), bd, kS⟩ (fun _ _ _ _ _ => trivial) ?_ ?_
    · rintro k v σ H5 H6 hk ⟨Rs', o12, rfl, hsd5, st5, hbl5, hr5, M5, same5, new5, bd5, sH5⟩ ⟨rfl, rfl⟩
      refine ⟨_, rfl, _, rfl, sd, _, rfl, DGet.k (k := (Sum.inl (k : Int) : Key)) hsd5, _, rfl, ?_⟩
      rcases st5 k hk with ⟨ek, ev⟩ | ⟨c', a', ek, ev, _⟩
      · rw [ev]
        refine iteT ?_
        obtain ⟨a, ha⟩ : ∃ a, as[k]? = some a := ⟨_, List.getElem?_eq_getElem (by rw [M5.al]; exact hk)⟩
        obtain ⟨row, hrow⟩ : ∃ x, Rs'[k]? = some x := ⟨_, List.getElem?_eq_getElem (by rw [M5.rl]; exact hk)⟩
        refine ⟨f, rfl, ⟨_, (lamF _ sH5).choose_spec, _, rfl⟩, _, rfl, _, rfl, _, rfl, lamF _ sH5, call _ k i (some c) _ sH5 hk hi (fun x z => by cases z; omega) fun rr2 H7 pb s7 => ?_⟩
        obtain ⟨m1, m2⟩ := (M5.same s7).row k a row ha hrow
        refine ⟨_, rfl, _, rfl, bl, _, _, _, rfl, rfl, SqL.of (s7 _ _ hbl5), atI_nat (show (as.map V.ref)[k]? = some (V.ref a) by rw [List.getElem?_map, ha]; rfl), _, rfl, a, _, _, i, rfl, rfl, m1, ixN_at (by rw [List.length_map, m2]; exact hi), ?_⟩
        have nab : bl ≠ a := fun z => nb (by rw [z]; exact List.mem_of_getElem? ha)
        have rm := Rm_set (v := rr2) hrow (show i < row.length by rw [m2]; exact hi)
        refine ⟨Rs'.set k (row.set i rr2), _, rfl, ?_, (st5.same s7).upd m1 (fun xs z => by cases z), ?_, ?_, (M5.same s7).set ha hrow, fun x l hx hl o => ?_, fun x hx hxN nx => ?_, fun x l y hx hl e => ?_, sameAt (sH5.trans s7) (new a (List.mem_of_getElem? ha))⟩
        · rw [upd_ne (ne_of (s7 _ _ hsd5) m1 (by intro z; cases z))]
          exact s7 _ _ hsd5
        · rw [upd_ne nab]
          exact s7 _ _ hbl5
        · rw [upd_ne (ne_of (s7 _ _ hr5) m1 (by intro z; unfold RngO at z; cases z))]
          exact s7 _ _ hr5
        · rw [rm, if_neg (by omega)]
          exact same5 x l hx hl (by omega)
        · rw [rm]
          by_cases e : x = k
          · subst e
            rw [if_pos ⟨rfl, rfl⟩]
            exact pb
          · rw [if_neg (fun z => e z.1)]
            exact new5 x (by omega) hxN nx
        · rw [rm] at e
          by_cases c : x = k ∧ l = i
          · rw [if_pos c] at e
            exact pb.2 y e
          · rw [if_neg c] at e
            exact bd5 x l y hx hl e
      · rw [ev]
        refine iteF ?_
        exact ⟨Rs', _, rfl, hsd5, st5, hbl5, hr5, M5, fun x l hx hl o => same5 x l hx hl (by omega), fun x hx hxN nx => by
          by_cases e : x = k
          · rw [e, ek] at nx
            cases nx
          · exact new5 x (by omega) hxN nx, bd5, sH5⟩
    · rintro σ H5 ⟨Rs', o12, rfl, hsd5, st5, hbl5, hr5, M5, same5, new5, bd5, sH5⟩
      refine ⟨openN L.length (putC Cn i c), op, _, putC Cn i c, putB Bn i j, Rs', _, o4, o5, _, _, _, _, _, o12, rfl, rfl, by rw [lput]; omega, hsd5, st5, hbl5, hr5, M5, po.put hi (fun k l hk hl nk nl => same5 k l hk hl (.inl nl)) (fun k hk nk => (new5 k hk hk nk).1), bd5, pt2, fun x y hx e => ?_, sH5⟩
      by_cases e2 : x = i
      · rw [e2, putC_at] at e
        obtain rfl := Option.some.inj e
        exact ⟨c0, c1⟩
      · rw [putC_ne e2] at e
        exact cb x y hx e
end
end Ur
/-! UrZ: defs that may raise, called; own errors with one field, made and raised. -/
namespace Ur
open PySem PySem.Spec PyProof.Rows L2
section
variable {P : Program} {w : World} {K : PySem.W.Frag} {mg : Str → Option Value} {base : Heap} {k : Nat} {x : Str} {ps : List Str} {sp : Sp} {st : Stmt}
end
section
variable {X : Cx} {k : Nat} {x m : Str} {ps : List Str} {sp : Sp} {o e : Expr} {es : List Expr} {t : TA} {ta : TE} {p pos apos : Pos} {E : XK} {C : Addr} {pl : Sem Bool}
end
/-! ### own errors with one field -/
/-- what the written part says of such a class: its place C, the field's name f -/
structure ErrK (K : PySem.W.Frag) (C : Addr) (f : Str) : Prop where
  o : OexC K C
  no : PySem.W.findIn K (.ref C) f = some none
  x : XfC K C
  c : ExcC K C
section
variable {X : Cx} {x f : Str} {C : Addr} {e : Expr} {es : List Expr} {t : TA} {p pos : Pos}
end
end Ur
/-! UrT: defs that make lambdas: their code object is known; what stays while tables grow. -/
namespace Ur
open PySem PySem.Spec PyProof.Rows L2
section
variable {P : Program} {w : World} {K : PySem.W.Frag} {mg : Str → Option Value} {base : Heap} {k : Nat} {f : Addr} {fd : FuncData} {ps : List Str} {sp : Sp} {x qual : Str} {st : Stmt}
/-- a def of the text, where it stands, with its code object -/
def DfnT (K : PySem.W.Frag) (mg : Str → Option Value) (x : Str) (st : Stmt) (ps : List Str) (c : Addr) : Prop :=
  ∃ (f : Addr) (fd : FuncData), Fun K x x st f fd ∧ Binds K fd ps [] ∧ mg x = some (.ref f) ∧ fd.code = .ref c
end
/-! ### what stays while tables grow -/
/-- all stands as it stood, but what is at p, and the tables -/
def KeepN (p : Addr) (H H' : Hp) : Prop := ∀ b o, H b = some o → b ≠ p → (∀ ps, o ≠ .tbl ps) → H' b = some o
theorem KeepN.trans {p : Addr} {H H1 H2 : Hp} (a : KeepN p H H1) (b : KeepN p H1 H2) : KeepN p H H2 := fun c o h n t => b c o (a c o h n t) n t
theorem KeepN.of {p : Addr} {H H' : Hp} (k : Keep p H H') : KeepN p H H' := fun b o h n _ => k b o h n
theorem KeepN.ext {p : Addr} {H H' : Hp} (e : LamX.ExtN H H') : KeepN p H H' := fun b o h _ t => e b o h t
theorem tabs_keep {T : List (Addr × Str)} {p : Addr} {H H' : Hp} {kk : List (Key × V)} (k : Keep p H H') (hp : H p = some (.dK kk)) (t : LamX.Tabs T H) : LamX.Tabs T H' := by
  intro q hq
  obtain ⟨ps, h1, h2, h3⟩ := t q hq
  refine ⟨ps, k _ _ h1 (ne_of h1 hp (by intro z; cases z)), h2, fun pos cv hc => ?_⟩
  obtain ⟨c, e1, e2⟩ := h3 pos cv hc
  refine ⟨c, e1, k _ _ e2 (ne_of e2 hp (by intro z; unfold LamX.CodeO at z; cases z))⟩
theorem tabs_same {T : List (Addr × Str)} {H H' : Hp} (s : Same H H') (t : LamX.Tabs T H) : LamX.Tabs T H' := t.ext s
end Ur
/-! HD: histories: rows_by, _rows_of. -/
namespace Ur
open PySem PySem.Spec PyProof.Rows L2
/-- a row of a history -/
structure Rw where
  nm : Str
  cnt : Option Int
  stop : Option (Int × Int × Str)
def StopAt (H : Hp) (v : V) : Option (Int × Int × Str) → Prop
  | none => v = .non
  | some (d, p, b) => ∃ t, v = .ref t ∧ H t = some (.tup [.int d, .int p, .str b])
def RwAt (H : Hp) (a : Addr) (r : Rw) : Prop := ∃ v, H a = some (.tup [.str r.nm, optV r.cnt, v]) ∧ StopAt H v r.stop
theorem StopAt.keep {H H' : Hp} {v : V} : ∀ {s : Option (Int × Int × Str)}, StopAt H v s → (∀ b xs, H b = some (.tup xs) → H' b = some (.tup xs)) → StopAt H' v s
  | none, h, _ => h
  | some (_, _, _), ⟨t, e, h⟩, k => ⟨t, e, k _ _ h⟩
theorem RwAt.keep {H H' : Hp} {a : Addr} {r : Rw} (h : RwAt H a r) (k : ∀ b xs, H b = some (.tup xs) → H' b = some (.tup xs)) : RwAt H' a r := let ⟨v, e, s⟩ := h; ⟨v, k _ _ e, s.keep k⟩
/-- rows -/
abbrev RowsAt (H : Hp) (as : List Addr) (rs : List Rw) : Prop := Paired (fun a r => RwAt H a r) as rs
theorem RowsAt.keep {H H' : Hp} {as : List Addr} {rs : List Rw} (h : RowsAt H as rs) (k : ∀ b xs, H b = some (.tup xs) → H' b = some (.tup xs)) : RowsAt H' as rs := Paired.mapP h fun _ _ q => q.keep k
theorem RowsAt.same {H H' : Hp} {as : List Addr} {rs : List Rw} (h : RowsAt H as rs) (s : Same H H') : RowsAt H' as rs := h.keep fun b xs e => s _ _ e
theorem RowsAt.updL {H : Hp} {D : Addr} {as : List Addr} {rs : List Rw} {ys : List V} {o : HO} (h : RowsAt H as rs) (hD : H D = some (.lst ys)) : RowsAt (upd H D o) as rs := h.keep fun b xs e => by rw [upd_ne (ne_of e hD (by intro z; cases z))]; exact e
/-- the row of a painter in a history -/
def rowQ (qs : List Quad) (Cn : Nat → Option Int) (Bn : Nat → Nat) (i : Nat) : Rw := ⟨nQ qs i, Cn i, match Cn i with | none => none | some c => some (dQ qs i + c, pQ qs i + c * sQ qs i, nQ qs (Bn i))⟩
def HistR (qs : List Quad) (SP : SPt) (rs : List Rw) : Prop := ∃ Cn Bn, HistC qs.length (dQ qs) SP Cn Bn ∧ rs = (List.range qs.length).map (rowQ qs Cn Bn)
/-- there is one history only -/
theorem histR_uniq {qs : List Quad} {SP : SPt} {rs rs' : List Rw} (d0 : ∀ i, i < qs.length → 0 ≤ dQ qs i) (sy : ∀ i n j m k l, SP i n j m → SP i n k l → SP j m k l) (h : HistR qs SP rs) (h' : HistR qs SP rs') : rs = rs' := by
  obtain ⟨Cn, Bn, hc, rfl⟩ := h
  obtain ⟨Cn', Bn', hc', rfl⟩ := h'
  refine List.map_congr_left fun i hi => ?_
  have hi := List.mem_range.mp hi
  have e := hist_uniq d0 hc.is hc'.is hi
  have is' : IsHist qs.length (dQ qs) SP Cn' := hc'.is
  unfold rowQ
  rw [← e]
  cases ec : Cn i with
  | none => rfl
  | some c =>
    have b' : Blkr qs.length SP Cn Bn' := fun k x hk ek => by
      have ek' : Cn' k = some x := by rw [← hist_uniq d0 hc.is hc'.is hk]; exact ek
      obtain ⟨h1, m, m0, h2, h3⟩ := hc'.bl k x hk ek'
      exact ⟨h1, m, m0, h2, fun y ey => h3 y (by rw [← hist_uniq d0 hc.is hc'.is h1]; exact ey)⟩
    have eb := blkr_uniq hc.is sy hc.bl b' hi ec
    show (⟨_, _, some (_, _, nQ qs (Bn i))⟩ : Rw) = ⟨_, _, some (_, _, nQ qs (Bn' i))⟩
    rw [eb]
theorem parts_len (L : List Pt) : (partsOf L).length = L.length := by unfold partsOf; rw [List.length_map]
abbrev s_rows_by : Stmt := (topS 2)
abbrev N_sc_rows_by : List Str := ["painters", "block", "stopped", "rows", "place", "painter", "count", "blocker", "stop"]
abbrev P_rows_by : List Str := ["painters", "block"]
theorem sc_rows_by : FnScope N_sc_rows_by P_rows_by (defScope s_rows_by) := ⟨rfl, rfl, rfl, by decide +kernel, rfl, by decide +kernel, by decide +kernel⟩
def spRB (Gp : GBl) (C : Addr) : Sp := fun vs H Q _ => ∃ (t f : Addr) (L : List Pt) (SP : SPt), vs = [.ref t, .ref f] ∧ H t = some (.tup (refsOf L)) ∧ Crew C H L ∧ Gp H f t L SP ∧
  ∀ Ta as rs H', H' Ta = some (.tup (as.map V.ref)) → RowsAt H' as rs → HistR (partsOf L) SP rs → Same H H' → Q (.ref Ta) H'
section
variable {P : Program} {w : World} {K : PySem.W.Frag} {mg : Str → Option Value} {base : Heap} {C : Addr} {Gp : GBl}
set_option maxHeartbeats 16000000 in
theorem ok_rb (D : Dfn K mg "rows_by" s_rows_by P_rows_by) (B : Blt mg) (hEn : mg "enumerate" = none) (nb_tuple : mg "tuple" = none) (T : PTxt K mg C) (hName : PropS P w K mg base C "name" 1 (getSp C "_name")) (hDay : PropS P w K mg base C "day" 1 (getSp C "_day")) (hPost : PropS P w K mg base C "post" 1 (getSp C "_post")) (hStride : PropS P w K mg base C "stride" 1 (getSp C "_stride"))
    (CFS : Cal P w K mg base 11 "_find_stopped" P__find_stopped (spFS Gp C)) : Cal P w K mg base 12 "rows_by" P_rows_by (spRB Gp C) := by
  refine D.cal sc_rows_by (fun vs H Q E h => ?_) fun f cdv A outer s H vs Q E hr h => ?_
  · obtain ⟨t, f, _, _, rfl, _⟩ := h
    rfl
  obtain ⟨t, f, L, SP, rfl, ht, cr, gp, q⟩ := h
  have hu := hu_of hr
  have few := cr.few
  have rlen : (refsOf L).length = L.length := by unfold refsOf; rw [List.length_map]
  refine ⟨_, (pss_cons (ps_set (i := 2) sc_rows_by.nd rfl (Or.inl rfl) (pe_cal CFS (hr.mono (by decide)) (pa_cons (pv 0) (pa_cons (pv 1) pa_nil)))) (pss_cons (ps_set (i := 3) sc_rows_by.nd rfl (Or.inl rfl) (pe_lst pa_nil)) (pss_cons (ps_for PassesOwn.never rfl (pi_enumT rfl hEn (pa_cons (pv 0) pa_nil)) (pg_tup rfl (pgs_cons (pg_name (i := 4) sc_rows_by.nd rfl (Or.inl rfl)) (pgs_cons (pg_name (i := 5) sc_rows_by.nd rfl (Or.inl rfl)) pgs_nil))) (pss_one (ps_if (pt_cmp (pc_din hu (pv 4) (pv 2))) (pss_cons (ps_asg (pe_dget hu (pv 2) (pv 4) (fun _ _ => rfl)) (pg_tup rfl (pgs_cons (pg_name (i := 6) sc_rows_by.nd rfl (Or.inl rfl)) (pgs_cons (pg_name (i := 7) sc_rows_by.nd rfl (Or.inl rfl)) pgs_nil)))) (pss_cons (ps_set (i := 8) sc_rows_by.nd rfl (Or.inl rfl) (pe_tup (pa_cons (pe_op op_add (pe_prS (pv 5) T.cl hDay (hr.mono (by decide))) (pv 6)) (pa_cons (pe_op op_add (pe_prS (pv 5) T.cl hPost (hr.mono (by decide))) (pe_op op_mulW (pv 6) (pe_prS (pv 5) T.cl hStride (hr.mono (by decide))))) (pa_cons (pe_prS (pe_ix ix_tup (pv 0) (pv 7) (fun _ _ => rfl)) T.cl hName (hr.mono (by decide))) pa_nil))))) (pss_one (ps_expr (pe_bm PySem.F.plainAttrs_list PySem.F.slot_list_append PySem.F.type_list_append mt_append (pv 3) (pa_cons (pe_tup (pa_cons (pe_prS (pv 5) T.cl hName (hr.mono (by decide))) (pa_cons (pv 6) (pa_cons (pv 8) pa_nil)))) pa_nil)))))) (pss_one (ps_expr (pe_bm PySem.F.plainAttrs_list PySem.F.slot_list_append PySem.F.type_list_append mt_append (pv 3) (pa_cons (pe_tup (pa_cons (pe_prS (pv 5) T.cl hName (hr.mono (by decide))) (pa_cons pe_non (pa_cons pe_non pa_nil)))) pa_nil))))))) (pss_one (ps_ret (pe_callTy call_tuple_of rfl nb_tuple (by decide +kernel) (pa_cons (pv 3) pa_nil))))))), ?_⟩
  refine ⟨_, rfl, _, rfl, t, f, L, SP, rfl, ht, cr, gp, fun sd kvs Cn Bn H1 hsd st hc s1 => ?_⟩
  refine ⟨by show 0 ≤ sizeLine; decide, fun R nR => ?_⟩
  have nR0 : H R = none := by
    cases e : H R with
    | none => rfl
    | some o => rw [s1 _ _ e] at nR; cases nR
  have sR := same_new nR (.lst [])
  refine ⟨_, rfl, t, _, rfl, SqT.of (sR _ _ (s1 _ _ ht)), ?_⟩
  refine for_it walk_enumT (fun i σ H2 => ∃ (as : List Addr) (o4 o5 o6 o7 o8 : Option V), σ = [some (.ref t), some (.ref f), some (.ref sd), some (.ref R), o4, o5, o6, o7, o8] ∧ H2 R = some (.lst (as.map V.ref)) ∧ as.length = i ∧ RowsAt H2 as ((List.range i).map (rowQ (partsOf L) Cn Bn)) ∧ H2 sd = some (.dK kvs) ∧ StopD H2 kvs L.length Cn Bn ∧ Same H H2)
    ⟨[], _, _, _, _, _, rfl, upd_same, rfl, .nil, sR _ _ hsd, st.same sR, sameAt s1 nR0⟩ (fun i σ H2 _ h => by obtain ⟨_, _, _, _, _, _, _, _, _, _, _, _, h⟩ := h; exact SqT.of (h _ _ ht)) ?_ ?_
  · rintro i v σ H2 H3 hi ⟨as, o4, o5, o6, o7, o8, rfl, hR, al, rows, hsd2, st2, s2⟩ ⟨T0, y1, y2, rfl, hT, rfl, e1, e2⟩
    obtain rfl := Option.some.inj e1
    obtain ⟨x, hx, rfl⟩ := refs_at e2
    have hiL : i < L.length := (List.getElem?_eq_some_iff.mp hx).1
    have sT := same_new hT (.tup [V.int (i : Int), V.ref x.a])
    have s3 := s2.trans sT
    have ax := (cr.at_ x (List.mem_of_getElem? hx)).same s3
    obtain ⟨dx, ex⟩ := id ax.1
    have pk := ax.2
    obtain ⟨qn, qd, qp, qst⟩ := q_at (parts_at hx)
    refine ⟨T0, _, rfl, .inl (.inl upd_same), rfl, _, _, rfl, _, _, rfl, rfl, ?_⟩
    refine ⟨_, rfl, _, rfl, sd, _, rfl, DGet.k (k := (Sum.inl (i : Int) : Key)) (sT _ _ hsd2), _, rfl, ?_⟩
    rcases st2 i hiL with ⟨ec, ev⟩ | ⟨c, a, ec, ev, ha⟩
    · rw [ev]
      refine iteF ?_
      refine ⟨_, rfl, .inl ⟨rfl, _, SqL.of (sT _ _ hR)⟩, _, rfl, x.a, dx, _, rfl, ex, x.a, dx, _, _, rfl, ex, pfs_name _ _ _ _, by show 3 ≤ sizeLine; decide, fun t3 ht3 => ?_⟩
      have s4 := same_new ht3 (.tup [.str x.nm, .non, .non])
      have hR4 := s4 _ _ (sT _ _ hR)
      refine ⟨R, _, _, rfl, rfl, hR4, by rw [List.length_map, al]; exact Nat.lt_of_le_of_lt (show i ≤ 40 by omega) (by decide), as ++ [t3], _, _, _, _, _, rfl, by rw [upd_same, List.map_append]; rfl, by rw [List.length_append, al]; rfl, ?_, ?_, ((st2.same sT).same s4).upd hR4 (fun xs z => by cases z), sameAt (s3.trans s4) nR0⟩
      · rw [List.range_succ, List.map_append]
        refine paired_snoc (((RowsAt.same rows sT).same s4).updL hR4) ⟨.non, ?_, ?_⟩
        · rw [upd_ne (ne_of upd_same hR4 (by intro z; cases z)), upd_same]
          unfold rowQ
          rw [ec, qn]
          rfl
        · unfold rowQ
          rw [ec]
          rfl
      · rw [upd_ne (ne_of (s4 _ _ (sT _ _ hsd2)) hR4 (by intro z; cases z))]
        exact s4 _ _ (sT _ _ hsd2)
    · rw [ev]
      refine iteT ?_
      have ec0 := hc.bd i c hiL ec
      have hb := (hc.bl i c hiL ec).1
      obtain ⟨z, hz⟩ : ∃ z, L[Bn i]? = some z := ⟨_, List.getElem?_eq_getElem hb⟩
      have az := (cr.at_ z (List.mem_of_getElem? hz)).same s3
      obtain ⟨dz, ez⟩ := id az.1
      have ev2 : DGet (upd H2 T0 (.tup [V.int (i : Int), V.ref x.a])) sd (.int (i : Int)) (some (.ref a)) := by
        have g := DGet.k (k := (Sum.inl (i : Int) : Key)) (sT _ _ hsd2)
        rw [ev] at g
        exact g
      refine ⟨_, rfl, _, rfl, sd, _, rfl, ev2, a, _, rfl, .inl (.inl (sT _ _ ha)), rfl, _, _, rfl, _, _, rfl, rfl, ?_⟩
      have mb := pk.s0
      have mb1 := pk.s1
      refine ⟨_, rfl, x.a, dx, _, rfl, ex, x.a, dx, _, _, rfl, ex, pfs_day _ _ _ _, _, rfl, _, _, rfl, rfl, ?_⟩
      refine ⟨_, rfl, x.a, dx, _, rfl, ex, x.a, dx, _, _, rfl, ex, pfs_post _ _ _ _, _, rfl, _, rfl, x.a, dx, _, rfl, ex, x.a, dx, _, _, rfl, ex, pfs_stride _ _ _ _, _, _, rfl, rfl, wide_mul (a := 240) (b := 64) (by omega) (by omega) (by decide) (by decide) (by decide), _, _, rfl, rfl, ?_⟩
      refine ⟨_, rfl, _, rfl, t, _, _, _, rfl, rfl, SqT.of (s3 _ _ ht), atI_nat (refs_ix hz), z.a, dz, _, rfl, ez, z.a, dz, _, _, rfl, ez, pfs_name _ _ _ _, by show 3 ≤ sizeLine; decide, fun ts hts => ?_⟩
      have s4 := same_new hts (.tup [.int (x.d + c), .int (x.p + c * x.s), .str z.nm])
      have ex4 := s4 _ _ ex
      refine ⟨_, rfl, .inl ⟨rfl, _, SqL.of (s4 _ _ (sT _ _ hR))⟩, _, rfl, x.a, dx, _, rfl, ex4, x.a, dx, _, _, rfl, ex4, pfs_name _ _ _ _, _, rfl, _, rfl, by show 3 ≤ sizeLine; decide, fun t3 ht3 => ?_⟩
      have s5 := same_new ht3 (.tup [.str x.nm, .int c, .ref ts])
      have hR5 := s5 _ _ (s4 _ _ (sT _ _ hR))
      obtain ⟨zn, _, _, _⟩ := q_at (parts_at hz)
      refine ⟨R, _, _, rfl, rfl, hR5, by rw [List.length_map, al]; exact Nat.lt_of_le_of_lt (show i ≤ 40 by omega) (by decide), as ++ [t3], _, _, _, _, _, rfl, by rw [upd_same, List.map_append]; rfl, by rw [List.length_append, al]; rfl, ?_, ?_, (((st2.same sT).same s4).same s5).upd hR5 (fun xs z => by cases z), sameAt ((s3.trans s4).trans s5) nR0⟩
      · rw [List.range_succ, List.map_append]
        refine paired_snoc ((((RowsAt.same rows sT).same s4).same s5).updL hR5) ⟨.ref ts, ?_, ?_⟩
        · rw [upd_ne (ne_of upd_same hR5 (by intro z; cases z)), upd_same]
          unfold rowQ
          rw [ec, qn]
          rfl
        · unfold rowQ
          rw [ec]
          show StopAt _ _ (some (_, _, _))
          rw [qd, qp, qst, zn]
          refine ⟨ts, rfl, ?_⟩
          have h5 := s5 _ _ (upd_same (H := upd H2 T0 (.tup [V.int (i : Int), V.ref x.a])) (a := ts) (o := .tup [.int (x.d + c), .int (x.p + c * x.s), .str z.nm]))
          rw [upd_ne (ne_of h5 hR5 (by intro z; cases z))]
          exact h5
      · rw [upd_ne (ne_of (s5 _ _ (s4 _ _ (sT _ _ hsd2))) hR5 (by intro z; cases z))]
        exact s5 _ _ (s4 _ _ (sT _ _ hsd2))
  · rintro σ H2 ⟨as, o4, o5, o6, o7, o8, rfl, hR, al, rows, hsd2, st2, s2⟩
    rw [rlen] at rows
    refine ⟨_, rfl, R, _, rfl, .inl ⟨SqL.of hR, fun Ta nTa => ?_⟩⟩
    have sTa := same_new nTa (.tup (as.map V.ref))
    refine q Ta as _ _ upd_same (RowsAt.same rows sTa) ⟨Cn, Bn, ?_, by rw [parts_len]⟩ (s2.trans sTa)
    rw [parts_len]
    exact hc
end
/-! ### of a fence -/
def GpF : GBl := fun H f t L SP => SP = fSP (partsOf L) ∧ ∃ (F : LF) (cp : Addr) (oc : Obj), isRL F ∧ LamH H f F "painters" cp oc (.ref t)
theorem gpF : GOk GpF := ⟨fun H H' f t L SP s ⟨e, F, cp, oc, r, l⟩ => ⟨e, F, cp, oc, r, l.same s⟩, fun H f t L SP ⟨_, F, cp, oc, r, l⟩ => ⟨F, l.1⟩⟩
theorem bk_of {P : Program} {w : World} {K : PySem.W.Frag} {mg : Str → Option Value} {base : Heap} {C f : Addr} (h : LOk P w K mg base 10 3 f (spBlk C f)) : LOk P w K mg base 10 3 f (spBk GpF C f) := by
  have key : ∀ vs H Q E, spBk GpF C f vs H Q E → spBlk C f vs H Q E := fun vs H Q E ⟨t, L, SP, i, j, cnt, ⟨e, F, cp, oc, r, l⟩, ev, ht, cr, hi, hj, hc, q⟩ => ⟨F, cp, oc, t, L, i, j, cnt, r, l, ev, ht, cr, hi, hj, hc, by subst e; exact q⟩
  exact ⟨fun vs H Q E z => h.len vs H Q E (key vs H Q E z), fun A outer s H us vs Q hr e0 r z => h.run A outer s H us vs Q hr e0 r (key vs H Q E0 z)⟩
def qRw : Str := (envOfC "_rows_of" (defScope s__rows_of) 0 0 .none).qual ++ "<lambda>"
def spRO (T : List (Addr × Str)) (C CF : Addr) : Sp := fun vs H Q _ => ∃ (f : Addr) (L : List Pt), vs = [.ref f] ∧ FcAt C CF H f L ∧ LamX.Tabs T H ∧
  ∀ Ta as rs H', H' Ta = some (.tup (as.map V.ref)) → RowsAt H' as rs → HistR (partsOf L) (fSP (partsOf L)) rs → LamX.ExtN H H' → LamX.Tabs T H' → Q (.ref Ta) H'
theorem tabs_del {T : List (Addr × Str)} {H : Hp} {c : Addr} {oc : Obj} {x : HO} (h : LamX.Tabs T H) (hc : H c = some (.frz oc x)) : LamX.Tabs T (del H c) := by
  intro p hp
  obtain ⟨ps, h1, h2, h3⟩ := h p hp
  refine ⟨ps, by rw [del_ne (ne_of h1 hc (by intro z; cases z))]; exact h1, h2, fun pos cv hcv => ?_⟩
  obtain ⟨c', e1, e2⟩ := h3 pos cv hcv
  exact ⟨c', e1, by rw [del_ne (ne_of e2 hc (by intro z; unfold LamX.CodeO at z; cases z))]; exact e2⟩
section
variable {P : Program} {w : World} {K : PySem.W.Frag} {mg : Str → Option Value} {base : Heap} {C CF : Addr}
theorem ok_ro {c0 P0 : Addr} {T : List (Addr × Str)} (FnB : ∀ f, LOk P w K mg base 10 3 f (spBlk C f)) (D : DfnT K mg "_rows_of" s__rows_of P__rows_of c0) (TB : LamX.TabB base mg c0 P0) (hmT' : (P0, qRw) ∈ T) (huT' : ∀ p ∈ T, p.1 = P0 → p.2 = qRw) (U : FTxt K mg CF) (hPs : PropS P w K mg base CF "painters" 1 (getSp CF "_painters"))
    (CRB : Cal P w K mg base 12 "rows_by" P_rows_by (spRB GpF C)) : Cal P w K mg base 13 "_rows_of" P__rows_of (spRO T C CF) := by
  obtain ⟨f0, fd, F, b, m, code⟩ := D
  refine ⟨f0, fd, fun_okc F code sc__rows_of (fun vs H Q E h => ?_) (fun A outer s H vs Q E hr h => ?_), F.kp, b, m⟩
  · obtain ⟨f, L, rfl, _⟩ := h
    rfl
  obtain ⟨f, L, rfl, hf, tb, q⟩ := h
  obtain ⟨dx, t, d, h1, h2, h3⟩ := hf.ex
  have hmT : (P0, (envOfC "_rows_of" (defScope s__rows_of) s.heap.objs.size f0 (.ref c0)).qual ++ "<lambda>") ∈ T := hmT'
  have huT : ∀ p ∈ T, p.1 = P0 → p.2 = (envOfC "_rows_of" (defScope s__rows_of) s.heap.objs.size f0 (.ref c0)).qual ++ "<lambda>" := huT'
  refine ⟨_, (pss_cons (ps_set (i := 1) sc__rows_of.nd rfl (Or.inr rfl) (pe_prS (pv 0) U.cl hPs (hr.mono (by decide)))) (pss_one (ps_ret (pe_lamTo (y0 := "painters") (i := 1) CRB (hr.mono (by decide)) (pv 1) TB rfl hmT huT (by decide +kernel) (by decide +kernel) rfl rfl rfl rfl)))), ?_⟩
  refine ⟨_, rfl, f, dx, _, rfl, h1, f, dx, _, _, rfl, h1, ffs_p _ _, ?_⟩
  refine ⟨_, rfl, tb, _, rfl, fun g c' cp oc cl H2 eN nn tb2 ng lh ncp => ?_⟩
  have t2 : H2 t = some (.tup (refsOf L)) := eN _ _ h2 (fun ps z => by cases z)
  have sl : Same H2 (upd H2 cp (.frz oc (CellV cp (.ref t)))) := same_new ncp _
  have cr2 : Crew C H2 L := ⟨fun x hx => let ⟨⟨dx, e⟩, z⟩ := hf.crew.at_ x hx; ⟨⟨dx, eN _ _ e (fun ps z => by cases z)⟩, z⟩, hf.crew.nd, hf.crew.few⟩
  refine ⟨t, g, L, fSP (partsOf L), rfl, sl _ _ t2, cr2.same sl, ⟨rfl, _, cp, oc, ⟨rfl, rfl, rfl⟩, lh⟩, fun Ta as rs H3 hTa rows hist s3 => ?_⟩
  have hcp := s3 _ _ (upd_same (H := H2) (a := cp) (o := .frz oc (CellV cp (.ref t))))
  have dn : ∀ b xs, H3 b = some (.tup xs) → del H3 cp b = some (.tup xs) := fun b xs e => by rw [del_ne (ne_of e hcp (by intro z; cases z))]; exact e
  refine q Ta as rs _ (dn _ _ hTa) (RowsAt.keep rows dn) hist (fun b o e n => same_lock ncp s3 _ _ (eN b o e n)) (tabs_del (tabs_same (sl.trans s3) tb2) hcp)
end
end Ur
/-! HE: History.__init__, history, rows. -/
namespace Ur
open PySem PySem.Spec PyProof.Rows L2
def hfs (f t b s : Addr) : List (Str × V) := [("_fence", .ref f), ("_rows", .ref t), ("_by_name", .ref b), ("_stopped", .ref s)]
/-- the rows by their names -/
def bkv (as : List Addr) (rs : List Rw) : List (Key × V) := (as.zip rs).map fun p => (Sum.inr p.2.nm, V.ref p.1)
def stpR (rs : List Rw) (i : Nat) : Bool := match rs[i]? with | some r => r.stop.isSome | none => false
def dayR (rs : List Rw) (i : Nat) : Int := match rs[i]? with | some r => (match r.stop with | some s => s.1 | none => 0) | none => 0
/-- the places of those who stop, by days, then by the list -/
def StopOrd (rs : List Rw) (ps : List Nat) : Prop := ps.Perm ((List.range rs.length).filter (stpR rs)) ∧ ps.Pairwise fun i j => ¬ (dayR rs j < dayR rs i ∨ dayR rs j = dayR rs i ∧ j < i)
/-- what the class of histories must have -/
structure HTxt (K : PySem.W.Frag) (mg : Str → Option Value) (CH : Addr) : Prop where
  cl : Cls K CH
  nF : NoAttr K CH "_fence"
  nR : NoAttr K CH "_rows"
  nB : NoAttr K CH "_by_name"
  nS : NoAttr K CH "_stopped"
  mgH : mg "History" = some (.ref CH)
/-- a History stands at h -/
structure HsAt (C CF CH : Addr) (H : Hp) (h : Addr) (L : List Pt) (rs : List Rw) : Prop where
  ex : ∃ (dx f Ta b so : Addr) (as : List Addr) (ps : List Nat), H h = some (.ins CH dx (hfs f Ta b so)) ∧ FcAt C CF H f L ∧ H Ta = some (.tup (as.map V.ref)) ∧ RowsAt H as rs ∧ H b = some (.dK (bkv as rs)) ∧ H so = some (.lst (ps.map fun i => V.ref (as[i]?.getD 0))) ∧ StopOrd rs ps
theorem histR_len {qs : List Quad} {SP : SPt} {rs : List Rw} (h : HistR qs SP rs) : rs.length = qs.length := by
  obtain ⟨_, _, _, rfl⟩ := h
  rw [List.length_map, List.length_range]
theorem histR_nm {L : List Pt} {SP : SPt} {rs : List Rw} (h : HistR (partsOf L) SP rs) : rs.map Rw.nm = L.map Pt.nm := by
  obtain ⟨_, _, _, rfl⟩ := h
  rw [parts_len, List.map_map]
  refine List.ext_getElem (by rw [List.length_map, List.length_map, List.length_range]) fun i h1 h2 => ?_
  have hi : i < L.length := by rw [List.length_map] at h2; exact h2
  rw [List.getElem_map, List.getElem_map, List.getElem_range]
  exact (q_at (parts_at (List.getElem?_eq_getElem hi))).1
theorem bkv_none {as : List Addr} {rs : List Rw} {nm : Str} (h : ∀ r ∈ rs, r.nm ≠ nm) : valV (bkv as rs) (Sum.inr nm : Key) = none := by
  induction as generalizing rs with
  | nil => rfl
  | cons a as ih =>
    cases rs with
    | nil => rfl
    | cons r rs =>
      show valV ((Sum.inr r.nm, V.ref a) :: bkv as rs) _ = none
      rw [valV_neg (fun e => h r List.mem_cons_self (Sum.inr.inj e))]
      exact ih fun x hx => h x (List.mem_cons_of_mem _ hx)
theorem paired_len {α β : Type} {F : α → β → Prop} {xs : List α} {ys : List β} (h : Paired F xs ys) : xs.length = ys.length := Paired.length h
theorem paired_map {α β : Type} {F : α → β → Prop} {g : α → β} {xs : List α} {ys : List β} (h : Paired F xs ys) (k : ∀ x y, F x y → g x = y) : xs.map g = ys := by
  induction h with
  | nil => rfl
  | cons f _ ih => rw [List.map_cons, k _ _ f, ih]
theorem paired_at {α β : Type} {F : α → β → Prop} : ∀ {xs : List α} {ys : List β} {i : Nat} {x : α} {y : β}, Paired F xs ys → xs[i]? = some x → ys[i]? = some y → F x y := fun {xs ys i x y} h e1 e2 => by
  obtain ⟨z, e3, f⟩ := paired_get h e1
  rw [e2] at e3
  obtain rfl := Option.some.inj e3
  exact f
abbrev s_History_init : Stmt := (inClass (topS 37) 0)
abbrev N_sc_History_init : List Str := ["self", "fence", "row", "order", "place", "_"]
abbrev P_History_init : List Str := ["self", "fence"]
theorem sc_History_init : FnScope N_sc_History_init P_History_init (defScope s_History_init) := ⟨rfl, rfl, rfl, by decide +kernel, rfl, by decide +kernel, by decide +kernel⟩
def spHInit (T : List (Addr × Str)) (C CF CH : Addr) : Sp := fun vs H Q _ => ∃ (x dx f : Addr) (L : List Pt), vs = [.ref x, .ref f] ∧ H x = some (.ins CH dx []) ∧ FcAt C CF H f L ∧ LamX.Tabs T H ∧
  ∀ H' rs, HsAt C CF CH H' x L rs → HistR (partsOf L) (fSP (partsOf L)) rs → KeepN x H H' → LamX.Tabs T H' → Q .non H'
theorem FcAt.keepN {C CF : Addr} {H H' : Hp} {f x : Addr} {L : List Pt} (h : FcAt C CF H f L) (k : KeepN x H H') (hx : ∃ CH dx fs, H x = some (.ins CH dx fs) ∧ CH ≠ C ∧ CH ≠ CF) : FcAt C CF H' f L := by
  obtain ⟨CH, dx', fs, hx, n1, n2⟩ := hx
  obtain ⟨dx, t, d, h1, h2, h3⟩ := h.ex
  have ni : ∀ b D dy gs, H b = some (.ins D dy gs) → D ≠ CH → b ≠ x := fun b D dy gs e n z => by
    rw [z, hx] at e
    have := HO.ins.inj (Option.some.inj e)
    exact n this.1.symm
  refine ⟨⟨dx, t, d, k _ _ h1 (ni _ _ _ _ h1 (fun z => n2 z.symm)) (fun ps z => by cases z), k _ _ h2 (ne_of h2 hx (by intro z; cases z)) (fun ps z => by cases z), k _ _ h3 (ne_of h3 hx (by intro z; cases z)) (fun ps z => by cases z)⟩, fun y hy => ?_, h.crew.nd, h.crew.few⟩
  obtain ⟨⟨dy, e⟩, z⟩ := h.crew.at_ y hy
  exact ⟨⟨dy, k _ _ e (ni _ _ _ _ e (fun z => n1 z.symm)) (fun ps z => by cases z)⟩, z⟩
def kH (H : Hp) (x : V) : Int × Int := match x with | .ref t => (match H t with | some (.tup [.int i, .int j]) => (i, j) | _ => (0, 0)) | _ => (0, 0)
theorem kH_at {H : Hp} {t : Addr} {i j : Int} (h : H t = some (.tup [.int i, .int j])) : kH H (.ref t) = (i, j) := by
  show (match H t with | some (.tup [.int i, .int j]) => (i, j) | _ => ((0, 0) : Int × Int)) = _
  rw [h]
theorem range_filter_succ {f : Nat → Bool} {i : Nat} : (List.range (i + 1)).filter f = (List.range i).filter f ++ (if f i = true then [i] else []) := by
  rw [List.range_succ, List.filter_append]
  congr 1
  rw [List.filter_cons]
  split <;> rfl
theorem bkv_snoc {as : List Addr} {rs : List Rw} {a : Addr} {r : Rw} (h : as.length = rs.length) : bkv (as ++ [a]) (rs ++ [r]) = bkv as rs ++ [(Sum.inr r.nm, V.ref a)] := by
  unfold bkv
  rw [List.zip_append h, List.map_append]
  rfl
section
variable {P : Program} {w : World} {K : PySem.W.Frag} {mg : Str → Option Value} {base : Heap} {C CF CH f : Addr} {fd : FuncData}
set_option maxHeartbeats 16000000 in
theorem ok_hinit {T : List (Addr × Str)} (F : Fun K "__init__" "History.__init__" s_History_init f fd) (hEn : mg "enumerate" = none) (nb_sorted : mg "sorted" = none) (U : HTxt K mg CH) (nC : CH ≠ C) (nCF : CH ≠ CF) (CRO : Cal P w K mg base 13 "_rows_of" P__rows_of (spRO T C CF)) : FnOk P w K mg base CX0 14 f fd P_History_init (spHInit T C CF CH) := by
  refine F.ok sc_History_init (fun vs H Q E h => ?_) (fun cdv A outer s H vs Q E hr h => ?_)
  · obtain ⟨x, dx, f, L, rfl, _⟩ := h
    rfl
  obtain ⟨x, dx, g, L, rfl, hx, hf, tb, q⟩ := h
  refine ⟨_, (pss_cons (ps_fld (pv 0) (pv 1) rfl) (pss_cons (ps_fld (pv 0) (pe_cal CRO (hr.mono (by decide)) (pa_cons (pv 1) pa_nil)) rfl) (pss_cons (ps_fld (pv 0) (pe_dc (own := [("row", 2)]) (g := gName 2) (tt := tYes) rfl sc_History_init.nd (pi_tup (pe_fld (pv 0) rfl)) (blkOk_by (N := N_sc_History_init) (sc := defScope s_History_init) (by decide +kernel)) (fun _ _ _ _ _ => pg_name (i := 2) sc_History_init.nd rfl (Or.inl rfl)) (fun _ _ _ _ _ => pts_nil) (fun _ _ _ _ _ => pe_ix (show IxR _ (rIxT K) from ix_tup) (pv 2) pe_int (fun _ _ => rfl)) (fun _ _ _ _ _ => pv 2)) rfl) (pss_cons (ps_set (i := 3) sc_History_init.nd rfl (Or.inl rfl) (pe_callB cr_sortedPO rfl nb_sorted (by decide +kernel) (pa_cons (pe_lc (own := [("place", 4), ("row", 2)]) (g := gTup K 2 (gCons (gName 4) (gCons (gName 2) gNil))) rfl sc_History_init.nd (pi_enumT rfl hEn (pa_cons (pe_fld (pv 0) rfl) pa_nil)) (blkOk_by (N := N_sc_History_init) (sc := defScope s_History_init) (by decide +kernel)) (fun _ _ _ _ _ => pg_tup rfl (pgs_cons (pg_name (i := 4) sc_History_init.nd rfl (Or.inl rfl)) (pgs_cons (pg_name (i := 2) sc_History_init.nd rfl (Or.inl rfl)) pgs_nil))) (fun _ _ _ _ _ => pts_one (pt_cmpR op_notN (pe_ix (show IxR _ (rIxT K) from ix_tup) (pv 2) pe_int (fun _ _ => rfl)) pe_non (nomark _))) (fun _ _ _ _ _ => pe_tup (pa_cons (pe_ix (show IxR _ (rIxT K) from ix_tup) (pe_ix (show IxR _ (rIxT K) from ix_tup) (pv 2) pe_int (fun _ _ => rfl)) pe_int (fun _ _ => rfl)) (pa_cons (pv 4) pa_nil)))) pa_nil))) (pss_one (ps_fld (pv 0) (pe_lc (own := [("_", 5), ("place", 4)]) (g := gTup K 2 (gCons (gName 5) (gCons (gName 4) gNil))) (tt := tYes) rfl sc_History_init.nd (pi_list (pv 3)) (blkOk_by (N := N_sc_History_init) (sc := defScope s_History_init) (by decide +kernel)) (fun _ _ _ _ _ => pg_tup rfl (pgs_cons (pg_name (i := 5) sc_History_init.nd rfl (Or.inl rfl)) (pgs_cons (pg_name (i := 4) sc_History_init.nd rfl (Or.inl rfl)) pgs_nil))) (fun _ _ _ _ _ => pts_nil) (fun _ _ _ _ _ => pe_ix (show IxR _ (rIxT K) from ix_tup) (show PE _ _ (tFld K (tVar 0) "_rows") from pe_fld (pv 0) rfl) (pv 4) (fun _ _ => rfl))) rfl)))))), ?_⟩
  have KN : ∀ {H1 : Hp}, KeepN x H H1 → FcAt C CF H1 g L := fun k => hf.keepN k ⟨CH, dx, _, hx, nC, nCF⟩
  -- self._fence = fence
  refine ⟨_, rfl, _, rfl, x, CH, dx, [], rfl, hx, U.cl, U.nF, (by show 0 < 1000; decide), ?_⟩
  have k1 : KeepN x H (upd H x (.ins CH dx (putF "_fence" (.ref g) []))) := KeepN.of Keep.at_
  have tb1 : LamX.Tabs T (upd H x (.ins CH dx (putF "_fence" (.ref g) []))) := fun p hp => by
    obtain ⟨ps, h1, h2, h3⟩ := tb p hp
    refine ⟨ps, by rw [upd_ne (ne_of h1 hx (by intro z; cases z))]; exact h1, h2, fun pos cv hcv => ?_⟩
    obtain ⟨c', e1, e2⟩ := h3 pos cv hcv
    exact ⟨c', e1, by rw [upd_ne (ne_of e2 hx (by intro z; unfold LamX.CodeO at z; cases z))]; exact e2⟩
  -- self._rows = _rows_of(fence)
  refine ⟨_, rfl, g, L, rfl, KN k1, tb1, fun Ta as rs H2 hTa rows hist eN tb2 => ?_⟩
  have few := hf.crew.few
  have rl : rs.length = L.length := by rw [histR_len hist, parts_len]
  have al : as.length = L.length := (paired_len rows).trans rl
  have hx2 := eN _ _ upd_same (fun ps z => by cases z)
  have k2 : KeepN x H H2 := k1.trans (KeepN.ext eN)
  refine ⟨_, rfl, x, CH, dx, _, rfl, hx2, U.cl, U.nR, (by show 1 < 1000; decide), ?_⟩
  obtain ⟨H3, e3⟩ : ∃ H3, H3 = upd H2 x (.ins CH dx (putF "_rows" (.ref Ta) (putF "_fence" (.ref g) []))) := ⟨_, rfl⟩
  rw [← e3]
  have hx3 : H3 x = some (.ins CH dx [("_fence", .ref g), ("_rows", .ref Ta)]) := by rw [e3]; exact upd_same
  have kx : ∀ (b : Addr) (o : HO), H2 b = some o → b ≠ x → H3 b = some o := fun b o e n => by rw [e3, upd_ne n]; exact e
  have hTa3 := kx _ _ hTa (ne_of hTa hx2 (by intro z; cases z))
  have rows3 : RowsAt H3 as rs := rows.keep fun b xs e => kx _ _ e (ne_of e hx2 (by intro z; cases z))
  have k3 : KeepN x H H3 := fun b o e n t => kx _ _ (k2 b o e n t) n
  have tb3 : LamX.Tabs T H3 := fun p hp => by
    obtain ⟨ps, h1, h2, h3⟩ := tb2 p hp
    refine ⟨ps, kx _ _ h1 (ne_of h1 hx2 (by intro z; cases z)), h2, fun pos cv hcv => ?_⟩
    obtain ⟨c', e1, e2⟩ := h3 pos cv hcv
    exact ⟨c', e1, kx _ _ e2 (ne_of e2 hx2 (by intro z; unfold LamX.CodeO at z; cases z))⟩
  have alen : (as.map V.ref).length = L.length := by rw [List.length_map, al]
  have row_get : ∀ {i : Nat} {v : V}, (as.map V.ref)[i]? = some v → ∃ a r, v = V.ref a ∧ as[i]? = some a ∧ rs[i]? = some r ∧ ∀ H', Same H3 H' → RwAt H' a r := fun {i v} e => by
    obtain ⟨a, ha, rfl⟩ := map_get e
    obtain ⟨r, hr2, f⟩ := paired_get rows3 ha
    exact ⟨a, r, rfl, ha, hr2, fun H' s => RwAt.keep f fun b xs e => s _ _ e⟩
  have nds : (rs.map Rw.nm).Nodup := by rw [histR_nm hist]; exact hf.crew.nd
  -- self._by_name
  refine ⟨_, rfl, x, CH, dx, _, _, rfl, hx3, U.cl, U.nR, rfl, Ta, rfl, ⟨_, .inl (.inl hTa3)⟩, fun b nb => ?_⟩
  refine gen_it walk_tup (fun i H4 => H4 b = some (.dK (bkv (as.take i) (rs.take i))) ∧ Same H3 H4) ⟨upd_same, same_new nb _⟩ (fun i H4 _ h => .inl (.inl (h.2 _ _ hTa3))) ?_ ?_
  · rintro i v H4 H5 hi ⟨hb, s4⟩ ⟨rfl, e⟩
    obtain ⟨a, r, rfl, ha, hr2, rw_⟩ := row_get e
    obtain ⟨v2, hrow, _⟩ := rw_ _ s4
    have hi2 : i < L.length := by rw [← alen]; exact hi
    refine ⟨rfl, _, rfl, a, _, _, _, rfl, rfl, SqT.of hrow, atI_nat (j := 0) rfl, _, rfl, _, Sum.inr r.nm, rfl, hb, ?_, ?_, ?_⟩
    · unfold bkv
      rw [List.length_map, List.length_zip, List.length_take, List.length_take]
      exact Nat.lt_of_le_of_lt (show min (min i as.length) (min i rs.length) ≤ 40 by omega) (by decide)
    · have nm_new : ∀ z ∈ rs.take i, z.nm ≠ r.nm := fun z hz e => by
        obtain ⟨j, hj⟩ := List.mem_iff_getElem?.mp hz
        have hji : j < i := by
          have := (List.getElem?_eq_some_iff.mp hj).1
          rw [List.length_take] at this
          omega
        rw [List.getElem?_take_of_lt hji] at hj
        have e1 : (rs.map Rw.nm)[j]? = some r.nm := by rw [List.getElem?_map, hj]; exact congrArg some e
        have e2 : (rs.map Rw.nm)[i]? = some r.nm := by rw [List.getElem?_map, hr2]; rfl
        have h1 := List.getElem?_eq_some_iff.mp e1
        have h2 := List.getElem?_eq_some_iff.mp e2
        have := (List.getElem_inj nds).mp (h1.2.trans h2.2.symm)
        omega
      rw [upd_same, putK_new _ (bkv_none nm_new), take_snoc ha, take_snoc hr2, bkv_snoc (by rw [List.length_take, List.length_take]; omega)]
    · exact sameAt s4 nb
  rintro H4 ⟨hb4, s4⟩
  rw [alen, show as.take L.length = as by rw [← al]; exact List.take_length, show rs.take L.length = rs by rw [← rl]; exact List.take_length] at hb4
  have hx4 := s4 _ _ hx3
  refine ⟨_, rfl, x, CH, dx, _, rfl, hx4, U.cl, U.nB, (by show 2 < 1000; decide), ?_⟩
  obtain ⟨H5, e5⟩ : ∃ H5, H5 = upd H4 x (.ins CH dx (putF "_by_name" (.ref b) [("_fence", .ref g), ("_rows", .ref Ta)])) := ⟨_, rfl⟩
  rw [← e5]
  have hx5 : H5 x = some (.ins CH dx [("_fence", .ref g), ("_rows", .ref Ta), ("_by_name", .ref b)]) := by rw [e5]; exact upd_same
  have kx5 : ∀ (c : Addr) (o : HO), H4 c = some o → c ≠ x → H5 c = some o := fun c o e n => by rw [e5, upd_ne n]; exact e
  have hTa5 := kx5 _ _ (s4 _ _ hTa3) (ne_of (s4 _ _ hTa3) hx4 (by intro z; cases z))
  have hb5 := kx5 _ _ hb4 (ne_of hb4 hx4 (by intro z; cases z))
  have rows5 : RowsAt H5 as rs := RowsAt.keep (RowsAt.same rows3 s4) fun c xs e => kx5 _ _ e (ne_of e hx4 (by intro z; cases z))
  have k5 : KeepN x H H5 := fun c o e n t => kx5 _ _ (s4 _ _ (k3 c o e n t)) n
  have tb5 : LamX.Tabs T H5 := fun p hp => by
    obtain ⟨ps, h1, h2, h3⟩ := tabs_same s4 tb3 p hp
    refine ⟨ps, kx5 _ _ h1 (ne_of h1 hx4 (by intro z; cases z)), h2, fun pos cv hcv => ?_⟩
    obtain ⟨c', e1, e2⟩ := h3 pos cv hcv
    exact ⟨c', e1, kx5 _ _ e2 (ne_of e2 hx4 (by intro z; unfold LamX.CodeO at z; cases z))⟩
  -- order
  refine ⟨_, rfl, x, CH, dx, _, _, rfl, hx5, U.cl, U.nR, rfl, Ta, _, rfl, SqT.of hTa5, fun D nD => ?_⟩
  refine gen_it walk_enumT (fun i H6 => ∃ (xs : List V) (zs : List Nat), H6 D = some (.lst xs) ∧ zs = (List.range i).filter (stpR rs) ∧ Paired (fun x z => ∃ t, x = V.ref t ∧ H6 t = some (.tup [.int (dayR rs z), .int (z : Int)])) xs zs ∧ Same H5 H6) ⟨[], [], upd_same, rfl, .nil, same_new nD _⟩ (fun i H6 _ ⟨_, _, _, _, _, s6⟩ => SqT.of (s6 _ _ hTa5)) ?_ ?_
  · rintro i v H6 H7 hi ⟨xs, zs, hD, rfl, pr, s6⟩ ⟨T0, y1, y2, rfl, hT, rfl, e1, e2⟩
    obtain rfl := Option.some.inj e1
    obtain ⟨a, ha, rfl⟩ := map_get e2
    obtain ⟨r, hr2, f5⟩ := paired_get rows5 ha
    have sT := same_new hT (.tup [V.int (i : Int), V.ref a])
    have s7 := s6.trans sT
    have hi2 : i < L.length := by rw [← alen]; exact hi
    have lx : xs.length ≤ 40 := by
      rw [paired_len pr]
      have := List.length_filter_le (stpR rs) (List.range i)
      rw [List.length_range] at this
      omega
    obtain ⟨v2, hrow, stp⟩ := RwAt.keep f5 fun b xs e => s7 _ _ e
    have pr7 := Paired.mapP pr fun x z ⟨t, e, h⟩ => (⟨t, e, sT _ _ h⟩ : ∃ t, x = V.ref t ∧ (upd H6 T0 (.tup [V.int (i : Int), V.ref a])) t = some (HO.tup [V.int (dayR rs z), V.int (z : Int)]))
    have hD7 := sT _ _ hD
    have est : stpR rs i = r.stop.isSome := by unfold stpR; rw [hr2]
    have edy : dayR rs i = (match r.stop with | some s => s.1 | none => 0) := by unfold dayR; rw [hr2]
    refine ⟨T0, _, rfl, .inl (.inl upd_same), rfl, _, _, rfl, _, _, rfl, rfl, ?_⟩
    refine ⟨rfl, _, rfl, a, _, _, _, rfl, rfl, SqT.of hrow, atI_nat (j := 2) rfl, rfl, _, rfl, ?_⟩
    cases es : r.stop with
    | none =>
      rw [es] at stp est
      obtain rfl : v2 = .non := stp
      refine iteNS rfl ?_
      refine ⟨xs, _, hD7, ?_, pr7, s7⟩
      rw [range_filter_succ, est]
      simp
    | some q3 =>
      obtain ⟨d3, p3, b3⟩ := q3
      rw [es] at stp est edy
      obtain ⟨t3, rfl, ht3⟩ := stp
      refine iteNN (fun z => by cases z) ?_
      refine ⟨_, rfl, a, _, _, _, rfl, rfl, SqT.of hrow, atI_nat (j := 2) rfl, t3, _, _, _, rfl, rfl, SqT.of ht3, atI_nat (j := 0) rfl, _, rfl, by show 2 ≤ sizeLine; decide, fun t4 ht4 => ?_⟩
      have s8 := same_new ht4 (.tup [.int d3, .int (i : Int)])
      have hD8 := s8 _ _ hD7
      refine ⟨xs, hD8, Nat.lt_of_le_of_lt lx (by decide), xs ++ [.ref t4], _, upd_same, rfl, ?_, sameAt (s7.trans s8) nD⟩
      rw [range_filter_succ, est]
      refine paired_snoc (Paired.mapP pr7 fun x z ⟨t, e, h⟩ => ⟨t, e, ?_⟩) ⟨t4, rfl, ?_⟩
      · rw [upd_ne (ne_of (s8 _ _ h) hD8 (by intro z; cases z))]
        exact s8 _ _ h
      · rw [upd_ne (ne_of upd_same hD8 (by intro z; cases z)), upd_same, edy]
  rintro H6 ⟨xs, zs, hD6, ez, pr6, s6⟩
  rw [alen, ← rl] at ez
  have kat : ∀ {x : V} {z : Nat}, (∃ t, x = V.ref t ∧ H6 t = some (.tup [.int (dayR rs z), .int (z : Int)])) → kH H6 x = (dayR rs z, (z : Int)) := fun ⟨t, e, h⟩ => by rw [e]; exact kH_at h
  have each : ∀ y ∈ xs, ∃ z, ∃ t, y = V.ref t ∧ H6 t = some (.tup [.int (dayR rs z), .int (z : Int)]) := fun y hy => by
    obtain ⟨i, hi⟩ := List.mem_iff_getElem?.mp hy
    obtain ⟨z, _, t, e, h⟩ := paired_get pr6 hi
    exact ⟨z, t, e, h⟩
  refine ⟨D, xs, kH H6, rfl, SqL.of hD6, fun y hy => ?_, fun ys O srt stb nO => ?_⟩
  · obtain ⟨z, t, e, h⟩ := each y hy
    exact ⟨t, e, by rw [e, kH_at h]; exact h⟩
  have pm := stb.perm
  have sO := same_new nO (.lst ys)
  have hTa7 := sO _ _ (s6 _ _ hTa5)
  have hx7 := sO _ _ (s6 _ _ hx5)
  have xsz : xs.map (fun y => (kH H6 y).2.toNat) = zs := paired_map pr6 fun x z f => by rw [kat f]; exact Int.toNat_natCast z
  have zmem : ∀ y ∈ ys, ∃ z, z < rs.length ∧ kH H6 y = (dayR rs z, (z : Int)) ∧ ∃ t, y = V.ref t ∧ H6 t = some (.tup [.int (dayR rs z), .int (z : Int)]) := fun y hy => by
    obtain ⟨i, hi⟩ := List.mem_iff_getElem?.mp (pm.mem_iff.mp hy)
    obtain ⟨z, hz, f⟩ := paired_get pr6 hi
    have : z ∈ zs := List.mem_of_getElem? hz
    rw [ez] at this
    exact ⟨z, List.mem_range.mp (List.mem_filter.mp this).1, kat f, f⟩
  have ylen : ys.length ≤ 40 := by
    rw [pm.length_eq, paired_len pr6, ez]
    have := List.length_filter_le (stpR rs) (List.range rs.length)
    rw [List.length_range] at this
    omega
  -- self._stopped
  refine ⟨_, rfl, O, rfl, ⟨_, SqL.of upd_same⟩, fun S nS => ?_⟩
  refine gen_it walk_list (fun i H8 => H8 S = some (.lst ((ys.take i).map fun y => V.ref (as[(kH H6 y).2.toNat]?.getD 0))) ∧ Same (upd H6 O (.lst ys)) H8) ⟨upd_same, same_new nS _⟩ (fun i H8 _ h => SqL.of (h.2 _ _ upd_same)) ?_ ?_
  · rintro i y H8 H9 hi ⟨hS, s8⟩ ⟨rfl, e⟩
    obtain ⟨z, hz, kz, t, rfl, ht⟩ := zmem y (List.mem_of_getElem? e)
    have ht8 := s8 _ _ (sO _ _ ht)
    obtain ⟨a, ha⟩ : ∃ a, as[z]? = some a := ⟨_, List.getElem?_eq_getElem (by omega)⟩
    refine ⟨t, _, rfl, .inl (.inl ht8), rfl, _, _, rfl, _, _, rfl, rfl, ?_⟩
    refine ⟨rfl, _, rfl, x, CH, dx, _, _, rfl, s8 _ _ hx7, U.cl, U.nR, rfl, _, rfl, Ta, _, _, _, rfl, rfl, SqT.of (s8 _ _ hTa7), atI_nat (show (as.map V.ref)[z]? = some (V.ref a) by rw [List.getElem?_map, ha]; rfl), _, hS, ?_, ?_, sameAt s8 nS⟩
    · rw [List.length_map, List.length_take]
      exact Nat.lt_of_le_of_lt (show min i ys.length ≤ 40 by omega) (by decide)
    · rw [upd_same, take_snoc e, List.map_append]
      show _ = some (HO.lst (_ ++ [V.ref (as[(kH H6 (.ref t)).2.toNat]?.getD 0)]))
      rw [kz]
      show _ = some (HO.lst (_ ++ [V.ref (as[((z : Int)).toNat]?.getD 0)]))
      rw [Int.toNat_natCast, ha]
      rfl
  rintro H8 ⟨hS, s8⟩
  rw [List.take_length] at hS
  have s58 := (s6.trans sO).trans s8
  have hx8 := s58 _ _ hx5
  refine ⟨_, rfl, x, CH, dx, _, rfl, hx8, U.cl, U.nS, (by show 3 < 1000; decide), ?_⟩
  obtain ⟨H9, e9⟩ : ∃ H9, H9 = upd H8 x (.ins CH dx (putF "_stopped" (.ref S) [("_fence", .ref g), ("_rows", .ref Ta), ("_by_name", .ref b)])) := ⟨_, rfl⟩
  rw [← e9]
  have kx9 : ∀ (c : Addr) (o : HO), H8 c = some o → c ≠ x → H9 c = some o := fun c o e n => by rw [e9, upd_ne n]; exact e
  have k9 : KeepN x H H9 := fun c o e n t => kx9 _ _ (s58 _ _ (k5 c o e n t)) n
  refine q H9 rs ⟨⟨dx, g, Ta, b, S, as, ys.map (fun y => (kH H6 y).2.toNat), by rw [e9]; exact upd_same, KN k9, kx9 _ _ (s58 _ _ hTa5) (ne_of (s58 _ _ hTa5) hx8 (by intro z; cases z)), RowsAt.keep (RowsAt.same rows5 s58) (fun c xs e => kx9 _ _ e (ne_of e hx8 (by intro z; cases z))), kx9 _ _ (s58 _ _ hb5) (ne_of (s58 _ _ hb5) hx8 (by intro z; cases z)), ?_, ?_, ?_⟩⟩ hist k9 ?_
  · rw [List.map_map]
    exact kx9 _ _ hS (ne_of hS hx8 (by intro z; cases z))
  · rw [← ez, ← xsz]
    exact pm.map _
  · refine List.pairwise_map.mpr (List.Pairwise.imp_of_mem (fun {a b} ha hb h z => ?_) srt)
    obtain ⟨za, _, ka, _⟩ := zmem a ha
    obtain ⟨zb, _, kb, _⟩ := zmem b hb
    rw [ka, kb] at z
    have : SrtO.lexB (kH H6 b) (kH H6 a) = true := by
      rw [ka, kb, SrtO.lexB_iff]
      simp only [Int.toNat_natCast] at z
      rcases z with z | z
      · exact .inl z
      · exact .inr ⟨z.1, by show (zb : Int) < za; omega⟩
    have h' : SrtO.lexB (kH H6 b) (kH H6 a) = false := h
    rw [this] at h'
    cases h'
  · intro p hp
    obtain ⟨ps, h1, h2, h3⟩ := tabs_same s58 tb5 p hp
    refine ⟨ps, kx9 _ _ h1 (ne_of h1 hx8 (by intro z; cases z)), h2, fun pos cv hcv => ?_⟩
    obtain ⟨c', e1, e2⟩ := h3 pos cv hcv
    exact ⟨c', e1, kx9 _ _ e2 (ne_of e2 hx8 (by intro z; unfold LamX.CodeO at z; cases z))⟩
end
/-! ### History(..), history(..), .rows -/
def MkH (P : Program) (w : World) (K : PySem.W.Frag) (mg : Str → Option Value) (base : Heap) (T : List (Addr × Str)) (C CF CH : Addr) : Prop := ∃ f fd, Mk K CH f ∧ FnOk P w K mg base CX0 14 f fd P_History_init (spHInit T C CF CH) ∧ Binds K fd P_History_init []
section
variable {X : Cx} {T : List (Addr × Str)} {C CF CH : Addr} {e : Expr} {es : List Expr} {pos p : Pos} {t : TA}
theorem pe_mkH (hp : MkH X.prog X.w X.K X.mg X.base T C CF CH) (U : HTxt X.K X.mg CH) (hr : Room 15 X.A) (ha : PA X (e :: es) t) (hg : Gl X "History" := by rfl)
    (he : starEach (e :: es) X.env = (false, eval e X.env) :: starEach es X.env := by rfl) (hpl : (backTo pos (starEach es X.env)).any (·.1) = false := by rfl) : PE X (.Call (.Name "History" p) (e :: es) [] pos) (tMake CH (spHInit T C CF CH) [] E0 t) := by
  obtain ⟨f, fd, M, F, b⟩ := hp
  exact pe_make M F hr hg U.mgH b .nil pass0 ha (he := he) (hpl := hpl)
end
/-- how a History is asked for -/
theorem ask_hist {T : List (Addr × Str)} {C CF CH : Addr} {H : Hp} {x dx f : Addr} {L : List Pt} {Q : VK} {E : XK} (nx : H x = none) (nd : H dx = none) (nex : dx ≠ x) (hf : FcAt C CF H f L) (tb : LamX.Tabs T H)
    (q : ∀ H' rs, HsAt C CF CH H' x L rs → HistR (partsOf L) (fSP (partsOf L)) rs → LamX.ExtN H H' → LamX.Tabs T H' → Q .non H') : spHInit T C CF CH [.ref x, .ref f] (upd (upd H dx (.own x)) x (.ins CH dx [])) Q E := by
  have s1 : Same H (upd (upd H dx (.own x)) x (.ins CH dx [])) := fun b o e => by rw [upd_ne (ne_of_none e nx), upd_ne (ne_of_none e nd)]; exact e
  refine ⟨x, dx, f, L, rfl, upd_same, hf.same s1, tabs_same s1 tb, fun H' rs h1 h2 k tb' => q H' rs h1 h2 (fun b o e n => k b o (s1 b o e) (ne_of_none e nx) n) tb'⟩
abbrev s_History_rows : Stmt := (inClass (topS 37) 2)
abbrev N_sc_History_rows : List Str := ["self"]
abbrev P_History_rows : List Str := ["self"]
theorem sc_History_rows : FnScope N_sc_History_rows P_History_rows (defScope s_History_rows) := ⟨rfl, rfl, rfl, by decide +kernel, rfl, by decide +kernel, by decide +kernel⟩
section
variable {P : Program} {w : World} {K : PySem.W.Frag} {mg : Str → Option Value} {base : Heap} {CH f : Addr} {fd : FuncData}
theorem ok_get_rows (F : Fun K "rows" "History.rows" s_History_rows f fd) (U : HTxt K mg CH) : FnOk P w K mg base CX0 1 f fd ["self"] (getSp CH "_rows") := by
  refine F.ok sc_History_rows (fun vs H Q E h => ?_) (fun cdv A outer s H vs Q E hr h => ?_)
  · obtain ⟨_, _, _, _, rfl, _⟩ := h
    rfl
  obtain ⟨a, dx, fs, v, rfl, ha, hv, q⟩ := h
  refine ⟨_, (pss_one (ps_ret (pe_fld (pv 0) rfl))), ?_⟩
  exact ⟨_, rfl, a, CH, dx, fs, v, rfl, ha, U.cl, U.nR, hv, q⟩
end
end Ur
/-! KI: the law's own inverse, greatest divisor, common numbers. -/
namespace Ur
open PySem PySem.Spec PyProof.Rows L2
abbrev s__law_inverse : Stmt := (topS 72)
abbrev N_sc__law_inverse : List Str := ["_law_thing", "_law_size", "_law_this", "_law_that", "_law_front", "_law_second", "_law_times"]
abbrev P__law_inverse : List Str := ["_law_thing", "_law_size"]
theorem sc__law_inverse : FnScope N_sc__law_inverse P__law_inverse (defScope s__law_inverse) := ⟨rfl, rfl, rfl, by decide +kernel, rfl, by decide +kernel, by decide +kernel⟩
def spInv : Sp := fun vs H Q _ => ∃ n m : Int, vs = [.int n, .int m] ∧ 0 < m ∧ m < 2 ^ 100 ∧ Int.gcd n m = 1 ∧ ∀ (i : Int) (H' : Hp), 0 ≤ i → i < m → m ∣ n * i - 1 → Same H H' → Q (.int i) H'
def restOf3 (σ : List (Option L2.V)) : Nat := match σ[3]? with
  | some (some (L2.V.int r)) => r.toNat
  | _ => 0
theorem inv_done {n m d f : Int} (D : DivFac (n % m) m d f) (mp : 0 < m) (hg : Int.gcd n m = 1) : m ∣ n * (f % m) - 1 := by
  obtain ⟨d0, dn, dm, cg, _⟩ := D
  have dn' : d ∣ n := by
    have e := Int.mul_ediv_add_emod n m
    obtain ⟨a, ha⟩ := dn
    obtain ⟨b, hb⟩ := dm
    exact ⟨b * (n / m) + a, by grind⟩
  have d1 : d = 1 := by
    have z : d.natAbs ∣ Int.gcd n m := Nat.dvd_gcd (Int.natAbs_dvd_natAbs.mpr dn') (Int.natAbs_dvd_natAbs.mpr dm)
    rw [hg] at z
    have := Nat.le_of_dvd (by decide) z
    omega
  subst d1
  obtain ⟨c, hc⟩ := cg
  have e1 := Int.mul_ediv_add_emod n m
  have e2 := Int.mul_ediv_add_emod f m
  generalize n % m = x at *
  generalize f % m = y at *
  generalize n / m = a at *
  generalize f / m = b at *
  exact ⟨c + a * y - x * b, by grind⟩
section
variable {P : Program} {w : World} {K : PySem.W.Frag} {mg : Str → Option Value} {base : Heap}
theorem ok_inv (D : Dfn K mg "_law_inverse" s__law_inverse P__law_inverse) (B : Blt mg) : Cal P w K mg base 1 "_law_inverse" P__law_inverse spInv := by
  refine D.cal sc__law_inverse (fun vs H Q E h => ?_) fun f cdv A outer s H vs Q E hr h => ?_
  · obtain ⟨n, m, rfl, _⟩ := h
    rfl
  obtain ⟨n, m, rfl, mp, m1, hg, q⟩ := h
  refine ⟨_, (pss_cons (ps_asg (pe_tup (pa_cons (pe_op op_mod (pe_callTy call_int1 rfl B.int_ (by decide +kernel) (pa_cons (pv 0) pa_nil)) (pv 1)) (pa_cons (pv 1) (pa_cons pe_int (pa_cons pe_int pa_nil))))) (pg_tup rfl (pgs_cons (pg_name (i := 2) sc__law_inverse.nd rfl (Or.inl rfl)) (pgs_cons (pg_name (i := 3) sc__law_inverse.nd rfl (Or.inl rfl)) (pgs_cons (pg_name (i := 4) sc__law_inverse.nd rfl (Or.inl rfl)) (pgs_cons (pg_name (i := 5) sc__law_inverse.nd rfl (Or.inl rfl)) pgs_nil)))))) (pss_cons (ps_while PassesOwn.never (pt_cmpR op_gt (pv 3) pe_int (nomark _)) (pss_cons (ps_set (i := 6) sc__law_inverse.nd rfl (Or.inl rfl) (pe_op op_fdivW (pv 2) (pv 3))) (pss_cons (ps_par (i := 2) (j := 3) rfl sc__law_inverse.nd rfl rfl (by decide) rfl rfl (pa_cons (pv 3) (pa_cons (pe_op op_sub (pv 2) (pe_op op_mulW (pv 6) (pv 3))) pa_nil)) (by rfl)) (pss_one (ps_par (i := 4) (j := 5) rfl sc__law_inverse.nd rfl rfl (by decide) rfl rfl (pa_cons (pv 5) (pa_cons (pe_op op_sub (pv 4) (pe_op op_mulW (pv 6) (pv 5))) pa_nil)) (by rfl)))))) (pss_one (ps_ret (pe_op op_mod (pe_callTy call_int1 rfl B.int_ (by decide +kernel) (pa_cons (pv 4) pa_nil)) (pv 1)))))), ?_⟩
  refine ⟨_, rfl, .inl ⟨_, rfl, _, rfl, _, _, rfl, rfl, mp, _, rfl, (by show 4 ≤ sizeLine; decide), fun t ht => ?_⟩⟩
  refine ⟨t, _, rfl, SqT.of upd_same, rfl, _, _, rfl, _, _, rfl, _, _, rfl, _, _, rfl, rfl, ?_⟩
  have nm0 := Int.emod_nonneg n (show m ≠ 0 by omega)
  have nm1 := Int.emod_lt_of_pos n mp
  refine while_by (fun σ' H' => ∃ (d r f g : Int) (t : Option V), σ' = [some (.int n), some (.int m), some (.int d), some (.int r), some (.int f), some (.int g), t] ∧ Euc (n % m) m d r f g ∧ d ≤ m ∧ r ≤ m ∧ Same H H') (fun σ _ => restOf3 σ) ⟨_, _, _, _, _, rfl, Euc.start nm0 mp, by omega, by omega, same_new ht _⟩ ?_ (fun σ H Q Q' k ⟨v, hv, x, y, e1, e2, b, hb, q⟩ => ⟨v, hv, x, y, e1, e2, b, hb, k _ _ q⟩)
  rintro σ' H' ⟨d, r, f, g, t, rfl, E, dm, rm, sm⟩
  have r0 := E.r0
  refine ⟨_, rfl, _, _, rfl, rfl, _, rfl, ?_⟩
  by_cases rp : 0 < r
  · refine iteDT rp ?_
    have d0 := E.d0
    have f0 := E.f0
    have f1 := E.f1
    have g0 := E.g0
    have g1 := E.g1
    have t0 : 0 ≤ d / r := Int.ediv_nonneg d0 r0
    have t1 : d / r ≤ d := Int.ediv_le_self r d0
    have em := Int.emod_lt_of_pos d (show 0 < r by omega)
    have en := Int.emod_nonneg d (show r ≠ 0 by omega)
    have e : d - d / r * r = d % r := by
      have h := Int.mul_ediv_add_emod d r
      have h2 : r * (d / r) = d / r * r := Int.mul_comm _ _
      omega
    refine ⟨_, rfl, _, rfl, _, _, rfl, rfl, wide_div (b := 120) (by omega) (by omega) (by decide) (by decide), ?_⟩
    refine ⟨_, rfl, _, rfl, _, rfl, _, rfl, _, _, rfl, rfl, wide_mul (a := 120) (b := 120) (by omega) (by omega) (by decide) (by decide) (by decide), _, _, rfl, rfl, _, _, rfl, ?_⟩
    refine ⟨_, rfl, _, rfl, _, rfl, _, rfl, _, _, rfl, rfl, wide_mul (a := 120) (b := 120) (by omega) (by omega) (by decide) (by decide) (by decide), _, _, rfl, rfl, _, _, rfl, ?_⟩
    refine ⟨⟨_, _, _, _, _, rfl, E.step (by omega), rm, by omega, sm⟩, ?_⟩
    show (d - d / r * r).toNat < r.toNat
    omega
  · refine iteDF rp ?_
    obtain rfl : r = 0 := by omega
    refine ⟨_, rfl, .inl ⟨_, rfl, _, rfl, _, _, rfl, rfl, mp, ?_⟩⟩
    exact q _ _ (Int.emod_nonneg f (by omega)) (Int.emod_lt_of_pos f mp) (inv_done (E.done mp) mp hg) sm
end
abbrev s__law_gcd : Stmt := (topS 73)
abbrev N_sc__law_gcd : List Str := ["_law_this", "_law_that"]
abbrev P__law_gcd : List Str := ["_law_this", "_law_that"]
theorem sc__law_gcd : FnScope N_sc__law_gcd P__law_gcd (defScope s__law_gcd) := ⟨rfl, rfl, rfl, by decide +kernel, rfl, by decide +kernel, by decide +kernel⟩
def spGcd : Sp := fun vs H Q _ => ∃ a b : Int, vs = [.int a, .int b] ∧ Q (.int (Int.gcd a b : Int)) H
def restOf1 (σ : List (Option L2.V)) : Nat := match σ[1]? with
  | some (some (L2.V.int r)) => r.toNat
  | _ => 0
theorem gcd_step {x y : Int} (hx : 0 ≤ x) (hy : 0 ≤ y) : Int.gcd y (x % y) = Int.gcd x y := by
  obtain ⟨a, rfl⟩ := Int.eq_ofNat_of_zero_le hx
  obtain ⟨b, rfl⟩ := Int.eq_ofNat_of_zero_le hy
  show Nat.gcd b ((a : Int) % (b : Int)).natAbs = Nat.gcd a b
  rw [← Int.natCast_emod, Int.natAbs_natCast, Nat.gcd_comm b (a % b), ← Nat.gcd_rec, Nat.gcd_comm]
section
variable {P : Program} {w : World} {K : PySem.W.Frag} {mg : Str → Option Value} {base : Heap}
theorem ok_gcd (D : Dfn K mg "_law_gcd" s__law_gcd P__law_gcd) (B : Blt mg) : Cal P w K mg base 1 "_law_gcd" P__law_gcd spGcd := by
  refine D.cal sc__law_gcd (fun vs H Q E h => ?_) fun f cdv A outer s H vs Q E hr h => ?_
  · obtain ⟨a, b, rfl, _⟩ := h
    rfl
  obtain ⟨a, b, rfl, q⟩ := h
  refine ⟨_, (pss_cons (ps_par (i := 0) (j := 1) rfl sc__law_gcd.nd rfl rfl (by decide) rfl rfl (pa_cons (pe_callB call_abs rfl B.abs_ (by decide +kernel) (pa_cons (pv 0) pa_nil)) (pa_cons (pe_callB call_abs rfl B.abs_ (by decide +kernel) (pa_cons (pv 1) pa_nil)) pa_nil)) (by rfl)) (pss_cons (ps_while PassesOwn.never (pt_cmpR op_gt (pv 1) pe_int (nomark _)) (pss_one (ps_par (i := 0) (j := 1) rfl sc__law_gcd.nd rfl rfl (by decide) rfl rfl (pa_cons (pv 1) (pa_cons (pe_op op_mod (pe_callTy call_int1 rfl B.int_ (by decide +kernel) (pa_cons (pv 0) pa_nil)) (pv 1)) pa_nil)) (by rfl)))) (pss_one (ps_ret (pv 0))))), ?_⟩
  refine ⟨_, rfl, _, rfl, _, rfl, _, rfl, _, _, rfl, ?_⟩
  have ea : (if a < 0 then -a else a) = (a.natAbs : Int) := by split <;> omega
  have eb : (if b < 0 then -b else b) = (b.natAbs : Int) := by split <;> omega
  refine while_by (fun σ' H' => ∃ (x y : Int), σ' = [some (.int x), some (.int y)] ∧ 0 ≤ x ∧ 0 ≤ y ∧ Int.gcd x y = Int.gcd a b ∧ H' = H) (fun σ _ => restOf1 σ) ⟨_, _, rfl, by omega, by omega, by rw [ea, eb]; simp [Int.gcd], rfl⟩ ?_ (fun σ H Q Q' k ⟨v, hv, x, y, e1, e2, b, hb, q⟩ => ⟨v, hv, x, y, e1, e2, b, hb, k _ _ q⟩)
  rintro σ' H' ⟨x, y, rfl, x0, y0, hg, rfl⟩
  refine ⟨_, rfl, _, _, rfl, rfl, _, rfl, ?_⟩
  by_cases yp : 0 < y
  · refine iteDT yp ?_
    refine ⟨_, rfl, _, rfl, .inl ⟨_, rfl, _, rfl, _, _, rfl, rfl, yp, _, _, rfl, ?_⟩⟩
    have e0 := Int.emod_nonneg x (show y ≠ 0 by omega)
    have e1 := Int.emod_lt_of_pos x yp
    refine ⟨⟨_, _, rfl, y0, e0, by rw [gcd_step x0 y0]; exact hg, rfl⟩, ?_⟩
    show (x % y).toNat < y.toNat
    omega
  · refine iteDF yp ?_
    obtain rfl : y = 0 := by omega
    refine ⟨_, rfl, ?_⟩
    have e : x = (Int.gcd a b : Int) := by rw [← hg, Int.gcd_zero_right]; omega
    rw [e]
    exact q
end
abbrev s__law_common : Stmt := (topS 74)
abbrev N_sc__law_common : List Str := ["_law_this", "_law_that", "_law_gap", "_law_part", "_law_period", "_law_k", "_law_j"]
abbrev P__law_common : List Str := ["_law_this", "_law_that"]
theorem sc__law_common : FnScope N_sc__law_common P__law_common (defScope s__law_common) := ⟨rfl, rfl, rfl, by decide +kernel, rfl, by decide +kernel, by decide +kernel⟩
def spCom (K : PySem.W.Frag) : Sp := fun vs H Q _ => ∃ (t1 t2 : Addr) (x1 e1 : V) (p1 s1 : Int) (x2 e2 : V) (p2 s2 : Int), vs = [.ref t1, .ref t2] ∧ SqT K H t1 [x1, e1, .int p1, .int s1] ∧ SqT K H t2 [x2, e2, .int p2, .int s2] ∧ s1 ≠ 0 ∧ s2 ≠ 0 ∧ s1.natAbs ≤ 10 ^ 18 ∧ s2.natAbs ≤ 10 ^ 18 ∧ p1.natAbs ≤ 10 ^ 30 ∧ p2.natAbs ≤ 10 ^ 30 ∧
  ∀ (v : V) (H' : Hp), Same H H' → ((v = .non ∧ CommW p1 s1 p2 s2 none) ∨ ∃ (t : Addr) (st k j sp : Int), v = .ref t ∧ H' t = some (.tup [.int k, .int st, .int j, .int sp]) ∧ Meet s1 s2 (p2 - p1) (Int.gcd s1 s2 : Int) st k ∧ j * s2 = k * s1 - (p2 - p1) ∧ sp * s2 = s1 * st) → Q v H'
theorem sgn_div {s : Int} (h : s ≠ 0) : ((s.natAbs : Int).fdiv s) * s = s.natAbs ∧ ((s.natAbs : Int).fdiv s).natAbs = 1 := by
  by_cases c : 0 < s
  · have e : (s.natAbs : Int) = 1 * s := by omega
    rw [e, Int.mul_fdiv_cancel 1 h]
    exact ⟨rfl, rfl⟩
  · have e : (s.natAbs : Int) = (-1) * s := by omega
    rw [e, Int.mul_fdiv_cancel (-1) h]
    exact ⟨rfl, rfl⟩
theorem on_div {p1 s1 p2 s2 d st k : Int} (h2 : s2 ≠ 0) (M : Meet s1 s2 (p2 - p1) d st k) : (p1 + k * s1 - p2).fdiv s2 * s2 = k * s1 - (p2 - p1) := by
  obtain ⟨y, hy⟩ := (M.at_ k).mpr ⟨0, by omega⟩
  have e : p1 + k * s1 - p2 = y * s2 := by rw [Int.mul_comm y]; omega
  rw [e, Int.mul_fdiv_cancel y h2]
  omega
section
variable {P : Program} {w : World} {K : PySem.W.Frag} {mg : Str → Option Value} {base : Heap}
set_option maxHeartbeats 16000000 in
theorem ok_com (D : Dfn K mg "_law_common" s__law_common P__law_common) (B : Blt mg) (CGd : Cal P w K mg base 1 "_law_gcd" P__law_gcd spGcd) (CIv : Cal P w K mg base 1 "_law_inverse" P__law_inverse spInv) : Cal P w K mg base 2 "_law_common" P__law_common (spCom K) := by
  refine D.cal sc__law_common (fun vs H Q E h => ?_) fun f cdv A outer s H vs Q E hr h => ?_
  · obtain ⟨t1, t2, _, _, _, _, _, _, _, _, rfl, _⟩ := h
    rfl
  obtain ⟨t1, t2, x1, e1, p1, s1, x2, e2, p2, s2, rfl, h1, h2, n1, n2, b1, b2, c1, c2, q⟩ := h
  obtain ⟨u, st, hu, hst, stp, d0, cop, dle⟩ := gcd_parts (s1 := s1) n2
  refine ⟨_, (pss_cons (ps_par (i := 2) (j := 3) rfl sc__law_common.nd rfl rfl (by decide) rfl rfl (pa_cons (pe_op op_sub (pe_ix ix_tup (pv 1) pe_int (fun _ _ => rfl)) (pe_ix ix_tup (pv 0) pe_int (fun _ _ => rfl))) (pa_cons (pe_cal CGd (hr.mono (by decide)) (pa_cons (pe_ix ix_tup (pv 0) pe_int (fun _ _ => rfl)) (pa_cons (pe_ix ix_tup (pv 1) pe_int (fun _ _ => rfl)) pa_nil))) pa_nil)) (by rfl)) (pss_cons (ps_if (pt_cmpR op_ne (pe_op op_mod (pe_callTy call_int1 rfl B.int_ (by decide +kernel) (pa_cons (pv 2) pa_nil)) (pv 3)) pe_int (nomark _)) (pss_one (ps_ret pe_non)) pss_nil) (C8.pss_cut (ps_set (i := 4) sc__law_common.nd rfl (Or.inl rfl) (pe_op op_fdivW (pe_callB call_abs rfl B.abs_ (by decide +kernel) (pa_cons (pe_ix ix_tup (pv 1) pe_int (fun _ _ => rfl)) pa_nil)) (pv 3))) (C8.pss_cut (ps_set (i := 5) sc__law_common.nd rfl (Or.inl rfl) (pe_op op_mod (pe_callTy call_int1 rfl B.int_ (by decide +kernel) (pa_cons (pe_op op_mulW (pe_op op_fdivW (pv 2) (pv 3)) (pe_cal CIv (hr.mono (by decide)) (pa_cons (pe_op op_fdivW (pe_ix ix_tup (pv 0) pe_int (fun _ _ => rfl)) (pv 3)) (pa_cons (pv 4) pa_nil)))) pa_nil)) (pv 4))) (C8.pss_cut (ps_set (i := 6) sc__law_common.nd rfl (Or.inl rfl) (pe_op op_fdivX (pe_op op_sub (pe_op op_add (pe_ix ix_tup (pv 0) pe_int (fun _ _ => rfl)) (pe_op op_mulW (pv 5) (pe_ix ix_tup (pv 0) pe_int (fun _ _ => rfl)))) (pe_ix ix_tup (pv 1) pe_int (fun _ _ => rfl))) (pe_ix ix_tup (pv 1) pe_int (fun _ _ => rfl)))) (pss_one (ps_ret (pe_tup (pa_cons (pv 5) (pa_cons (pv 4) (pa_cons (pv 6) (pa_cons (pe_op op_mulW (pe_op op_fdivW (pe_ix ix_tup (pv 0) pe_int (fun _ _ => rfl)) (pv 3)) (pe_op op_fdivX (pe_callB call_abs rfl B.abs_ (by decide +kernel) (pa_cons (pe_ix ix_tup (pv 1) pe_int (fun _ _ => rfl)) pa_nil)) (pe_ix ix_tup (pv 1) pe_int (fun _ _ => rfl)))) pa_nil)))))))))))), ?_⟩
  refine ⟨_, rfl, t2, _, _, _, rfl, rfl, h2, rfl, _, rfl, t1, _, _, _, rfl, rfl, h1, rfl, _, _, rfl, rfl, _, rfl, t1, _, _, _, rfl, rfl, h1, rfl, _, rfl, t2, _, _, _, rfl, rfl, h2, rfl, s1, s2, rfl, _, _, rfl, ?_⟩
  refine ⟨_, rfl, .inl ⟨_, rfl, _, rfl, _, _, rfl, rfl, d0, rfl, _, rfl, ?_⟩⟩
  by_cases hg : (p2 - p1) % (Int.gcd s1 s2 : Int) = 0
  · refine iteNS (congrArg V.int hg) ?_
    have dg : (Int.gcd s1 s2 : Int) ∣ p2 - p1 := Int.dvd_of_emod_eq_zero hg
    have eu : s1 / (Int.gcd s1 s2 : Int) = u := by
      conv => lhs; lhs; rw [hu]
      exact Int.mul_ediv_cancel_left _ (by omega)
    have ea : (if s2 < 0 then -s2 else s2) = (s2.natAbs : Int) := by split <;> omega
    have est : (s2.natAbs : Int) / (Int.gcd s1 s2 : Int) = st := by rw [hst]; exact Int.mul_ediv_cancel_left _ (by omega)
    have stl : st ≤ s2.natAbs := by rw [← est]; exact Int.ediv_le_self _ (by omega)
    have dbd : (Int.gcd s1 s2 : Int).natAbs < 2 ^ 100 := by omega
    have ul : u.natAbs ≤ s1.natAbs := by rw [← eu]; exact Int.natAbs_ediv_le_natAbs _ _
    refine ⟨fun σ' H' => σ' = [some (.ref t1), some (.ref t2), some (.int (p2 - p1)), some (.int (Int.gcd s1 s2 : Int)), some (.int st), none, none] ∧ H' = H, ?_, ?_⟩
    · refine ⟨_, rfl, t2, _, _, _, rfl, rfl, h2, rfl, _, rfl, _, rfl, _, _, rfl, rfl, wide_div (b := 100) d0 (by omega) (by decide) (by decide), ?_⟩
      rw [ea]
      exact ⟨congrArg (fun z => [some (V.ref t1), some (V.ref t2), some (V.int (p2 - p1)), some (V.int (Int.gcd s1 s2 : Int)), some (V.int z), none, none]) est, rfl⟩
    rintro σ' H' ⟨rfl, rfl⟩
    refine ⟨fun σ' H1 => ∃ k : Int, σ' = [some (.ref t1), some (.ref t2), some (.int (p2 - p1)), some (.int (Int.gcd s1 s2 : Int)), some (.int st), some (.int k), none] ∧ Meet s1 s2 (p2 - p1) (Int.gcd s1 s2 : Int) st k ∧ Same H' H1, ?_, ?_⟩
    · have gq : ((p2 - p1) / (Int.gcd s1 s2 : Int)).natAbs < 2 ^ 120 := by
        have : ((p2 - p1) / (Int.gcd s1 s2 : Int)).natAbs ≤ (p2 - p1).natAbs := Int.natAbs_ediv_le_natAbs (p2 - p1) _
        omega
      refine ⟨_, rfl, _, rfl, _, _, rfl, rfl, wide_div (b := 100) d0 (by omega) (by decide) (by decide), _, rfl, t1, _, _, _, rfl, rfl, h1, rfl, _, rfl, _, _, rfl, rfl, wide_div (b := 100) d0 (by omega) (by decide) (by decide), _, rfl, s1 / (Int.gcd s1 s2 : Int), st, rfl, stp, by omega, by rw [eu]; exact cop, fun i H1 i0 i1 hi sm => ?_⟩
      rw [eu] at hi
      refine ⟨_, _, rfl, rfl, wide_mul (a := 120) (b := 100) gq (by omega) (by decide) (by decide) (by decide), .inl ⟨_, rfl, _, rfl, _, _, rfl, rfl, stp, ?_⟩⟩
      exact ⟨_, rfl, meet_by d0 hu hst stp hi dg, sm⟩
    rintro σ' H1 ⟨k, rfl, M, sm⟩
    have k0 := M.r0
    have k1 := M.r1
    have h1' := sameTup sm h1
    have h2' := sameTup sm h2
    have dvx : CDivX (p1 + k * s1 - p2) s2 := ⟨n2, Nat.lt_of_lt_of_le (PySem.Flt.log2_lt_of (by decide) (show s2.natAbs < 2 ^ 120 by omega)) (by decide)⟩
    refine ⟨fun σ' H2 => ∃ j : Int, σ' = [some (.ref t1), some (.ref t2), some (.int (p2 - p1)), some (.int (Int.gcd s1 s2 : Int)), some (.int st), some (.int k), some (.int j)] ∧ j * s2 = k * s1 - (p2 - p1) ∧ H2 = H1, ?_, ?_⟩
    · refine ⟨_, rfl, t1, _, _, _, rfl, rfl, h1', rfl, _, rfl, _, rfl, t1, _, _, _, rfl, rfl, h1', rfl, _, _, rfl, rfl, wide_mul (a := 100) (b := 100) (by omega) (by omega) (by decide) (by decide) (by decide), _, _, rfl, rfl, _, rfl, t2, _, _, _, rfl, rfl, h2', rfl, _, _, rfl, rfl, _, rfl, t2, _, _, _, rfl, rfl, h2', rfl, _, _, rfl, rfl, dvx, ?_⟩
      exact ⟨_, rfl, on_div n2 M, rfl⟩
    rintro σ' H2 ⟨j, rfl, hj, rfl⟩
    obtain ⟨g1, g2⟩ := sgn_div n2
    have dvy : CDivX (s2.natAbs : Int) s2 := dvx
    refine ⟨_, rfl, _, rfl, _, rfl, _, rfl, t1, _, _, _, rfl, rfl, h1', rfl, _, rfl, _, _, rfl, rfl, wide_div (b := 100) d0 (by omega) (by decide) (by decide), _, rfl, t2, _, _, _, rfl, rfl, h2', rfl, _, rfl, _, rfl, t2, _, _, _, rfl, rfl, h2', rfl, _, _, rfl, rfl, (by rw [ea]; exact dvy), _, _, rfl, rfl, wide_mul (a := 100) (b := 4) (by rw [eu]; omega) (by rw [ea]; omega) (by decide) (by decide) (by decide), (by show 4 ≤ sizeLine; decide), fun t ht => ?_⟩
    refine q _ _ (sm.trans (same_new ht _)) (.inr ⟨t, st, k, j, u * (s2.natAbs : Int).fdiv s2, rfl, by rw [upd_same, eu, ea], M, hj, ?_⟩)
    rw [Int.mul_assoc, g1, hst]
    grind
  · refine iteNN (fun z => hg (V.int.inj z)) ?_
    refine q _ _ (Same.refl _) (.inl ⟨rfl, ?_⟩)
    exact (comm_gap (Int.gcd_dvd_left s1 s2) (Int.gcd_dvd_right s1 s2) fun z => hg (Int.emod_eq_zero_of_dvd z)).weak
end
end Ur
/-! HG: the law's own first block of a pair. -/
namespace Ur
open PySem PySem.Spec PyProof.Rows L2
def ComAt (H : Hp) (v : V) (q1 q2 : Quad) : Prop := (v = .non ∧ CommW q1.2.2.1 q1.2.2.2 q2.2.2.1 q2.2.2.2 none) ∨ ∃ (t : Addr) (st k j sp : Int), v = .ref t ∧ H t = some (.tup [.int k, .int st, .int j, .int sp]) ∧
  Meet q1.2.2.2 q2.2.2.2 (q2.2.2.1 - q1.2.2.1) (Int.gcd q1.2.2.2 q2.2.2.2 : Int) st k ∧ j * q2.2.2.2 = k * q1.2.2.2 - (q2.2.2.1 - q1.2.2.1) ∧ sp * q2.2.2.2 = q1.2.2.2 * st
theorem ComAt.same {H H' : Hp} {v : V} {q1 q2 : Quad} (h : ComAt H v q1 q2) (s : Same H H') : ComAt H' v q1 q2 := h.imp id fun ⟨t, st, k, j, sp, e, ht, r⟩ => ⟨t, st, k, j, sp, e, s _ _ ht, r⟩
/-- the lines of a pair -/
def fLines (d1 d2 st k j sp : Int) (cnt : Option Int) (fl : Bool) : List (Int × Int) := [(j, sp), (d1 + k - d2 - j - (if fl = true then 0 else 1), st - sp)] ++ cnt.toList.map fun c => (c - 1 - j, 0 - sp)
theorem first_up {p1 d1 s1 p2 d2 s2 st k j sp : Int} (h2 : s2 ≠ 0) (hj : j * s2 = k * s1 - (p2 - p1)) (hs : sp * s2 = s1 * st) {cnt : Option Int} {fl : Bool} (x : Int) : Up (fLines d1 d2 st k j sp cnt fl) x ↔ Blk p1 d1 s1 p2 d2 s2 cnt fl (k + x * st) := by
  have e1 : x * (st - sp) = x * st - x * sp := Int.mul_sub x st sp
  have e2 : x * (0 - sp) = -(x * sp) := by rw [Int.zero_sub]; exact Int.mul_neg x sp
  have ej : p1 + (k + x * st) * s1 = p2 + (j + x * sp) * s2 := by grind
  have uj : ∀ m : Int, p1 + (k + x * st) * s1 = p2 + m * s2 → m = j + x * sp := fun m h => Int.eq_of_mul_eq_mul_right h2 (by rw [ej] at h; omega)
  unfold fLines
  rw [up_app, up_opt]
  constructor
  · rintro ⟨g, gc⟩
    have g1 : 0 ≤ j + x * sp := g (j, sp) List.mem_cons_self
    have g2 : 0 ≤ d1 + k - d2 - j - (if fl = true then 0 else 1) + x * (st - sp) := g _ (List.mem_cons_of_mem _ List.mem_cons_self)
    refine ⟨j + x * sp, g1, ej, fun c ec => ?_, ?_⟩
    · have : 0 ≤ c - 1 - j + x * (0 - sp) := gc c ec
      omega
    · cases fl with
      | true =>
        have g2 : 0 ≤ d1 + k - d2 - j - 0 + x * (st - sp) := g2
        by_cases c : d2 + (j + x * sp) < d1 + (k + x * st)
        · exact .inl c
        · exact .inr ⟨rfl, by omega⟩
      | false =>
        have g2 : 0 ≤ d1 + k - d2 - j - 1 + x * (st - sp) := g2
        exact .inl (by omega)
  · rintro ⟨m, m0, e, pc, o⟩
    obtain rfl := uj m e
    refine ⟨fun z hz => ?_, fun c ec => ?_⟩
    · rcases List.mem_cons.mp hz with rfl | hz
      · exact m0
      · obtain rfl := List.mem_singleton.mp hz
        show 0 ≤ d1 + k - d2 - j - (if fl = true then 0 else 1) + x * (st - sp)
        rcases o with o | ⟨rfl, o⟩
        · split <;> omega
        · show 0 ≤ d1 + k - d2 - j - 0 + x * (st - sp)
          omega
    · have := pc c ec
      show 0 ≤ c - 1 - j + x * (0 - sp)
      omega
theorem first_least {p1 d1 s1 p2 d2 s2 g st k j sp : Int} (h2 : s2 ≠ 0) (M : Meet s1 s2 (p2 - p1) g st k) (hj : j * s2 = k * s1 - (p2 - p1)) (hs : sp * s2 = s1 * st) {cnt : Option Int} {fl : Bool} : ∀ {r : Option (Int × Option Int)}, SpnOf (fLines d1 d2 st k j sp cnt fl) r →
    Least (Blk p1 d1 s1 p2 d2 s2 cnt fl) (r.map fun z => k + z.1 * st) := by
  have stp := M.st.1
  have k0 := M.r0
  have k1 := M.r1
  have at_ : ∀ n, 0 ≤ n → Blk p1 d1 s1 p2 d2 s2 cnt fl n → ∃ x, 0 ≤ x ∧ n = k + x * st := fun n n0 ⟨m, m0, e, _⟩ => by
    have e' : p1 + n * s1 = p2 + m * s2 := e
    obtain ⟨x, hx⟩ := (M.at_ n).mp ⟨m, by rw [Int.mul_comm s2 m]; omega⟩
    refine ⟨x, ?_, by rw [Int.mul_comm] at hx; omega⟩
    by_cases c : 0 ≤ x
    · exact c
    · have := Int.mul_le_mul_of_nonneg_left (show x ≤ -1 by omega) (show 0 ≤ st by omega)
      omega
  intro r hr
  cases r with
  | none =>
    intro n n0 b
    obtain ⟨x, x0, rfl⟩ := at_ n n0 b
    exact hr x x0 ((first_up h2 hj hs x).mpr b)
  | some z =>
    obtain ⟨a, b⟩ := z
    obtain ⟨a0, ab, iff⟩ := hr
    have as := Int.mul_nonneg a0 (show 0 ≤ st by omega)
    refine ⟨show 0 ≤ k + a * st by omega, (first_up h2 hj hs a).mp ((iff a a0).mpr ⟨Int.le_refl a, ab⟩), fun n n0 nl bl => ?_⟩
    obtain ⟨x, x0, rfl⟩ := at_ n n0 bl
    have ax := ((iff x x0).mp ((first_up h2 hj hs x).mpr bl)).1
    have := Int.mul_le_mul_of_nonneg_right ax (show 0 ≤ st by omega)
    have nl : k + x * st < k + a * st := nl
    omega
theorem commW_no {p1 s1 p2 s2 d1 d2 : Int} (C : CommW p1 s1 p2 s2 none) {cnt : Option Int} {fl : Bool} : Least (Blk p1 d1 s1 p2 d2 s2 cnt fl) none := by
  cases C with
  | no h => exact fun n n0 ⟨j, j0, e, _⟩ => h n n0 ⟨j, j0, e⟩
abbrev s__law_first : Stmt := (topS 75)
abbrev N_sc__law_first : List Str := ["_law_this", "_law_that", "_law_common_here", "_law_number_here", "_law_early", "_law_k", "_law_period", "_law_j", "_law_step", "_law_late", "_law_bounds", "_law_low", "_law_high", "_law_growth", "_law_free"]
abbrev P__law_first : List Str := ["_law_this", "_law_that", "_law_common_here", "_law_number_here", "_law_early"]
theorem sc__law_first : FnScope N_sc__law_first P__law_first (defScope s__law_first) := ⟨rfl, rfl, rfl, by decide +kernel, rfl, by decide +kernel, by decide +kernel⟩
def spFirst (K : PySem.W.Frag) : Sp := fun vs H Q _ => ∃ (t1 t2 : Addr) (q1 q2 : Quad) (cv : V) (cnt : Option Int) (fl : Bool), vs = [.ref t1, .ref t2, cv, optV cnt, .bl fl] ∧ SqT K H t1 (quadV q1) ∧ SqT K H t2 (quadV q2) ∧ QuadOk q1 ∧ QuadOk q2 ∧ ComAt H cv q1 q2 ∧ (∀ c, cnt = some c → 0 ≤ c) ∧
  ∀ r H', Least (Blk q1.2.2.1 q1.2.1 q1.2.2.2 q2.2.2.1 q2.2.1 q2.2.2.2 cnt fl) r → (∀ n, r = some n → n ≤ 10 ^ 70) → Same H H' → Q (optV r) H'
section
variable {P : Program} {w : World} {K : PySem.W.Frag} {mg : Str → Option Value} {base : Heap}
set_option maxHeartbeats 16000000 in
theorem ok_first (D : Dfn K mg "_law_first" s__law_first P__law_first) (B : Blt mg) : Cal P w K mg base 1 "_law_first" P__law_first (spFirst K) := by
  refine D.cal sc__law_first (fun vs H Q E h => ?_) fun f cdv A outer s H vs Q E hr h => ?_
  · obtain ⟨_, _, _, _, _, _, _, rfl, _⟩ := h
    rfl
  obtain ⟨t1, t2, ⟨n1, d1, p1, s1⟩, ⟨n2, d2, p2, s2⟩, cv, cnt, fl, rfl, h1, h2, o1, o2, hc, c0, q⟩ := h
  refine ⟨_, (pss_cons (ps_if (pt_cmpR op_isN (pv 2) pe_non (nomark _)) (pss_one (ps_ret pe_non)) pss_nil) (pss_cons (ps_asg (pv 2) (pg_tup rfl (pgs_cons (pg_name (i := 5) sc__law_first.nd rfl (Or.inl rfl)) (pgs_cons (pg_name (i := 6) sc__law_first.nd rfl (Or.inl rfl)) (pgs_cons (pg_name (i := 7) sc__law_first.nd rfl (Or.inl rfl)) (pgs_cons (pg_name (i := 8) sc__law_first.nd rfl (Or.inl rfl)) pgs_nil)))))) (C8.pss_cut (ps_set (i := 9) sc__law_first.nd rfl (Or.inl rfl) (pe_op op_sub (pe_op op_sub (pe_op op_sub (pe_op op_add (pe_ix ix_tup (pv 0) pe_int (fun _ _ => rfl)) (pv 5)) (pe_ix ix_tup (pv 1) pe_int (fun _ _ => rfl))) (pv 7)) (pe_callTy call_int1 rfl B.int_ (by decide +kernel) (pa_cons (pe_not (pv 4)) pa_nil)))) (pss_cons (ps_set (i := 10) sc__law_first.nd rfl (Or.inl rfl) (pe_lst (pa_cons (pe_tup (pa_cons (pv 8) (pa_cons (pv 7) pa_nil))) (pa_cons (pe_tup (pa_cons (pe_op op_sub (pv 6) (pv 8)) (pa_cons (pv 9) pa_nil))) pa_nil)))) (C8.pss_cut (ps_if (pt_cmpR op_notN (pv 3) pe_non (nomark _)) (pss_one (ps_expr (pe_bm PySem.F.plainAttrs_list PySem.F.slot_list_append PySem.F.type_list_append mt_append (pv 10) (pa_cons (pe_tup (pa_cons (pe_op op_sub pe_int (pv 8)) (pa_cons (pe_op op_sub (pe_op op_sub (pv 3) pe_int) (pv 7)) pa_nil))) pa_nil)))) pss_nil) (pss_cons (ps_asg (pe_tup (pa_cons pe_int (pa_cons pe_non pa_nil))) (pg_tup rfl (pgs_cons (pg_name (i := 11) sc__law_first.nd rfl (Or.inl rfl)) (pgs_cons (pg_name (i := 12) sc__law_first.nd rfl (Or.inl rfl)) pgs_nil)))) (pss_cons (ps_for PassesOwn.never rfl (pi_list (pv 10)) (pg_tup rfl (pgs_cons (pg_name (i := 13) sc__law_first.nd rfl (Or.inl rfl)) (pgs_cons (pg_name (i := 14) sc__law_first.nd rfl (Or.inl rfl)) pgs_nil))) (pss_cons (ps_if (PW.pt (pw_and (pt_cmpR op_eq (pv 13) pe_int (nomark _)) (pw_and1 (pt_cmpR op_lt (pv 14) pe_int (nomark _))))) (pss_one (ps_ret pe_non)) pss_nil) (pss_cons (ps_if (pt_cmpR op_gt (pv 13) pe_int (nomark _)) (pss_one (ps_set (i := 11) sc__law_first.nd rfl (Or.inl rfl) (pe_callB (call_max2 rfl) rfl B.max_ (by decide +kernel) (pa_cons (pv 11) (pa_cons (pe_op op_sub pe_int (pe_op op_fdivX (pv 14) (pv 13))) pa_nil))))) pss_nil) (pss_one (ps_if (PW.pt (pw_and (pt_cmpR op_lt (pv 13) pe_int (nomark _)) (pw_and1 (PW.pt (pw_or (pt_cmpR op_isN (pv 12) pe_non (nomark _)) (pw_or1 (pt_cmpR op_lt (pe_op op_fdivX (pv 14) (pe_op op_sub pe_int (pv 13))) (pv 12) (nomark _)))))))) (pss_one (ps_set (i := 12) sc__law_first.nd rfl (Or.inl rfl) (pe_op op_fdivX (pv 14) (pe_op op_sub pe_int (pv 13))))) pss_nil))))) (pss_one (ps_ret (pe_ifExp (PW.pt (pw_or (pt_cmpR op_isN (pv 12) pe_non (nomark _)) (pw_or1 (pt_cmpR op_le (pv 11) (pv 12) (nomark _))))) (pe_op op_add (pv 5) (pe_op op_mulW (pv 11) (pv 6))) pe_non)))))))))), ?_⟩
  rcases hc with ⟨rfl, cw⟩ | ⟨t, st, k, j, sp, rfl, ht, M, hj, hs⟩
  · exact ⟨_, rfl, rfl, _, rfl, iteDT rfl (q none H (commW_no cw) (fun n e => by cases e) (Same.refl _))⟩
  have o1 : PartOk n1 d1 p1 s1 := o1
  have o2 : PartOk n2 d2 p2 s2 := o2
  have M : Meet s1 s2 (p2 - p1) (Int.gcd s1 s2 : Int) st k := M
  have hj : j * s2 = k * s1 - (p2 - p1) := hj
  have hs : sp * s2 = s1 * st := hs
  refine ⟨_, rfl, rfl, _, rfl, iteDF (fun z => by cases z) ?_⟩
  refine ⟨_, rfl, t, _, rfl, .inl (.inl ht), rfl, _, _, rfl, _, _, rfl, _, _, rfl, _, _, rfl, rfl, ?_⟩
  refine ⟨fun σ' H' => σ' = [some (.ref t1), some (.ref t2), some (.ref t), some (optV cnt), some (.bl fl), some (.int k), some (.int st), some (.int j), some (.int sp), some (.int (d1 + k - d2 - j - (if fl = true then 0 else 1))), none, none, none, none, none] ∧ H' = H, ?_, ?_⟩
  · refine ⟨_, rfl, t1, _, _, _, rfl, rfl, h1, atI_nat (j := 1) rfl, _, rfl, _, _, rfl, rfl, _, rfl, t2, _, _, _, rfl, rfl, h2, atI_nat (j := 1) rfl, _, _, rfl, rfl, _, rfl, _, _, rfl, rfl, _, rfl, _, rfl, .inr ⟨_, rfl, _, _, rfl, rfl, ?_⟩⟩
    cases fl <;> exact ⟨rfl, rfl⟩
  rintro σ' H' ⟨rfl, rfl⟩
  have b1 := o1.d1
  have b2 := o2.d1
  have b3 := o1.d0
  have b4 := o2.d0
  have r0 := M.r0
  have r1 := M.r1
  have stp := M.st.1
  have stl : st ≤ 10 ^ 18 := by
    have h1 := M.se
    have h2 := M.d0
    have h3 : st * 1 ≤ st * (Int.gcd s1 s2 : Int) := Int.mul_le_mul_of_nonneg_left (by omega) (by omega)
    have := o2.s0
    have := o2.s1
    omega
  have jb : -(10 ^ 37) ≤ j ∧ j ≤ 10 ^ 37 := by
    have h0 := mul_bd (a := k) (b := s1) (A := 10 ^ 18) (B := 10 ^ 18) r0 (by omega) o1.s0 o1.s1 (by decide)
    have h1 := o1.p0
    have h2 := o1.p1
    have h3 := o2.p0
    have h4 := o2.p1
    have h5 : (j * s2).natAbs ≤ 10 ^ 37 := by rw [hj]; omega
    rw [Int.natAbs_mul] at h5
    have h6 : 1 ≤ s2.natAbs := by have := o2.sn; omega
    have h7 := Nat.mul_le_mul_left j.natAbs h6
    omega
  have spb : sp.natAbs ≤ 10 ^ 37 := by
    have h0 := mul_bd (a := st) (b := s1) (A := 10 ^ 18) (B := 10 ^ 18) (by omega) stl o1.s0 o1.s1 (by decide)
    have h5 : (sp * s2).natAbs ≤ 10 ^ 37 := by rw [hs, Int.mul_comm]; omega
    rw [Int.natAbs_mul] at h5
    have h6 : 1 ≤ s2.natAbs := by have := o2.sn; omega
    have h7 := Nat.mul_le_mul_left sp.natAbs h6
    omega
  refine ⟨_, rfl, _, rfl, by show 2 ≤ sizeLine; decide, fun u1 nu1 => ?_⟩
  refine ⟨_, rfl, _, rfl, _, _, rfl, rfl, _, rfl, by show 2 ≤ sizeLine; decide, fun u2 nu2 => ?_⟩
  refine ⟨by show 2 ≤ sizeLine; decide, fun Lb nLb => ?_⟩
  have w1 := same_new nu1 (.tup [.int sp, .int j])
  have w2 := same_new nu2 (.tup [.int (st - sp), .int (d1 + k - d2 - j - (if fl = true then 0 else 1))])
  have w3 := same_new nLb (.lst [.ref u1, .ref u2])
  have nLb0 : H' Lb = none := by
    cases e : H' Lb with
    | none => rfl
    | some o => rw [w2 _ _ (w1 _ _ e)] at nLb; cases nLb
  refine ⟨fun σ' H2 => ∃ zs : List (Addr × Int × Int), σ' = [some (.ref t1), some (.ref t2), some (.ref t), some (optV cnt), some (.bl fl), some (.int k), some (.int st), some (.int j), some (.int sp), some (.int (d1 + k - d2 - j - (if fl = true then 0 else 1))), some (.ref Lb), none, none, none, none] ∧ H2 Lb = some (.lst (zs.map fun z => V.ref z.1)) ∧
    (∀ z ∈ zs, H2 z.1 = some (.tup [.int z.2.2, .int z.2.1])) ∧ zs.map (·.2) = fLines d1 d2 st k j sp cnt fl ∧ Same H' H2, ?_, ?_⟩
  · have a1 := w3 _ _ (w2 _ _ (upd_same (H := H') (a := u1) (o := .tup [.int sp, .int j])))
    have a2 := w3 _ _ (upd_same (H := upd H' u1 (.tup [.int sp, .int j])) (a := u2) (o := .tup [.int (st - sp), .int (d1 + k - d2 - j - (if fl = true then 0 else 1))]))
    refine ⟨_, rfl, rfl, _, rfl, ?_⟩
    cases cnt with
    | none =>
      refine iteNS rfl ⟨[(u1, j, sp), (u2, d1 + k - d2 - j - (if fl = true then 0 else 1), st - sp)], rfl, upd_same, fun z hz => ?_, rfl, (w1.trans w2).trans w3⟩
      rcases List.mem_cons.mp hz with rfl | hz
      · exact a1
      · obtain rfl := List.mem_singleton.mp hz
        exact a2
    | some c =>
      refine iteNN (fun z => by cases z) ?_
      refine ⟨_, rfl, .inl ⟨rfl, _, SqL.of upd_same⟩, _, rfl, _, _, rfl, rfl, _, rfl, _, _, rfl, rfl, _, rfl, _, _, rfl, rfl, by show 2 ≤ sizeLine; decide, fun u3 nu3 => ?_⟩
      have w4 := same_new nu3 (.tup [.int (0 - sp), .int (c - 1 - j)])
      have hLb := w4 _ _ upd_same
      refine ⟨Lb, _, _, rfl, rfl, hLb, by show 2 < sizeLine; decide, [(u1, j, sp), (u2, d1 + k - d2 - j - (if fl = true then 0 else 1), st - sp), (u3, c - 1 - j, 0 - sp)], rfl, upd_same, fun z hz => ?_, rfl, sameAt (((w1.trans w2).trans w3).trans w4) nLb0⟩
      rcases List.mem_cons.mp hz with rfl | hz
      · rw [upd_ne (ne_of (w4 _ _ a1) hLb (by intro z; cases z))]
        exact w4 _ _ a1
      · rcases List.mem_cons.mp hz with rfl | hz
        · rw [upd_ne (ne_of (w4 _ _ a2) hLb (by intro z; cases z))]
          exact w4 _ _ a2
        · obtain rfl := List.mem_singleton.mp hz
          rw [upd_ne (ne_of upd_same hLb (by intro z; cases z)), upd_same]
  rintro σ' H2 ⟨zs, rfl, hLb, hz, ez, s2'⟩
  have bd : ∀ z ∈ zs, -(10 ^ 38) ≤ z.2.1 ∧ z.2.2.natAbs ≤ 10 ^ 38 := fun z hzz => by
    have hm : z.2 ∈ fLines d1 d2 st k j sp cnt fl := by rw [← ez]; exact List.mem_map_of_mem hzz
    unfold fLines at hm
    rcases List.mem_append.mp hm with hm | hm
    · rcases List.mem_cons.mp hm with e | hm
      · rw [e]
        exact ⟨by show -(10 ^ 38) ≤ j; omega, by show sp.natAbs ≤ 10 ^ 38; omega⟩
      · rw [List.mem_singleton.mp hm]
        refine ⟨?_, by show (st - sp).natAbs ≤ 10 ^ 38; omega⟩
        show -(10 ^ 38) ≤ d1 + k - d2 - j - (if fl = true then 0 else 1)
        split <;> omega
    · obtain ⟨c, hc, e⟩ := List.mem_map.mp hm
      rw [← e]
      have := c0 c (by cases cnt with | none => cases hc | some x => obtain rfl := List.mem_singleton.mp hc; rfl)
      exact ⟨by show -(10 ^ 38) ≤ c - 1 - j; omega, by show (0 - sp).natAbs ≤ 10 ^ 38; omega⟩
  have zget : ∀ (i : Nat) (x : V), (zs.map fun z => V.ref z.1)[i]? = some x → ∃ z, z ∈ zs ∧ x = V.ref z.1 ∧ (zs.map (·.2)).take (i + 1) = (zs.map (·.2)).take i ++ [z.2] := fun i x hx => by
    obtain ⟨z, e, rfl⟩ := map_get hx
    refine ⟨z, List.mem_of_getElem? e, rfl, ?_⟩
    rw [List.take_add_one, List.getElem?_map, e]
    rfl
  refine ⟨by show 2 ≤ sizeLine; decide, fun u0 hu0 => ⟨u0, _, rfl, SqT.of upd_same, rfl, _, _, rfl, _, _, rfl, rfl, ?_⟩⟩
  have s0 := same_new hu0 (.tup [.int 0, .non])
  refine ⟨_, rfl, Lb, rfl, ⟨_, SqL.of (s0 _ _ hLb)⟩, for_list (K := K) (a := Lb) (xs := zs.map fun z => V.ref z.1) (fun i σ' H3 => ∃ (a : Int) (b : Option Int) (o13 o14 : Option V), σ' = [some (.ref t1), some (.ref t2), some (.ref t), some (optV cnt), some (.bl fl), some (.int k), some (.int st), some (.int j), some (.int sp), some (.int (d1 + k - d2 - j - (if fl = true then 0 else 1))), some (.ref Lb), some (.int a), some (optV b), o13, o14] ∧
    Spn (10 ^ 38) ((zs.map (·.2)).take i) a b ∧ Same H2 H3) ⟨0, none, none, none, rfl, Spn.start (by decide), s0⟩ (fun i σ' H' _ h => by obtain ⟨_, _, _, _, _, _, h⟩ := h; exact SqL.of (h _ _ hLb)) ?_ ?_⟩
  · rintro i v σ' H3 hv ⟨a, b, o13, o14, rfl, I, sm⟩
    obtain ⟨z, zm, rfl, tk⟩ := zget i v hv
    obtain ⟨tz, s, g⟩ := z
    have htz : H3 tz = some (.tup [.int g, .int s]) := sm _ _ (hz _ zm)
    obtain ⟨a0, g0⟩ : -(10 ^ 38) ≤ s ∧ g.natAbs ≤ 10 ^ 38 := bd _ zm
    have tk : (zs.map (·.2)).take (i + 1) = (zs.map (·.2)).take i ++ [(s, g)] := tk
    have dvx : ∀ x : Int, x.natAbs = g.natAbs → x ≠ 0 → CDivX s x := fun x e n => ⟨n, Nat.lt_of_lt_of_le (log2_small (show x.natAbs < 2 ^ 140 by omega) (by decide)) (by decide)⟩
    refine ⟨tz, _, rfl, SqT.of htz, rfl, _, _, rfl, _, _, rfl, rfl, ?_⟩
    by_cases z0 : g = 0
    · subst z0
      refine ⟨_, rfl, rfl, _, rfl, iteDT rfl ?_⟩
      refine ⟨_, rfl, _, _, rfl, rfl, _, rfl, ?_⟩
      by_cases c : s < 0
      · refine iteDT c ?_
        exact q none H3 (first_least o2.sn M hj hs (r := none) (by rw [← ez]; exact spn_zero (List.mem_map.mpr ⟨_, zm, rfl⟩) c)) (fun n e => by cases e) (s2'.trans sm)
      · refine iteDF c ?_
        refine ⟨_, rfl, _, _, rfl, rfl, _, rfl, iteDF (by decide) ?_⟩
        refine ⟨_, rfl, _, _, rfl, rfl, _, rfl, iteDF (by decide) ?_⟩
        exact ⟨a, b, _, _, rfl, by rw [tk]; exact I.flat (by omega), sm⟩
    refine ⟨_, rfl, rfl, _, rfl, iteDF (fun z => z0 (V.int.inj z)) ?_⟩
    refine ⟨_, rfl, _, _, rfl, rfl, _, rfl, ?_⟩
    by_cases pos : 0 < g
    · refine iteDT pos ?_
      refine ⟨_, rfl, _, rfl, _, rfl, _, _, rfl, rfl, dvx g rfl z0, _, _, rfl, rfl, _, _, rfl, ?_⟩
      have e : (if 0 - s.fdiv g > a then 0 - s.fdiv g else a) = max a (-(s / g)) := by
        rw [Int.fdiv_eq_ediv_of_nonneg s (by omega)]
        split <;> omega
      refine ⟨_, rfl, _, _, rfl, rfl, _, rfl, iteDF (by omega) ?_⟩
      exact ⟨_, b, _, _, rfl, by rw [tk, e]; exact I.pos pos a0, sm⟩
    · refine iteDF pos ?_
      have neg : g < 0 := by omega
      refine ⟨_, rfl, _, _, rfl, rfl, _, rfl, iteDT neg ?_⟩
      have e : s.fdiv (0 - g) = s / (-g) := by rw [Int.zero_sub, Int.fdiv_eq_ediv_of_nonneg s (by omega)]
      cases b with
      | none =>
        refine ⟨_, rfl, rfl, _, rfl, iteDT rfl ?_⟩
        refine ⟨_, rfl, _, rfl, _, _, rfl, rfl, _, _, rfl, rfl, dvx _ (by omega) (by omega), ?_⟩
        exact ⟨a, some _, _, _, rfl, by rw [tk, e]; exact I.neg neg, sm⟩
      | some m =>
        refine ⟨_, rfl, rfl, _, rfl, iteDF (by intro z; cases z) ?_⟩
        refine ⟨_, rfl, _, rfl, _, _, rfl, rfl, _, _, rfl, rfl, dvx _ (by omega) (by omega), _, rfl, _, _, rfl, rfl, _, rfl, ?_⟩
        by_cases c : s.fdiv (0 - g) < m
        · refine iteDT c ?_
          refine ⟨_, rfl, _, rfl, _, _, rfl, rfl, _, _, rfl, rfl, dvx _ (by omega) (by omega), ?_⟩
          have e2 : min m (s / (-g)) = s.fdiv (0 - g) := by rw [e] at c ⊢; omega
          exact ⟨a, some _, _, _, rfl, by rw [tk, ← e2]; exact I.neg neg, sm⟩
        · refine iteDF c ?_
          have e2 : min m (s / (-g)) = m := by rw [e] at c; omega
          refine ⟨a, some m, _, _, rfl, ?_, sm⟩
          have z : Spn (10 ^ 38) ((zs.map (·.2)).take i ++ [(s, g)]) a (some (min m (s / (-g)))) := I.neg neg
          rw [e2] at z
          rw [tk]
          exact z
  rintro σ' H3 ⟨a, b, o13, o14, rfl, I, sm⟩
  rw [List.length_map, ← List.length_map (f := fun z : Addr × Int × Int => z.2), List.take_length, ez] at I
  have a0 := I.a0
  have aM := I.aM
  have ab := mul_bd (a := a) (b := st) (A := 10 ^ 38) (B := 10 ^ 18) a0 aM (by omega) stl (by decide)
  have fin : ∀ v' : V, v' = .int (k + a * st) → SpnOf (fLines d1 d2 st k j sp cnt fl) (some (a, b)) → Q v' H3 := fun v' e S => by
    rw [e]
    exact q (some (k + a * st)) H3 (first_least o2.sn M hj hs S) (fun n e => by cases e; omega) (s2'.trans sm)
  refine ⟨_, rfl, rfl, _, rfl, ?_⟩
  cases b with
  | none =>
    refine iteDT rfl ?_
    refine ⟨_, rfl, _, rfl, _, rfl, _, _, rfl, rfl, wide_mul (a := 140) (b := 64) (by omega) (by omega) (by decide) (by decide) (by decide), _, _, rfl, rfl, ?_⟩
    exact fin _ rfl (I.done fun m e => by cases e)
  | some m =>
    refine iteDF (by intro z; cases z) ?_
    refine ⟨_, rfl, _, rfl, _, _, rfl, rfl, _, rfl, ?_⟩
    by_cases c : a ≤ m
    · refine iteDT c ?_
      refine ⟨_, rfl, _, rfl, _, rfl, _, _, rfl, rfl, wide_mul (a := 140) (b := 64) (by omega) (by omega) (by decide) (by decide) (by decide), _, _, rfl, rfl, ?_⟩
      exact fin _ rfl (I.done fun n e => by cases e; exact c)
    · refine iteDF c ?_
      exact q none H3 (first_least o2.sn M hj hs (r := none) (I.fail (by omega))) (fun n e => by cases e) (s2'.trans sm)
end
end Ur
/-! HH: the law's own pairs, and the next stop of a painter. -/
namespace Ur
open PySem PySem.Spec PyProof.Rows L2
section
variable {K : PySem.W.Frag}
theorem Team.ix {H : Hp} {ts : List Addr} {qs : List Quad} (h : Team H ts qs) {i : Nat} (hi : i < qs.length) : ∃ t q, ts[i]? = some t ∧ qs[i]? = some q ∧ H t = some (.tup (quadV q)) ∧ QuadOk q ∧ (ts.map V.ref)[i]? = some (V.ref t) := by
  have hi1 : i < ts.length := by rw [h.len]; exact hi
  have e1 : ts[i]? = some ts[i] := List.getElem?_eq_getElem hi1
  have e2 : qs[i]? = some qs[i] := List.getElem?_eq_getElem hi
  exact ⟨_, _, e1, e2, h.at_ i _ _ e1 e2, h.ok _ (List.getElem_mem hi), by rw [List.getElem?_map, e1]; rfl⟩
theorem same_sql {H H' : Hp} {F : Addr} {xs : List V} (s : Same H H') (h : SqL K H F xs) : SqL K H' F xs := by
  rcases h with (h | ⟨o, h⟩) | h
  · exact .inl (.inl (s _ _ h))
  · exact .inl (.inr ⟨o, s _ _ h⟩)
  · exact .inr h
end
/-- the common posts of all pairs -/
def PairD (H : Hp) (kvs : List (List Key × V)) (qs : List Quad) (S : Nat → Nat → Prop) : Prop := ∀ (a b : Nat) (x y : Quad), qs[a]? = some x → qs[b]? = some y → a ≠ b → S a b → ∃ v, valV kvs [Sum.inl (a : Int), Sum.inl (b : Int)] = some v ∧ ComAt H v x y
theorem PairD.same {H H' : Hp} {kvs : List (List Key × V)} {qs : List Quad} {S : Nat → Nat → Prop} (h : PairD H kvs qs S) (s : Same H H') : PairD H' kvs qs S := fun a b x y h1 h2 h3 h4 => let ⟨v, e, c⟩ := h a b x y h1 h2 h3 h4; ⟨v, e, c.same s⟩
theorem ComAt.upd {H : Hp} {v : V} {q1 q2 : Quad} {d : Addr} {o o' : HO} (h : ComAt H v q1 q2) (hd : H d = some o) (n : ∀ xs, o ≠ .tup xs) : ComAt (upd H d o') v q1 q2 := h.imp id fun ⟨t, st, k, j, sp, e, ht, r⟩ => ⟨t, st, k, j, sp, e, by rw [upd_ne (ne_of ht hd (fun z => n _ z.symm))]; exact ht, r⟩
abbrev s__law_pairs : Stmt := (topS 76)
abbrev N_sc__law_pairs : List Str := ["_law_painters", "_law_found", "_law_a", "_law_b"]
abbrev P__law_pairs : List Str := ["_law_painters"]
theorem sc__law_pairs : FnScope N_sc__law_pairs P__law_pairs (defScope s__law_pairs) := ⟨rfl, rfl, rfl, by decide +kernel, rfl, by decide +kernel, by decide +kernel⟩
def spPairs (K : PySem.W.Frag) : Sp := fun vs H Q _ => ∃ (F : Addr) (ts : List Addr) (qs : List Quad), vs = [.ref F] ∧ SqL K H F (ts.map V.ref) ∧ Team H ts qs ∧ ∀ d kvs H', H' d = some (.dT kvs) → PairD H' kvs qs (fun _ _ => True) → Same H H' → Q (.ref d) H'
section
variable {P : Program} {w : World} {K : PySem.W.Frag} {mg : Str → Option Value} {base : Heap}
set_option maxHeartbeats 16000000 in
theorem ok_pairs (D : Dfn K mg "_law_pairs" s__law_pairs P__law_pairs) (B : Blt mg) (CCo : Cal P w K mg base 2 "_law_common" P__law_common (spCom K)) : Cal P w K mg base 3 "_law_pairs" P__law_pairs (spPairs K) := by
  refine D.cal sc__law_pairs (fun vs H Q E h => ?_) fun f cdv A outer s H vs Q E hr h => ?_
  · obtain ⟨_, _, _, rfl, _⟩ := h
    rfl
  obtain ⟨F, ts, qs, rfl, hF, tm, q⟩ := h
  have hu := hu_of hr
  have few := tm.few
  have tl : (ts.map V.ref).length = qs.length := by rw [List.length_map, tm.len]
  refine ⟨_, (pss_cons (ps_set (i := 1) sc__law_pairs.nd rfl (Or.inl rfl) pe_dnewT) (pss_cons (ps_for PassesOwn.never rfl (pi_range1 rfl B.range_ (pa_cons (pe_callB call_len_seq rfl B.len_ PySem.boot_len (pa_cons (pv 0) pa_nil)) pa_nil)) (pg_name (i := 2) sc__law_pairs.nd rfl (Or.inl rfl)) (pss_one (ps_for PassesOwn.never rfl (pi_range1 rfl B.range_ (pa_cons (pe_callB call_len_seq rfl B.len_ PySem.boot_len (pa_cons (pv 0) pa_nil)) pa_nil)) (pg_name (i := 3) sc__law_pairs.nd rfl (Or.inl rfl)) (pss_one (ps_if (pt_cmpR op_ne (pv 2) (pv 3) (nomark _)) (pss_one (ps_dput hu (pv 1) (pe_tup (pa_cons (pv 2) (pa_cons (pv 3) pa_nil))) (pe_cal CCo (hr.mono (by decide)) (pa_cons (pe_ix ix_list (pv 0) (pv 2) (fun _ _ => rfl)) (pa_cons (pe_ix ix_list (pv 0) (pv 3) (fun _ _ => rfl)) pa_nil))) rfl)) pss_nil))))) (pss_one (ps_ret (pv 1))))), ?_⟩
  refine fun d nd => ?_
  have sd := same_new nd (.dT [])
  refine ⟨_, rfl, F, _, rfl, .inl (same_sql sd hF), _, rfl, by omega, by omega, ?_⟩
  rw [tl]
  refine for_range (lo := 0) (n := qs.length) (fun i σ H1 => ∃ (kvs : List (List Key × V)) (o2 o3 : Option V), σ = [some (.ref F), some (.ref d), o2, o3] ∧ H1 d = some (.dT kvs) ∧ PairD H1 kvs qs (fun a _ => a < i) ∧ kvs.length ≤ 40 * i ∧ Same H H1) ⟨[], _, _, rfl, upd_same, (fun a b x y h1 h2 h3 h4 => absurd h4 (Nat.not_lt_zero a)), Nat.zero_le _, sd⟩ ?_ ?_
  · rintro i σ H1 hi ⟨kvs, o2, o3, rfl, hd, pd, lk, s1⟩
    obtain ⟨t1, q1, f1, f2, f3, f4, f5⟩ := tm.ix hi
    refine ⟨_, rfl, F, _, rfl, .inl (same_sql s1 hF), _, rfl, by omega, by omega, ?_⟩
    rw [tl]
    refine for_range (lo := 0) (n := qs.length) (fun j σ H2 => ∃ (kvs : List (List Key × V)) (o3 : Option V), σ = [some (.ref F), some (.ref d), some (.int (0 + (i : Int))), o3] ∧ H2 d = some (.dT kvs) ∧ PairD H2 kvs qs (fun a b => a < i ∨ a = i ∧ b < j) ∧ kvs.length ≤ 40 * i + j ∧ Same H H2) ⟨kvs, _, rfl, hd, (fun a b x y h1 h2 h3 h4 => pd a b x y h1 h2 h3 (by omega)), by omega, s1⟩ ?_ ?_
    · rintro j σ H2 hj ⟨kvs, o3, rfl, hd, pd, lk, s2⟩
      obtain ⟨t2, q2, g1, g2, g3, g4, g5⟩ := tm.ix hj
      have zi : (0 : Int) + (i : Int) = i := by omega
      have zj : (0 : Int) + (j : Int) = j := by omega
      refine ⟨_, rfl, _, rfl, rfl, _, rfl, ?_⟩
      by_cases e : i = j
      · subst e
        refine iteNS rfl ?_
        exact ⟨kvs, _, rfl, hd, fun a b x y h1 h2 h3 h4 => pd a b x y h1 h2 h3 (by omega), by omega, s2⟩
      · refine iteNN (fun z => e (by have := V.int.inj z; omega)) ?_
        refine ⟨_, rfl, _, rfl, F, _, _, _, rfl, rfl, same_sql s2 hF, by rw [zi]; exact atI_nat f5, _, rfl, _, rfl, F, _, _, _, rfl, rfl, same_sql s2 hF, by rw [zj]; exact atI_nat g5, ?_⟩
        obtain ⟨n1, d1, p1, s1'⟩ := q1
        obtain ⟨n2, d2, p2, s2'⟩ := q2
        have k1 : PartOk n1 d1 p1 s1' := f4
        have k2 : PartOk n2 d2 p2 s2' := g4
        have a1 := k1.s0
        have a2 := k1.s1
        have a3 := k1.p0
        have a4 := k1.p1
        have a5 := k2.s0
        have a6 := k2.s1
        have a7 := k2.p0
        have a8 := k2.p1
        refine ⟨t1, t2, _, _, p1, s1', _, _, p2, s2', rfl, .inl (.inl (s2 _ _ f3)), .inl (.inl (s2 _ _ g3)), k1.sn, k2.sn, by omega, by omega, by omega, by omega, fun v H3 s3 hv => ?_⟩
        have hd3 := s3 _ _ hd
        refine ⟨_, rfl, _, rfl, _, rfl, by show 2 ≤ sizeLine; decide, fun tk ntk => ?_⟩
        have s4 := same_new ntk (.tup [.int (0 + (i : Int)), .int (0 + (j : Int))])
        have hd4 := s4 _ _ hd3
        have hk : upd H3 tk (.tup [.int (0 + (i : Int)), .int (0 + (j : Int))]) tk = some (.tup (([Sum.inl (i : Int), Sum.inl (j : Int)] : List Key).map kV)) := by rw [upd_same, zi, zj]; rfl
        refine ⟨d, _, rfl, DPut.t hd4 hk (Nat.lt_of_le_of_lt (show kvs.length ≤ 1640 by omega) (by decide)), ?_⟩
        refine ⟨_, _, rfl, upd_same, fun a b x y h1 h2 h3 h4 => ?_, ?_, ?_⟩
        · rw [valV_put]
          by_cases c : a = i ∧ b = j
          · obtain ⟨rfl, rfl⟩ := c
            rw [if_pos rfl]
            rw [f2] at h1
            rw [g2] at h2
            cases h1
            cases h2
            refine ⟨v, rfl, ?_⟩
            have cv : ComAt H3 v (n1, d1, p1, s1') (n2, d2, p2, s2') := by
              rcases hv with ⟨rfl, c⟩ | ⟨t, st, k, jj, sp, rfl, c1, c2, c3, c4⟩
              · exact .inl ⟨rfl, c⟩
              · exact .inr ⟨t, st, k, jj, sp, rfl, c1, c2, c3, c4⟩
            exact (cv.same s4).upd hd4 (fun xs z => by cases z)
          · have ne : ¬ ([Sum.inl (a : Int), Sum.inl (b : Int)] : List Key) = [Sum.inl (i : Int), Sum.inl (j : Int)] := fun z => by
              injection z with z1 z2
              injection z2 with z2 _
              have z1 := Sum.inl.inj z1
              have z2 := Sum.inl.inj z2
              exact c ⟨by omega, by omega⟩
            rw [if_neg ne]
            obtain ⟨u, e1, e2⟩ := pd a b x y h1 h2 h3 (by omega)
            exact ⟨u, e1, ((e2.same s3).same s4).upd hd4 (fun xs z => by cases z)⟩
        · have := length_putK kvs ([Sum.inl (i : Int), Sum.inl (j : Int)] : List Key) v
          omega
        · have nd0 : H d = none := nd
          exact sameAt ((s2.trans s3).trans s4) nd0
    · rintro σ H2 ⟨kvs, o3, rfl, hd, pd, lk, s2⟩
      exact ⟨kvs, _, _, rfl, hd, fun a b x y h1 h2 h3 h4 => pd a b x y h1 h2 h3 (by have := (List.getElem?_eq_some_iff.mp h2).1; omega), by omega, s2⟩
  · rintro σ H1 ⟨kvs, o2, o3, rfl, hd, pd, lk, s1⟩
    exact ⟨_, rfl, q d kvs H1 hd (fun a b x y h1 h2 h3 h4 => pd a b x y h1 h2 h3 (List.getElem?_eq_some_iff.mp h1).1) s1⟩
end
theorem blk_pblk {qs : List Quad} {a b : Nat} {x y : Quad} {cnt : Option Int} (h1 : qs[a]? = some x) (h2 : qs[b]? = some y) {n : Int} : Blk x.2.2.1 x.2.1 x.2.2.2 y.2.2.1 y.2.1 y.2.2.2 cnt (decide (b < a)) n ↔ PBlk (dQ qs) (fSP qs) a b cnt n := by
  obtain ⟨_, d1, d2, d3⟩ := q_at h1
  obtain ⟨_, d4, d5, d6⟩ := q_at h2
  unfold Blk PBlk fSP
  rw [d1, d2, d3, d4, d5, d6]
  constructor
  · rintro ⟨m, m0, e, pj, o⟩
    exact ⟨m, m0, e, pj, o.imp id fun q => ⟨q.2, of_decide_eq_true q.1⟩⟩
  · rintro ⟨m, m0, e, pj, o⟩
    exact ⟨m, m0, e, pj, o.imp id fun q => ⟨decide_eq_true q.2, q.1⟩⟩
/-- the counts of a list -/
def cnL (cs : List (Option Int)) (i : Nat) : Option Int := match cs[i]? with | some x => x | none => none
theorem cnL_at {cs : List (Option Int)} {i : Nat} {x : Option Int} (h : cs[i]? = some x) : cnL cs i = x := by
  unfold cnL
  rw [h]
/-- the first stop of a painter that could be -/
def NextAt (H : Hp) (v : V) (qs : List Quad) (Cn : Nat → Option Int) (a m : Nat) : Prop := (v = .non ∧ ∀ b, b < m → ∀ n, 0 ≤ n → ¬ PBlk (dQ qs) (fSP qs) a b (Cn b) n) ∨
  ∃ (t : Addr) (k : Int) (b : Nat), v = .ref t ∧ H t = some (.tup [.int (dQ qs a + k), .int (a : Int), .int k, .int (b : Int)]) ∧ b < m ∧ 0 ≤ k ∧ k ≤ 10 ^ 70 ∧ PBlk (dQ qs) (fSP qs) a b (Cn b) k ∧ ∀ c, c < m → ∀ n, 0 ≤ n → n < k → ¬ PBlk (dQ qs) (fSP qs) a c (Cn c) n
theorem NextAt.keep {H H' : Hp} {v : V} {qs : List Quad} {Cn : Nat → Option Int} {a m : Nat} (h : NextAt H v qs Cn a m) (k : ∀ b xs, H b = some (.tup xs) → H' b = some (.tup xs)) : NextAt H' v qs Cn a m := h.imp id fun ⟨t, x, b, e, ht, r⟩ => ⟨t, x, b, e, k _ _ ht, r⟩
abbrev s__law_next : Stmt := (topS 77)
abbrev N_sc__law_next : List Str := ["_law_painters", "_law_pairs_here", "_law_counts", "_law_a", "_law_best", "_law_b", "_law_k"]
abbrev P__law_next : List Str := ["_law_painters", "_law_pairs_here", "_law_counts", "_law_a"]
theorem sc__law_next : FnScope N_sc__law_next P__law_next (defScope s__law_next) := ⟨rfl, rfl, rfl, by decide +kernel, rfl, by decide +kernel, by decide +kernel⟩
def spNext (K : PySem.W.Frag) : Sp := fun vs H Q _ => ∃ (F : Addr) (ts : List Addr) (qs : List Quad) (d Cl : Addr) (kvs : List (List Key × V)) (cs : List (Option Int)) (a : Nat), vs = [.ref F, .ref d, .ref Cl, .int (a : Int)] ∧ SqL K H F (ts.map V.ref) ∧ Team H ts qs ∧ H d = some (.dT kvs) ∧ PairD H kvs qs (fun _ _ => True) ∧ H Cl = some (.lst (cs.map optV)) ∧ cs.length = qs.length ∧
  a < qs.length ∧ (∀ i c, i < qs.length → cnL cs i = some c → 0 ≤ c) ∧ ∀ v H', NextAt H' v qs (cnL cs) a qs.length → Same H H' → Q v H'
section
variable {P : Program} {w : World} {K : PySem.W.Frag} {mg : Str → Option Value} {base : Heap}
set_option maxHeartbeats 16000000 in
theorem ok_next (D : Dfn K mg "_law_next" s__law_next P__law_next) (B : Blt mg) (CFi : Cal P w K mg base 1 "_law_first" P__law_first (spFirst K)) : Cal P w K mg base 2 "_law_next" P__law_next (spNext K) := by
  refine D.cal sc__law_next (fun vs H Q E h => ?_) fun f cdv A outer s H vs Q E hr h => ?_
  · obtain ⟨_, _, _, _, _, _, _, _, rfl, _⟩ := h
    rfl
  obtain ⟨F, ts, qs, d, Cl, kvs, cs, a, rfl, hF, tm, hd, pd, hCl, cl, ha, c0, q⟩ := h
  have hu := hu_of hr
  have few := tm.few
  have tl : (ts.map V.ref).length = qs.length := by rw [List.length_map, tm.len]
  obtain ⟨t1, q1, f1, f2, f3, f4, f5⟩ := tm.ix ha
  have e1 := q_at f2
  refine ⟨_, (pss_cons (ps_set (i := 4) sc__law_next.nd rfl (Or.inl rfl) pe_non) (pss_cons (ps_for PassesOwn.never rfl (pi_range1 rfl B.range_ (pa_cons (pe_callB call_len_seq rfl B.len_ PySem.boot_len (pa_cons (pv 0) pa_nil)) pa_nil)) (pg_name (i := 5) sc__law_next.nd rfl (Or.inl rfl)) (pss_one (ps_if (pt_cmpR op_ne (pv 5) (pv 3) (nomark _)) (pss_cons (ps_set (i := 6) sc__law_next.nd rfl (Or.inl rfl) (pe_cal CFi (hr.mono (by decide)) (pa_cons (pe_ix ix_list (pv 0) (pv 3) (fun _ _ => rfl)) (pa_cons (pe_ix ix_list (pv 0) (pv 5) (fun _ _ => rfl)) (pa_cons (pe_dget hu (pv 1) (pe_tup (pa_cons (pv 3) (pa_cons (pv 5) pa_nil))) (fun _ _ => rfl)) (pa_cons (pe_ix ix_list (pv 2) (pv 5) (fun _ _ => rfl)) (pa_cons (pe_cmpR op_lt (pv 5) (pv 3) (nomark _)) pa_nil))))))) (pss_one (ps_if (PW.pt (pw_and (pt_cmpR op_notN (pv 6) pe_non (nomark _)) (pw_and1 (PW.pt (pw_or (pt_cmpR op_isN (pv 4) pe_non (nomark _)) (pw_or1 (pt_cmpR op_lt (pe_op op_add (pe_ix ix_tup (pe_ix ix_list (pv 0) (pv 3) (fun _ _ => rfl)) pe_int (fun _ _ => rfl)) (pv 6)) (pe_ix ix_tup (pv 4) pe_int (fun _ _ => rfl)) (nomark _)))))))) (pss_one (ps_set (i := 4) sc__law_next.nd rfl (Or.inl rfl) (pe_tup (pa_cons (pe_op op_add (pe_ix ix_tup (pe_ix ix_list (pv 0) (pv 3) (fun _ _ => rfl)) pe_int (fun _ _ => rfl)) (pv 6)) (pa_cons (pv 3) (pa_cons (pv 6) (pa_cons (pv 5) pa_nil))))))) pss_nil))) pss_nil))) (pss_one (ps_ret (pv 4))))), ?_⟩
  refine ⟨_, rfl, F, _, rfl, .inl hF, _, rfl, by omega, by omega, ?_⟩
  rw [tl]
  refine for_range (lo := 0) (n := qs.length) (fun j σ H1 => ∃ (best : V) (o5 o6 : Option V), σ = [some (.ref F), some (.ref d), some (.ref Cl), some (.int (a : Int)), some best, o5, o6] ∧ NextAt H1 best qs (cnL cs) a j ∧ Same H H1) ⟨_, _, _, rfl, .inl ⟨rfl, fun b hb => absurd hb (Nat.not_lt_zero b)⟩, Same.refl _⟩ ?_ ?_
  · rintro j σ H1 hj ⟨best, o5, o6, rfl, nx, s1⟩
    have zj : (0 : Int) + (j : Int) = j := by omega
    obtain ⟨t2, q2, g1, g2, g3, g4, g5⟩ := tm.ix hj
    -- one more that blocks nobody
    have skip : (∀ n, 0 ≤ n → ¬ PBlk (dQ qs) (fSP qs) a j (cnL cs j) n) → ∀ {H2 : Hp}, Same H1 H2 → NextAt H2 best qs (cnL cs) a (j + 1) := fun no H2 s2 => by
      rcases nx with ⟨e, h⟩ | ⟨t, k, b, e, ht, hb, k0, k1, pb, least⟩
      · refine .inl ⟨e, fun b hb n n0 z => ?_⟩
        by_cases c : b = j
        · rw [c] at z
          exact no n n0 z
        · exact h b (by omega) n n0 z
      · refine .inr ⟨t, k, b, e, s2 _ _ ht, by omega, k0, k1, pb, fun c hc n n0 nk z => ?_⟩
        by_cases e : c = j
        · rw [e] at z
          exact no n n0 z
        · exact least c (by omega) n n0 nk z
    refine ⟨_, rfl, _, rfl, rfl, _, rfl, ?_⟩
    by_cases e : j = a
    · subst e
      refine iteNS (congrArg V.int zj) ?_
      exact ⟨best, _, _, rfl, skip (fun n n0 => no_self f2 f4.sn) (Same.refl _), s1⟩
    refine iteNN (fun z => e (by have := V.int.inj z; omega)) ?_
    have tkk : (.tup [.int (a : Int), .int (0 + (j : Int))] : HO) = .tup (([Sum.inl (a : Int), Sum.inl (j : Int)] : List Key).map kV) := by rw [zj]; rfl
    obtain ⟨cv, ecv, hcv⟩ := pd a j q1 q2 f2 g2 (fun z => e z.symm) trivial
    obtain ⟨cn, hcn⟩ : ∃ x, cs[j]? = some x := ⟨_, List.getElem?_eq_getElem (by omega)⟩
    have ecn := cnL_at hcn
    have ecm : (cs.map optV)[j]? = some (optV cn) := by rw [List.getElem?_map, hcn]; rfl
    -- _law_first(..)
    refine ⟨_, rfl, _, rfl, F, _, _, _, rfl, rfl, same_sql s1 hF, atI_nat f5, _, rfl, _, rfl, F, _, _, _, rfl, rfl, same_sql s1 hF, by rw [zj]; exact atI_nat g5, _, rfl, _, rfl, _, rfl, by show 2 ≤ sizeLine; decide, fun tk ntk => ?_⟩
    have s2 := same_new ntk (.tup [.int (a : Int), .int (0 + (j : Int))])
    have dg : DGet (upd H1 tk (.tup [.int (a : Int), .int (0 + (j : Int))])) d (.ref tk) (some cv) := by
      have g := DGet.t (k := [Sum.inl (a : Int), Sum.inl (j : Int)]) (s2 _ _ (s1 _ _ hd)) (by rw [upd_same, tkk])
      rw [ecv] at g
      exact g
    have s12 := s1.trans s2
    refine ⟨d, _, rfl, dg, _, rfl, _, rfl, Cl, _, _, _, rfl, rfl, SqL.of (s12 _ _ hCl), by rw [zj]; exact atI_nat ecm, _, rfl, _, rfl, _, _, rfl, rfl, ?_⟩
    refine ⟨t1, t2, q1, q2, cv, cn, _, rfl, .inl (.inl (s12 _ _ f3)), .inl (.inl (s12 _ _ g3)), f4, g4, hcv.same s12, fun c ec => c0 j c hj (by rw [ecn]; exact ec), fun r H3 le bd s3 => ?_⟩
    have le : Least (PBlk (dQ qs) (fSP qs) a j (cnL cs j)) r := by
      rw [ecn]
      refine le.congr fun n n0 => ?_
      rw [← blk_pblk f2 g2, show decide ((0 : Int) + (j : Int) < (a : Int)) = decide (j < a) from decide_eq_decide.mpr (by omega)]
    have s13 := s12.trans s3
    -- k is not None and ..
    refine ⟨_, rfl, rfl, _, rfl, ?_⟩
    cases r with
    | none =>
      refine iteNS rfl ?_
      exact ⟨best, _, _, rfl, skip (fun n n0 => le n n0) (s2.trans s3), s13⟩
    | some k =>
      refine iteNN (fun z => by cases z) ?_
      obtain ⟨k0, pk, lk⟩ := le
      have k1 := bd k rfl
      have rd : ∀ H4, Same H H4 → H4 t1 = some (.tup (quadV q1)) := fun H4 s => s _ _ f3
      obtain ⟨n1, d1, p1, st1⟩ := q1
      have ed : dQ qs a = d1 := e1.2.1
      -- the new best
      have put : (∀ c, c < j → ∀ n, 0 ≤ n → n < k → ¬ PBlk (dQ qs) (fSP qs) a c (cnL cs c) n) → ∀ (H4 : Hp) (u : Addr), H4 u = some (.tup [.int (d1 + k), .int (a : Int), .int k, .int (0 + (j : Int))]) → NextAt H4 (.ref u) qs (cnL cs) a (j + 1) := fun h H4 u hu => by
        refine .inr ⟨u, k, j, rfl, by rw [hu, ed, zj], by omega, k0, k1, pk, fun c hc n n0 nk z => ?_⟩
        by_cases e : c = j
        · rw [e] at z
          exact lk n n0 nk z
        · exact h c (by omega) n n0 nk z
      rcases nx with ⟨rfl, h⟩ | ⟨t, kb, b, rfl, ht, hb, kb0, kb1, pb, least⟩
      · refine ⟨_, rfl, rfl, _, rfl, iteDT rfl ?_⟩
        refine ⟨_, rfl, _, rfl, F, _, _, _, rfl, rfl, same_sql s13 hF, atI_nat f5, t1, _, _, _, rfl, rfl, SqT.of (rd _ s13), atI_nat (j := 1) rfl, _, rfl, _, _, rfl, rfl, _, rfl, _, rfl, _, rfl, by show 4 ≤ sizeLine; decide, fun u nu => ?_⟩
        have s4 := same_new nu (.tup [.int (d1 + k), .int (a : Int), .int k, .int (0 + (j : Int))])
        exact ⟨.ref u, _, _, rfl, put (fun c hc n n0 nk => h c hc n n0) _ u upd_same, s13.trans s4⟩
      · refine ⟨_, rfl, rfl, _, rfl, iteDF (fun z => by cases z) ?_⟩
        have ht3 := (s2.trans s3) _ _ ht
        refine ⟨_, rfl, _, rfl, F, _, _, _, rfl, rfl, same_sql s13 hF, atI_nat f5, t1, _, _, _, rfl, rfl, SqT.of (rd _ s13), atI_nat (j := 1) rfl, _, rfl, _, _, rfl, rfl, _, rfl, t, _, _, _, rfl, rfl, SqT.of ht3, atI_nat (j := 0) rfl, _, _, rfl, rfl, _, rfl, ?_⟩
        by_cases c : d1 + k < dQ qs a + kb
        · refine iteDT c ?_
          refine ⟨_, rfl, _, rfl, F, _, _, _, rfl, rfl, same_sql s13 hF, atI_nat f5, t1, _, _, _, rfl, rfl, SqT.of (rd _ s13), atI_nat (j := 1) rfl, _, rfl, _, _, rfl, rfl, _, rfl, _, rfl, _, rfl, by show 4 ≤ sizeLine; decide, fun u nu => ?_⟩
          have s4 := same_new nu (.tup [.int (d1 + k), .int (a : Int), .int k, .int (0 + (j : Int))])
          exact ⟨.ref u, _, _, rfl, put (fun c hc n n0 nk => least c hc n n0 (by omega)) _ u upd_same, s13.trans s4⟩
        · refine iteDF c ?_
          refine ⟨.ref t, _, _, rfl, .inr ⟨t, kb, b, rfl, ht3, by omega, kb0, kb1, pb, fun x hx n n0 nk z => ?_⟩, s13⟩
          by_cases e : x = j
          · rw [e] at z
            exact lk n n0 (by omega) z
          · exact least x (by omega) n n0 nk z
  · rintro σ H1 ⟨best, o5, o6, rfl, nx, s1⟩
    exact ⟨_, rfl, q best H1 nx s1⟩
end
end Ur
/-! UrFl: [x for x in xs if x is not None], as one step. -/
namespace Ur
open PySem PySem.Spec PyProof.Rows L2
def keepV (v : V) : Bool := !decide (v = .non)
/-- the new list of those that are not None -/
def tFilt (i : Nat) : TE := fun σ H Q => ∃ (a : Addr) (xs : List V), σ[i]? = some (some (.ref a)) ∧ H a = some (.lst xs) ∧ xs.length < sizeLine ∧ ∀ D, H D = none → Q (.ref D) (upd H D (.lst (xs.filter keepV)))
theorem filter_take_succ {xs : List V} {i : Nat} {v : V} (h : xs[i]? = some v) : (xs.take (i + 1)).filter keepV = (xs.take i).filter keepV ++ (if keepV v = true then [v] else []) := by
  rw [List.take_add_one, h, List.filter_append]
  congr 1
  show [v].filter keepV = _
  rw [List.filter_cons]
  split <;> rfl
section
variable {X : Cx} {x l : Str} {i j : Nat} {elt tg : Expr} {ifs : List Expr} {scope : Scope} {pos p3 : Pos} {tt : TT}
theorem pe_filt (htt : ∀ σ H Q v, σ[j]? = some (some v) → Q (keepV v) H → tt σ H Q) (hc : X.calm = true) (nd : X.N.Nodup) (hl : PE X (.Name l p3) (tVar i)) (hj : X.N[j]? = some x) (ok : BlkOk X.N X.env.scope scope [(x, j)])
    (hg : ∀ (s : Shared) (H : Hp) (C : Addr) (cl : List (Str × Addr)) (fp : List Addr), PG (X.blk s H scope (compEnvC scope cl C X.env) fp) tg (gName j)) (ht : ∀ (s : Shared) (H : Hp) (C : Addr) (cl : List (Str × Addr)) (fp : List Addr), PTs (X.blk s H scope (compEnvC scope cl C X.env) fp) ifs tt)
    (he : ∀ (s : Shared) (H : Hp) (C : Addr) (cl : List (Str × Addr)) (fp : List Addr), PE (X.blk s H scope (compEnvC scope cl C X.env) fp) elt (tVar j)) :
    PE X (.ListComp elt [⟨tg, .Name l p3, ifs, 0⟩] scope pos) (tFilt i) := by
  refine ⟨fun pins s σ H Q I h => ?_⟩
  have h0 := pe_lc (own := [(x, j)]) (g := gName j) (tt := tt) (te := tVar j) (pos := pos) hc nd (pi_list hl) ok hg ht he
  refine h0.run pins s σ H Q I ?_
  obtain ⟨a, xs, hs, ha, lx, q⟩ := h
  have jl : j < σ.length := by rw [I.len]; exact (List.getElem?_eq_some_iff.mp hj).1
  refine ⟨_, hs, a, rfl, ⟨xs, SqL.of ha⟩, fun D nD => ?_⟩
  have nDa : a ≠ D := ne_of_none ha nD
  refine gen_it walk_list (fun k H1 => H1 = upd H D (.lst ((xs.take k).filter keepV))) rfl (fun k H1 _ e => by rw [e]; exact SqL.of (by rw [upd_ne nDa]; exact ha)) ?_ ?_
  · rintro k v H1 H2 hk rfl ⟨rfl, e⟩
    have ew : wipe σ ([(x, j)].map (·.2)) = σ.set j none := rfl
    rw [ew]
    have at_ : ((σ.set j none).set j (some v))[j]? = some (some v) := List.getElem?_set_self (by rw [List.length_set]; exact jl)
    refine ⟨?_, htt _ _ _ v at_ ?_⟩
    · show ((σ.set j none).set j (some v)).set j none = σ.set j none
      rw [List.set_set, List.set_set]
    · cases ek : keepV v with
      | true =>
        refine iteT ⟨v, at_, _, upd_same, Nat.lt_of_le_of_lt (Nat.le_trans (List.length_filter_le _ _) (List.length_take_le _ _)) (Nat.lt_trans hk lx), ?_⟩
        rw [upd_upd, filter_take_succ e, if_pos ek]
      | false =>
        refine iteF ?_
        rw [filter_take_succ e, if_neg (by rw [ek]; exact Bool.false_ne_true), List.append_nil]
  · rintro H1 rfl
    rw [List.take_length]
    exact q D nD
end
/-- the items of a list that are not None are tuples, each with its numbers -/
theorem filt_tups {H : Hp} : ∀ {xs : List V}, (∀ v ∈ xs, v = .non ∨ ∃ (t : Addr) (k : List Int), v = .ref t ∧ H t = some (.tup (k.map V.int))) → ∃ ks : List (List Int), TupsI H (xs.filter keepV) ks ∧ (∀ k ∈ ks, ∃ t, V.ref t ∈ xs ∧ H t = some (.tup (k.map V.int))) ∧ ∀ t, V.ref t ∈ xs → ∃ k ∈ ks, H t = some (.tup (k.map V.int))
  | [], _ => ⟨[], .nil, (fun k h => nomatch h), fun t h => nomatch h⟩
  | v :: xs, h => by
    obtain ⟨ks, h1, h2, h3⟩ := filt_tups fun u hu => h u (List.mem_cons_of_mem _ hu)
    rcases h v List.mem_cons_self with rfl | ⟨t, k, rfl, ht⟩
    · refine ⟨ks, h1, fun k hk => let ⟨t, a, b⟩ := h2 k hk; ⟨t, List.mem_cons_of_mem _ a, b⟩, fun t ht => ?_⟩
      rcases List.mem_cons.mp ht with e | ht
      · cases e
      · exact h3 t ht
    · refine ⟨k :: ks, .cons ⟨t, rfl, ht⟩ h1, fun z hz => ?_, fun u hu => ?_⟩
      · rcases List.mem_cons.mp hz with rfl | hz
        · exact ⟨t, List.mem_cons_self, ht⟩
        · obtain ⟨u, a, b⟩ := h2 z hz
          exact ⟨u, List.mem_cons_of_mem _ a, b⟩
      · rcases List.mem_cons.mp hu with e | hu
        · cases e
          exact ⟨k, List.mem_cons_self, ht⟩
        · obtain ⟨z, a, b⟩ := h3 u hu
          exact ⟨z, List.mem_cons_of_mem _ a, b⟩
/-! ### tuples of whole numbers as data -/
def tupData (k : List Int) : PyData := .tuple (k.map .int)
theorem ints_lay : ∀ k : List Int, PyData.canLayAll0 (k.map .int) = true
  | [] => by simp [PyData.canLayAll0]
  | i :: k => by simp [PyData.canLayAll0, PyData.canLay0, ints_lay k]
theorem ints_depth : ∀ k : List Int, PyData.depthAll (k.map .int) = 0
  | [] => by simp [PyData.depthAll]
  | i :: k => by simp [PyData.depthAll, PyData.depth, ints_depth k]
theorem tups_lay : ∀ ks : List (List Int), PyData.canLayAll0 (ks.map tupData) = true
  | [] => by simp [PyData.canLayAll0]
  | k :: ks => by simp [PyData.canLayAll0, tupData, PyData.canLay0, ints_lay k, tups_lay ks]
theorem tups_depth : ∀ ks : List (List Int), PyData.depthAll (ks.map tupData) ≤ 1
  | [] => by simp [PyData.depthAll]
  | k :: ks => by
    have h1 := tups_depth ks
    have h2 := ints_depth k
    simp only [List.map_cons, PyData.depthAll, tupData, PyData.depth]
    omega
theorem tups_shaped (ks : List (List Int)) : SeqAt.shaped (.list (ks.map tupData)) = true := by
  have h1 := tups_depth ks
  have h2 : PyData.depth (.list (ks.map tupData)) ≤ 64 := by
    simp only [PyData.depth]
    omega
  show (PyData.canLay0 (.list (ks.map tupData)) && decide (PyData.depth (.list (ks.map tupData)) ≤ 64)) = true
  rw [Bool.and_eq_true]
  exact ⟨by simp only [PyData.canLay0]; exact tups_lay ks, decide_eq_true h2⟩
theorem tups_eqv_nil (ks : List (List Int)) : PyData.eqv (.list (ks.map tupData)) (.list []) = ks.isEmpty := by
  cases ks with
  | nil => simp [PyData.eqv, PyData.eqvAll]
  | cons k ks => simp [PyData.eqv, PyData.eqvAll]
theorem dp_ints {K : PySem.W.Frag} {H : Hp} : ∀ k : List Int, DpAll K H (k.map V.int) (k.map .int)
  | [] => .nil
  | i :: k => .cons (.int i) (dp_ints k)
theorem dp_tups {K : PySem.W.Frag} {H : Hp} : ∀ {xs : List V} {ks : List (List Int)}, TupsI H xs ks → DpAll K H xs (ks.map tupData)
  | _, _, .nil => .nil
  | _, _, .cons ⟨t, e, ht⟩ r => by
    subst e
    exact .cons (.tup (SqT.of ht) (dp_ints _)) (dp_tups r)
end Ur
/-! HI of the g36 group: the law's own counts. -/
namespace Ur
open PySem PySem.Spec PyProof.Rows L2
theorem cnL_set {cs : List (Option Int)} {a : Nat} {k : Int} (h : a < cs.length) : cnL (cs.set a (some k)) = putC (cnL cs) a k := by
  funext i
  unfold cnL putC
  by_cases e : i = a
  · subst e
    rw [List.getElem?_set_self h, if_pos rfl]
  · rw [List.getElem?_set_ne (fun z => e z.symm), if_neg e]
theorem NextAt.put {H : Hp} {v : V} {qs : List Quad} {Cn : Nat → Option Int} {i N c0 : Nat} {k : Int} (hc : Cn c0 = none) (h : NextAt H v qs Cn i N) (nb : ∀ (t : Addr) (y x : Int) (b : Nat), v = .ref t → H t = some (.tup [.int y, .int (i : Int), .int x, .int (b : Int)]) → b ≠ c0) : NextAt H v qs (putC Cn c0 k) i N := by
  have less : ∀ b n, PBlk (dQ qs) (fSP qs) i b (putC Cn c0 k b) n → PBlk (dQ qs) (fSP qs) i b (Cn b) n := fun b n ⟨m, m0, e, pj, o⟩ => ⟨m, m0, e, putC_le hc pj, o⟩
  rcases h with ⟨e, h⟩ | ⟨t, x, b, e, ht, hb, k0, k1, pb, least⟩
  · exact .inl ⟨e, fun b hb n n0 z => h b hb n n0 (less b n z)⟩
  · have ne := nb t _ _ b e ht
    exact .inr ⟨t, x, b, e, ht, hb, k0, k1, by rw [putC_ne ne]; exact pb, fun c hc n n0 nk z => least c hc n n0 nk (less c n z)⟩
theorem list_at {α : Type} {l : List α} {i : Nat} {N : Nat} (h : l.length = N) (hi : i < N) : ∃ x, l[i]? = some x := ⟨_, List.getElem?_eq_getElem (by omega)⟩
theorem ints_inj : ∀ {k l : List Int}, k.map V.int = l.map V.int → k = l
  | [], [], _ => rfl
  | [], _ :: _, h => by cases h
  | _ :: _, [], h => by cases h
  | x :: k, y :: l, h => by
    rw [List.map_cons, List.map_cons] at h
    injection h with h1 h2
    rw [V.int.inj h1, ints_inj h2]
abbrev s__law_history : Stmt := (topS 79)
abbrev N_sc__law_history : List Str := ["_law_painters", "_law_many", "_law_pairs_here", "_law_counts", "_law_halts", "_law_nexts", "_law_a", "_law_one", "_law_date", "_law_k", "_law_b", "_law_c"]
abbrev P__law_history : List Str := ["_law_painters"]
theorem sc__law_history : FnScope N_sc__law_history P__law_history (defScope s__law_history) := ⟨rfl, rfl, rfl, by decide +kernel, rfl, by decide +kernel, by decide +kernel⟩
def spLCnt (K : PySem.W.Frag) : Sp := fun vs H Q _ => ∃ (F : Addr) (ts : List Addr) (qs : List Quad), vs = [.ref F] ∧ SqL K H F (ts.map V.ref) ∧ Team H ts qs ∧ ∀ Ca cs Bn H', H' Ca = some (.lst (cs.map optV)) → cs.length = qs.length → HistC qs.length (dQ qs) (fSP qs) (cnL cs) Bn → H Ca = none → Same H H' → Q (.ref Ca) H'
section
variable {P : Program} {w : World} {K : PySem.W.Frag} {mg : Str → Option Value} {base : Heap}
set_option maxHeartbeats 16000000 in
theorem ok_lhist (D : Dfn K mg "_law_history" s__law_history P__law_history) (B : Blt mg) (CPa : Cal P w K mg base 3 "_law_pairs" P__law_pairs (spPairs K)) (CNx : Cal P w K mg base 2 "_law_next" P__law_next (spNext K)) : Cal P w K mg base 4 "_law_history" P__law_history (spLCnt K) := by
  refine D.cal sc__law_history (fun vs H Q E h => ?_) fun f cdv A outer s H vs Q E hr h => ?_
  · obtain ⟨_, _, _, rfl, _⟩ := h
    rfl
  obtain ⟨F, ts, qs, rfl, hF, tm, q⟩ := h
  have few := tm.few
  have tl : (ts.map V.ref).length = qs.length := by rw [List.length_map, tm.len]
  refine ⟨_, (pss_cons (ps_asg (pe_tup (pa_cons (pe_callB call_len_seq rfl B.len_ PySem.boot_len (pa_cons (pv 0) pa_nil)) (pa_cons (pe_cal CPa (hr.mono (by decide)) (pa_cons (pv 0) pa_nil)) pa_nil))) (pg_tup rfl (pgs_cons (pg_name (i := 1) sc__law_history.nd rfl (Or.inl rfl)) (pgs_cons (pg_name (i := 2) sc__law_history.nd rfl (Or.inr rfl)) pgs_nil)))) (pss_cons (ps_asg (pe_tup (pa_cons (pe_op op_rep (pe_lst (pa_cons pe_non pa_nil)) (pv 1)) (pa_cons (pe_op op_rep (pe_lst (pa_cons pe_non pa_nil)) (pv 1)) pa_nil))) (pg_tup rfl (pgs_cons (pg_name (i := 3) sc__law_history.nd rfl (Or.inr rfl)) (pgs_cons (pg_name (i := 4) sc__law_history.nd rfl (Or.inl rfl)) pgs_nil)))) (pss_cons (ps_setLc (i := 5) (own := [("_law_a", 6)]) (g := gName 6) (tt := tYes) rfl sc__law_history.nd rfl rfl (sw_true rfl rfl rfl (by decide +kernel)) (pi_range1 rfl B.range_ (pa_cons (pv 1) pa_nil)) (blkOk_by (N := N_sc__law_history) (sc := defScope s__law_history) (by decide +kernel)) (fun _ _ _ _ _ => pg_name (i := 6) sc__law_history.nd rfl (Or.inl rfl)) (fun _ _ _ _ _ => pts_nil) (fun _ _ _ _ _ => (pe_cal CNx (hr.mono (by decide)) (pa_cons (pv 0) (pa_cons (pv 2) (pa_cons (pv 3) (pa_cons (pv 6) pa_nil))))))) (pss_cons (ps_while PassesOwn.never (pt_cmpR (op_neD hr.units) (pe_filt (i := 5) (j := 7) (x := "_law_one") (fun σ H Q v h q => ⟨v, h, rfl, _, rfl, q⟩) rfl sc__law_history.nd (pv 5) rfl (blkOk_by (N := N_sc__law_history) (sc := defScope s__law_history) (by decide +kernel)) (fun _ _ _ _ _ => pg_name (i := 7) sc__law_history.nd rfl (Or.inl rfl)) (fun _ _ _ _ _ => pts_one (pt_cmpR op_notN (pv 7) pe_non (nomark _))) (fun _ _ _ _ _ => pv 7)) (pe_lst pa_nil) (nomark _)) (pss_cons (ps_asg (pe_callB (cr_minT rfl hr.units) rfl B.min_ (by decide +kernel) (pa_cons (pe_filt (i := 5) (j := 7) (x := "_law_one") (fun σ H Q v h q => ⟨v, h, rfl, _, rfl, q⟩) rfl sc__law_history.nd (pv 5) rfl (blkOk_by (N := N_sc__law_history) (sc := defScope s__law_history) (by decide +kernel)) (fun _ _ _ _ _ => pg_name (i := 7) sc__law_history.nd rfl (Or.inl rfl)) (fun _ _ _ _ _ => pts_one (pt_cmpR op_notN (pv 7) pe_non (nomark _))) (fun _ _ _ _ _ => pv 7)) pa_nil)) (pg_tup rfl (pgs_cons (pg_name (i := 8) sc__law_history.nd rfl (Or.inl rfl)) (pgs_cons (pg_name (i := 6) sc__law_history.nd rfl (Or.inl rfl)) (pgs_cons (pg_name (i := 9) sc__law_history.nd rfl (Or.inl rfl)) (pgs_cons (pg_name (i := 10) sc__law_history.nd rfl (Or.inl rfl)) pgs_nil)))))) (pss_cons (ps_asg (pe_tup (pa_cons (pv 9) (pa_cons (pe_tup (pa_cons (pv 8) (pa_cons (pe_op op_add (pe_ix ix_tup (pe_ix ix_list (pv 0) (pv 6) (fun _ _ => rfl)) pe_int (fun _ _ => rfl)) (pe_op op_mulW (pv 9) (pe_ix ix_tup (pe_ix ix_list (pv 0) (pv 6) (fun _ _ => rfl)) pe_int (fun _ _ => rfl)))) (pa_cons (pe_ix ix_tup (pe_ix ix_list (pv 0) (pv 10) (fun _ _ => rfl)) pe_int (fun _ _ => rfl)) pa_nil)))) (pa_cons pe_non pa_nil)))) (pg_tup rfl (pgs_cons (pg_sub (pv 3) (pv 6) set_list) (pgs_cons (pg_sub (pv 4) (pv 6) set_list) (pgs_cons (pg_sub (pv 5) (pv 6) set_list) pgs_nil))))) (pss_one (ps_for PassesOwn.never rfl (pi_range1 rfl B.range_ (pa_cons (pv 1) pa_nil)) (pg_name (i := 11) sc__law_history.nd rfl (Or.inl rfl)) (pss_one (ps_if (PW.pt (pw_and (pt_cmpR op_notN (pe_ix ix_list (pv 5) (pv 11) (fun _ _ => rfl)) pe_non (nomark _)) (pw_and1 (pt_cmpR op_eq (pe_ix ix_tup (pe_ix ix_list (pv 5) (pv 11) (fun _ _ => rfl)) pe_int (fun _ _ => rfl)) (pv 6) (nomark _))))) (pss_one (ps_asg (pe_cal CNx (hr.mono (by decide)) (pa_cons (pv 0) (pa_cons (pv 2) (pa_cons (pv 3) (pa_cons (pv 11) pa_nil))))) (pg_sub (pv 5) (pv 11) set_list))) pss_nil))))))) (pss_one (ps_ret (pv 3))))))), ?_⟩
  refine ⟨_, rfl, F, _, rfl, .inl hF, _, rfl, F, ts, qs, rfl, hF, tm, fun d kvs H1 hd pd s1 => ⟨by show 2 ≤ sizeLine; decide, fun u nu => ⟨u, _, rfl, SqT.of upd_same, rfl, _, _, rfl, _, _, rfl, rfl, ?_⟩⟩⟩
  rw [tl]
  have s2 := s1.trans (same_new nu (.tup [.int (qs.length : Int), .ref d]))
  obtain ⟨H2, e2⟩ : ∃ H2, H2 = upd H1 u (.tup [.int (qs.length : Int), .ref d]) := ⟨_, rfl⟩
  have hd2 : H2 d = some (.dT kvs) := by rw [e2]; exact same_new nu _ _ _ hd
  have pd2 : PairD H2 kvs qs (fun _ _ => True) := by rw [e2]; exact pd.same (same_new nu _)
  rw [← e2] at s2 ⊢
  have rep : ∀ n : Nat, (List.replicate n [V.non]).flatten = (List.replicate n (none : Option Int)).map optV := fun n => by
    rw [List.map_replicate]
    exact List.flatten_replicate_singleton
  have nn : ((qs.length : Int)).toNat = qs.length := Int.toNat_natCast _
  -- counts, halts
  refine ⟨by show 1 ≤ sizeLine; decide, fun D1 nD1 => ⟨_, rfl, D1, _, [.non], rfl, rfl, upd_same, by omega, by omega, by rw [sizeLine_eq, nn]; show 1 * qs.length ≤ _; omega, fun Cl nCl => ?_⟩⟩
  refine ⟨by show 1 ≤ sizeLine; decide, fun D2 nD2 => ⟨_, rfl, D2, _, [.non], rfl, rfl, upd_same, by omega, by omega, by rw [sizeLine_eq, nn]; show 1 * qs.length ≤ _; omega, fun Sl nSl => ⟨by show 2 ≤ sizeLine; decide, fun u2 nu2 => ⟨u2, _, rfl, SqT.of upd_same, rfl, _, _, rfl, _, _, rfl, rfl, ?_⟩⟩⟩⟩
  rw [nn, rep]
  rw [nn, rep] at nD2 nSl nu2
  obtain ⟨cs0, ecs⟩ : ∃ cs0 : List (Option Int), cs0 = List.replicate qs.length none := ⟨_, rfl⟩
  rw [← ecs]
  rw [← ecs] at nD2 nSl nu2
  obtain ⟨H3, e3⟩ : ∃ H3, H3 = upd (upd (upd (upd (upd H2 D1 (.lst [.non])) Cl (.lst (cs0.map optV))) D2 (.lst [.non])) Sl (.lst (cs0.map optV))) u2 (.tup [.ref Cl, .ref Sl]) := ⟨_, rfl⟩
  rw [← e3]
  have snone : ∀ {H1 H2 : Hp} {a : Addr}, Same H1 H2 → H2 a = none → H1 a = none := fun {H1 H2 a} s n => by
    cases e : H1 a with
    | none => rfl
    | some o => rw [s _ _ e] at n; cases n
  have g1 := same_new nD1 (.lst [V.non])
  have g2 := same_new nCl (.lst (cs0.map optV))
  have g3 := same_new nD2 (.lst [V.non])
  have g4 := same_new nSl (.lst (cs0.map optV))
  have g5 := same_new nu2 (.tup [.ref Cl, .ref Sl])
  have hCl : H3 Cl = some (.lst (cs0.map optV)) := by rw [e3]; exact g5 _ _ (g4 _ _ (g3 _ _ upd_same))
  have hSl : H3 Sl = some (.lst (cs0.map optV)) := by rw [e3]; exact g5 _ _ upd_same
  have nCS : Cl ≠ Sl := ne_of_none (g3 _ _ upd_same) nSl
  have s23 : Same H2 H3 := by rw [e3]; exact (((g1.trans g2).trans g3).trans g4).trans g5
  have s3 := s2.trans s23
  have nCl0 : H Cl = none := snone (s2.trans g1) nCl
  have nSl0 : H Sl = none := snone (((s2.trans g1).trans g2).trans g3) nSl
  have csl : cs0.length = qs.length := by rw [ecs, List.length_replicate]
  have cn0 : cnL cs0 = fun _ => none := by
    funext i
    unfold cnL
    rw [ecs, List.getElem?_replicate]
    split <;> rename_i h
    · split at h
      · exact (Option.some.inj h).symm
      · cases h
    · rfl
  have tm3 := tm.same s3
  -- nexts
  refine ⟨_, rfl, _, rfl, by omega, by omega, fun Nl nNl => ?_⟩
  have nNl0 : H Nl = none := snone s3 nNl
  refine gen_it (walk_range0 (n := qs.length)) (fun i H4 => ∃ ns : List V, H4 Nl = some (.lst ns) ∧ ns.length = i ∧ (∀ j, j < i → ∃ v, ns[j]? = some v ∧ NextAt H4 v qs (cnL cs0) j qs.length) ∧ Same H3 H4) ⟨[], upd_same, rfl, (fun j hj => absurd hj (Nat.not_lt_zero j)), same_new nNl _⟩ (fun _ _ _ _ => trivial) ?_ ?_
  · rintro i v H4 H5 hi ⟨ns, hNl, nl, nx, s4⟩ ⟨rfl, rfl⟩
    have s34 := s3.trans s4
    refine ⟨rfl, _, rfl, _, rfl, _, rfl, _, rfl, F, ts, qs, d, Cl, kvs, cs0, i, rfl, same_sql s34 hF, tm.same s34, (s23.trans s4) _ _ hd2, pd2.same (s23.trans s4), s4 _ _ hCl, csl, hi, (fun j c _ e => by rw [cn0] at e; cases e), fun v H6 nv s6 => ?_⟩
    have hNl6 := s6 _ _ hNl
    refine ⟨ns, hNl6, Nat.lt_of_le_of_lt (show ns.length ≤ 40 by omega) (by decide), ns ++ [v], upd_same, by rw [List.length_append, nl]; rfl, fun j hj => ?_, sameAt (s4.trans s6) nNl⟩
    have kp : ∀ (b : Addr) xs, H6 b = some (.tup xs) → upd H6 Nl (.lst (ns ++ [v])) b = some (.tup xs) := fun b xs e => by rw [upd_ne (ne_of e hNl6 (by intro z; cases z))]; exact e
    by_cases c : j < i
    · obtain ⟨z, hz, nz⟩ := nx j c
      exact ⟨z, by rw [List.getElem?_append_left (by omega)]; exact hz, (nz.keep fun b xs e => s6 _ _ e).keep kp⟩
    · obtain rfl : j = i := by omega
      exact ⟨v, by rw [List.getElem?_append_right (by omega), nl, Nat.sub_self]; rfl, nv.keep kp⟩
  rintro H4 ⟨ns0, hNl4, nsl0, nx0, s4⟩
  have nCN : Cl ≠ Nl := ne_of_none hCl nNl
  have nSN : Sl ≠ Nl := ne_of_none hSl nNl
  have d0 : ∀ i, i < qs.length → 0 ≤ dQ qs i := fun i hi => by
    obtain ⟨t, qd, _, e, _, ok, _⟩ := tm.ix hi
    rw [(q_at e).2.1]
    exact ok.d0
  -- while
  refine while_ex (fun m σ H5 => ∃ (cs : List (Option Int)) (Bn : Nat → Nat) (ss ns : List V) (Kk : Int × Nat) (o7 o8 o9 o10 o11 o12 : Option V), σ = [some (.ref F), some (.int (qs.length : Int)), some (.ref d), some (.ref Cl), some (.ref Sl), some (.ref Nl), o7, o8, o9, o10, o11, o12] ∧ m = openN qs.length (cnL cs) ∧
    H5 Cl = some (.lst (cs.map optV)) ∧ cs.length = qs.length ∧ H5 Sl = some (.lst ss) ∧ ss.length = qs.length ∧ H5 Nl = some (.lst ns) ∧ ns.length = qs.length ∧
    (∀ i, i < qs.length → (cnL cs i = none → ∃ v, ns[i]? = some v ∧ NextAt H5 v qs (cnL cs) i qs.length) ∧ (cnL cs i ≠ none → ns[i]? = some .non)) ∧ Part qs.length (dQ qs) (fSP qs) (cnL cs) Bn Kk ∧ (∀ i c, i < qs.length → cnL cs i = some c → 0 ≤ c ∧ c ≤ 10 ^ 70) ∧
    H5 d = some (.dT kvs) ∧ PairD H5 kvs qs (fun _ _ => True) ∧ Same H H5) (openN qs.length (cnL cs0)) ⟨cs0, fun _ => 0, cs0.map optV, ns0, (0, 0), _, _, _, _, _, _, rfl, rfl, s4 _ _ hCl, csl, s4 _ _ hSl, by rw [List.length_map]; exact csl, hNl4, nsl0, fun i hi => ⟨fun _ => nx0 i hi, fun z => absurd (by rw [cn0]) z⟩, ?_, (fun i c _ e => by rw [cn0] at e; cases e), (s23.trans s4) _ _ hd2, pd2.same (s23.trans s4), s3.trans s4⟩ ?_ (fun σ H Q Q' k h => ?_)
  · rw [cn0]
    refine Part.start fun i n hi n0 z => ?_
    have := d0 i hi
    unfold KLt at z
    simp only [kOf] at z
    omega
  · rintro m σ H5 ⟨cs, Bn, ss, ns, Kk, o7, o8, o9, o10, o11, o12, rfl, rfl, hCl5, cl, hSl5, sl, hNl5, nl, nx, pt, bd, hd5, pd5, s5⟩
    have items : ∀ v ∈ ns, v = .non ∨ ∃ (t : Addr) (k : List Int), v = .ref t ∧ H5 t = some (.tup (k.map V.int)) := fun v hv => by
      obtain ⟨i, hi⟩ := List.mem_iff_getElem?.mp hv
      have hin : i < qs.length := by have := (List.getElem?_eq_some_iff.mp hi).1; omega
      cases e : cnL cs i with
      | some c =>
        have := (nx i hin).2 (by rw [e]; intro z; cases z)
        rw [hi] at this
        exact .inl (Option.some.inj this)
      | none =>
        obtain ⟨z, hz, nz⟩ := (nx i hin).1 e
        rw [hi] at hz
        obtain rfl := Option.some.inj hz
        rcases nz with ⟨rfl, _⟩ | ⟨t, k, b, rfl, ht, _⟩
        · exact .inl rfl
        · exact .inr ⟨t, [dQ qs i + k, (i : Int), k, (b : Int)], rfl, ht⟩
    obtain ⟨ks, tu, snd, cpl⟩ := filt_tups items
    refine ⟨Nl, ns, rfl, hNl5, Nat.lt_of_le_of_lt (show ns.length ≤ 40 by omega) (by decide), fun D nD => ⟨by show 0 ≤ sizeLine; decide, fun D2 nD2 => ?_⟩⟩
    have w1 := same_new nD (.lst (ns.filter keepV))
    have w2 := same_new nD2 (.lst [])
    have w12 := w1.trans w2
    refine ⟨.list (ks.map tupData), .list [], .lst (SqL.of (w2 _ _ upd_same)) (dp_tups (tu.same w12)), .lst (SqL.of upd_same) .nil, tups_shaped ks, tups_shaped [], _, rfl, ?_⟩
    rw [tups_eqv_nil]
    cases ks with
    | nil =>
      refine iteF ?_
      -- nobody stops any more
      have allnone : ∀ i, i < qs.length → ns[i]? = some .non := fun i hi => by
        obtain ⟨v, hv⟩ := list_at nl hi
        rcases items v (List.mem_of_getElem? hv) with rfl | ⟨t, k, rfl, ht⟩
        · exact hv
        · obtain ⟨z, hz, _⟩ := cpl t (List.mem_of_getElem? hv)
          cases hz
      obtain ⟨hi1, hi2⟩ := pt.done fun i n hi ni n0 b => by
        obtain ⟨v, hv, nv⟩ := (nx i hi).1 ni
        rw [allnone i hi] at hv
        obtain rfl := Option.some.inj hv
        rcases nv with ⟨_, h⟩ | ⟨_, _, _, e, _⟩
        · obtain ⟨b, hb, pb⟩ := b
          exact h b hb n n0 pb
        · cases e
      exact ⟨_, rfl, q Cl cs Bn _ (w12 _ _ hCl5) cl ⟨hi1, hi2, bd⟩ nCl0 (s5.trans w12)⟩
    | cons k0 ks0 =>
      refine iteT ?_
      refine ⟨Nl, ns, rfl, w12 _ _ hNl5, Nat.lt_of_le_of_lt (show ns.length ≤ 40 by omega) (by decide), fun D3 nD3 => ⟨D3, _, k0 :: ks0, rfl, SqL.of upd_same, ?_, by simp, fun x kk lt => ?_⟩⟩
      · exact tu.same (w12.trans (same_new nD3 (.lst (ns.filter keepV))))
      have w3 := same_new nD3 (.lst (ns.filter keepV))
      have w53 := w12.trans w3
      obtain ⟨⟨ix, hx, hk⟩, least⟩ := lt
      obtain ⟨k2, hk2, tm4, rfl, ht4⟩ := paired_get tu hx
      rw [hk] at hk2
      obtain rfl := Option.some.inj hk2
      obtain ⟨tb, htb, htk⟩ := snd kk (List.mem_of_getElem? hk)
      obtain ⟨a, hans⟩ := List.mem_iff_getElem?.mp htb
      have ha : a < qs.length := by have := (List.getElem?_eq_some_iff.mp hans).1; omega
      have na : cnL cs a = none := by
        cases e : cnL cs a with
        | none => rfl
        | some c =>
          have := (nx a ha).2 (by rw [e]; intro z; cases z)
          rw [hans] at this
          cases this
      obtain ⟨z, hz, nz⟩ := (nx a ha).1 na
      rw [hans] at hz
      obtain rfl := Option.some.inj hz
      rcases nz with ⟨e, _⟩ | ⟨t', k, b, et, htk', hb, kp0, kp1, pb, lst⟩
      · cases e
      obtain rfl := V.ref.inj et
      have ek : kk = [dQ qs a + k, (a : Int), k, (b : Int)] := by
        rw [htk'] at htk
        have := HO.tup.inj (Option.some.inj htk)
        exact (ints_inj (l := [dQ qs a + k, (a : Int), k, (b : Int)]) this.symm).symm ▸ rfl
      subst ek
      have ht53 := w53 _ _ ht4
      refine ⟨tm4, _, rfl, SqT.of ht53, rfl, _, _, rfl, _, _, rfl, _, _, rfl, _, _, rfl, rfl, ?_⟩
      have pt2 := pt.step ha hb na kp0 pb fun i n hi ni n0 hbk zlt => by
        obtain ⟨v, hv, nv⟩ := (nx i hi).1 ni
        obtain ⟨b2, hb2, pb2⟩ := hbk
        rcases nv with ⟨_, h⟩ | ⟨t2, x2, b3, rfl, ht2, _, _, _, _, l2⟩
        · exact h b2 hb2 n n0 pb2
        · obtain ⟨k3, hk3, e3⟩ := cpl t2 (List.mem_of_getElem? hv)
          have ek3 : k3 = [dQ qs i + x2, (i : Int), x2, (b3 : Int)] := by
            rw [ht2] at e3
            have := HO.tup.inj (Option.some.inj e3)
            exact (ints_inj (l := [dQ qs i + x2, (i : Int), x2, (b3 : Int)]) this.symm).symm ▸ rfl
          have nl2 : x2 ≤ n := by
            by_cases c : x2 ≤ n
            · exact c
            · exact absurd pb2 (l2 b2 hb2 n n0 (by omega))
          have lf := least k3 hk3
          rw [ek3] at lf
          have : ltL [dQ qs i + x2, (i : Int), x2, (b3 : Int)] [dQ qs a + k, (a : Int), k, (b : Int)] = true := by
            unfold KLt at zlt
            simp only [kOf] at zlt
            rw [ltL_cons]
            by_cases c : dQ qs i + x2 < dQ qs a + k
            · exact .inl c
            · refine .inr ⟨by omega, ?_⟩
              rw [ltL_cons]
              exact .inl (by omega)
          rw [this] at lf
          cases lf
      have op := openN_put (c := k) ha na
      have ecs2 : cnL (cs.set a (some k)) = putC (cnL cs) a k := cnL_set (by omega)
      obtain ⟨ta, qa, f1, f2, f3, f4, f5⟩ := tm.ix ha
      obtain ⟨tb2, qb, b1, b2, b3, b4, b5⟩ := tm.ix hb
      obtain ⟨xa, hxa⟩ := list_at cl ha
      have w53s : Same H _ := s5.trans w53
      obtain ⟨n1, d1, p1, t1⟩ := qa
      obtain ⟨nb1, db1, pb1, sb1⟩ := qb
      have oka : PartOk n1 d1 p1 t1 := f4
      have oa0 := oka.s0
      have oa1 := oka.s1
      -- counts[a], halts[a], nexts[a] = k, (..), None
      refine ⟨_, rfl, _, rfl, _, rfl, _, rfl, F, _, _, _, rfl, rfl, same_sql w53s hF, atI_nat f5, ta, _, _, _, rfl, rfl, SqT.of (w53s _ _ f3), atI_nat (j := 2) rfl, _, rfl, _, rfl, _, rfl, F, _, _, _, rfl, rfl, same_sql w53s hF, atI_nat f5, ta, _, _, _, rfl, rfl, SqT.of (w53s _ _ f3), atI_nat (j := 3) rfl, _, _, rfl, rfl, wide_mul (a := 240) (b := 64) (by omega) (by show t1.natAbs < 2 ^ 64; omega) (by decide) (by decide) (by decide), _, _, rfl, rfl, _, rfl, _, rfl, F, _, _, _, rfl, rfl, same_sql w53s hF, atI_nat b5, tb2, _, _, _, rfl, rfl, SqT.of (w53s _ _ b3), atI_nat (j := 0) rfl, by show 3 ≤ sizeLine; decide, fun u6 nu6 => ?_⟩
      have w6 := same_new nu6 (.tup [.int (dQ qs a + k), .int (p1 + k * t1), .str nb1])
      refine ⟨by show 3 ≤ sizeLine; decide, fun u5 nu5 => ⟨u5, _, rfl, SqT.of upd_same, rfl, _, _, rfl, ?_⟩⟩
      have w5 := same_new nu5 (.tup [.int k, .ref u6, .non])
      have w55 := (w53.trans w6).trans w5
      have hC5 := w55 _ _ hCl5
      refine ⟨_, rfl, _, rfl, Cl, _, _, a, rfl, rfl, hC5, ixN_at (by rw [List.length_map]; omega), ?_⟩
      have hS5 := w55 _ _ hSl5
      refine ⟨_, _, rfl, _, rfl, _, rfl, Sl, _, _, a, rfl, rfl, by rw [upd_ne nCS.symm]; exact hS5, ixN_at (by omega), ?_⟩
      have hN5 := w55 _ _ hNl5
      refine ⟨_, _, rfl, _, rfl, _, rfl, Nl, _, _, a, rfl, rfl, by rw [upd_ne nSN.symm, upd_ne nCN.symm]; exact hN5, ixN_at (by omega), rfl, ?_⟩
      have eC : (cs.map optV).set a (.int k) = (cs.set a (some k)).map optV := by rw [List.map_set]; rfl
      rw [eC]
      obtain ⟨H9, e9⟩ : ∃ H9, H9 = upd (upd (upd (upd (upd (upd (upd (upd H5 D (.lst (ns.filter keepV))) D2 (.lst [])) D3 (.lst (ns.filter keepV))) u6 (.tup [.int (dQ qs a + k), .int (p1 + k * t1), .str nb1])) u5 (.tup [.int k, .ref u6, .non])) Cl (.lst ((cs.set a (some k)).map optV))) Sl (.lst (ss.set a (.ref u6)))) Nl (.lst (ns.set a .non)) := ⟨_, rfl⟩
      rw [← e9]
      have kp9 : ∀ (b : Addr) (o : HO), H5 b = some o → b ≠ Cl → b ≠ Sl → b ≠ Nl → H9 b = some o := fun b o e n1 n2 n3 => by rw [e9, upd_ne n3, upd_ne n2, upd_ne n1]; exact w55 _ _ e
      have kt9 : ∀ (b : Addr) xs, H5 b = some (.tup xs) → H9 b = some (.tup xs) := fun b xs e => kp9 b _ e (ne_of e hCl5 (by intro z; cases z)) (ne_of e hSl5 (by intro z; cases z)) (ne_of e hNl5 (by intro z; cases z))
      have hC9 : H9 Cl = some (.lst ((cs.set a (some k)).map optV)) := by rw [e9, upd_ne nCN, upd_ne nCS, upd_same]
      have hS9 : H9 Sl = some (.lst (ss.set a (.ref u6))) := by rw [e9, upd_ne nSN, upd_same]
      have hN9 : H9 Nl = some (.lst (ns.set a .non)) := by rw [e9, upd_same]
      have hd9 : H9 d = some (.dT kvs) := kp9 _ _ hd5 (ne_of hd5 hCl5 (by intro z; cases z)) (ne_of hd5 hSl5 (by intro z; cases z)) (ne_of hd5 hNl5 (by intro z; cases z))
      have s9 : Same H H9 := by rw [e9]; exact sameAt (sameAt (sameAt (s5.trans w55) nCl0) nSl0) nNl0
      have pd9 : PairD H9 kvs qs (fun _ _ => True) := fun a b x y h1 h2 h3 h4 => by
        obtain ⟨v, e, c⟩ := pd5 a b x y h1 h2 h3 h4
        exact ⟨v, e, c.imp id fun ⟨t, st, k, j, sp, e, ht, r⟩ => ⟨t, st, k, j, sp, e, kt9 _ _ ht, r⟩⟩
      have bd9 : ∀ i c, i < qs.length → putC (cnL cs) a k i = some c → 0 ≤ c ∧ c ≤ 10 ^ 70 := fun i c hi e => by
        by_cases e2 : i = a
        · rw [e2, putC_at] at e
          obtain rfl := Option.some.inj e
          exact ⟨kp0, kp1⟩
        · rw [putC_ne e2] at e
          exact bd i c hi e
      -- for c in range(many)
      refine ⟨_, rfl, _, rfl, by omega, by omega, ?_⟩
      refine for_range (lo := 0) (n := qs.length) (fun j σ H7 => ∃ (ns2 : List V) (o12 : Option V), σ = [some (.ref F), some (.int (qs.length : Int)), some (.ref d), some (.ref Cl), some (.ref Sl), some (.ref Nl), some (.int (a : Int)), o8, some (.int (dQ qs a + k)), some (.int k), some (.int (b : Int)), o12] ∧
        H7 Cl = some (.lst ((cs.set a (some k)).map optV)) ∧ H7 Sl = some (.lst (ss.set a (.ref u6))) ∧ H7 Nl = some (.lst ns2) ∧ ns2.length = qs.length ∧
        (∀ i, i < qs.length → (putC (cnL cs) a k i = none → ∃ v, ns2[i]? = some v ∧ (i < j → NextAt H7 v qs (putC (cnL cs) a k) i qs.length) ∧ (j ≤ i → NextAt H7 v qs (cnL cs) i qs.length)) ∧ (putC (cnL cs) a k i ≠ none → ns2[i]? = some .non)) ∧ H7 d = some (.dT kvs) ∧ PairD H7 kvs qs (fun _ _ => True) ∧ Same H H7)
        ⟨ns.set a .non, _, rfl, hC9, hS9, hN9, by rw [List.length_set]; exact nl, fun i hi => ⟨fun ni => ?_, fun ni => ?_⟩, hd9, pd9, s9⟩ ?_ ?_
      · have e : i ≠ a := fun e => by rw [e, putC_at] at ni; cases ni
        rw [putC_ne e] at ni
        obtain ⟨v, hv, nv⟩ := (nx i hi).1 ni
        exact ⟨v, by rw [List.getElem?_set_ne (fun z => e z.symm)]; exact hv, fun h => absurd h (Nat.not_lt_zero i), fun _ => nv.keep fun b xs h => kt9 _ _ h⟩
      · by_cases e : i = a
        · subst e
          exact List.getElem?_set_self (by omega)
        · rw [putC_ne e] at ni
          rw [List.getElem?_set_ne (fun z => e z.symm)]
          exact (nx i hi).2 ni
      · rintro j σ H7 hj ⟨ns2, o12, rfl, hC7, hS7, hN7, nl7, nx7, hd7, pd7, s7⟩
        have zj : (0 : Int) + (j : Int) = j := by omega
        obtain ⟨v, hv⟩ := list_at nl7 hj
        -- the list of next stops as it is
        have stay : (putC (cnL cs) a k j = none → NextAt H7 v qs (putC (cnL cs) a k) j qs.length) → (∀ i, i < qs.length → (putC (cnL cs) a k i = none → ∃ v, ns2[i]? = some v ∧ (i < j + 1 → NextAt H7 v qs (putC (cnL cs) a k) i qs.length) ∧ (j + 1 ≤ i → NextAt H7 v qs (cnL cs) i qs.length)) ∧ (putC (cnL cs) a k i ≠ none → ns2[i]? = some .non)) := fun h i hi => by
          refine ⟨fun ni => ?_, (nx7 i hi).2⟩
          obtain ⟨z, hz, z1, z2⟩ := (nx7 i hi).1 ni
          refine ⟨z, hz, fun l => ?_, fun l => z2 (by omega)⟩
          by_cases e : i = j
          · subst e
            rw [hv] at hz
            obtain rfl := Option.some.inj hz
            exact h ni
          · exact z1 (by omega)
        refine ⟨_, rfl, _, rfl, Nl, _, _, _, rfl, rfl, SqL.of hN7, by rw [zj]; exact atI_nat hv, rfl, _, rfl, ?_⟩
        cases ej : putC (cnL cs) a k j with
        | some cj =>
          have hnon := (nx7 j hj).2 (by rw [ej]; intro z; cases z)
          rw [hv] at hnon
          obtain rfl := Option.some.inj hnon
          refine iteNS rfl ?_
          exact ⟨ns2, _, rfl, hC7, hS7, hN7, nl7, stay (fun z => by rw [ej] at z; cases z), hd7, pd7, s7⟩
        | none =>
          obtain ⟨z, hz, _, z2⟩ := (nx7 j hj).1 ej
          rw [hv] at hz
          obtain rfl := Option.some.inj hz
          have old := z2 (Nat.le_refl j)
          have oldc := old
          rcases oldc with ⟨rfl, _⟩ | ⟨t2, x2, b3, rfl, ht2, hb3, _, _, _, _⟩
          · refine iteNS rfl ?_
            exact ⟨ns2, _, rfl, hC7, hS7, hN7, nl7, stay (fun _ => old.put na fun t y x b e _ => by cases e), hd7, pd7, s7⟩
          · refine iteNN (fun z => by cases z) ?_
            refine ⟨_, rfl, _, rfl, Nl, _, _, _, rfl, rfl, SqL.of hN7, by rw [zj]; exact atI_nat hv, t2, _, _, _, rfl, rfl, SqT.of ht2, atI_nat (j := 3) rfl, _, rfl, rfl, _, rfl, ?_⟩
            by_cases c : b3 = a
            · refine iteDT (congrArg V.int (by omega)) ?_
              refine ⟨_, rfl, _, rfl, _, rfl, _, rfl, F, ts, qs, d, Cl, kvs, cs.set a (some k), j, (by rw [zj]; rfl), same_sql s7 hF, tm.same s7, hd7, pd7, hC7, by rw [List.length_set]; exact cl, hj, (fun i c hi e => (bd9 i c hi (by rw [← ecs2]; exact e)).1), fun v2 H10 nv s10 => ?_⟩
              rw [ecs2] at nv
              have hN10 := s10 _ _ hN7
              refine ⟨_, rfl, _, rfl, Nl, _, _, j, rfl, rfl, hN10, by rw [zj]; exact ixN_at (by omega), ?_⟩
              have kp : ∀ (b : Addr) (o : HO), H7 b = some o → b ≠ Nl → upd H10 Nl (.lst (ns2.set j v2)) b = some o := fun b o e n => by rw [upd_ne n]; exact s10 _ _ e
              have kt : ∀ (b : Addr) xs, H10 b = some (.tup xs) → upd H10 Nl (.lst (ns2.set j v2)) b = some (.tup xs) := fun b xs e => by rw [upd_ne (ne_of e hN10 (by intro z; cases z))]; exact e
              refine ⟨ns2.set j v2, _, rfl, kp _ _ hC7 nCN, kp _ _ hS7 nSN, upd_same, by rw [List.length_set]; exact nl7, fun i hi => ⟨fun ni => ?_, fun ni => ?_⟩, kp _ _ hd7 (ne_of hd7 hN7 (by intro z; cases z)), fun a b x y h1 h2 h3 h4 => ?_, sameAt (s7.trans s10) nNl0⟩
              · by_cases e : i = j
                · subst e
                  exact ⟨v2, List.getElem?_set_self (by omega), fun _ => nv.keep kt, fun l => absurd l (by omega)⟩
                · obtain ⟨u, hu, u1, u2⟩ := (nx7 i hi).1 ni
                  exact ⟨u, by rw [List.getElem?_set_ne (fun z => e z.symm)]; exact hu, fun l => ((u1 (by omega)).keep fun b xs h => s10 _ _ h).keep kt, fun l => ((u2 (by omega)).keep fun b xs h => s10 _ _ h).keep kt⟩
              · have e : i ≠ j := fun e => by rw [e, ej] at ni; exact ni rfl
                rw [List.getElem?_set_ne (fun z => e z.symm)]
                exact (nx7 i hi).2 ni
              · obtain ⟨u, e, c⟩ := pd7 a b x y h1 h2 h3 h4
                exact ⟨u, e, (c.same s10).imp id fun ⟨t, st, k, j, sp, e, ht, r⟩ => ⟨t, st, k, j, sp, e, kt _ _ ht, r⟩⟩
            · refine iteDF (fun z => c (by have := V.int.inj z; omega)) ?_
              refine ⟨ns2, _, rfl, hC7, hS7, hN7, nl7, stay (fun _ => old.put na fun t y x b e ht => ?_), hd7, pd7, s7⟩
              obtain rfl := V.ref.inj e
              rw [ht2] at ht
              have := HO.tup.inj (Option.some.inj ht)
              have e4 : (b3 : Int) = b := by
                injection this with _ q1
                injection q1 with _ q2
                injection q2 with _ q3
                injection q3 with q4 _
                exact V.int.inj q4
              omega
      · rintro σ H7 ⟨ns2, o12, rfl, hC7, hS7, hN7, nl7, nx7, hd7, pd7, s7⟩
        refine ⟨openN qs.length (putC (cnL cs) a k), op, cs.set a (some k), putB Bn a b, _, ns2, _, _, _, _, _, _, _, rfl, by rw [ecs2], hC7, by rw [List.length_set]; exact cl, hS7, by rw [List.length_set]; exact sl, hN7, nl7, ?_, by rw [ecs2]; exact pt2, by rw [ecs2]; exact bd9, hd7, pd7, s7⟩
        rw [ecs2]
        intro i hi
        refine ⟨fun ni => ?_, (nx7 i hi).2⟩
        obtain ⟨u, hu, u1, _⟩ := (nx7 i hi).1 ni
        exact ⟨u, hu, u1 hi⟩
  · obtain ⟨a, xs, e1, e2, e3, h⟩ := h
    exact ⟨a, xs, e1, e2, e3, fun D nD => ⟨(h D nD).1, fun D2 nD2 => let ⟨d, e, p1, p2, p3, p4, b, eb, q⟩ := (h D nD).2 D2 nD2; ⟨d, e, p1, p2, p3, p4, b, eb, k _ _ q⟩⟩⟩
end
end Ur
/-! UrSh: what can be shown, with short leaves; a call of what an expression gives. -/
namespace Ur
open PySem PySem.Spec PyProof.Rows L2
/-! ### what can be shown, with short leaves -/
structure ShB (d : PyData) (n k : Nat) : Prop where
  sh : d.showable = true
  nd : d.hasDict = false
  dp : d.depth ≤ k
  lv : d.leavesShort 110 = true
  wt : d.weight ≤ n
structure ShBAll (ds : List PyData) (n k : Nat) : Prop where
  sh : PyData.showableAll ds = true
  nd : PyData.hasDictAll ds = false
  dp : PyData.depthAll ds ≤ k
  lv : PyData.leavesShortAll 110 ds = true
  wt : PyData.weightAll ds ≤ n
/-- it can be shown -/
structure Fit (d : PyData) : Prop where
  sh : d.showable = true
  nd : d.hasDict = false
  dp : d.depth ≤ 64
  sz : d.shown.length ≤ sizeLine
/-! ### a call of what an expression gives -/
section
variable {X : Cx} {k : Nat} {fe e : Expr} {es : List Expr} {te : TE} {t : TA} {pos : Pos}
end
end Ur
/-! HJ: rows of histories as data that can be shown. -/
namespace Ur
open PySem PySem.Spec PyProof.Rows L2
/-- the numbers and the names of a row are short -/
structure RwB (r : Rw) : Prop where
  nm : NameOk r.nm
  ct : ∀ c, r.cnt = some c → c.natAbs < 10 ^ 90
  st : ∀ d p b, r.stop = some (d, p, b) → d.natAbs < 10 ^ 90 ∧ p.natAbs < 10 ^ 90 ∧ NameOk b
end Ur
/-! FE: the laws' own fence, made of rows at once. -/
namespace Ur
open PySem PySem.Spec PyProof.Rows L2
abbrev s__law_fence : Stmt := (topS 78)
abbrev N_sc__law_fence : List Str := ["_law_painters", "_law_fence_here", "_law_name", "_law_start", "_law_post", "_law_stride"]
abbrev P__law_fence : List Str := ["_law_painters"]
theorem sc__law_fence : FnScope N_sc__law_fence P__law_fence (defScope s__law_fence) := ⟨rfl, rfl, rfl, by decide +kernel, rfl, by decide +kernel, by decide +kernel⟩
def spFence (K : PySem.W.Frag) (C CF : Addr) : Sp := fun vs H Q _ => ∃ (F : Addr) (ts : List Addr) (qs : List Quad), vs = [.ref F] ∧ SqL K H F (ts.map V.ref) ∧ Team H ts qs ∧ ∀ g L H', FcAt C CF H' g L → partsOf L = qs → Same H H' → Q (.ref g) H'
section
variable {P : Program} {w : World} {K : PySem.W.Frag} {mg : Str → Option Value} {base : Heap} {C CF : Addr}
theorem ok_fence (D : Dfn K mg "_law_fence" s__law_fence P__law_fence) (T : PTxt K mg C) (U : FTxt K mg CF) (hMk0 : MkP P w K mg base C) (hMk : MkF P w K mg base C CF) (hFAdd : OwnR P w K mg base CF "__add__" 5 P_Fence_add (spFAdd C CF)) (hAT : AddTwo K CF C) :
    Cal P w K mg base 6 "_law_fence" P__law_fence (spFence K C CF) := by
  obtain ⟨fI, MF, FI⟩ := hMk
  refine D.cal sc__law_fence (fun vs H Q E h => ?_) fun f cdv A outer s H vs Q E hr h => ?_
  · obtain ⟨F, ts, qs, rfl, _⟩ := h
    rfl
  obtain ⟨F, ts, qs, rfl, hF, tm, q⟩ := h
  have sqF : ∀ {H' : Hp}, Same H H' → SqL K H' F (ts.map V.ref) := fun s => by
    rcases hF with (h | ⟨o, h⟩) | h
    · exact .inl (.inl (s _ _ h))
    · exact .inl (.inr ⟨o, s _ _ h⟩)
    · exact .inr h
  refine ⟨_, (pss_cons (ps_set (i := 1) sc__law_fence.nd rfl (Or.inl rfl) (pe_makeR0 MF FI (hr.mono (by decide)) rfl U.mgF pass0)) (pss_cons (ps_for PassesOwn.never rfl (pi_list (pv 0)) (pg_tup rfl (pgs_cons (pg_name (i := 2) sc__law_fence.nd rfl (Or.inl rfl)) (pgs_cons (pg_name (i := 3) sc__law_fence.nd rfl (Or.inl rfl)) (pgs_cons (pg_name (i := 4) sc__law_fence.nd rfl (Or.inl rfl)) (pgs_cons (pg_name (i := 5) sc__law_fence.nd rfl (Or.inl rfl)) pgs_nil))))) (pss_one (ps_set (i := 1) sc__law_fence.nd rfl (Or.inl rfl) (pe_op (op_addTwo hFAdd hAT (hr.mono (by decide))) (pv 1) (pe_mkP hMk0 T (hr.mono (by decide)) (pa_cons (pv 2) (pa_cons (pv 3) (pa_cons (pv 4) (pa_cons (pv 5) pa_nil))))))))) (pss_one (ps_ret (pv 1))))), ?_⟩
  refine fun x dx nx nd ne => ask_fence (L := []) nx nd ⟨(fun x h => nomatch h), List.nodup_nil, Nat.zero_le _⟩ fun H1 f1 s1 => ⟨rfl, ?_⟩
  refine ⟨_, rfl, F, rfl, ⟨_, sqF s1⟩, for_list (K := K) (a := F) (xs := ts.map V.ref) (fun i σ' H' => ∃ (g : Addr) (L : List Pt) (o2 o3 o4 o5 : Option V), σ' = [some (.ref F), some (.ref g), o2, o3, o4, o5] ∧ FcAt C CF H' g L ∧ partsOf L = qs.take i ∧ Same H H') ⟨x, [], none, none, none, none, rfl, f1, rfl, s1⟩ (fun i σ' H' _ h => by obtain ⟨_, _, _, _, _, _, _, _, _, h⟩ := h; exact sqF h) ?_ ?_⟩
  · rintro i v σ' H' e ⟨g, L, o2, o3, o4, o5, rfl, hg, eL, sm⟩
    obtain ⟨t, qd, rfl, e1, e2, ht, ok⟩ := tm.get e
    obtain ⟨dg, tg, d, g1, g2, g3⟩ := hg.ex
    obtain ⟨nm, d0, p0, st⟩ := qd
    have ok' : PartOk nm d0 p0 st := ok
    refine ⟨t, _, rfl, SqT.of (sm _ _ ht), rfl, _, _, rfl, _, _, rfl, _, _, rfl, _, _, rfl, rfl, ?_⟩
    refine ⟨_, rfl, _, rfl, _, rfl, _, rfl, _, rfl, fun y dy ny ndy ney => ⟨y, dy, nm, d0, p0, st, rfl, upd_same, ok', fun H7 hx7 kp7 => ⟨rfl, ?_⟩⟩⟩
    have s2 : Same H' H7 := Same.made ny ndy kp7
    obtain ⟨cr, eL2⟩ := crew_snoc (x := ⟨y, nm, d0, p0, st⟩) (hg.same s2).crew eL e2 ⟨dy, hx7⟩ rfl tm.ok tm.nd tm.few
    refine ⟨g, dg, _, y, dy, _, rfl, rfl, s2 _ _ g1, hx7, g, L, ⟨y, nm, d0, p0, st⟩, rfl, hg.same s2, cr, fun g' H3 hg' s3 => ⟨⟨g', rfl⟩, ?_⟩⟩
    exact ⟨g', _, _, _, _, _, rfl, hg', eL2, (sm.trans s2).trans s3⟩
  · rintro σ' H' ⟨g, L, o2, o3, o4, o5, rfl, hg, eL, sm⟩
    have hl : (ts.map V.ref).length = qs.length := by rw [List.length_map, tm.len]
    rw [hl, List.take_length] at eL
    exact ⟨_, rfl, q g L H' hg eL sm⟩
end
end Ur
/-! HK: rows of painters in another order (_law_shuffled). -/
namespace Ur
open PySem PySem.Spec PyProof.Rows L2
/-- pairs: a row's place and its numbers -/
abbrev Pr := Addr × Quad
def PrAt (H : Hp) (z : Pr) : Prop := H z.1 = some (.tup (quadV z.2))
theorem prs_team {H : Hp} {ts : List Addr} {qs : List Quad} (tm : Team H ts qs) : (ts.zip qs).map (·.1) = ts ∧ (ts.zip qs).map (·.2) = qs ∧ ∀ z ∈ ts.zip qs, PrAt H z := by
  have hl := tm.len
  refine ⟨List.map_fst_zip (by omega), List.map_snd_zip (by omega), fun z hz => ?_⟩
  obtain ⟨i, hi, e⟩ := List.getElem_of_mem hz
  rw [List.length_zip] at hi
  rw [List.getElem_zip] at e
  subst e
  exact tm.at_ i _ _ (List.getElem?_eq_getElem (by omega)) (List.getElem?_eq_getElem (by omega))
theorem team_prs {H : Hp} {zs : List Pr} (h : ∀ z ∈ zs, PrAt H z) (ok : ∀ q ∈ zs.map (·.2), QuadOk q) (nd : ((zs.map (·.2)).map (·.1)).Nodup) (few : zs.length ≤ 40) : Team H (zs.map (·.1)) (zs.map (·.2)) := by
  refine ⟨by rw [List.length_map, List.length_map], fun j t q a b => ?_, ok, nd, by rw [List.length_map]; exact few⟩
  rw [List.getElem?_map] at a b
  cases e : zs[j]? with
  | none => rw [e] at a; cases a
  | some z =>
    rw [e] at a b
    obtain rfl := Option.some.inj a
    obtain rfl := Option.some.inj b
    exact h z (List.mem_of_getElem? e)
def prD (z : Pr) : PyData := .tuple [.str z.2.1, .int z.2.2.1, .int z.2.2.2.1, .int z.2.2.2.2]
theorem name_strOk {z : Str} (h : NameOk z) : PyData.strOk z = true := arr_all fun c hc => decide_eq_true (by have := h.2.2 c hc; omega)
theorem prs_lay : ∀ zs : List Pr, (∀ z ∈ zs, NameOk z.2.1) → PyData.canLayAll0 (zs.map prD) = true
  | [], _ => by simp [PyData.canLayAll0]
  | k :: ks, h => by simp [PyData.canLayAll0, prD, PyData.canLay0, prs_lay ks fun z hz => h z (List.mem_cons_of_mem _ hz), name_strOk (h k List.mem_cons_self)]
theorem prs_depth : ∀ zs : List Pr, PyData.depthAll (zs.map prD) ≤ 1
  | [] => by simp [PyData.depthAll]
  | k :: ks => by
    have h1 := prs_depth ks
    simp only [List.map_cons, PyData.depthAll, prD, PyData.depth]
    omega
theorem prs_shaped (zs : List Pr) (ok : ∀ z ∈ zs, NameOk z.2.1) : SeqAt.shaped (.list (zs.map prD)) = true := by
  have h1 := prs_depth zs
  have h2 : PyData.depth (.list (zs.map prD)) ≤ 64 := by
    simp only [PyData.depth]
    omega
  show (PyData.canLay0 (.list (zs.map prD)) && decide (PyData.depth (.list (zs.map prD)) ≤ 64)) = true
  rw [Bool.and_eq_true]
  exact ⟨by simp only [PyData.canLay0]; exact prs_lay zs ok, decide_eq_true h2⟩
theorem prs_eqv_nil (zs : List Pr) : PyData.eqv (.list (zs.map prD)) (.list []) = zs.isEmpty := by
  cases zs with
  | nil => simp [PyData.eqv, PyData.eqvAll]
  | cons k ks => simp [PyData.eqv, PyData.eqvAll]
theorem dp_prs {K : PySem.W.Frag} {H : Hp} : ∀ {zs : List Pr}, (∀ z ∈ zs, PrAt H z) → DpAll K H (zs.map fun z => V.ref z.1) (zs.map prD)
  | [], _ => .nil
  | z :: zs, h => .cons (.tup (SqT.of (h z List.mem_cons_self)) (.cons (.str _) (.cons (.int _) (.cons (.int _) (.cons (.int _) .nil))))) (dp_prs fun y hy => h y (List.mem_cons_of_mem _ hy))
theorem take_out {α : Type} : ∀ (xs : List α) (k : Nat) (h : k < xs.length), (xs[k] :: xs.eraseIdx k).Perm xs
  | [], _, h => absurd h (Nat.not_lt_zero _)
  | x :: xs, 0, _ => List.Perm.refl _
  | x :: xs, k + 1, h => by
    have h2 : k < xs.length := by rw [List.length_cons] at h; omega
    show (xs[k] :: x :: xs.eraseIdx k).Perm (x :: xs)
    exact (List.Perm.swap x _ _).trans ((take_out xs k h2).cons x)
theorem map_out {α β : Type} (f : α → β) : ∀ (xs : List α) (k : Nat), (xs.map f).eraseIdx k = (xs.eraseIdx k).map f
  | [], _ => rfl
  | x :: xs, 0 => rfl
  | x :: xs, k + 1 => by
    show f x :: (xs.map f).eraseIdx k = f x :: (xs.eraseIdx k).map f
    rw [map_out f xs k]
theorem sq_index {v : Int} {n : Nat} (h0 : 0 ≤ v) (h1 : v < (n : Int)) : seqIndex? v n = some v.toNat := by
  have e : (if v < 0 then v + (n : Int) else v) = v := if_neg (by omega)
  unfold seqIndex?
  simp only [e]
  rw [decide_eq_true h0, decide_eq_true h1]
  rfl
theorem PrAt.keep {H H' : Hp} {p : Addr} {kvs : List (Key × V)} {z : Pr} (h : PrAt H z) (k : Keep p H H') (hp : H p = some (.dK kvs)) : PrAt H' z := k _ _ h (ne_of h hp (by intro e; cases e))
abbrev s__law_shuffled : Stmt := (topS 85)
abbrev N_sc__law_shuffled : List Str := ["_law_pen_here", "_law_items", "_law_rest", "_law_found"]
abbrev P__law_shuffled : List Str := ["_law_pen_here", "_law_items"]
theorem sc__law_shuffled : FnScope N_sc__law_shuffled P__law_shuffled (defScope s__law_shuffled) := ⟨rfl, rfl, rfl, by decide +kernel, rfl, by decide +kernel, by decide +kernel⟩
def spShuf (K : PySem.W.Frag) : Sp := fun vs H Q _ => ∃ (p l F : Addr) (ts : List Addr) (qs : List Quad) (n : Nat), vs = [.ref p, .ref F] ∧ Pen H p l n ∧ n + 500 ≤ 2 ^ 39 ∧ SqL K H F (ts.map V.ref) ∧ Team H ts qs ∧
  ∀ R ts' qs' H', H' R = some (.lst (ts'.map V.ref)) → qs'.Perm qs → Team H' ts' qs' → Pen H' p l (n + 480) → Keep p H H' → Q (.ref R) H'
section
variable {P : Program} {w : World} {K : PySem.W.Frag} {mg : Str → Option Value} {base : Heap}
set_option maxHeartbeats 16000000 in
theorem ok_shuf (D : Dfn K mg "_law_shuffled" s__law_shuffled P__law_shuffled) (B : Blt mg) (CD : Cal P w K mg base 12 "_law_draw" P__law_draw spDr) : Cal P w K mg base 13 "_law_shuffled" P__law_shuffled (spShuf K) := by
  refine D.cal sc__law_shuffled (fun vs H Q E h => ?_) fun f cdv A outer s H vs Q E hr h => ?_
  · obtain ⟨p, l, F, ts, qs, n, rfl, _⟩ := h
    rfl
  obtain ⟨p, l, F, ts, qs, n, rfl, Pn, hn, hF, tm, q⟩ := h
  obtain ⟨kvs, hp⟩ := Pn.dk
  obtain ⟨e1, e2, hz⟩ := prs_team tm
  obtain ⟨Z, eZ⟩ : ∃ Z : List Pr, Z = ts.zip qs := ⟨_, rfl⟩
  rw [← eZ] at e1 e2 hz
  have zl : Z.length ≤ 40 := by rw [← List.length_map (f := (·.2)), e2]; exact tm.few
  have er : ts.map V.ref = Z.map fun z => V.ref z.1 := by rw [← e1, List.map_map]; rfl
  refine ⟨_, (pss_cons (ps_par (i := 2) (j := 3) rfl sc__law_shuffled.nd rfl rfl (by decide) rfl rfl (pa_cons (pe_callTy call_list_of rfl B.list_ (by decide +kernel) (pa_cons (pv 1) pa_nil)) (pa_cons (pe_lst pa_nil) pa_nil)) (by rfl)) (pss_cons (ps_while PassesOwn.never (pt_cmpR (op_neD hr.units) (pv 2) (pe_lst pa_nil) (nomark _)) (pss_one (ps_expr (pe_bm PySem.F.plainAttrs_list PySem.F.slot_list_append PySem.F.type_list_append mt_append (pv 3) (pa_cons (pe_bm PySem.F.plainAttrs_list PySem.F.slot_list_pop PySem.F.type_list_pop mt_popAt (pv 2) (pa_cons (pe_cal CD (hr.mono (by decide)) (pa_cons (pv 0) (pa_cons (pe_callB call_len_seq rfl B.len_ PySem.boot_len (pa_cons (pv 2) pa_nil)) pa_nil))) pa_nil)) pa_nil))))) (pss_one (ps_ret (pv 3))))), ?_⟩
  refine ⟨_, rfl, F, _, rfl, .inl hF, fun Rl nR => ⟨by show 0 ≤ sizeLine; decide, fun Fl nF => ⟨_, _, rfl, ?_⟩⟩⟩
  have zok : ∀ z ∈ Z, NameOk z.2.1 := fun z hz => (tm.ok z.2 (by rw [← e2]; exact List.mem_map_of_mem hz)).nm
  have nRp := Pn.ne nR
  have nRl := Pn.nl nR
  have P1 := Pn.new (o := .lst (ts.map V.ref)) nR
  have nFp := P1.ne nF
  have nFl := P1.nl nF
  have k1 : Keep p H (upd H Rl (.lst (ts.map V.ref))) := Keep.refl.new nR
  have k2 := k1.new (o := .lst []) nF
  have nRF : Rl ≠ Fl := ne_of_none upd_same nF
  have nF0 : H Fl = none := k1.none_of nF nFp
  refine while_ex (fun m σ H1 => ∃ zs ys : List Pr, m = zs.length ∧ σ = [some (.ref p), some (.ref F), some (.ref Rl), some (.ref Fl)] ∧ H1 Rl = some (.lst (zs.map fun z => V.ref z.1)) ∧ H1 Fl = some (.lst (ys.map fun z => V.ref z.1)) ∧ (zs ++ ys).Perm Z ∧ Pen H1 p l (n + 12 * ys.length) ∧ Keep p H H1) Z.length ⟨Z, [], rfl, rfl, by rw [upd_ne nRF, upd_same, er], upd_same, by rw [List.append_nil], (P1.new nF).le (by omega), k2⟩ ?_ (fun σ H Q Q' k h => ?_)
  · rintro m σ H1 ⟨zs, ys, rfl, rfl, hR1, hF1, pm, Pi, ki⟩
    have mem : ∀ z ∈ zs ++ ys, z ∈ Z := fun z hz => pm.mem_iff.mp hz
    have len := pm.length_eq
    rw [List.length_append] at len
    have at1 : ∀ z ∈ zs ++ ys, PrAt H1 z := fun z h => (hz z (mem z h)).keep ki hp
    have zok1 : ∀ z ∈ zs, NameOk z.2.1 := fun z h => zok z (mem z (List.mem_append_left _ h))
    refine ⟨_, rfl, by show 0 ≤ sizeLine; decide, fun D nD => ?_⟩
    have kD := ki.new (o := .lst []) nD
    have PD := Pi.new (o := .lst []) nD
    have wD := same_new nD (.lst [])
    have hRD := wD _ _ hR1
    have hFD := wD _ _ hF1
    refine ⟨.list (zs.map prD), .list [], .lst (SqL.of hRD) (dp_prs fun z h => wD _ _ (at1 z (List.mem_append_left _ h))), .lst (SqL.of upd_same) .nil, prs_shaped zs zok1, prs_shaped [] (fun z h => nomatch h), _, rfl, ?_⟩
    rw [prs_eqv_nil]
    cases ez : zs with
    | nil =>
      subst ez
      refine iteF ?_
      rw [List.nil_append] at pm at1
      refine ⟨_, rfl, ?_⟩
      have pq : (ys.map (·.2)).Perm qs := by rw [← e2]; exact pm.map _
      have tm' : Team (upd H1 D (.lst [])) (ys.map (·.1)) (ys.map (·.2)) := team_prs (fun z h => wD _ _ (at1 z h)) (fun q h => tm.ok q (pq.mem_iff.mp h)) ((pq.map (·.1)).nodup_iff.mpr tm.nd) (by rw [pm.length_eq]; exact zl)
      exact q Fl (ys.map (·.1)) (ys.map (·.2)) _ (by rw [hFD, List.map_map]; rfl) pq tm' (PD.le (by omega)) kD
    | cons z0 zr =>
      refine iteT ?_
      rw [← ez]
      have zl1 : 1 ≤ zs.length := by rw [ez, List.length_cons]; omega
      obtain ⟨H2, eH2⟩ : ∃ H2, H2 = upd H1 D (.lst []) := ⟨_, rfl⟩
      rw [← eH2] at kD PD hRD hFD ⊢
      refine ⟨_, rfl, .inl ⟨rfl, _, SqL.of hFD⟩, _, rfl, .inl ⟨rfl, _, SqL.of hRD⟩, _, rfl, _, rfl, Rl, _, rfl, .inl (SqL.of hRD), p, l, _, _, rfl, PD, by omega, by rw [List.length_map]; omega, by rw [List.length_map]; omega, fun v H3 v0 v1 P3 k3 => ?_⟩
      rw [List.length_map] at v1
      have hvl : v.toNat < zs.length := by omega
      obtain ⟨kv2, hp2⟩ := PD.dk
      have nRp2 : Rl ≠ p := ne_of hRD hp2 (by intro z; cases z)
      have nFp2 : Fl ≠ p := ne_of hFD hp2 (by intro z; cases z)
      have hR3 := k3 _ _ hRD nRp2
      have hF3 := k3 _ _ hFD nFp2
      refine ⟨Rl, _, v, v.toNat, .ref zs[v.toNat].1, rfl, rfl, hR3, by omega, by omega, by rw [List.length_map]; exact sq_index v0 v1, by rw [List.getElem?_map, List.getElem?_eq_getElem hvl]; rfl, ?_⟩
      have hF4 : upd H3 Rl (.lst ((zs.map fun z => V.ref z.1).eraseIdx v.toNat)) Fl = some (.lst (ys.map fun z => V.ref z.1)) := by rw [upd_ne nRF.symm]; exact hF3
      refine ⟨Fl, _, _, rfl, rfl, hF4, by rw [List.length_map]; exact small1000 (by omega), ?_⟩
      have er2 : (zs.eraseIdx v.toNat).length < zs.length := by have := (take_out zs v.toNat hvl).length_eq; rw [List.length_cons] at this; omega
      refine ⟨(zs.eraseIdx v.toNat).length, by omega, zs.eraseIdx v.toNat, ys ++ [zs[v.toNat]], rfl, rfl, ?_, ?_, ?_, ?_, ?_⟩
      · rw [upd_ne nRF, upd_same, map_out]
      · rw [upd_same, List.map_append]
        rfl
      · refine List.Perm.trans ?_ pm
        rw [← List.append_assoc]
        refine List.perm_append_comm.trans ?_
        show (zs[v.toNat] :: (zs.eraseIdx v.toNat ++ ys)).Perm _
        exact (take_out zs v.toNat hvl).append_right ys
      · rw [List.length_append, show ([zs[v.toNat]] : List Pr).length = 1 from rfl]
        exact ((P3.upd nRp2 nRl).upd nFp2 nFl).le (by show _ ≤ n + 12 * (ys.length + 1); omega)
      · exact ((kD.trans k3).at_new nR).at_new nF0
  · obtain ⟨v, ev, z, h⟩ := h
    exact ⟨v, ev, z, fun D2 nD2 => let ⟨d, e, p1, p2, p3, p4, b, eb, q⟩ := h D2 nD2; ⟨d, e, p1, p2, p3, p4, b, eb, k _ _ q⟩⟩
end
end Ur
/-! HQ: what the laws of histories share. -/
namespace Ur
open PySem PySem.Spec PyProof.Rows L2
def spLaw (K : PySem.W.Frag) (T : List (Addr × Str)) : Sp := fun vs H Q _ => ∃ (a : Addr) (ns : List Int), vs = [.ref a] ∧ SqL K H a (ns.map V.int) ∧ ns.length ≤ 63 ∧ LamX.Tabs T H ∧ ∀ H', Q (.bl true) H'
theorem Pen.extN {H H' : Hp} {p l : Addr} {n : Nat} (P : Pen H p l n) (e : LamX.ExtN H H') : Pen H' p l n := by
  obtain ⟨cs, b, r, h1, h2, z⟩ := P.ex
  exact ⟨cs, b, r, e _ _ h1 (fun _ z => by cases z), e _ _ h2 (fun _ z => by cases z), z⟩
theorem Team.extN {H H' : Hp} {ts : List Addr} {qs : List Quad} (h : Team H ts qs) (e : LamX.ExtN H H') : Team H' ts qs := ⟨h.len, fun j t q a b => e _ _ (h.at_ j t q a b) (fun _ z => by cases z), h.ok, h.nd, h.few⟩
theorem Crew.extN {C : Addr} {H H' : Hp} {L : List Pt} (h : Crew C H L) (e : LamX.ExtN H H') : Crew C H' L := ⟨fun x hx => let ⟨⟨dx, a⟩, z⟩ := h.at_ x hx; ⟨⟨dx, e _ _ a (fun _ z => by cases z)⟩, z⟩, h.nd, h.few⟩
theorem FcAt.extN {C CF : Addr} {H H' : Hp} {f : Addr} {L : List Pt} (h : FcAt C CF H f L) (e : LamX.ExtN H H') : FcAt C CF H' f L :=
  let ⟨dx, t, d, h1, h2, h3⟩ := h.ex
  ⟨⟨dx, t, d, e _ _ h1 (fun _ z => by cases z), e _ _ h2 (fun _ z => by cases z), e _ _ h3 (fun _ z => by cases z)⟩, h.crew.extN e⟩
theorem team_d0 {H : Hp} {ts : List Addr} {qs : List Quad} (tm : Team H ts qs) : ∀ i, i < qs.length → 0 ≤ dQ qs i := fun i hi => by
  obtain ⟨t, qd, _, e, _, ok, _⟩ := tm.ix hi
  rw [(q_at e).2.1]
  exact ok.d0
theorem nt_tup {ys : List V} : ∀ ps, HO.tup ys ≠ .tbl ps := fun _ z => by cases z
theorem nt_lst {ys : List V} : ∀ ps, HO.lst ys ≠ .tbl ps := fun _ z => by cases z
end Ur
/-! UrU: the law's own call, where defs make lambdas: their tables are tracked. -/
namespace Ur
open PySem PySem.Spec PyProof.Rows L2
theorem law_callGT {P : Program} {w : World} {K : PySem.W.Frag} {mg mb : Str → Option Value} {k : Nat} {fa a : Addr} {ct : List (Addr × Addr)} {fd : FuncData} {x : Str} {sp : Sp} {s1 : Shared} {vs : List Value} {ns : List Int}
    (kin : K.In s1.heap) (hns : s1.heap.Ns mainGlobals mg) (hb : s1.heap.Ns builtinsNs mb) (hbb : ∀ x : Str, x ≠ "__name__" → mb x = bootBuiltins x) (hlim : s1.heap.NoLimit) (hg : s1.gens = #[])
    (tabs : ∀ q ∈ ct, s1.heap.get? q.2 = some (PySem.W.tabObj #[]) ∧ K.lookup q.2 = none ∧ PySem.W.CodeHd s1.heap q.1 q.2)
    (hbm : ∃ (bm : Addr) (ob : Obj), mg "__builtins__" = some (.ref bm) ∧ bm ≠ builtinsNs ∧ s1.heap.get? bm = some ob ∧ ob.cls = .type "module" ∧ ob.dict = some builtinsNs ∧ ob.data = .plain)
    (ha : s1.heap.get? a = some { cls := .type "list", data := .seq vs.toArray }) (hi : IntsAre vs ns) (hl : ns.length ≤ sizeLine) (hr : Room k callerA)
    (F : ∀ base : Heap, K.In base → base.Ns mainGlobals mg → (∀ q ∈ ct, LamX.TabB base mg q.1 q.2) → FnG P w K mg base k fa fd [x] sp) (hbind : ∀ (s : Shared) (u : Value), BindsTo s fd ⟨[u], []⟩ [(x, u)])
    (hsp : ∀ H : Hp, (∀ q ∈ ct, H q.2 = some (.tbl #[])) → SqL K H a (ns.map V.int) → sp [.ref a] H (fun v _ => v = .bl true) fun _ _ _ => False) :
    codeAny (model P w) callerA (.call (.ref fa) ⟨[.ref a], []⟩) (fun r s' => r = .ok (.ret (.bool true)) ∧ OldK s1.heap s'.heap ∧ s'.os = s1.os ∧ AllBare s'.gens) s1 := by
  have rv : Vals (ns.map V.int) vs := vals_ints hi
  have lenV : vs.length = ns.length := hi.length
  let ob : Obj := { cls := .type "list", data := .seq vs.toArray }
  let tb : Addr → Prop := fun b => b ∈ ct.map (·.2)
  have tbAt : ∀ b, tb b → s1.heap.get? b = some (PySem.W.tabObj #[]) ∧ K.lookup b = none := by
    intro b h
    obtain ⟨q, hq, rfl⟩ := List.mem_map.mp h
    exact ⟨(tabs q hq).1, (tabs q hq).2.1⟩
  have tbOf : ∀ q ∈ ct, tb q.2 := fun q hq => List.mem_map.mpr ⟨q, hq, rfl⟩
  have aNo : ¬ tb a := by
    intro h
    have z := (tbAt a h).1
    rw [ha] at z
    cases congrArg Obj.data (Option.some.inj z)
  -- the abstract heap: the script, where it is none of the module's own objects, and the tables
  obtain ⟨H, hH, hS, hT, hN⟩ : ∃ H : Hp, (∀ b u, H b = some u → (b = a ∧ u = .frz ob (.lst (ns.map V.int)) ∧ K.lookup a = none) ∨ (tb b ∧ u = .tbl #[])) ∧ SqL K H a (ns.map V.int) ∧ (∀ b, tb b → H b = some (.tbl #[])) ∧ True := by
    classical
    cases hk : K.lookup a with
    | some o =>
      have e : s1.heap.get? a = some o := kin a o hk
      have e2 : o = ob := Option.some.inj (e.symm.trans ha)
      refine ⟨fun b => if tb b then some (.tbl #[]) else none, fun b u z => ?_, Or.inr ⟨o, vs.toArray, 0, hk, by rw [e2], by rw [e2], by rw [e2], ?_, ?_⟩, fun b h => if_pos h, trivial⟩
      · by_cases h : tb b
        · have z : (if tb b then some (HO.tbl #[]) else none) = some u := z
          rw [if_pos h] at z
          exact Or.inr ⟨h, (Option.some.inj z).symm⟩
        · have z : (if tb b then some (HO.tbl #[]) else none) = some u := z
          rw [if_neg h] at z
          cases z
      · rw [List.size_toArray, lenV]; exact hl
      · simpa using rv
    | none =>
      refine ⟨fun b => if b = a then some (.frz ob (.lst (ns.map V.int))) else if tb b then some (.tbl #[]) else none, fun b u z => ?_, Or.inl (Or.inr ⟨ob, if_pos rfl⟩), fun b h => ?_, trivial⟩
      · have z : (if b = a then some (HO.frz ob (.lst (ns.map V.int))) else if tb b then some (HO.tbl #[]) else none) = some u := z
        by_cases hba : b = a
        · rw [if_pos hba] at z
          exact Or.inl ⟨hba, (Option.some.inj z).symm, rfl⟩
        · rw [if_neg hba] at z
          by_cases h : tb b
          · rw [if_pos h] at z
            exact Or.inr ⟨h, (Option.some.inj z).symm⟩
          · rw [if_neg h] at z
            cases z
      · have nb : b ≠ a := fun e => aNo (e ▸ h)
        show (if b = a then _ else if tb b then _ else _) = _
        rw [if_neg nb, if_pos h]
  have hok : HOk P w H s1.heap := by
    intro b u z
    rcases hH b u z with ⟨rfl, rfl, _⟩ | ⟨h, rfl⟩
    · exact ⟨ha, by rw [List.length_map]; exact hl, vs, _, rv, ha⟩
    · exact (tbAt b h).1
  -- what is neither the script nor a table is not tracked
  have free : ∀ {b : Addr} {o : Obj}, s1.heap.get? b = some o → (b = a → o = ob → K.lookup a ≠ none) → o ≠ PySem.W.tabObj #[] → H b = none := by
    intro b o e n nt
    cases z : H b with
    | none => rfl
    | some u =>
      rcases hH b u z with ⟨h1, _, h3⟩ | ⟨h, _⟩
      · subst h1
        exact absurd h3 (n rfl (Option.some.inj (e.symm.trans ha)))
      · exact absurd (Option.some.inj (e.symm.trans (tbAt b h).1)) nt
  have nsB : ∀ {b : Addr} {m : Str → Option Value}, s1.heap.Ns b m → (hidT s1.heap H).Ns b m := by
    intro b m ⟨o, es, ep, e, d, r⟩
    refine ⟨o, es, ep, hidT_get e (free e (fun _ z => ?_) fun z => ?_), d, r⟩
    · rw [z] at d
      cases d
    · rw [z] at d
      cases d
  have kinB : K.In (hidT s1.heap H) := by
    intro b o e
    have g := kin b o e
    refine hidT_get g ?_
    cases z : H b with
    | none => rfl
    | some u =>
      rcases hH b u z with ⟨h1, _, h3⟩ | ⟨h, _⟩
      · subst h1
        rw [e] at h3
        cases h3
      · have := (tbAt b h).2
        rw [e] at this
        cases this
  have modB : Mod K mg (hidT s1.heap H) := by
    obtain ⟨mc, l1, l2⟩ := hlim
    exact ⟨kinB, nsB hns, ⟨mb, nsB hb, hbb⟩, ⟨mc, nsB l1, l2⟩⟩
  have TB : ∀ q ∈ ct, LamX.TabB (hidT s1.heap H) mg q.1 q.2 := by
    intro q hq
    obtain ⟨t1, t2, t3⟩ := tabs q hq
    refine ⟨?_, ?_, ?_⟩
    · obtain ⟨o, us, file, tf, flags, tg, inF, text, tt, e1, r1, r2, r3, r⟩ := t3
      refine ⟨o, us, file, tf, flags, tg, inF, text, tt, hidT_get e1 (free e1 (fun _ z => ?_) fun z => ?_), r1, r2, r3, r⟩
      · rw [z] at r2
        cases r2
      · rw [z] at r2
        have := Data.fields.inj r2
        rw [← this] at r3
        simp at r3
    · obtain ⟨bm, o, b1, b2, b3, b4, b5, b6⟩ := hbm
      refine ⟨bm, o, b1, b2, ?_, ?_, hidT_get b3 (free b3 (fun _ z => ?_) fun z => ?_), b4, b5, b6⟩
      · rintro rfl
        obtain ⟨o2, es, ep, e, hd, _⟩ := hns
        rw [e] at b3
        cases b3
        rw [hd] at b6
        cases b6
      · rintro rfl
        rw [t1] at b3
        cases b3
        cases b6
      · rw [z] at b6
        cases b6
      · rw [z] at b6
        cases b6
    · intro z
      obtain ⟨o2, es, ep, e, hd, _⟩ := hns
      rw [z, t1] at e
      cases e
      cases hd
  have none_in : ∀ b : Addr, b ∉ ([] : List Addr) := fun b z => nomatch z
  have e0 : Env0 P w K mg (hidT s1.heap H) callerA [] s1 H := ⟨rfl, modB, fun b o e => of_hidT e, Nat.le_of_eq (hidT_size _ _), trivial, fun b z => absurd z (none_in b), hok, .of_eq hg⟩
  refine codeAny_mono ((F _ kinB (nsB hns) TB).go callerA [] s1 H ⟨[.ref a], []⟩ [.ref a] [.ref a] _ _ rfl hr e0 (hbind s1 (.ref a)) (.cons rfl .nil) (hsp H (fun q hq => hT _ (tbOf q hq)) hS)) ?_
  intro r s2 h
  match r, h with
  | .error _, h => exact False.elim h
  | .ok .next, h => exact False.elim h
  | .ok .brk, h => exact False.elim h
  | .ok .cont, h => exact False.elim h
  | .ok (.ret u), h =>
    obtain ⟨v, H2, os, bare, un, hok2, rv2, q⟩ := h
    have q : v = .bl true := q
    subst q
    obtain rfl : u = Value.bool true := rv2
    have grown : ∀ b, tb b → ∃ more : Array Value, s2.heap.get? b = some (PySem.W.tabObj more) := by
      intro b h
      obtain ⟨more, z⟩ := un.tbls b #[] (hT b h)
      exact ⟨_, hok2 b _ z⟩
    have same : ∀ b o, ¬ tb b → s1.heap.get? b = some o → s2.heap.get? b = some o := by
      intro b o nt e
      cases z : H b with
      | none => exact un.keep b o e z (none_in b) (none_in b)
      | some u =>
        rcases hH b u z with ⟨rfl, rfl, _⟩ | ⟨h, _⟩
        · have z2 := un.frzs b ob _ z
          have e2 := (hok2 b _ z2).1
          rw [ha] at e
          rw [← Option.some.inj e]
          exact e2
        · exact absurd h nt
    refine ⟨rfl, ⟨fun b o e => ?_, fun b o e => ?_⟩, os, bare⟩
    · by_cases hb : tb b
      · obtain ⟨q, hq, rfl⟩ := List.mem_map.mp hb
        obtain ⟨t1, t2, t3⟩ := tabs q hq
        obtain ⟨more, g⟩ := grown q.2 hb
        rw [t1] at e
        obtain rfl := Option.some.inj e
        exact Or.inr (Or.inl ⟨(t3.tab t1).isCodeTable, rfl, #[], more, rfl, by rw [Array.empty_append]; exact g⟩)
      · exact Or.inl (same b o hb e)
    · by_cases hb : tb b
      · obtain ⟨more, g⟩ := grown b hb
        exact ⟨_, g⟩
      · exact ⟨o, same b o hb e⟩
/-- the end of a law whose defs make lambdas: xs the names of these defs -/
theorem walk_ofGT {l : PySem.W.OpenLaw} {n k : Nat} {q : Program} {loose : List Str} {XP : (Str → Option Value) → Heap → Prop} {YP : World → Heap → Prop} {d : DefRec} {K : Params → PySem.W.Frag} {x : Str} {xs : List Str}
    (hn : l.most = some n) (hn2 : n ≤ sizeLine) (hdf : d.params.defaults = []) (hr : Room k callerA) (hrec : ∀ y ∈ xs, ((recsOf q).find? fun e => e.name == y).isSome = true) (hY : ∀ (w : World) (h : Heap), YP w h → (K w.params).In h)
    (F : ∀ (w : World) (mg : Str → Option Value) (fa : Addr) (h : Heap), (K w.params).In h → h.Ns mainGlobals mg → mg d.name = some (.ref fa) →
      ∃ (fd : FuncData) (ct : List (Addr × Addr)) (sp : Sp), (∀ (s : Shared) (u : Value), BindsTo s fd ⟨[u], []⟩ [(x, u)]) ∧ (∀ q ∈ ct, (K w.params).lookup q.2 = none ∧ ∃ y ∈ xs, PySem.W.tabIn (K w.params) y = some q) ∧
        (∀ (H : Hp) (a : Addr) (ns : List Int), ns.length ≤ n → (∀ q ∈ ct, H q.2 = some (.tbl #[])) → SqL (K w.params) H a (ns.map V.int) → sp [.ref a] H (fun v _ => v = .bl true) fun _ _ _ => False) ∧
        ∀ base : Heap, (K w.params).In base → base.Ns mainGlobals mg → (∀ q ∈ ct, LamX.TabB base mg q.1 q.2) → FnG l.prog w (K w.params) mg base k fa fd [x] sp) :
    PySem.W.WalkO q loose XP YP l.row.toRowW d [] (fun f vs => PySem.call f vs) := by
  refine Att.attach_call hn hdf ?_
  intro w s0 s1 mg mb fa o pm cd doc a vs ns G Y ho hd hcd hmg hobj hints hlen hg
  have kin := hY w _ Y
  obtain ⟨fd, ct, sp, hb, hct, hsp, hF⟩ := F w mg fa _ kin G.T.g hmg
  refine law_callGT kin G.T.g G.T.b G.T.builtins G.T.nolimit hg (fun t ht => ?_) G.T.bmain hobj hints (Nat.le_trans hlen hn2) hr hF hb fun H hT hS => hsp H a ns hlen hT hS
  obtain ⟨no, y, hy, tin⟩ := hct t ht
  obtain ⟨dr, hdr⟩ := Option.isSome_iff_exists.mp (hrec y hy)
  obtain ⟨c1, c2⟩ := PySem.W.tab_of (c := t.1) (P := t.2) G.T kin hdr tin
  exact ⟨c2, no, c1⟩
end Ur
/-! UrSo: sorted(xs) of tuples of any kinds, all alike: the new list stands for the sorted data. -/
namespace Ur
open PySem PySem.Spec PyProof.Rows L2
section
variable {β : Type} {F : V → β → Prop}
end
end Ur
/-! IC: all who come to a post, by their days: the comings as data, sorted. -/
namespace Ur
open PySem PySem.Spec PyProof.Rows L2
def cntR (rs : List Rw) (i : Nat) : Option Int := match rs[i]? with
  | some r => r.cnt
  | none => none
end Ur
/-! HX: a crosses b twice: the numbers of _law_crossed. -/
namespace Ur
open PySem PySem.Spec PyProof.Rows L2
structure Crs (one two turns more day late : Int) : Prop where
  o0 : 2 ≤ one
  o1 : one ≤ 10 ^ 9 + 7
  t0 : 4 ≤ two
  t1 : two ≤ 10 ^ 6 + 4
  g : Int.gcd one two = 1
  u0 : 2 ≤ turns
  u1 : turns ≤ 6
  m0 : 1 ≤ more
  m1 : more < one
  d0 : 0 ≤ day
  d1 : day ≤ 10 ^ 16
  l0 : day + turns * one ≤ late
  l1 : late ≤ day + turns * one + 9
section
variable {one two turns more base day late : Int}
end
end Ur
/-! HY: _law_crossed; a history's row by its name. -/
namespace Ur
open PySem PySem.Spec PyProof.Rows L2
section
variable {P : Program} {w : World} {K : PySem.W.Frag} {mg : Str → Option Value} {base : Heap} {C CF CH : Addr}
end
theorem rows_ix {H : Hp} {as : List Addr} {rs : List Rw} (h : RowsAt H as rs) : as.length = rs.length ∧ ∀ (j : Nat) (r : Rw), rs[j]? = some r → ∃ a, as[j]? = some a ∧ RwAt H a r := by
  induction h with
  | nil => exact ⟨rfl, fun j r e => by simp at e⟩
  | cons x t ih =>
    refine ⟨congrArg (· + 1) ih.1, fun j r e => ?_⟩
    cases j with
    | zero => obtain rfl := Option.some.inj e; exact ⟨_, rfl, x⟩
    | succ j => exact ih.2 j r e
section
variable {P : Program} {w : World} {K : PySem.W.Frag} {mg : Str → Option Value} {base : Heap} {C CF CH : Addr} {f : Addr} {fd : FuncData}
end
end Ur
/-! KA: count_at, day_at. -/
namespace Ur
open PySem PySem.Spec PyProof.Rows L2
abbrev s_check_post : Stmt := (topS 20)
abbrev N_sc_check_post : List Str := ["value"]
abbrev P_check_post : List Str := ["value"]
theorem sc_check_post : FnScope N_sc_check_post P_check_post (defScope s_check_post) := ⟨rfl, rfl, rfl, by decide +kernel, rfl, by decide +kernel, by decide +kernel⟩
def spCkPost : Sp := fun vs H Q _ => ∃ c : Int, vs = [.int c] ∧ -(10 ^ 80) ≤ c ∧ c ≤ 10 ^ 80 ∧ Q .non H
section
variable {P : Program} {w : World} {K : PySem.W.Frag} {mg : Str → Option Value} {base : Heap} {C : Addr}
theorem ok_check_post (D : Dfn K mg "check_post" s_check_post P_check_post) {uM : Value} (hM : mg "MAX_ARGUMENT" = some uM) (rM : L2.RelV (.int (10 ^ 80)) uM) (CB : Cal P w K mg base 2 "is_between" P_is_between spBetween) : Cal P w K mg base 3 "check_post" P_check_post spCkPost := by
  refine D.cal sc_check_post (fun vs H Q E h => ?_) fun f cdv A outer s H vs Q E hr h => ?_
  · obtain ⟨c, rfl, _⟩ := h
    rfl
  obtain ⟨c, rfl, c0, c1, q⟩ := h
  refine ⟨_, (pss_one (ps_if (pt_not (pt_val (pe_cal CB (hr.mono (by decide)) (pa_cons (pv 0) (pa_cons (pe_un un_neg (pe_glob (v := .int (10 ^ 80)) rfl hM rM)) (pa_cons (pe_glob (v := .int (10 ^ 80)) rfl hM rM) pa_nil)))))) (pss_one ps_never) pss_nil)), ?_⟩
  exact ⟨_, rfl, _, rfl, c, _, _, rfl, _, rfl, iteNS ⟨c0, c1⟩ q⟩
end
section
variable {P : Program} {w : World} {K : PySem.W.Frag} {mg : Str → Option Value} {base : Heap} {C : Addr} {f : Addr} {fd : FuncData}
end
end Ur
/-! MA: who painted a post (painting, History.fence, day_of). -/
namespace Ur
open PySem PySem.Spec PyProof.Rows L2
theorem walk_zipP {K : PySem.W.Frag} {a b : Addr} {xs ys : List V} {n : Nat} (h1 : n = xs.length) (h2 : n = ys.length) : Walk (RZ.ItzT K a b) n (fun H => SqT K H a xs ∧ SqT K H b ys) (YPair (fun i => xs[i]?) (fun i => ys[i]?)) where
  goes := fun i H hi q => by
    obtain ⟨x, ex⟩ : ∃ x, xs[i]? = some x := ⟨_, List.getElem?_eq_getElem (by omega)⟩
    obtain ⟨y, ey⟩ : ∃ y, ys[i]? = some y := ⟨_, List.getElem?_eq_getElem (by omega)⟩
    exact ⟨xs, ys, x, y, q.1, q.2, ex, ey⟩
  stops := fun H q => ⟨xs, ys, q.1, q.2, .inl (Nat.le_of_eq h1.symm)⟩
  yields := fun i H v H' _ q y => by
    obtain ⟨T, x, z, e1, e2, e3, f1, f2⟩ := y
    exact ⟨T, x, z, e1, e2, e3, f1 _ q.1, f2 _ q.2⟩
section
variable {P : Program} {w : World} {K : PySem.W.Frag} {mg : Str → Option Value} {base : Heap} {CH f : Addr} {fd : FuncData}
end
section
variable {P : Program} {w : World} {K : PySem.W.Frag} {mg : Str → Option Value} {base : Heap} {C CF CH : Addr}
end
end Ur
/-! PC: the painters of a fence with the numbers of their posts (painted_counts). -/
namespace Ur
open PySem PySem.Spec PyProof.Rows L2
/-- the painters of a fence with the numbers of their posts -/
abbrev PcAt (H : Hp) (bs : List Addr) (es : List (Addr × Option Int)) : Prop := Paired (fun b e => H b = some (.tup [.ref e.1, optV e.2])) bs es
def pcs (L : List Pt) (rs : List Rw) (n : Nat) : List (Addr × Option Int) := (List.range n).filterMap fun i => match L[i]? with | some x => some (x.a, cntR rs i) | none => none
theorem pcs_succ {L : List Pt} {rs : List Rw} {n : Nat} {x : Pt} (h : L[n]? = some x) : pcs L rs (n + 1) = pcs L rs n ++ [(x.a, cntR rs n)] := by
  unfold pcs
  rw [List.range_succ, List.filterMap_append, List.filterMap_cons, h]
  rfl
theorem pcs_get {L : List Pt} {rs : List Rw} : ∀ {n i : Nat}, n ≤ L.length → i < n → ∃ x, L[i]? = some x ∧ (pcs L rs n)[i]? = some (x.a, cntR rs i) ∧ (pcs L rs n).length = n
  | 0, i, _, h => absurd h (Nat.not_lt_zero i)
  | n + 1, i, hn, h => by
    obtain ⟨z, hz⟩ : ∃ z, L[n]? = some z := ⟨_, List.getElem?_eq_getElem (by omega)⟩
    have len : (pcs L rs n).length = n := by
      cases n with
      | zero => rfl
      | succ m => exact (pcs_get (i := 0) (by omega) (by omega)).choose_spec.2.2
    rw [pcs_succ hz]
    by_cases c : i = n
    · subst c
      exact ⟨z, hz, by rw [List.getElem?_append_right (by omega), len, Nat.sub_self]; rfl, by rw [List.length_append, len]; rfl⟩
    · obtain ⟨x, hx, e, _⟩ := pcs_get (L := L) (rs := rs) (n := n) (i := i) (by omega) (by omega)
      exact ⟨x, hx, by rw [List.getElem?_append_left (by omega)]; exact e, by rw [List.length_append, len]; rfl⟩
abbrev s_painted_counts : Stmt := (topS 43)
abbrev N_sc_painted_counts : List Str := ["fence", "rows", "painter", "row"]
abbrev P_painted_counts : List Str := ["fence"]
theorem sc_painted_counts : FnScope N_sc_painted_counts P_painted_counts (defScope s_painted_counts) := ⟨rfl, rfl, rfl, by decide +kernel, rfl, by decide +kernel, by decide +kernel⟩
def spPc (T : List (Addr × Str)) (C CF : Addr) : Sp := fun vs H Q _ => ∃ (f : Addr) (L : List Pt), vs = [.ref f] ∧ FcAt C CF H f L ∧ LamX.Tabs T H ∧
  ∀ (rs : List Rw) (D : Addr) (bs : List Addr) (H' : Hp), HistR (partsOf L) (fSP (partsOf L)) rs → H' D = some (.lst (bs.map V.ref)) → PcAt H' bs (pcs L rs L.length) → (∀ o, H D = some o → ∃ ps, o = .tbl ps) → LamX.ExtN H H' → LamX.Tabs T H' → Q (.ref D) H'
section
variable {P : Program} {w : World} {K : PySem.W.Frag} {mg : Str → Option Value} {base : Heap} {C CF CH : Addr}
theorem ok_pc {Tt : List (Addr × Str)} (D : Dfn K mg "painted_counts" s_painted_counts P_painted_counts) (hZip : mg "zip" = none) (U : FTxt K mg CF) (UH : HTxt K mg CH) (hMkH : MkH P w K mg base Tt C CF CH) (hRows : PropS P w K mg base CH "rows" 1 (getSp CH "_rows")) (hPs : PropS P w K mg base CF "painters" 1 (getSp CF "_painters")) : Cal P w K mg base 16 "painted_counts" P_painted_counts (spPc Tt C CF) := by
  refine D.cal sc_painted_counts (fun vs H Q E h => ?_) fun f cdv A outer s H vs Q E hr h => ?_
  · obtain ⟨f, L, rfl, _⟩ := h
    rfl
  obtain ⟨f, L, rfl, hf, tb, q⟩ := h
  refine ⟨_, (pss_cons (ps_set (i := 1) sc_painted_counts.nd rfl (Or.inl rfl) (pe_prS (pe_mkH hMkH UH (hr.mono (by decide)) (pa_cons (pv 0) pa_nil)) UH.cl hRows (hr.mono (by decide)))) (pss_one (ps_ret (pe_lc (own := [("painter", 2), ("row", 3)]) (g := gTup K 2 (gCons (gName 2) (gCons (gName 3) gNil))) (tt := tYes) rfl sc_painted_counts.nd (RZ.pi_zipA rfl hZip (pa_cons (pe_prS (pv 0) U.cl hPs (hr.mono (by decide))) (pa_cons (pv 1) pa_nil))) (blkOk_by (N := N_sc_painted_counts) (sc := defScope s_painted_counts) (by decide +kernel)) (fun _ _ _ _ _ => pg_tup rfl (pgs_cons (pg_name (i := 2) sc_painted_counts.nd rfl (Or.inl rfl)) (pgs_cons (pg_name (i := 3) sc_painted_counts.nd rfl (Or.inl rfl)) pgs_nil))) (fun _ _ _ _ _ => pts_nil) (fun _ _ _ _ _ => (pe_tup (pa_cons (pv 2) (pa_cons (pe_ix (show IxR _ (rIxT K) from ix_tup) (pv 3) pe_int (fun _ _ => rfl)) pa_nil)))))))), ?_⟩
  refine ⟨_, rfl, fun y dy ny ndy ney => ask_hist ny ndy ney hf tb fun H1 rs hs1 hist eN tb1 => ⟨rfl, ?_⟩⟩
  obtain ⟨dxh, fc, Ta, bb, so, as, ps, hh, hfc, hTa, rows, _⟩ := id hs1.ex
  refine ⟨y, dxh, _, rfl, hh, y, dxh, _, _, rfl, hh, rfl, ?_⟩
  have hf1 := hf.extN eN
  obtain ⟨dxf, t, d, g1, g2, g3⟩ := id hf1.ex
  have few := hf.crew.few
  have lr : rs.length = L.length := by rw [histR_len hist, parts_len]
  obtain ⟨al, ra⟩ := rows_ix rows
  have la : L.length = (as.map V.ref).length := by rw [List.length_map]; omega
  have lt : L.length = (refsOf L).length := by simp [refsOf]
  refine ⟨_, rfl, f, dxf, _, rfl, g1, f, dxf, _, _, rfl, g1, ffs_p _ _, _, rfl, t, Ta, _, _, rfl, .inr ⟨SqT.of g2, SqT.of hTa, fun M nM => ?_⟩⟩
  refine gen_it (walk_zipP lt la) (fun i H' => ∃ bs : List Addr, H' M = some (.lst (bs.map V.ref)) ∧ bs.length = i ∧ PcAt H' bs (pcs L rs i) ∧ Same H1 H') ⟨[], upd_same, rfl, .nil, same_new nM _⟩ (fun i H' _ z => by obtain ⟨_, _, _, _, sm⟩ := z; exact ⟨SqT.of (sm _ _ g2), SqT.of (sm _ _ hTa)⟩) ?_ ?_
  · rintro i v H3 H4 hi ⟨bs, hM, bl, pb, s3⟩ ⟨T0, y1, y2, rfl, hT, rfl, e1, e2⟩
    obtain ⟨x, hx, rfl⟩ := refs_at e1
    have hi : i < L.length := hi
    obtain ⟨r0, er⟩ : ∃ r, rs[i]? = some r := ⟨_, List.getElem?_eq_getElem (by omega)⟩
    obtain ⟨a, ea, vr, har, _⟩ := ra i _ er
    have e2 : (as.map V.ref)[i]? = some y2 := e2
    rw [List.getElem?_map, ea] at e2
    obtain rfl := Option.some.inj e2
    have sT := same_new hT (.tup [V.ref x.a, V.ref a])
    have s4 := s3.trans sT
    have hM4 := sT _ _ hM
    have ec : cntR rs i = r0.cnt := by unfold cntR; rw [er]
    refine ⟨T0, _, rfl, SqT.of upd_same, rfl, _, _, rfl, _, _, rfl, rfl, rfl, _, rfl, _, rfl, a, _, _, optV r0.cnt, rfl, rfl, SqT.of (s4 _ _ har), atI_nat (j := 1) rfl, by show 2 ≤ sizeLine; decide, fun u nu => ?_⟩
    have su := same_new nu (.tup [.ref x.a, optV r0.cnt])
    have hM5 := su _ _ hM4
    refine ⟨_, hM5, by rw [List.length_map, bl]; exact Nat.lt_of_le_of_lt (show i ≤ 40 by omega) (by decide), bs ++ [u], by rw [upd_same, List.map_append]; rfl, by rw [List.length_append, bl]; rfl, ?_, sameAt (s4.trans su) nM⟩
    have kp : ∀ (z : Addr) xs, upd (upd H3 T0 (.tup [V.ref x.a, V.ref a])) u (.tup [.ref x.a, optV r0.cnt]) z = some (.tup xs) → upd (upd (upd H3 T0 (.tup [V.ref x.a, V.ref a])) u (.tup [.ref x.a, optV r0.cnt])) M (.lst (bs.map V.ref ++ [.ref u])) z = some (.tup xs) := fun z xs e => by rw [upd_ne (ne_of e hM5 (by intro z; cases z))]; exact e
    rw [pcs_succ hx, ec]
    exact paired_snoc (Paired.mapP pb fun _ _ z => kp _ _ (su _ _ (sT _ _ z))) (kp _ _ upd_same)
  · rintro H3 ⟨bs, hM, bl, pb, s3⟩
    exact q rs M bs H3 hist hM pb (fun o e => Classical.byContradiction fun z => by have := eN M o e (fun ps hp => z ⟨ps, hp⟩); rw [nM] at this; cases this) (eN.trans (LamX.ExtN.of s3)) (tabs_same s3 tb1)
end
end Ur
/-! MB: a history asked for a post (History.__call__). -/
namespace Ur
open PySem PySem.Spec PyProof.Rows L2
abbrev s_check_day : Stmt := (topS 21)
abbrev N_sc_check_day : List Str := ["value"]
abbrev P_check_day : List Str := ["value"]
theorem sc_check_day : FnScope N_sc_check_day P_check_day (defScope s_check_day) := ⟨rfl, rfl, rfl, by decide +kernel, rfl, by decide +kernel, by decide +kernel⟩
def spCkDay : Sp := fun vs H Q _ => ∃ c : Int, vs = [.int c] ∧ 0 ≤ c ∧ c ≤ 10 ^ 80 ∧ Q .non H
section
variable {P : Program} {w : World} {K : PySem.W.Frag} {mg : Str → Option Value} {base : Heap} {C : Addr}
theorem ok_check_day (D : Dfn K mg "check_day" s_check_day P_check_day) {uM : Value} (hM : mg "MAX_ARGUMENT" = some uM) (rM : L2.RelV (.int (10 ^ 80)) uM) (CB : Cal P w K mg base 2 "is_between" P_is_between spBetween) : Cal P w K mg base 3 "check_day" P_check_day spCkDay := by
  refine D.cal sc_check_day (fun vs H Q E h => ?_) fun f cdv A outer s H vs Q E hr h => ?_
  · obtain ⟨c, rfl, _⟩ := h
    rfl
  obtain ⟨c, rfl, c0, c1, q⟩ := h
  refine ⟨_, (pss_one (ps_if (pt_not (pt_val (pe_cal CB (hr.mono (by decide)) (pa_cons (pv 0) (pa_cons pe_int (pa_cons (pe_glob (v := .int (10 ^ 80)) rfl hM rM) pa_nil)))))) (pss_one ps_never) pss_nil)), ?_⟩
  exact ⟨_, rfl, c, _, _, rfl, _, rfl, iteNS ⟨c0, c1⟩ q⟩
end
abbrev s_check_day_or_none : Stmt := (topS 22)
abbrev N_sc_check_day_or_none : List Str := ["value"]
abbrev P_check_day_or_none : List Str := ["value"]
theorem sc_check_day_or_none : FnScope N_sc_check_day_or_none P_check_day_or_none (defScope s_check_day_or_none) := ⟨rfl, rfl, rfl, by decide +kernel, rfl, by decide +kernel, by decide +kernel⟩
def spCkDayN : Sp := fun vs H Q _ => ∃ c : Option Int, vs = [optV c] ∧ (∀ d, c = some d → 0 ≤ d ∧ d ≤ 10 ^ 80) ∧ Q .non H
section
variable {P : Program} {w : World} {K : PySem.W.Frag} {mg : Str → Option Value} {base : Heap} {C : Addr}
theorem ok_check_dayN (D : Dfn K mg "check_day_or_none" s_check_day_or_none P_check_day_or_none) (CKD : Cal P w K mg base 3 "check_day" P_check_day spCkDay) : Cal P w K mg base 4 "check_day_or_none" P_check_day_or_none spCkDayN := by
  refine D.cal sc_check_day_or_none (fun vs H Q E h => ?_) fun f cdv A outer s H vs Q E hr h => ?_
  · obtain ⟨c, rfl, _⟩ := h
    rfl
  obtain ⟨c, rfl, c0, q⟩ := h
  refine ⟨_, (pss_one (ps_if (pt_cmpR op_notN (pv 0) pe_non (nomark _)) (pss_one (ps_expr (pe_cal CKD (hr.mono (by decide)) (pa_cons (pv 0) pa_nil)))) pss_nil)), ?_⟩
  cases c with
  | none => exact ⟨_, rfl, rfl, _, rfl, iteNS rfl q⟩
  | some d =>
    obtain ⟨d0, d1⟩ := c0 d rfl
    exact ⟨_, rfl, rfl, _, rfl, iteNN (fun z => by cases z) ⟨_, rfl, d, rfl, d0, d1, q⟩⟩
end
section
variable {P : Program} {w : World} {K : PySem.W.Frag} {mg : Str → Option Value} {base : Heap} {C CF CH : Addr} {f : Addr} {fd : FuncData}
end
end Ur
/-! RA: runs of posts: how many posts of an interval a run has. -/
namespace Ur
open PySem PySem.Spec PyProof.Rows L2
def nbL (p s f : Int) : Int := max 0 (-((p - f) / s))
def nbM (p s l : Int) : Option Int → Int
  | none => (l - p) / s
  | some m => min ((l - p) / s) (m - 1)
/-- how many posts from f to l the run has -/
def runIn (p s : Int) (m : Option Int) (f l : Int) : Int := if s < 0 then max 0 (nbM (-p) (-s) (-f) m - nbL (-p) (-s) (-l) + 1) else max 0 (nbM p s l m - nbL p s f + 1)
theorem div_bdN {a s : Int} (h : 0 < s) : (a / s).natAbs ≤ a.natAbs := Int.natAbs_ediv_le_natAbs a s
theorem runIn_bd {p s f l : Int} {m : Option Int} (hs : s ≠ 0) (pb : p.natAbs ≤ 10 ^ 81) (fb : f.natAbs ≤ 10 ^ 81) (lb : l.natAbs ≤ 10 ^ 81) : 0 ≤ runIn p s m f l ∧ runIn p s m f l ≤ 10 ^ 83 := by
  have key : ∀ {p s l f : Int}, 0 < s → p.natAbs ≤ 10 ^ 81 → l.natAbs ≤ 10 ^ 81 → 0 ≤ max 0 (nbM p s l m - nbL p s f + 1) ∧ max 0 (nbM p s l m - nbL p s f + 1) ≤ 10 ^ 83 := fun {p s l f} h pb lb => by
    have a := div_bdN (a := l - p) h
    have c : nbM p s l m ≤ (l - p) / s := by
      cases m with
      | none => exact Int.le_refl _
      | some m => exact Int.min_le_left ..
    have d : 0 ≤ nbL p s f := Int.le_max_left ..
    omega
  unfold runIn
  split
  · exact key (by omega) (by omega) (by omega)
  · exact key (by omega) pb lb
theorem runIn_zero {p s f l : Int} : runIn p s (some 0) f l = 0 := by
  have key : ∀ {p s l f : Int}, max 0 (nbM p s l (some 0) - nbL p s f + 1) = 0 := fun {p s l f} => by
    have c : nbM p s l (some 0) ≤ 0 - 1 := Int.min_le_right ..
    have d : 0 ≤ nbL p s f := Int.le_max_left ..
    omega
  unfold runIn
  split <;> exact key
abbrev s_numbers_between : Stmt := (topS 52)
abbrev N_sc_numbers_between : List Str := ["run", "first", "last", "_", "post", "stride", "many", "least", "most"]
abbrev P_numbers_between : List Str := ["run", "first", "last"]
theorem sc_numbers_between : FnScope N_sc_numbers_between P_numbers_between (defScope s_numbers_between) := ⟨rfl, rfl, rfl, by decide +kernel, rfl, by decide +kernel, by decide +kernel⟩
structure RunOk (p s f l : Int) : Prop where
  sn : s ≠ 0
  sb : s.natAbs ≤ 10 ^ 37
  pb : p.natAbs ≤ 10 ^ 81
  fb : f.natAbs ≤ 10 ^ 81
  lb : l.natAbs ≤ 10 ^ 81
def spNB : Sp := fun vs H Q _ => ∃ (t : Addr) (wt p s : Int) (m : Option Int) (f l : Int), vs = [.ref t, .int f, .int l] ∧ H t = some (.tup [.int wt, .int p, .int s, optV m]) ∧ RunOk p s f l ∧ ∀ u a b H', H' u = some (.tup [.int a, .int b]) → max 0 (b - a + 1) = runIn p s m f l → Same H H' → Q (.ref u) H'
section
variable {P : Program} {w : World} {K : PySem.W.Frag} {mg : Str → Option Value} {base : Heap}
set_option maxHeartbeats 16000000 in
theorem ok_nb (D : Dfn K mg "numbers_between" s_numbers_between P_numbers_between) (B : Blt mg) : Cal P w K mg base 1 "numbers_between" P_numbers_between spNB := by
  refine D.cal sc_numbers_between (fun vs H Q E h => ?_) fun f cdv A outer s H vs Q E hr h => ?_
  · obtain ⟨t, _, _, _, _, _, _, rfl, _⟩ := h
    rfl
  obtain ⟨t, wt, p, st, m, fi, la, rfl, ht, ok, q⟩ := h
  refine ⟨_, (pss_cons (ps_asg (pv 0) (pg_tup rfl (pgs_cons (pg_name (i := 3) sc_numbers_between.nd rfl (Or.inl rfl)) (pgs_cons (pg_name (i := 4) sc_numbers_between.nd rfl (Or.inl rfl)) (pgs_cons (pg_name (i := 5) sc_numbers_between.nd rfl (Or.inl rfl)) (pgs_cons (pg_name (i := 6) sc_numbers_between.nd rfl (Or.inl rfl)) pgs_nil)))))) (C8.pss_cut (ps_if (pt_cmpR op_lt (pv 5) pe_int (nomark _)) (pss_one (ps_asg (pe_tup (pa_cons (pe_un un_neg (pv 4)) (pa_cons (pe_un un_neg (pv 5)) (pa_cons (pe_un un_neg (pv 2)) (pa_cons (pe_un un_neg (pv 1)) pa_nil))))) (pg_tup rfl (pgs_cons (pg_name (i := 4) sc_numbers_between.nd rfl (Or.inl rfl)) (pgs_cons (pg_name (i := 5) sc_numbers_between.nd rfl (Or.inl rfl)) (pgs_cons (pg_name (i := 1) sc_numbers_between.nd rfl (Or.inl rfl)) (pgs_cons (pg_name (i := 2) sc_numbers_between.nd rfl (Or.inl rfl)) pgs_nil))))))) pss_nil) (C8.pss_cut (ps_set (i := 7) sc_numbers_between.nd rfl (Or.inl rfl) (pe_callB (call_max2 rfl) rfl B.max_ (by decide +kernel) (pa_cons pe_int (pa_cons (pe_un un_neg (pe_op op_fdivW (pe_op op_sub (pv 4) (pv 1)) (pv 5))) pa_nil)))) (pss_cons (ps_set (i := 8) sc_numbers_between.nd rfl (Or.inl rfl) (pe_op op_fdivW (pe_op op_sub (pv 2) (pv 4)) (pv 5))) (pss_one (ps_ret (pe_tup (pa_cons (pv 7) (pa_cons (pe_ifExp (pt_cmpR op_isN (pv 6) pe_non (nomark _)) (pv 8) (pe_callB (call_min2 rfl) rfl B.min_ (by decide +kernel) (pa_cons (pv 8) (pa_cons (pe_op op_sub (pv 6) pe_int) pa_nil)))) pa_nil))))))))), ?_⟩
  have sn := ok.sn
  have sb := ok.sb
  refine ⟨_, rfl, t, _, rfl, SqT.of ht, rfl, _, _, rfl, _, _, rfl, _, _, rfl, _, _, rfl, rfl, ?_⟩
  refine ⟨fun σ' H' => ∃ p' s' f' l', σ' = [some (.ref t), some (.int f'), some (.int l'), some (.int wt), some (.int p'), some (.int s'), some (optV m), none, none] ∧ 0 < s' ∧ s'.natAbs ≤ 10 ^ 37 ∧ max 0 (nbM p' s' l' m - nbL p' s' f' + 1) = runIn p st m fi la ∧ Same H H', ?_, ?_⟩
  · refine ⟨_, rfl, _, _, rfl, rfl, _, rfl, ?_⟩
    by_cases c : st < 0
    · refine iteDT c ?_
      refine ⟨_, rfl, _, rfl, _, rfl, _, rfl, _, rfl, _, rfl, _, rfl, _, rfl, by show 4 ≤ sizeLine; decide, fun u nu => ?_⟩
      refine ⟨u, _, rfl, SqT.of upd_same, rfl, _, _, rfl, _, _, rfl, _, _, rfl, _, _, rfl, rfl, ?_⟩
      exact ⟨-p, -st, -la, -fi, rfl, by omega, by omega, by unfold runIn; rw [if_pos c], same_new nu _⟩
    · refine iteDF c ⟨p, st, fi, la, rfl, by omega, sb, by unfold runIn; rw [if_neg c], Same.refl _⟩
  rintro σ' H1 ⟨p', s', f', l', rfl, s0, sb', e, s1⟩
  have wd : ∀ x : Int, CDivW x s' := fun x => wide_div (b := 200) s0 (by omega) (by decide) (by decide)
  refine ⟨fun σ' H' => σ' = [some (.ref t), some (.int f'), some (.int l'), some (.int wt), some (.int p'), some (.int s'), some (optV m), some (.int (nbL p' s' f')), none] ∧ H' = H1, ?_, ?_⟩
  · refine ⟨_, rfl, _, rfl, _, _, rfl, rfl, _, rfl, _, _, rfl, rfl, wd _, _, rfl, _, _, rfl, ?_⟩
    have e1 : (if -((p' - f') / s') > 0 then -((p' - f') / s') else 0) = nbL p' s' f' := by unfold nbL; split <;> omega
    exact ⟨by rw [← e1]; rfl, rfl⟩
  rintro σ' H2 ⟨rfl, e2⟩
  rw [e2]
  refine ⟨_, rfl, _, rfl, _, _, rfl, rfl, _, rfl, _, _, rfl, rfl, wd _, ?_⟩
  refine ⟨_, rfl, _, rfl, rfl, _, rfl, ?_⟩
  have fin : ∀ (u : Addr) (b : Int), H1 u = none → b = nbM p' s' l' m → Q (.ref u) (upd H1 u (.tup [.int (nbL p' s' f'), .int b])) := fun u b nu eb => q u _ b _ upd_same (by rw [eb, e]) (s1.trans (same_new nu _))
  cases m with
  | none => exact iteDT rfl ⟨_, rfl, by show 2 ≤ sizeLine; decide, fun u nu => fin u _ nu rfl⟩
  | some m =>
    refine iteDF (fun z => by cases z) ⟨_, rfl, _, rfl, _, _, rfl, rfl, _, _, rfl, by show 2 ≤ sizeLine; decide, fun u nu => fin u _ nu ?_⟩
    show (if m - 1 < (l' - p') / s' then m - 1 else (l' - p') / s') = min ((l' - p') / s') (m - 1)
    split <;> omega
end
abbrev s__many_between : Stmt := (topS 54)
abbrev N_sc__many_between : List Str := ["run", "first", "last", "least", "most"]
abbrev P__many_between : List Str := ["run", "first", "last"]
theorem sc__many_between : FnScope N_sc__many_between P__many_between (defScope s__many_between) := ⟨rfl, rfl, rfl, by decide +kernel, rfl, by decide +kernel, by decide +kernel⟩
def spMB : Sp := fun vs H Q _ => ∃ (t : Addr) (wt p s : Int) (m : Option Int) (f l : Int), vs = [.ref t, .int f, .int l] ∧ H t = some (.tup [.int wt, .int p, .int s, optV m]) ∧ RunOk p s f l ∧ ∀ H', Same H H' → Q (.int (runIn p s m f l)) H'
section
variable {P : Program} {w : World} {K : PySem.W.Frag} {mg : Str → Option Value} {base : Heap}
theorem ok_mb (D : Dfn K mg "_many_between" s__many_between P__many_between) (B : Blt mg) (CNB : Cal P w K mg base 1 "numbers_between" P_numbers_between spNB) : Cal P w K mg base 2 "_many_between" P__many_between spMB := by
  refine D.cal sc__many_between (fun vs H Q E h => ?_) fun f cdv A outer s H vs Q E hr h => ?_
  · obtain ⟨t, _, _, _, _, _, _, rfl, _⟩ := h
    rfl
  obtain ⟨t, wt, p, st, m, fi, la, rfl, ht, ok, q⟩ := h
  refine ⟨_, (pss_cons (ps_asg (pe_cal CNB (hr.mono (by decide)) (pa_cons (pv 0) (pa_cons (pv 1) (pa_cons (pv 2) pa_nil)))) (pg_tup rfl (pgs_cons (pg_name (i := 3) sc__many_between.nd rfl (Or.inl rfl)) (pgs_cons (pg_name (i := 4) sc__many_between.nd rfl (Or.inl rfl)) pgs_nil)))) (pss_one (ps_ret (pe_callB (call_max2 rfl) rfl B.max_ (by decide +kernel) (pa_cons pe_int (pa_cons (pe_op op_add (pe_op op_sub (pv 4) (pv 3)) pe_int) pa_nil)))))), ?_⟩
  refine ⟨_, rfl, _, rfl, _, rfl, t, wt, p, st, m, fi, la, rfl, ht, ok, fun u a b H1 hu e s1 => ?_⟩
  refine ⟨u, _, rfl, SqT.of hu, rfl, _, _, rfl, _, _, rfl, rfl, ?_⟩
  refine ⟨_, rfl, _, rfl, _, _, rfl, rfl, _, _, rfl, rfl, _, _, rfl, ?_⟩
  have e1 : (if b - a + 1 > 0 then b - a + 1 else 0) = runIn p st m fi la := by rw [← e]; split <;> omega
  rw [e1]
  exact q H1 s1
end
structure Rn where
  w : Int
  p : Int
  s : Int
  m : Option Int
abbrev RnsAt (H : Hp) (bs : List Addr) (rs : List Rn) : Prop := Paired (fun b (r : Rn) => H b = some (.tup [.int r.w, .int r.p, .int r.s, optV r.m])) bs rs
def sumIn (rs : List Rn) (f l : Int) : Int := (rs.map fun r => r.w * runIn r.p r.s r.m f l).sum
abbrev s_count_between : Stmt := (topS 51)
abbrev N_sc_count_between : List Str := ["runs", "first", "last", "run"]
abbrev P_count_between : List Str := ["runs", "first", "last"]
theorem sc_count_between : FnScope N_sc_count_between P_count_between (defScope s_count_between) := ⟨rfl, rfl, rfl, by decide +kernel, rfl, by decide +kernel, by decide +kernel⟩
def spCB : Sp := fun vs H Q _ => ∃ (R : Addr) (bs : List Addr) (rs : List Rn) (f l : Int), vs = [.ref R, .int f, .int l] ∧ H R = some (.lst (bs.map V.ref)) ∧ RnsAt H bs rs ∧ (∀ r ∈ rs, RunOk r.p r.s f l ∧ r.w.natAbs ≤ 10) ∧ rs.length ≤ 5000 ∧ ∀ H', Same H H' → Q (.int (sumIn rs f l)) H'
section
variable {P : Program} {w : World} {K : PySem.W.Frag} {mg : Str → Option Value} {base : Heap}
theorem ok_cb (D : Dfn K mg "count_between" s_count_between P_count_between) (nb_sum : mg "sum" = none) (CMB : Cal P w K mg base 2 "_many_between" P__many_between spMB) : Cal P w K mg base 3 "count_between" P_count_between spCB := by
  refine D.cal sc_count_between (fun vs H Q E h => ?_) fun f cdv A outer s H vs Q E hr h => ?_
  · obtain ⟨R, _, _, _, _, rfl, _⟩ := h
    rfl
  obtain ⟨R, bs, rs, fi, la, rfl, hR, rns, ok, few, q⟩ := h
  refine ⟨_, (pss_one (ps_ret (pe_callB (cr_sum rfl) rfl nb_sum (by decide +kernel) (pa_cons (pe_lc (own := [("run", 3)]) (g := gName 3) (tt := tYes) rfl sc_count_between.nd (pi_list (pv 0)) (blkOk_by (N := N_sc_count_between) (sc := defScope s_count_between) (by decide +kernel)) (fun _ _ _ _ _ => pg_name (i := 3) sc_count_between.nd rfl (Or.inl rfl)) (fun _ _ _ _ _ => pts_nil) (fun _ _ _ _ _ => (pe_op op_mulW (pe_ix (show IxR _ (rIxT K) from ix_tup) (pv 3) pe_int (fun _ _ => rfl)) (pe_cal CMB (hr.mono (by decide)) (pa_cons (pv 3) (pa_cons (pv 1) (pa_cons (pv 2) pa_nil))))))) pa_nil)))), ?_⟩
  have bl : bs.length = rs.length := rns.length
  refine ⟨_, rfl, R, rfl, ⟨_, SqL.of hR⟩, fun M nM => ?_⟩
  refine lc_list (K := K) (a := R) (xs := bs.map V.ref) (fun i H' => H' M = some (.lst (((rs.take i).map fun r => r.w * runIn r.p r.s r.m fi la).map V.int)) ∧ Same H H') ⟨upd_same, same_new nM _⟩ (fun i H' _ h => SqL.of (h.2 _ _ hR)) ?_ ?_
  · rintro i v H' ev ⟨hM, s1⟩
    rw [List.getElem?_map] at ev
    cases eb : bs[i]? with
    | none => rw [eb] at ev; cases ev
    | some b =>
      rw [eb] at ev
      obtain rfl := Option.some.inj ev
      obtain ⟨r, er, hb⟩ := paired_get rns eb
      obtain ⟨rok, wb⟩ := ok r (List.mem_of_getElem? er)
      have bd := runIn_bd (m := r.m) rok.sn rok.pb rok.fb rok.lb
      refine ⟨rfl, _, rfl, b, _, _, .int r.w, rfl, rfl, SqT.of (s1 _ _ hb), atI_nat (j := 0) rfl, _, rfl, _, rfl, _, rfl, b, r.w, r.p, r.s, r.m, fi, la, rfl, s1 _ _ hb, rok, fun H2 s2 => ?_⟩
      have hi := (List.getElem?_eq_some_iff.mp er).1
      refine ⟨_, _, rfl, rfl, wide_mul (a := 64) (b := 300) (by omega) (by omega) (by decide) (by decide) (by decide), _, s2 _ _ hM, ?_, ?_, sameAt (s1.trans s2) nM⟩
      · rw [List.length_map, List.length_map, List.length_take]
        exact Nat.lt_of_le_of_lt (show min i rs.length ≤ 5000 by omega) (by decide)
      · rw [upd_same, take_snoc er, List.map_append, List.map_append]
        rfl
  · rintro H' ⟨hM, s1⟩
    rw [List.length_map, bl, List.take_length] at hM
    exact ⟨M, _, rfl, SqL.of hM, q H' s1⟩
end
end Ur
/-! RB: the posts that are painted by a day: counts_by, runs_of, painted_runs, painted_between, painted_until. -/
namespace Ur
open PySem PySem.Spec PyProof.Rows L2
/-- how many posts are painted by a day -/
def byC (day : Option Int) (d : Int) (c : Option Int) : Option Int := match day with
  | none => c
  | some t => some (match c with
    | none => max 0 (t - d + 1)
    | some k => min (max 0 (t - d + 1)) k)
/-- the painters and the numbers of their posts -/
structure PcsOk (C : Addr) (H : Hp) (bs : List Addr) (L : List Pt) (cs : List (Option Int)) : Prop where
  len : bs.length = L.length
  lc : cs.length = L.length
  few : L.length ≤ 40
  at_ : ∀ (i : Nat) (x : Pt) (c : Option Int), L[i]? = some x → cs[i]? = some c → ∃ b, bs[i]? = some b ∧ H b = some (.tup [.ref x.a, optV c])
  ok : ∀ x ∈ L, PtAt C H x
theorem pcs_ok {C : Addr} {H : Hp} {bs : List Addr} {L : List Pt} {rs : List Rw} (cr : Crew C H L) (pb : PcAt H bs (pcs L rs L.length)) : PcsOk C H bs L ((List.range L.length).map (cntR rs)) := by
  have lpc : (pcs L rs L.length).length = L.length := by
    by_cases c : L.length = 0
    · rw [c]
      rfl
    · exact (pcs_get (rs := rs) (i := 0) (Nat.le_refl _) (by omega)).choose_spec.2.2
  have bl : bs.length = L.length := pb.length.trans lpc
  refine ⟨bl, by rw [List.length_map, List.length_range], cr.few, fun i x c e1 e2 => ?_, cr.at_⟩
  have hi := (List.getElem?_eq_some_iff.mp e1).1
  obtain ⟨x', h1, h2, _⟩ := pcs_get (rs := rs) (Nat.le_refl _) hi
  rw [e1] at h1
  obtain rfl := Option.some.inj h1
  rw [List.getElem?_map, List.getElem?_range hi] at e2
  obtain rfl := Option.some.inj e2
  obtain ⟨b, eb⟩ : ∃ b, bs[i]? = some b := ⟨_, List.getElem?_eq_getElem (by omega)⟩
  exact ⟨b, eb, paired_at (F := fun (b : Addr) (e : Addr × Option Int) => H b = some (.tup [.ref e.1, optV e.2])) pb eb h2⟩
def bysC (day : Option Int) (L : List Pt) (cs : List (Option Int)) : List (Option Int) := List.zipWith (fun (x : Pt) c => byC day x.d c) L cs
abbrev s_counts_by : Stmt := (topS 44)
abbrev N_sc_counts_by : List Str := ["counts", "day", "found", "painter", "count", "many"]
abbrev P_counts_by : List Str := ["counts", "day"]
theorem sc_counts_by : FnScope N_sc_counts_by P_counts_by (defScope s_counts_by) := ⟨rfl, rfl, rfl, by decide +kernel, rfl, by decide +kernel, by decide +kernel⟩
def spBy (C : Addr) : Sp := fun vs H Q _ => ∃ (D : Addr) (bs : List Addr) (L : List Pt) (cs : List (Option Int)) (day : Option Int), vs = [.ref D, optV day] ∧ H D = some (.lst (bs.map V.ref)) ∧ PcsOk C H bs L cs ∧
  ∀ D' bs' H', H' D' = some (.lst (bs'.map V.ref)) → PcsOk C H' bs' L (bysC day L cs) → Same H H' → Q (.ref D') H'
section
variable {P : Program} {w : World} {K : PySem.W.Frag} {mg : Str → Option Value} {base : Heap} {C : Addr}
set_option maxHeartbeats 16000000 in
theorem ok_cby (D : Dfn K mg "counts_by" s_counts_by P_counts_by) (B : Blt mg) (T : PTxt K mg C) (hDay : PropS P w K mg base C "day" 1 (getSp C "_day")) : Cal P w K mg base 3 "counts_by" P_counts_by (spBy C) := by
  refine D.cal sc_counts_by (fun vs H Q E h => ?_) fun f cdv A outer s H vs Q E hr h => ?_
  · obtain ⟨D, _, _, _, _, rfl, _⟩ := h
    rfl
  obtain ⟨D, bs, L, cs, day, rfl, hD, pc, q⟩ := h
  refine ⟨_, (pss_cons (ps_if (pt_cmpR op_isN (pv 1) pe_non (nomark _)) (pss_one (ps_ret (pv 0))) pss_nil) (pss_cons (ps_set (i := 2) sc_counts_by.nd rfl (Or.inl rfl) (pe_lst pa_nil)) (pss_cons (ps_for PassesOwn.never rfl (pi_list (pv 0)) (pg_tup rfl (pgs_cons (pg_name (i := 3) sc_counts_by.nd rfl (Or.inl rfl)) (pgs_cons (pg_name (i := 4) sc_counts_by.nd rfl (Or.inl rfl)) pgs_nil))) (pss_cons (ps_set (i := 5) sc_counts_by.nd rfl (Or.inl rfl) (pe_callB (call_max2 rfl) rfl B.max_ (by decide +kernel) (pa_cons pe_int (pa_cons (pe_op op_add (pe_op op_sub (pv 1) (pe_prS (pv 3) T.cl hDay (hr.mono (by decide)))) pe_int) pa_nil)))) (pss_one (ps_expr (pe_bm PySem.F.plainAttrs_list PySem.F.slot_list_append PySem.F.type_list_append mt_append (pv 2) (pa_cons (pe_tup (pa_cons (pv 3) (pa_cons (pe_ifExp (pt_cmpR op_isN (pv 4) pe_non (nomark _)) (pv 5) (pe_callB (call_min2 rfl) rfl B.min_ (by decide +kernel) (pa_cons (pv 5) (pa_cons (pv 4) pa_nil)))) pa_nil))) pa_nil)))))) (pss_one (ps_ret (pv 2)))))), ?_⟩
  refine ⟨_, rfl, rfl, _, rfl, ?_⟩
  have few := pc.few
  have bl := pc.len
  have cl := pc.lc
  cases day with
  | none =>
    refine iteDT rfl ⟨_, rfl, q D bs H hD ?_ (Same.refl _)⟩
    have e : bysC none L cs = cs := by
      unfold bysC byC
      refine List.ext_getElem? fun i => ?_
      rw [List.getElem?_zipWith]
      by_cases c : i < L.length
      · rw [List.getElem?_eq_getElem c, List.getElem?_eq_getElem (show i < cs.length by omega)]
      · rw [List.getElem?_eq_none (show L.length ≤ i by omega), List.getElem?_eq_none (show cs.length ≤ i by omega)]
    rw [e]
    exact pc
  | some t =>
    refine iteDF (fun z => by cases z) ?_
    refine ⟨by show 0 ≤ sizeLine; decide, fun M nM => ?_⟩
    have wM := same_new nM (.lst [])
    refine ⟨_, rfl, D, rfl, ⟨_, SqL.of (wM _ _ hD)⟩, for_list (K := K) (a := D) (xs := bs.map V.ref) (fun i σ H3 => ∃ (ds : List Addr) (o3 o4 o5 : Option V), σ = [some (.ref D), some (.int t), some (.ref M), o3, o4, o5] ∧ H3 M = some (.lst (ds.map V.ref)) ∧ ds.length = i ∧ (∀ j x c, j < i → L[j]? = some x → cs[j]? = some c → ∃ b, ds[j]? = some b ∧ H3 b = some (.tup [.ref x.a, optV (byC (some t) x.d c)])) ∧ Same H H3)
      ⟨[], _, _, _, rfl, upd_same, rfl, (fun j x c hj => absurd hj (Nat.not_lt_zero j)), wM⟩ (fun i σ H3 _ h => by obtain ⟨_, _, _, _, _, _, _, _, h⟩ := h; exact SqL.of (h _ _ hD)) ?_ ?_⟩
    · rintro i v σ H3 ev ⟨ds, o3, o4, o5, rfl, hM, dl, at3, s3⟩
      rw [List.getElem?_map] at ev
      cases eb : bs[i]? with
      | none => rw [eb] at ev; cases ev
      | some b =>
        rw [eb] at ev
        obtain rfl := Option.some.inj ev
        have hi : i < L.length := by have := (List.getElem?_eq_some_iff.mp eb).1; omega
        obtain ⟨x, hx⟩ : ∃ x, L[i]? = some x := ⟨_, List.getElem?_eq_getElem hi⟩
        obtain ⟨c, hc⟩ : ∃ c, cs[i]? = some c := ⟨_, List.getElem?_eq_getElem (by omega)⟩
        obtain ⟨b', eb', hb⟩ := pc.at_ i x c hx hc
        rw [eb] at eb'
        obtain rfl := Option.some.inj eb'
        obtain ⟨⟨dxx, ex⟩, pk⟩ := (pc.ok x (List.mem_of_getElem? hx)).same s3
        refine ⟨b, _, rfl, SqT.of (s3 _ _ hb), rfl, _, _, rfl, _, _, rfl, rfl, ?_⟩
        refine ⟨_, rfl, _, rfl, x.a, dxx, _, rfl, ex, x.a, dxx, _, _, rfl, ex, pfs_day _ _ _ _, _, _, rfl, rfl, _, _, rfl, rfl, _, _, rfl, ?_⟩
        obtain ⟨mn, emn⟩ : ∃ mn, mn = (if t - x.d + 1 > 0 then t - x.d + 1 else 0) := ⟨_, rfl⟩
        have emx : mn = max 0 (t - x.d + 1) := by rw [emn]; split <;> omega
        refine ⟨_, rfl, .inl ⟨rfl, _, SqL.of hM⟩, _, rfl, ?_⟩
        have sz : (ds.map V.ref).length < sizeLine := by rw [List.length_map, dl]; exact Nat.lt_of_le_of_lt (show i ≤ 40 by omega) (by decide)
        have fin : ∀ (u : Addr) (r : Int), H3 u = none → some r = byC (some t) x.d c → ∃ ds' : List Addr, upd (upd H3 u (.tup [.ref x.a, .int r])) M (.lst (ds.map V.ref ++ [.ref u])) M = some (.lst (ds'.map V.ref)) ∧ ds'.length = i + 1 ∧ (∀ j y c', j < i + 1 → L[j]? = some y → cs[j]? = some c' → ∃ b, ds'[j]? = some b ∧ upd (upd H3 u (.tup [.ref x.a, .int r])) M (.lst (ds.map V.ref ++ [.ref u])) b = some (.tup [.ref y.a, optV (byC (some t) y.d c')])) ∧ Same H (upd (upd H3 u (.tup [.ref x.a, .int r])) M (.lst (ds.map V.ref ++ [.ref u]))) := fun u r nu er => by
          have su := same_new nu (.tup [.ref x.a, .int r])
          have hMu := su _ _ hM
          have kp : ∀ (z : Addr) xs, upd H3 u (.tup [.ref x.a, .int r]) z = some (.tup xs) → upd (upd H3 u (.tup [.ref x.a, .int r])) M (.lst (ds.map V.ref ++ [.ref u])) z = some (.tup xs) := fun z xs e => by rw [upd_ne (ne_of e hMu (by intro z; cases z))]; exact e
          refine ⟨ds ++ [u], by rw [upd_same, List.map_append]; rfl, by rw [List.length_append, dl]; rfl, fun j y c' hj hy hc' => ?_, sameAt (s3.trans su) nM⟩
          by_cases z : j = i
          · subst z
            rw [hx] at hy
            rw [hc] at hc'
            obtain rfl := Option.some.inj hy
            obtain rfl := Option.some.inj hc'
            refine ⟨u, by rw [List.getElem?_append_right (by omega), dl, Nat.sub_self]; rfl, kp _ _ ?_⟩
            rw [upd_same, ← er]
            rfl
          · obtain ⟨b2, e2, h2⟩ := at3 j y c' (by omega) hy hc'
            exact ⟨b2, by rw [List.getElem?_append_left (by omega)]; exact e2, kp _ _ (su _ _ h2)⟩
        refine ⟨_, rfl, rfl, _, rfl, ?_⟩
        cases c with
        | none =>
          refine iteDT rfl ⟨_, rfl, by show 2 ≤ sizeLine; decide, fun u nu => ?_⟩
          have hMu := same_new nu (.tup [.ref x.a, .int (if t - x.d + 1 > 0 then t - x.d + 1 else 0)]) _ _ hM
          obtain ⟨ds', f1, f2, f3, f4⟩ := fin u _ nu (by show some _ = some (max 0 (t - x.d + 1)); rw [← emx, emn])
          exact ⟨M, _, _, rfl, rfl, hMu, sz, ds', _, _, _, rfl, f1, f2, f3, f4⟩
        | some k =>
          refine iteDF (fun z => by cases z) ⟨_, rfl, _, rfl, _, _, rfl, by show 2 ≤ sizeLine; decide, fun u nu => ?_⟩
          have hMu := same_new nu (.tup [.ref x.a, .int (if k < (if t - x.d + 1 > 0 then t - x.d + 1 else 0) then k else (if t - x.d + 1 > 0 then t - x.d + 1 else 0))]) _ _ hM
          obtain ⟨ds', f1, f2, f3, f4⟩ := fin u (if k < (if t - x.d + 1 > 0 then t - x.d + 1 else 0) then k else (if t - x.d + 1 > 0 then t - x.d + 1 else 0)) nu (by show some (if k < (if t - x.d + 1 > 0 then t - x.d + 1 else 0) then k else (if t - x.d + 1 > 0 then t - x.d + 1 else 0)) = some (min (max 0 (t - x.d + 1)) k); rw [← emx, ← emn]; congr 1; split <;> omega)
          exact ⟨M, _, _, rfl, rfl, hMu, sz, ds', _, _, _, rfl, f1, f2, f3, f4⟩
    · rintro σ H3 ⟨ds, o3, o4, o5, rfl, hM, dl, at3, s3⟩
      rw [List.length_map, bl] at dl at3
      refine ⟨_, rfl, q M ds H3 hM ⟨dl, ?_, few, fun i x c e1 e2 => ?_, fun x hx => (pc.ok x hx).same s3⟩ s3⟩
      · unfold bysC
        rw [List.length_zipWith]
        omega
      · have hi := (List.getElem?_eq_some_iff.mp e1).1
        unfold bysC at e2
        rw [List.getElem?_zipWith, e1] at e2
        obtain ⟨c0, hc0⟩ : ∃ c, cs[i]? = some c := ⟨_, List.getElem?_eq_getElem (by omega)⟩
        rw [hc0] at e2
        obtain rfl := Option.some.inj e2
        exact at3 i x c0 hi e1 hc0
end
/-- the runs of such a list -/
def rnsOf (L : List Pt) (cs : List (Option Int)) (n : Nat) : List Rn := (List.range n).filterMap fun i => match L[i]?, cs[i]? with
  | some x, some c => if c = some 0 then none else some ⟨1, x.p, x.s, c⟩
  | _, _ => none
theorem rns_in {L : List Pt} {cs : List (Option Int)} {n : Nat} {x : Pt} {c : Option Int} (h : L[n]? = some x) (g : cs[n]? = some c) (z : c ≠ some 0) : rnsOf L cs (n + 1) = rnsOf L cs n ++ [⟨1, x.p, x.s, c⟩] := by
  unfold rnsOf
  rw [List.range_succ, List.filterMap_append, List.filterMap_cons, h, g]
  simp only [if_neg z]
  rfl
theorem rns_out {L : List Pt} {cs : List (Option Int)} {n : Nat} {x : Pt} (h : L[n]? = some x) (g : cs[n]? = some (some 0)) : rnsOf L cs (n + 1) = rnsOf L cs n := by
  unfold rnsOf
  rw [List.range_succ, List.filterMap_append, List.filterMap_cons, h, g]
  simp
theorem rns_len (L : List Pt) (cs : List (Option Int)) (n : Nat) : (rnsOf L cs n).length ≤ n := by
  have := List.length_filterMap_le (fun i => match L[i]?, cs[i]? with
    | some x, some c => if c = some 0 then none else some (⟨1, x.p, x.s, c⟩ : Rn)
    | _, _ => none) (List.range n)
  rw [List.length_range] at this
  exact this
/-- how many posts from f to l the painters of the list paint -/
def allIn (L : List Pt) (cs : List (Option Int)) (f l : Int) : Int := (List.zipWith (fun (x : Pt) c => runIn x.p x.s c f l) L cs).sum
theorem rns_sum {L : List Pt} {cs : List (Option Int)} (lc : cs.length = L.length) (f l : Int) : sumIn (rnsOf L cs L.length) f l = allIn L cs f l := by
  have key : ∀ n, n ≤ L.length → sumIn (rnsOf L cs n) f l = (List.zipWith (fun (x : Pt) c => runIn x.p x.s c f l) (L.take n) (cs.take n)).sum := by
    intro n
    induction n with
    | zero => intro _; rfl
    | succ n ih =>
      intro hn
      obtain ⟨x, hx⟩ : ∃ x, L[n]? = some x := ⟨_, List.getElem?_eq_getElem (by omega)⟩
      obtain ⟨c, hc⟩ : ∃ c, cs[n]? = some c := ⟨_, List.getElem?_eq_getElem (by omega)⟩
      have e := ih (by omega)
      rw [take_snoc hx, take_snoc hc, List.zipWith_append (by rw [List.length_take, List.length_take]; omega), List.sum_append, ← e]
      by_cases z : c = some 0
      · subst z
        rw [rns_out hx hc]
        simp [runIn_zero]
      · rw [rns_in hx hc z]
        unfold sumIn
        rw [List.map_append, List.sum_append]
        simp
  have := key L.length (Nat.le_refl _)
  rw [List.take_length, ← lc, List.take_length] at this
  rw [← lc]
  exact this
abbrev s_runs_of : Stmt := (topS 46)
abbrev N_sc_runs_of : List Str := ["counts", "painter", "many"]
abbrev P_runs_of : List Str := ["counts"]
theorem sc_runs_of : FnScope N_sc_runs_of P_runs_of (defScope s_runs_of) := ⟨rfl, rfl, rfl, by decide +kernel, rfl, by decide +kernel, by decide +kernel⟩
def spRu (C : Addr) : Sp := fun vs H Q _ => ∃ (D : Addr) (bs : List Addr) (L : List Pt) (cs : List (Option Int)), vs = [.ref D] ∧ H D = some (.lst (bs.map V.ref)) ∧ PcsOk C H bs L cs ∧
  ∀ R ds H', H' R = some (.lst (ds.map V.ref)) → RnsAt H' ds (rnsOf L cs L.length) → Same H H' → Q (.ref R) H'
section
variable {P : Program} {w : World} {K : PySem.W.Frag} {mg : Str → Option Value} {base : Heap} {C : Addr}
theorem ok_ru (D : Dfn K mg "runs_of" s_runs_of P_runs_of) (T : PTxt K mg C) (hPost : PropS P w K mg base C "post" 1 (getSp C "_post")) (hStride : PropS P w K mg base C "stride" 1 (getSp C "_stride")) : Cal P w K mg base 3 "runs_of" P_runs_of (spRu C) := by
  refine D.cal sc_runs_of (fun vs H Q E h => ?_) fun f cdv A outer s H vs Q E hr h => ?_
  · obtain ⟨D, _, _, _, rfl, _⟩ := h
    rfl
  obtain ⟨D, bs, L, cs, rfl, hD, pc, q⟩ := h
  refine ⟨_, (pss_one (ps_ret (pe_lc (own := [("painter", 1), ("many", 2)]) (g := gTup K 2 (gCons (gName 1) (gCons (gName 2) gNil))) rfl sc_runs_of.nd (pi_list (pv 0)) (blkOk_by (N := N_sc_runs_of) (sc := defScope s_runs_of) (by decide +kernel)) (fun _ _ _ _ _ => pg_tup rfl (pgs_cons (pg_name (i := 1) sc_runs_of.nd rfl (Or.inl rfl)) (pgs_cons (pg_name (i := 2) sc_runs_of.nd rfl (Or.inl rfl)) pgs_nil))) (fun _ _ _ _ _ => pts_one (pt_cmpR op_ne (pv 2) pe_int (nomark _))) (fun _ _ _ _ _ => (pe_tup (pa_cons pe_int (pa_cons (pe_prS (pv 1) T.cl hPost (hr.mono (by decide))) (pa_cons (pe_prS (pv 1) T.cl hStride (hr.mono (by decide))) (pa_cons (pv 2) pa_nil))))))))), ?_⟩
  have few := pc.few
  have bl := pc.len
  have cl := pc.lc
  refine ⟨_, rfl, D, rfl, ⟨_, SqL.of hD⟩, fun M nM => ?_⟩
  refine lc_list (K := K) (a := D) (xs := bs.map V.ref) (fun i H' => ∃ ds : List Addr, H' M = some (.lst (ds.map V.ref)) ∧ RnsAt H' ds (rnsOf L cs i) ∧ Same H H') ⟨[], upd_same, .nil, same_new nM _⟩ (fun i H' _ h => by obtain ⟨_, _, _, h⟩ := h; exact SqL.of (h _ _ hD)) ?_ ?_
  · rintro i v H' ev ⟨ds, hM, rns, s1⟩
    rw [List.getElem?_map] at ev
    cases eb : bs[i]? with
    | none => rw [eb] at ev; cases ev
    | some b =>
      rw [eb] at ev
      obtain rfl := Option.some.inj ev
      have hi : i < L.length := by have := (List.getElem?_eq_some_iff.mp eb).1; omega
      obtain ⟨x, hx⟩ : ∃ x, L[i]? = some x := ⟨_, List.getElem?_eq_getElem hi⟩
      obtain ⟨c, hc⟩ : ∃ c, cs[i]? = some c := ⟨_, List.getElem?_eq_getElem (by omega)⟩
      obtain ⟨b', eb', hb⟩ := pc.at_ i x c hx hc
      rw [eb] at eb'
      obtain rfl := Option.some.inj eb'
      obtain ⟨⟨dxx, ex⟩, pk⟩ := (pc.ok x (List.mem_of_getElem? hx)).same s1
      have dl : ds.length ≤ 40 := by
        have a1 : ds.length = (rnsOf L cs i).length := rns.length
        have a2 := rns_len L cs i
        omega
      refine ⟨b, _, rfl, SqT.of (s1 _ _ hb), rfl, _, _, rfl, _, _, rfl, rfl, ?_⟩
      have yes : c ≠ some 0 → ∀ u, H' u = none → ∃ ds' : List Addr, upd (upd H' u (.tup [.int 1, .int x.p, .int x.s, optV c])) M (.lst (ds.map V.ref ++ [.ref u])) M = some (.lst (ds'.map V.ref)) ∧ RnsAt (upd (upd H' u (.tup [.int 1, .int x.p, .int x.s, optV c])) M (.lst (ds.map V.ref ++ [.ref u]))) ds' (rnsOf L cs (i + 1)) ∧ Same H (upd (upd H' u (.tup [.int 1, .int x.p, .int x.s, optV c])) M (.lst (ds.map V.ref ++ [.ref u]))) := fun z u nu => by
        have su := same_new nu (.tup [.int 1, .int x.p, .int x.s, optV c])
        have hMu := su _ _ hM
        have kp : ∀ (z : Addr) xs, upd H' u (.tup [.int 1, .int x.p, .int x.s, optV c]) z = some (.tup xs) → upd (upd H' u (.tup [.int 1, .int x.p, .int x.s, optV c])) M (.lst (ds.map V.ref ++ [.ref u])) z = some (.tup xs) := fun z xs e => by rw [upd_ne (ne_of e hMu (by intro z; cases z))]; exact e
        refine ⟨ds ++ [u], by rw [upd_same, List.map_append]; rfl, ?_, sameAt (s1.trans su) nM⟩
        rw [rns_in hx hc z]
        exact paired_snoc (Paired.mapP rns fun _ _ h => kp _ _ (su _ _ h)) (kp _ _ upd_same)
      have sz : (ds.map V.ref).length < sizeLine := by rw [List.length_map]; exact Nat.lt_of_le_of_lt dl (by decide)
      refine ⟨rfl, _, rfl, ?_⟩
      cases c with
      | none =>
        refine ⟨rfl, _, rfl, iteNN (fun z => by cases z) ?_⟩
        refine ⟨_, rfl, x.a, dxx, _, rfl, ex, x.a, dxx, _, _, rfl, ex, pfs_post _ _ _ _, _, rfl, x.a, dxx, _, rfl, ex, x.a, dxx, _, _, rfl, ex, pfs_stride _ _ _ _, _, rfl, by show 4 ≤ sizeLine; decide, fun u nu => ?_⟩
        obtain ⟨ds', f1, f2, f3⟩ := yes (fun z => by cases z) u nu
        exact ⟨_, same_new nu _ _ _ hM, sz, ds', f1, f2, f3⟩
      | some k =>
        by_cases z : k = 0
        · subst z
          exact ⟨rfl, _, rfl, iteNS rfl ⟨ds, hM, by rw [rns_out hx hc]; exact rns, s1⟩⟩
        · refine ⟨rfl, _, rfl, iteNN (fun e => z (V.int.inj e)) ?_⟩
          refine ⟨_, rfl, x.a, dxx, _, rfl, ex, x.a, dxx, _, _, rfl, ex, pfs_post _ _ _ _, _, rfl, x.a, dxx, _, rfl, ex, x.a, dxx, _, _, rfl, ex, pfs_stride _ _ _ _, _, rfl, by show 4 ≤ sizeLine; decide, fun u nu => ?_⟩
          obtain ⟨ds', f1, f2, f3⟩ := yes (fun e => z (Option.some.inj e)) u nu
          exact ⟨_, same_new nu _ _ _ hM, sz, ds', f1, f2, f3⟩
  · rintro H' ⟨ds, hM, rns, s1⟩
    rw [List.length_map, bl] at rns
    exact q M ds H' hM rns s1
end
abbrev s_painted_runs : Stmt := (topS 45)
abbrev N_sc_painted_runs : List Str := ["fence", "day"]
abbrev P_painted_runs : List Str := ["fence", "day"]
theorem sc_painted_runs : FnScope N_sc_painted_runs P_painted_runs (defScope s_painted_runs) := ⟨rfl, rfl, rfl, by decide +kernel, rfl, by decide +kernel, by decide +kernel⟩
def spPRu (T : List (Addr × Str)) (C CF : Addr) : Sp := fun vs H Q _ => ∃ (f : Addr) (L : List Pt) (day : Option Int), vs = [.ref f, optV day] ∧ FcAt C CF H f L ∧ LamX.Tabs T H ∧
  ∀ rs R ds H', HistR (partsOf L) (fSP (partsOf L)) rs → H' R = some (.lst (ds.map V.ref)) → RnsAt H' ds (rnsOf L (bysC day L ((List.range L.length).map (cntR rs))) L.length) → LamX.ExtN H H' → LamX.Tabs T H' → Q (.ref R) H'
section
variable {P : Program} {w : World} {K : PySem.W.Frag} {mg : Str → Option Value} {base : Heap} {C CF CH : Addr}
theorem ok_pru {Tt : List (Addr × Str)} (D : Dfn K mg "painted_runs" s_painted_runs P_painted_runs) (CPc : Cal P w K mg base 16 "painted_counts" P_painted_counts (spPc Tt C CF)) (CBy : Cal P w K mg base 3 "counts_by" P_counts_by (spBy C)) (CRu : Cal P w K mg base 3 "runs_of" P_runs_of (spRu C)) : Cal P w K mg base 17 "painted_runs" P_painted_runs (spPRu Tt C CF) := by
  refine D.cal sc_painted_runs (fun vs H Q E h => ?_) fun f cdv A outer s H vs Q E hr h => ?_
  · obtain ⟨f, L, day, rfl, _⟩ := h
    rfl
  obtain ⟨f0, L, day, rfl, hf, tb, q⟩ := h
  refine ⟨_, (pss_one (ps_ret (pe_cal CRu (hr.mono (by decide)) (pa_cons (pe_cal CBy (hr.mono (by decide)) (pa_cons (pe_cal CPc (hr.mono (by decide)) (pa_cons (pv 0) pa_nil)) (pa_cons (pv 1) pa_nil))) pa_nil)))), ?_⟩
  refine ⟨_, rfl, f0, L, rfl, hf, tb, fun rs D bs H1 hist hD pb dn e1 tb1 => ?_⟩
  refine ⟨_, rfl, D, bs, L, _, day, rfl, hD, pcs_ok (hf.extN e1).crew pb, fun D2 bs2 H2 hD2 pc2 s2 => ?_⟩
  exact ⟨D2, bs2, L, _, rfl, hD2, pc2, fun R ds H3 hR rns s3 => q rs R ds H3 hist hR rns (e1.trans (LamX.ExtN.of (s2.trans s3))) (tabs_same (s2.trans s3) tb1)⟩
end
/-- how many posts from f to l are painted by a day -/
def paintN (qs : List Quad) (rs : List Rw) (day : Option Int) (f l : Int) : Int := ((List.range qs.length).map fun j => runIn (pQ qs j) (sQ qs j) (byC day (dQ qs j) (cntR rs j)) f l).sum
theorem all_paint {L : List Pt} {rs : List Rw} {day : Option Int} {f l : Int} : allIn L (bysC day L ((List.range L.length).map (cntR rs))) f l = paintN (partsOf L) rs day f l := by
  unfold allIn paintN bysC
  congr 1
  rw [parts_len]
  refine List.ext_getElem? fun i => ?_
  rw [List.getElem?_zipWith, List.getElem?_zipWith, List.getElem?_map, List.getElem?_map]
  by_cases c : i < L.length
  · have e : L[i]? = some L[i] := List.getElem?_eq_getElem c
    obtain ⟨_, a2, a3, a4⟩ := q_at (parts_at e)
    rw [e, List.getElem?_range c]
    show some (runIn L[i].p L[i].s (byC day L[i].d (cntR rs i)) f l) = some (runIn (pQ (partsOf L) i) (sQ (partsOf L) i) (byC day (dQ (partsOf L) i) (cntR rs i)) f l)
    rw [a2, a3, a4]
  · rw [List.getElem?_eq_none (show L.length ≤ i by omega), List.getElem?_eq_none (show (List.range L.length).length ≤ i by rw [List.length_range]; omega)]
    rfl
end Ur
/-! UrDu: d.update(e) of two dicts; max of a list of whole numbers. -/
namespace Ur
open PySem PySem.Spec PyProof.Rows L2
section
variable {X : Cx}
def rMaxI (K : PySem.W.Frag) : List V → Hp → VK → Prop := fun vs H Q => ∃ (a : Addr) (ns : List Int), vs = [V.ref a] ∧ SqL K H a (ns.map V.int) ∧ ns ≠ [] ∧ ∀ m, m ∈ ns → (∀ z ∈ ns, z ≤ m) → Q (.int m) H
theorem max_first (y : Int) : ∀ ys : List Int, PySem.W.maxOf y ys ∈ y :: ys ∧ ∀ z ∈ y :: ys, z ≤ PySem.W.maxOf y ys := by
  intro ys
  induction ys generalizing y with
  | nil =>
    refine ⟨List.mem_cons_self, fun z hz => ?_⟩
    obtain rfl := List.mem_singleton.mp hz
    exact Int.le_refl _
  | cons z ys ih =>
    have step : PySem.W.maxOf y (z :: ys) = PySem.W.maxOf (if decide (y < z) = true then z else y) ys := rfl
    rw [step]
    by_cases c : y < z
    · rw [if_pos (decide_eq_true c)]
      obtain ⟨h1, h2⟩ := ih z
      refine ⟨List.mem_cons_of_mem _ h1, fun x hx => ?_⟩
      rcases List.mem_cons.mp hx with rfl | hx
      · have := h2 z List.mem_cons_self
        omega
      · exact h2 x hx
    · rw [if_neg (by simpa using c)]
      obtain ⟨h1, h2⟩ := ih y
      refine ⟨?_, fun x hx => ?_⟩
      · rcases List.mem_cons.mp h1 with e | h1
        · rw [e]
          exact List.mem_cons_self
        · exact List.mem_cons_of_mem _ (List.mem_cons_of_mem _ h1)
      · rcases List.mem_cons.mp hx with rfl | hx
        · exact h2 x List.mem_cons_self
        · rcases List.mem_cons.mp hx with rfl | hx
          · have := h2 y List.mem_cons_self
            omega
          · exact h2 x (List.mem_cons_of_mem _ hx)
theorem cr_maxI (hc : X.calm = true) (hu : X.A.units + 64 < cLine) : CallR X (.builtin "max") (rMaxI X.K) := by
  intro pins s σ H vs us Q I r h
  obtain ⟨a, ns, rfl, hs, ne, q⟩ := h
  obtain ⟨its, rv, hl, _⟩ := I.list hs
  obtain rfl := Vals.ref1 r
  have HA : PySem.W.HoldAll s.heap its ns := hold_ints rv
  cases ns with
  | nil => exact absurd rfl ne
  | cons k0 ks0 =>
    refine PySem.W.max_list_datum (x := k0) (xs := ks0) (I.ok.hd hc) hl.isList (by rw [List.toList_toArray]; exact HA) (by show X.A.units + 1 + 0 < cLine; omega) fun i v h' tk hi hy hk => ?_
    have hi' : its[i]? = some v := by simpa using hi
    obtain ⟨z, hz, hvz⟩ := HA.at hi'
    have em := holds_uniq (hvz.keeps hk) hy
    have hl : i < ((k0 :: ks0).map V.int).length := by rw [rv.length]; exact (List.getElem?_eq_some_iff.mp hi').1
    obtain ⟨u, hu1, hu2⟩ := rv.get (List.getElem?_eq_getElem hl)
    rw [hi'] at hu1
    cases hu1
    have e3 : ((k0 :: ks0).map V.int)[i]? = some (V.int z) := by rw [List.getElem?_map, hz]; rfl
    rw [List.getElem?_eq_getElem hl] at e3
    rw [Option.some.inj e3] at hu2
    have sp := max_first k0 ks0
    rw [← em] at sp
    exact ⟨.int z, H, I.kept hk, hu2, q z sp.1 sp.2⟩
end
end Ur
/-! PA: the posts of a set of runs, one after the other (weighted, without, mirrored, far_post, post_at). -/
namespace Ur
open PySem PySem.Spec PyProof.Rows L2
def wgt (k : Int) (r : Rn) : Rn := ⟨r.w * k, r.p, r.s, r.m⟩
def mir (r : Rn) : Rn := ⟨r.w, -r.p, -r.s, r.m⟩
/-- one run more at the end of a list that is being made -/
theorem run_put {H H' : Hp} {M u : Addr} {ds : List Addr} {rs : List Rn} {i : Nat} {r : Rn} {g : Rn → Rn} (hM : H' M = some (.lst (ds.map V.ref))) (rd : RnsAt H' ds ((rs.take i).map g)) (s1 : Same H H') (nu : H' u = none) (nM : H M = none) (er : rs[i]? = some r) (sz : (ds.map V.ref).length < sizeLine) :
    ∃ acc, upd H' u (.tup [.int (g r).w, .int (g r).p, .int (g r).s, optV (g r).m]) M = some (HO.lst acc) ∧ acc.length < sizeLine ∧ ∃ ds' : List Addr, upd (upd H' u (.tup [.int (g r).w, .int (g r).p, .int (g r).s, optV (g r).m])) M (HO.lst (acc ++ [V.ref u])) M = some (HO.lst (ds'.map V.ref)) ∧ RnsAt (upd (upd H' u (.tup [.int (g r).w, .int (g r).p, .int (g r).s, optV (g r).m])) M (HO.lst (acc ++ [V.ref u]))) ds' ((rs.take (i + 1)).map g) ∧ Same H (upd (upd H' u (.tup [.int (g r).w, .int (g r).p, .int (g r).s, optV (g r).m])) M (HO.lst (acc ++ [V.ref u]))) := by
  have su := same_new nu (.tup [.int (g r).w, .int (g r).p, .int (g r).s, optV (g r).m])
  have hMu := su _ _ hM
  have kp : ∀ (z : Addr) xs, upd H' u (.tup [.int (g r).w, .int (g r).p, .int (g r).s, optV (g r).m]) z = some (.tup xs) → upd (upd H' u (.tup [.int (g r).w, .int (g r).p, .int (g r).s, optV (g r).m])) M (.lst (ds.map V.ref ++ [.ref u])) z = some (.tup xs) := fun z xs e => by rw [upd_ne (ne_of e hMu (by intro z; cases z))]; exact e
  refine ⟨_, hMu, sz, ds ++ [u], by rw [upd_same, List.map_append]; rfl, ?_, sameAt (s1.trans su) nM⟩
  rw [take_snoc er, List.map_append]
  exact paired_snoc (Paired.mapP rd fun _ _ h => kp _ _ (su _ _ h)) (kp _ _ upd_same)
abbrev s_weighted : Stmt := (topS 48)
abbrev N_sc_weighted : List Str := ["runs", "factor", "weight", "post", "stride", "many"]
abbrev P_weighted : List Str := ["runs", "factor"]
theorem sc_weighted : FnScope N_sc_weighted P_weighted (defScope s_weighted) := ⟨rfl, rfl, rfl, by decide +kernel, rfl, by decide +kernel, by decide +kernel⟩
def spWt (K : PySem.W.Frag) : Sp := fun vs H Q _ => ∃ (R : Addr) (bs : List Addr) (rs : List Rn) (k : Int), vs = [.ref R, .int k] ∧ H R = some (.lst (bs.map V.ref)) ∧ RnsAt H bs rs ∧ (∀ r ∈ rs, r.w.natAbs ≤ 10) ∧ k.natAbs ≤ 10 ∧ rs.length ≤ 4000 ∧
  ∀ R' ds H', H' R' = some (.lst (ds.map V.ref)) → RnsAt H' ds (rs.map (wgt k)) → Same H H' → Q (.ref R') H'
section
variable {P : Program} {w : World} {K : PySem.W.Frag} {mg : Str → Option Value} {base : Heap} {C : Addr}
theorem ok_wt (D : Dfn K mg "weighted" s_weighted P_weighted) : Cal P w K mg base 1 "weighted" P_weighted (spWt K) := by
  refine D.cal sc_weighted (fun vs H Q E h => ?_) fun f cdv A outer s H vs Q E hr h => ?_
  · obtain ⟨R, _, _, _, rfl, _⟩ := h
    rfl
  obtain ⟨R, bs, rs, k, rfl, hR, rns, wb, kb, few, q⟩ := h
  refine ⟨_, (pss_one (ps_ret (pe_lc (own := [("weight", 2), ("post", 3), ("stride", 4), ("many", 5)]) (g := gTup K 4 (gCons (gName 2) (gCons (gName 3) (gCons (gName 4) (gCons (gName 5) gNil))))) (tt := tYes) rfl sc_weighted.nd (pi_list (pv 0)) (blkOk_by (N := N_sc_weighted) (sc := defScope s_weighted) (by decide +kernel)) (fun _ _ _ _ _ => pg_tup rfl (pgs_cons (pg_name (i := 2) sc_weighted.nd rfl (Or.inl rfl)) (pgs_cons (pg_name (i := 3) sc_weighted.nd rfl (Or.inl rfl)) (pgs_cons (pg_name (i := 4) sc_weighted.nd rfl (Or.inl rfl)) (pgs_cons (pg_name (i := 5) sc_weighted.nd rfl (Or.inl rfl)) pgs_nil))))) (fun _ _ _ _ _ => pts_nil) (fun _ _ _ _ _ => (pe_tup (pa_cons (pe_op op_mulW (pv 2) (pv 1)) (pa_cons (pv 3) (pa_cons (pv 4) (pa_cons (pv 5) pa_nil))))))))), ?_⟩
  have bl : bs.length = rs.length := rns.length
  refine ⟨_, rfl, R, rfl, ⟨_, SqL.of hR⟩, fun M nM => ?_⟩
  refine lc_list (K := K) (a := R) (xs := bs.map V.ref) (fun i H' => ∃ ds : List Addr, H' M = some (.lst (ds.map V.ref)) ∧ RnsAt H' ds ((rs.take i).map (wgt k)) ∧ Same H H') ⟨[], upd_same, .nil, same_new nM _⟩ (fun i H' _ h => by obtain ⟨_, _, _, h⟩ := h; exact SqL.of (h _ _ hR)) ?_ ?_
  · rintro i v H' ev ⟨ds, hM, rd, s1⟩
    rw [List.getElem?_map] at ev
    cases eb : bs[i]? with
    | none => rw [eb] at ev; cases ev
    | some b =>
      rw [eb] at ev
      obtain rfl := Option.some.inj ev
      obtain ⟨r, er, hb⟩ := paired_get rns eb
      have dl : ds.length ≤ 4000 := by
        have a1 : ds.length = _ := rd.length
        rw [List.length_map, List.length_take] at a1
        omega
      have sz : (ds.map V.ref).length < sizeLine := by rw [List.length_map]; exact Nat.lt_of_le_of_lt dl (by decide)
      have rw1 := wb r (List.mem_of_getElem? er)
      refine ⟨b, _, rfl, SqT.of (s1 _ _ hb), rfl, _, _, rfl, _, _, rfl, _, _, rfl, _, _, rfl, rfl, ?_⟩
      refine ⟨rfl, _, rfl, _, rfl, _, _, rfl, rfl, wide_mul (a := 64) (b := 64) (by omega) (by omega) (by decide) (by decide) (by decide), _, rfl, _, rfl, _, rfl, by show 4 ≤ sizeLine; decide, fun u nu => ?_⟩
      exact run_put hM rd s1 nu nM er sz
  · rintro H' ⟨ds, hM, rd, s1⟩
    rw [List.length_map, bl, List.take_length] at rd
    exact q M ds H' hM rd s1
end
abbrev s_mirrored : Stmt := (topS 49)
abbrev N_sc_mirrored : List Str := ["runs", "weight", "post", "stride", "many"]
abbrev P_mirrored : List Str := ["runs"]
theorem sc_mirrored : FnScope N_sc_mirrored P_mirrored (defScope s_mirrored) := ⟨rfl, rfl, rfl, by decide +kernel, rfl, by decide +kernel, by decide +kernel⟩
def spMi (K : PySem.W.Frag) : Sp := fun vs H Q _ => ∃ (R : Addr) (bs : List Addr) (rs : List Rn), vs = [.ref R] ∧ H R = some (.lst (bs.map V.ref)) ∧ RnsAt H bs rs ∧ rs.length ≤ 4000 ∧
  ∀ R' ds H', H' R' = some (.lst (ds.map V.ref)) → RnsAt H' ds (rs.map mir) → Same H H' → Q (.ref R') H'
section
variable {P : Program} {w : World} {K : PySem.W.Frag} {mg : Str → Option Value} {base : Heap} {C : Addr}
theorem ok_mirR (D : Dfn K mg "mirrored" s_mirrored P_mirrored) : Cal P w K mg base 1 "mirrored" P_mirrored (spMi K) := by
  refine D.cal sc_mirrored (fun vs H Q E h => ?_) fun f cdv A outer s H vs Q E hr h => ?_
  · obtain ⟨R, _, _, rfl, _⟩ := h
    rfl
  obtain ⟨R, bs, rs, rfl, hR, rns, few, q⟩ := h
  refine ⟨_, (pss_one (ps_ret (pe_lc (own := [("weight", 1), ("post", 2), ("stride", 3), ("many", 4)]) (g := gTup K 4 (gCons (gName 1) (gCons (gName 2) (gCons (gName 3) (gCons (gName 4) gNil))))) (tt := tYes) rfl sc_mirrored.nd (pi_list (pv 0)) (blkOk_by (N := N_sc_mirrored) (sc := defScope s_mirrored) (by decide +kernel)) (fun _ _ _ _ _ => pg_tup rfl (pgs_cons (pg_name (i := 1) sc_mirrored.nd rfl (Or.inl rfl)) (pgs_cons (pg_name (i := 2) sc_mirrored.nd rfl (Or.inl rfl)) (pgs_cons (pg_name (i := 3) sc_mirrored.nd rfl (Or.inl rfl)) (pgs_cons (pg_name (i := 4) sc_mirrored.nd rfl (Or.inl rfl)) pgs_nil))))) (fun _ _ _ _ _ => pts_nil) (fun _ _ _ _ _ => (pe_tup (pa_cons (pv 1) (pa_cons (pe_un un_neg (pv 2)) (pa_cons (pe_un un_neg (pv 3)) (pa_cons (pv 4) pa_nil))))))))), ?_⟩
  have bl : bs.length = rs.length := rns.length
  refine ⟨_, rfl, R, rfl, ⟨_, SqL.of hR⟩, fun M nM => ?_⟩
  refine lc_list (K := K) (a := R) (xs := bs.map V.ref) (fun i H' => ∃ ds : List Addr, H' M = some (.lst (ds.map V.ref)) ∧ RnsAt H' ds ((rs.take i).map mir) ∧ Same H H') ⟨[], upd_same, .nil, same_new nM _⟩ (fun i H' _ h => by obtain ⟨_, _, _, h⟩ := h; exact SqL.of (h _ _ hR)) ?_ ?_
  · rintro i v H' ev ⟨ds, hM, rd, s1⟩
    rw [List.getElem?_map] at ev
    cases eb : bs[i]? with
    | none => rw [eb] at ev; cases ev
    | some b =>
      rw [eb] at ev
      obtain rfl := Option.some.inj ev
      obtain ⟨r, er, hb⟩ := paired_get rns eb
      have dl : ds.length ≤ 4000 := by
        have a1 : ds.length = _ := rd.length
        rw [List.length_map, List.length_take] at a1
        omega
      have sz : (ds.map V.ref).length < sizeLine := by rw [List.length_map]; exact Nat.lt_of_le_of_lt dl (by decide)
      refine ⟨b, _, rfl, SqT.of (s1 _ _ hb), rfl, _, _, rfl, _, _, rfl, _, _, rfl, _, _, rfl, rfl, ?_⟩
      refine ⟨rfl, _, rfl, _, rfl, _, rfl, _, rfl, _, rfl, _, rfl, by show 4 ≤ sizeLine; decide, fun u nu => ?_⟩
      exact run_put hM rd s1 nu nM er sz
  · rintro H' ⟨ds, hM, rd, s1⟩
    rw [List.length_map, bl, List.take_length] at rd
    exact q M ds H' hM rd s1
end
def outR (rs : List Rn) (post : Int) (left : Bool) : List Rn := ⟨1, post, if left then -1 else 1, none⟩ :: rs.map (wgt (-1))
abbrev s_without : Stmt := (topS 47)
abbrev N_sc_without : List Str := ["runs", "post", "left"]
abbrev P_without : List Str := ["runs", "post", "left"]
theorem sc_without : FnScope N_sc_without P_without (defScope s_without) := ⟨rfl, rfl, rfl, by decide +kernel, rfl, by decide +kernel, by decide +kernel⟩
def spOut (K : PySem.W.Frag) : Sp := fun vs H Q _ => ∃ (R : Addr) (bs : List Addr) (rs : List Rn) (post : Int) (left : Bool), vs = [.ref R, .int post, .bl left] ∧ H R = some (.lst (bs.map V.ref)) ∧ RnsAt H bs rs ∧ (∀ r ∈ rs, r.w.natAbs ≤ 10) ∧ rs.length ≤ 3000 ∧
  ∀ R' ds H', H' R' = some (.lst (ds.map V.ref)) → RnsAt H' ds (outR rs post left) → Same H H' → Q (.ref R') H'
section
variable {P : Program} {w : World} {K : PySem.W.Frag} {mg : Str → Option Value} {base : Heap} {C : Addr}
theorem ok_out (D : Dfn K mg "without" s_without P_without) (CWt : Cal P w K mg base 1 "weighted" P_weighted (spWt K)) : Cal P w K mg base 2 "without" P_without (spOut K) := by
  refine D.cal sc_without (fun vs H Q E h => ?_) fun f cdv A outer s H vs Q E hr h => ?_
  · obtain ⟨R, _, _, _, _, rfl, _⟩ := h
    rfl
  obtain ⟨R, bs, rs, post, left, rfl, hR, rns, wb, few, q⟩ := h
  refine ⟨_, (pss_one (ps_ret (pe_op op_cat (pe_lst (pa_cons (pe_tup (pa_cons pe_int (pa_cons (pv 1) (pa_cons (pe_ifExp (pt_val (pv 2)) (pe_un un_neg pe_int) pe_int) (pa_cons pe_non pa_nil))))) pa_nil)) (pe_cal CWt (hr.mono (by decide)) (pa_cons (pv 0) (pa_cons (pe_un un_neg pe_int) pa_nil)))))), ?_⟩
  have rest : ∀ (t M : Addr) (H1 H2 : Hp) (R' : Addr) (ds : List Addr) (c : Addr), H1 t = some (.tup [.int 1, .int post, .int (if left then -1 else 1), .non]) → H1 M = some (.lst [.ref t]) → Same H H1 → Same H1 H2 → H2 R' = some (.lst (ds.map V.ref)) → RnsAt H2 ds (rs.map (wgt (-1))) → H2 c = none → Q (.ref c) (upd H2 c (.lst ([V.ref t] ++ ds.map V.ref))) := fun t M H1 H2 R' ds c ht hM s1 s2 hR2 rd nc => by
    refine q c (t :: ds) _ upd_same ?_ ((s1.trans s2).trans (same_new nc _))
    have sc := same_new nc (.lst ([V.ref t] ++ ds.map V.ref))
    exact .cons (sc _ _ (s2 _ _ ht)) (Paired.mapP rd fun _ _ h => sc _ _ h)
  have dl : ∀ (ds : List Addr) (H2 : Hp), RnsAt H2 ds (rs.map (wgt (-1))) → ([V.ref R] : List V).length + (ds.map V.ref).length ≤ sizeLine := fun ds H2 rd => by
    have a1 : ds.length = _ := rd.length
    rw [List.length_map] at a1
    rw [List.length_map, a1]
    exact Nat.le_trans (show 1 + rs.length ≤ 4000 by omega) (by decide)
  cases left with
  | true =>
    refine ⟨_, rfl, _, rfl, true, rfl, iteT ?_⟩
    refine ⟨_, rfl, by show 4 ≤ sizeLine; decide, fun t nt => ?_⟩
    refine ⟨by show 1 ≤ sizeLine; decide, fun M nM => ?_⟩
    have st := same_new nt (.tup [.int 1, .int post, .int (if true then -1 else 1), .non])
    have sM := same_new nM (.lst [.ref t])
    refine ⟨_, rfl, _, rfl, R, bs, rs, -1, rfl, sM _ _ (st _ _ hR), Paired.mapP rns (fun _ _ h => sM _ _ (st _ _ h)), wb, by decide, by omega, fun R2 ds H2 hR2 rd s2 => ?_⟩
    exact ⟨_, _, _, _, rfl, rfl, s2 _ _ upd_same, hR2, dl ds H2 rd, fun c nc => rest t M _ H2 R2 ds c (sM _ _ upd_same) upd_same (st.trans sM) s2 hR2 rd nc⟩
  | false =>
    refine ⟨_, rfl, _, rfl, false, rfl, iteF ?_⟩
    refine ⟨by show 4 ≤ sizeLine; decide, fun t nt => ?_⟩
    refine ⟨by show 1 ≤ sizeLine; decide, fun M nM => ?_⟩
    have st := same_new nt (.tup [.int 1, .int post, .int (if false then -1 else 1), .non])
    have sM := same_new nM (.lst [.ref t])
    refine ⟨_, rfl, _, rfl, R, bs, rs, -1, rfl, sM _ _ (st _ _ hR), Paired.mapP rns (fun _ _ h => sM _ _ (st _ _ h)), wb, by decide, by omega, fun R2 ds H2 hR2 rd s2 => ?_⟩
    exact ⟨_, _, _, _, rfl, rfl, s2 _ _ upd_same, hR2, dl ds H2 rd, fun c nc => rest t M _ H2 R2 ds c (sM _ _ upd_same) upd_same (st.trans sM) s2 hR2 rd nc⟩
end
def farV (r : Rn) : Int := match r.m with
  | none => r.p
  | some k => max r.p (r.p + (k - 1) * r.s)
def farR (post : Int) : List Rn → Int
  | [] => post
  | r :: rs => max (farV r) (farR post rs)
theorem far_mem {post : Int} : ∀ rs : List Rn, farR post rs ∈ post :: rs.map farV
  | [] => List.mem_cons_self
  | r :: rs => by
    have ih := far_mem (post := post) rs
    show max (farV r) (farR post rs) ∈ post :: farV r :: rs.map farV
    by_cases c : farV r ≤ farR post rs
    · rw [Int.max_eq_right c]
      rcases List.mem_cons.mp ih with e | h
      · rw [e]
        exact List.mem_cons_self
      · exact List.mem_cons_of_mem _ (List.mem_cons_of_mem _ h)
    · rw [Int.max_eq_left (by omega)]
      exact List.mem_cons_of_mem _ List.mem_cons_self
theorem far_le {post : Int} : ∀ rs : List Rn, ∀ z ∈ post :: rs.map farV, z ≤ farR post rs
  | [], z, h => by
    obtain rfl := List.mem_singleton.mp h
    exact Int.le_refl _
  | r :: rs, z, h => by
    have ih := far_le (post := post) rs
    show z ≤ max (farV r) (farR post rs)
    rcases List.mem_cons.mp h with rfl | h
    · have := ih z List.mem_cons_self
      omega
    · rcases List.mem_cons.mp h with rfl | h
      · omega
      · have := ih z (List.mem_cons_of_mem _ h)
        omega
theorem far_uniq {post m : Int} {rs : List Rn} (h : m ∈ post :: rs.map farV) (le : ∀ z ∈ post :: rs.map farV, z ≤ m) : m = farR post rs := Int.le_antisymm (far_le rs m h) (le _ (far_mem rs))
/-- runs that are not too great to be looked through -/
structure RnOk (r : Rn) : Prop where
  sn : r.s ≠ 0
  sb : r.s.natAbs ≤ 10 ^ 37
  pb : r.p.natAbs ≤ 10 ^ 80
  wb : r.w.natAbs ≤ 10
  mb : ∀ k, r.m = some k → k.natAbs ≤ 10 ^ 60 ∧ ((k - 1) * r.s).natAbs ≤ 10 ^ 80
theorem farV_bd {r : Rn} (h : RnOk r) : (farV r).natAbs ≤ 2 * 10 ^ 80 := by
  have h1 := h.pb
  have h2 := h.sb
  unfold farV
  cases e : r.m with
  | none => show r.p.natAbs ≤ _; omega
  | some k =>
    have h3 := h.mb k e
    show (max r.p (r.p + (k - 1) * r.s)).natAbs ≤ _
    have z := h3.2
    omega
theorem far_bd {post : Int} (hp : post.natAbs ≤ 2 * 10 ^ 80) : ∀ rs : List Rn, (∀ r ∈ rs, RnOk r) → (farR post rs).natAbs ≤ 2 * 10 ^ 80
  | [], _ => hp
  | r :: rs, h => by
    have a := farV_bd (h r List.mem_cons_self)
    have b := far_bd hp rs fun x hx => h x (List.mem_cons_of_mem _ hx)
    show (max (farV r) (farR post rs)).natAbs ≤ _
    omega
abbrev s_far_post : Stmt := (topS 50)
abbrev N_sc_far_post : List Str := ["runs", "post", "ends", "_", "start", "stride", "many"]
abbrev P_far_post : List Str := ["runs", "post"]
theorem sc_far_post : FnScope N_sc_far_post P_far_post (defScope s_far_post) := ⟨rfl, rfl, rfl, by decide +kernel, rfl, by decide +kernel, by decide +kernel⟩
def spFarP (K : PySem.W.Frag) : Sp := fun vs H Q _ => ∃ (R : Addr) (bs : List Addr) (rs : List Rn) (post : Int), vs = [.ref R, .int post] ∧ H R = some (.lst (bs.map V.ref)) ∧ RnsAt H bs rs ∧ (∀ r ∈ rs, RnOk r) ∧ rs.length ≤ 4000 ∧
  ∀ H', Same H H' → Q (.int (farR post rs)) H'
section
variable {P : Program} {w : World} {K : PySem.W.Frag} {mg : Str → Option Value} {base : Heap} {C : Addr}
theorem ok_farP (D : Dfn K mg "far_post" s_far_post P_far_post) (B : Blt mg) : Cal P w K mg base 1 "far_post" P_far_post (spFarP K) := by
  refine D.cal sc_far_post (fun vs H Q E h => ?_) fun f cdv A outer s H vs Q E hr h => ?_
  · obtain ⟨R, _, _, _, rfl, _⟩ := h
    rfl
  obtain ⟨R, bs, rs, post, rfl, hR, rns, ok, few, q⟩ := h
  refine ⟨_, (pss_cons (ps_setLc (i := 2) (own := [("_", 3), ("start", 4), ("stride", 5), ("many", 6)]) (g := gTup K 4 (gCons (gName 3) (gCons (gName 4) (gCons (gName 5) (gCons (gName 6) gNil))))) (tt := tYes) rfl sc_far_post.nd rfl rfl (sw_true rfl rfl rfl (by decide +kernel)) (pi_list (pv 0)) (blkOk_by (N := N_sc_far_post) (sc := defScope s_far_post) (by decide +kernel)) (fun _ _ _ _ _ => pg_tup rfl (pgs_cons (pg_name (i := 3) sc_far_post.nd rfl (Or.inl rfl)) (pgs_cons (pg_name (i := 4) sc_far_post.nd rfl (Or.inl rfl)) (pgs_cons (pg_name (i := 5) sc_far_post.nd rfl (Or.inl rfl)) (pgs_cons (pg_name (i := 6) sc_far_post.nd rfl (Or.inl rfl)) pgs_nil))))) (fun _ _ _ _ _ => pts_nil) (fun _ _ _ _ _ => (pe_ifExp (pt_cmpR op_isN (pv 6) pe_non (nomark _)) (pv 4) (pe_callB (call_max2 rfl) rfl B.max_ (by decide +kernel) (pa_cons (pv 4) (pa_cons (pe_op op_add (pv 4) (pe_op op_mulW (pe_op op_sub (pv 6) pe_int) (pv 5))) pa_nil)))))) (pss_one (ps_ret (pe_callB (cr_maxI rfl hr.units) rfl B.max_ (by decide +kernel) (pa_cons (pe_op op_cat (pe_lst (pa_cons (pv 1) pa_nil)) (pv 2)) pa_nil))))), ?_⟩
  have bl : bs.length = rs.length := rns.length
  refine ⟨_, rfl, R, rfl, ⟨_, SqL.of hR⟩, fun M nM => ?_⟩
  refine lc_list (K := K) (a := R) (xs := bs.map V.ref) (fun i H' => H' M = some (.lst (((rs.take i).map farV).map V.int)) ∧ Same H H') ⟨upd_same, same_new nM _⟩ (fun i H' _ h => SqL.of (h.2 _ _ hR)) ?_ ?_
  · rintro i v H' ev ⟨hM, s1⟩
    rw [List.getElem?_map] at ev
    cases eb : bs[i]? with
    | none => rw [eb] at ev; cases ev
    | some b =>
      rw [eb] at ev
      obtain rfl := Option.some.inj ev
      obtain ⟨r, er, hb⟩ := paired_get rns eb
      have hi := (List.getElem?_eq_some_iff.mp er).1
      have sz : (((rs.take i).map farV).map V.int).length < sizeLine := by
        rw [List.length_map, List.length_map, List.length_take]
        exact Nat.lt_of_le_of_lt (show min i rs.length ≤ 4000 by omega) (by decide)
      refine ⟨b, _, rfl, SqT.of (s1 _ _ hb), rfl, _, _, rfl, _, _, rfl, _, _, rfl, _, _, rfl, rfl, ?_⟩
      have fin : ∀ z : Int, z = farV r → ∃ acc, H' M = some (HO.lst acc) ∧ acc.length < sizeLine ∧ upd H' M (HO.lst (acc ++ [V.int z])) M = some (HO.lst (((rs.take (i + 1)).map farV).map V.int)) ∧ Same H (upd H' M (HO.lst (acc ++ [V.int z]))) := fun z ez => by
        refine ⟨_, hM, sz, ?_, sameAt s1 nM⟩
        rw [upd_same, take_snoc er, List.map_append, List.map_append, ez]
        rfl
      have okr := ok r (List.mem_of_getElem? er)
      obtain ⟨rw_, rp, rst, rm⟩ := r
      refine ⟨rfl, _, rfl, rfl, _, rfl, ?_⟩
      cases rm with
      | none => exact iteDT rfl ⟨_, rfl, fin _ rfl⟩
      | some k =>
        have mb := okr.mb k rfl
        have sb := okr.sb
        have m1 := mb.1
        refine iteDF (fun z => by cases z) ⟨_, rfl, _, rfl, _, rfl, _, _, rfl, rfl, _, rfl, _, _, rfl, rfl, wide_mul (a := 250) (b := 250) (by omega) (by have : rst.natAbs ≤ 10 ^ 37 := sb; omega) (by decide) (by decide) (by decide), _, _, rfl, rfl, _, _, rfl, fin _ ?_⟩
        show (if rp + (k - 1) * rst > rp then rp + (k - 1) * rst else rp) = max rp (rp + (k - 1) * rst)
        split <;> omega
  · rintro H' ⟨hM, s1⟩
    rw [List.length_map, bl, List.take_length] at hM
    refine ⟨_, rfl, by show 1 ≤ sizeLine; decide, fun c nc => ?_⟩
    have sc := same_new nc (.lst [V.int post])
    refine ⟨_, rfl, c, M, _, _, rfl, rfl, upd_same, sc _ _ hM, ?_, fun c2 nc2 => ?_⟩
    · rw [List.length_map, List.length_map]
      exact Nat.le_trans (show 1 + rs.length ≤ 4001 by omega) (by decide)
    · refine ⟨c2, post :: rs.map farV, rfl, SqL.of upd_same, (fun z => by cases z), fun m hm le => ?_⟩
      rw [far_uniq hm le]
      exact q _ ((s1.trans sc).trans (same_new nc2 _))
end
/-- the post with an index among the posts of a set -/
def Nth (cnt : Int → Int) (post high index : Int) : Option Int → Prop
  | none => cnt high ≤ index
  | some x => post ≤ x ∧ x ≤ high ∧ index < cnt x ∧ (x = post ∨ cnt (x - 1) ≤ index)
def hiR (rs : List Rn) (post index : Int) : Int := farR post rs + (index + 1) * 10 ^ 36
abbrev s__post_to_the_right : Stmt := (topS 55)
abbrev N_sc__post_to_the_right : List Str := ["runs", "post", "index", "low", "high", "middle"]
abbrev P__post_to_the_right : List Str := ["runs", "post", "index"]
theorem sc__post_to_the_right : FnScope N_sc__post_to_the_right P__post_to_the_right (defScope s__post_to_the_right) := ⟨rfl, rfl, rfl, by decide +kernel, rfl, by decide +kernel, by decide +kernel⟩
def spRight (K : PySem.W.Frag) : Sp := fun vs H Q _ => ∃ (R : Addr) (bs : List Addr) (rs : List Rn) (post index : Int), vs = [.ref R, .int post, .int index] ∧ H R = some (.lst (bs.map V.ref)) ∧ RnsAt H bs rs ∧ (∀ r ∈ rs, RnOk r) ∧ rs.length ≤ 4000 ∧ post.natAbs ≤ 2 * 10 ^ 80 ∧ 0 ≤ index ∧ index ≤ 10 ^ 40 ∧
  ∀ o H', Nth (sumIn rs post) post (hiR rs post index) index o → Same H H' → Q (optV o) H'
section
variable {P : Program} {w : World} {K : PySem.W.Frag} {mg : Str → Option Value} {base : Heap} {C : Addr}
set_option maxHeartbeats 16000000 in
theorem ok_right (D : Dfn K mg "_post_to_the_right" s__post_to_the_right P__post_to_the_right) {uW : Value} (hW : mg "WINDOW" = some uW) (rW : L2.RelV (.int (10 ^ 36)) uW) (CFar : Cal P w K mg base 1 "far_post" P_far_post (spFarP K)) (CCB : Cal P w K mg base 3 "count_between" P_count_between spCB) : Cal P w K mg base 4 "_post_to_the_right" P__post_to_the_right (spRight K) := by
  refine D.cal sc__post_to_the_right (fun vs H Q E h => ?_) fun f cdv A outer s H vs Q E hr h => ?_
  · obtain ⟨R, _, _, _, _, rfl, _⟩ := h
    rfl
  obtain ⟨R, bs, rs, post, index, rfl, hR, rns, ok, few, pb, i0, i1, q⟩ := h
  refine ⟨_, (pss_cons (ps_par (i := 3) (j := 4) rfl sc__post_to_the_right.nd rfl rfl (by decide) rfl rfl (pa_cons (pv 1) (pa_cons (pe_op op_add (pe_cal CFar (hr.mono (by decide)) (pa_cons (pv 0) (pa_cons (pv 1) pa_nil))) (pe_op op_mulW (pe_op op_add (pv 2) pe_int) (pe_glob (v := .int (10 ^ 36)) rfl hW rW))) pa_nil)) (by rfl)) (pss_cons (ps_if (pt_cmpR op_le (pe_cal CCB (hr.mono (by decide)) (pa_cons (pv 0) (pa_cons (pv 1) (pa_cons (pv 4) pa_nil)))) (pv 2) (nomark _)) (pss_one (ps_ret pe_non)) pss_nil) (pss_cons (ps_while PassesOwn.never (pt_cmpR op_lt (pv 3) (pv 4) (nomark _)) (pss_cons (ps_set (i := 5) sc__post_to_the_right.nd rfl (Or.inl rfl) (pe_op op_fdivW (pe_op op_add (pv 3) (pv 4)) pe_int)) (pss_one (ps_if (pt_cmpR op_gt (pe_cal CCB (hr.mono (by decide)) (pa_cons (pv 0) (pa_cons (pv 1) (pa_cons (pv 5) pa_nil)))) (pv 2) (nomark _)) (pss_one (ps_set (i := 4) sc__post_to_the_right.nd rfl (Or.inl rfl) (pv 5))) (pss_one (ps_set (i := 3) sc__post_to_the_right.nd rfl (Or.inl rfl) (pe_op op_add (pv 5) pe_int))))))) (pss_one (ps_ret (pv 3)))))), ?_⟩
  have fb := far_bd pb rs ok
  have fp : post ≤ farR post rs := far_le rs post List.mem_cons_self
  have runOk : ∀ {l : Int}, l.natAbs ≤ 10 ^ 81 → ∀ r ∈ rs, RunOk r.p r.s post l ∧ r.w.natAbs ≤ 10 := fun hl r hr => by
    have k := ok r hr
    have k1 := k.pb
    exact ⟨⟨k.sn, k.sb, by omega, by omega, hl⟩, k.wb⟩
  refine ⟨_, rfl, _, rfl, _, rfl, R, bs, rs, post, rfl, hR, rns, ok, few, fun H1 s1 => ?_⟩
  refine ⟨_, rfl, _, _, rfl, rfl, _, _, rfl, rfl, wide_mul (a := 250) (b := 250) (by omega) (by decide) (by decide) (by decide) (by decide), _, _, rfl, rfl, _, _, rfl, ?_⟩
  obtain ⟨hi0, ehi⟩ : ∃ hi0, farR post rs + (index + 1) * 10 ^ 36 = hi0 := ⟨_, rfl⟩
  have hib : hi0.natAbs ≤ 10 ^ 81 ∧ post ≤ hi0 := by omega
  have eH : hiR rs post index = hi0 := ehi
  rw [eH] at q
  refine ⟨_, rfl, _, rfl, _, rfl, R, bs, rs, post, farR post rs + (index + 1) * 10 ^ 36, rfl, s1 _ _ hR, Paired.mapP rns (fun _ _ h => s1 _ _ h), runOk (by rw [ehi]; exact hib.1), by omega, fun H2 s2 => ?_⟩
  rw [ehi]
  have s12 := s1.trans s2
  refine ⟨_, rfl, _, _, rfl, rfl, _, rfl, ?_⟩
  by_cases c : sumIn rs post hi0 ≤ index
  · exact iteDT c (q none H2 c s12)
  refine iteDF c ?_
  refine while_ex (fun m σ H3 => ∃ (lo hi : Int) (o5 : Option V), m = (hi - lo).toNat ∧ σ = [some (.ref R), some (.int post), some (.int index), some (.int lo), some (.int hi), o5] ∧ post ≤ lo ∧ lo ≤ hi ∧ hi ≤ hi0 ∧ index < sumIn rs post hi ∧ (lo = post ∨ sumIn rs post (lo - 1) ≤ index) ∧ Same H H3) ((hi0 - post : Int)).toNat
    ⟨post, hi0, none, rfl, by rw [← ehi]; rfl, Int.le_refl _, hib.2, Int.le_refl _, by omega, .inl rfl, s12⟩ ?_ (fun σ H Q Q' k h => ?_)
  · rintro m σ H3 ⟨lo, hi, o5, rfl, rfl, b0, b1, b2, up, dn, s3⟩
    refine ⟨_, rfl, _, rfl, _, _, rfl, rfl, _, rfl, ?_⟩
    by_cases c2 : lo < hi
    · refine iteDT c2 ?_
      refine ⟨_, rfl, _, rfl, _, _, rfl, rfl, _, _, rfl, rfl, wide_div (b := 200) (by decide) (by decide) (by decide) (by decide), ?_⟩
      have m0 : lo ≤ (lo + hi) / 2 := by omega
      have m1 : (lo + hi) / 2 < hi := by omega
      refine ⟨_, rfl, _, rfl, _, rfl, R, bs, rs, post, (lo + hi) / 2, rfl, s3 _ _ hR, Paired.mapP rns (fun _ _ h => s3 _ _ h), runOk (by omega), by omega, fun H4 s4 => ?_⟩
      have s34 := s3.trans s4
      refine ⟨_, rfl, _, _, rfl, rfl, _, rfl, ?_⟩
      refine ite2 (fun c3 => ?_) (fun c3 => ?_)
      · have c3 : index < sumIn rs post ((lo + hi) / 2) := of_decide_eq_true c3
        refine ⟨_, rfl, ?_⟩
        exact ⟨((lo + hi) / 2 - lo).toNat, by omega, lo, (lo + hi) / 2, _, rfl, rfl, b0, m0, by omega, c3, dn, s34⟩
      · have c3 : ¬ index < sumIn rs post ((lo + hi) / 2) := fun z => c3 (decide_eq_true z)
        refine ⟨_, rfl, _, _, rfl, rfl, ?_⟩
        refine ⟨(hi - ((lo + hi) / 2 + 1)).toNat, by omega, (lo + hi) / 2 + 1, hi, _, rfl, rfl, by omega, by omega, b2, up, .inr ?_, s34⟩
        rw [show (lo + hi) / 2 + 1 - 1 = (lo + hi) / 2 by omega]
        omega
    · refine iteDF c2 ?_
      obtain rfl : lo = hi := by omega
      exact ⟨_, rfl, q (some lo) H3 ⟨b0, b2, up, dn⟩ s3⟩
  · obtain ⟨v, hv, u, hu, x, y, e1, e2, b, hb, q⟩ := h
    exact ⟨v, hv, u, hu, x, y, e1, e2, b, hb, k _ _ q⟩
end
def sgn (left : Bool) (x : Int) : Int := if left then -x else x
def sideR (left : Bool) (rs : List Rn) : List Rn := if left then rs.map mir else rs
abbrev s_post_at : Stmt := (topS 53)
abbrev N_sc_post_at : List Str := ["runs", "post", "index", "left", "found"]
abbrev P_post_at : List Str := ["runs", "post", "index", "left"]
theorem sc_post_at : FnScope N_sc_post_at P_post_at (defScope s_post_at) := ⟨rfl, rfl, rfl, by decide +kernel, rfl, by decide +kernel, by decide +kernel⟩
def spPostAt (K : PySem.W.Frag) : Sp := fun vs H Q _ => ∃ (R : Addr) (bs : List Addr) (rs : List Rn) (post index : Int) (left : Bool), vs = [.ref R, .int post, .int index, .bl left] ∧ H R = some (.lst (bs.map V.ref)) ∧ RnsAt H bs rs ∧ (∀ r ∈ rs, RnOk r) ∧ rs.length ≤ 4000 ∧ post.natAbs ≤ 2 * 10 ^ 80 ∧ 0 ≤ index ∧ index ≤ 10 ^ 40 ∧
  ∀ o H', Nth (sumIn (sideR left rs) (sgn left post)) (sgn left post) (hiR (sideR left rs) (sgn left post) index) index o → Same H H' → Q (optV (o.map (sgn left))) H'
section
variable {P : Program} {w : World} {K : PySem.W.Frag} {mg : Str → Option Value} {base : Heap} {C : Addr}
theorem ok_postAt (D : Dfn K mg "post_at" s_post_at P_post_at) (CMi : Cal P w K mg base 1 "mirrored" P_mirrored (spMi K)) (CRi : Cal P w K mg base 4 "_post_to_the_right" P__post_to_the_right (spRight K)) : Cal P w K mg base 5 "post_at" P_post_at (spPostAt K) := by
  refine D.cal sc_post_at (fun vs H Q E h => ?_) fun f cdv A outer s H vs Q E hr h => ?_
  · obtain ⟨R, _, _, _, _, _, rfl, _⟩ := h
    rfl
  obtain ⟨R, bs, rs, post, index, left, rfl, hR, rns, ok, few, pb, i0, i1, q⟩ := h
  refine ⟨_, (pss_cons (ps_if (pt_not (pt_val (pv 3))) (pss_one (ps_ret (pe_cal CRi (hr.mono (by decide)) (pa_cons (pv 0) (pa_cons (pv 1) (pa_cons (pv 2) pa_nil)))))) pss_nil) (pss_cons (ps_set (i := 4) sc_post_at.nd rfl (Or.inl rfl) (pe_cal CRi (hr.mono (by decide)) (pa_cons (pe_cal CMi (hr.mono (by decide)) (pa_cons (pv 0) pa_nil)) (pa_cons (pe_un un_neg (pv 1)) (pa_cons (pv 2) pa_nil))))) (pss_one (ps_ret (pe_ifExp (pt_cmpR op_isN (pv 4) pe_non (nomark _)) pe_non (pe_un un_neg (pv 4))))))), ?_⟩
  cases left with
  | false =>
    refine ⟨_, rfl, false, rfl, iteT ?_⟩
    refine ⟨_, rfl, _, rfl, _, rfl, R, bs, rs, post, index, rfl, hR, rns, ok, few, pb, i0, i1, fun o H1 nth s1 => ?_⟩
    have z := q o H1 nth s1
    rw [show o.map (sgn false) = o by cases o <;> rfl] at z
    exact z
  | true =>
    refine ⟨_, rfl, true, rfl, iteF ?_⟩
    refine ⟨_, rfl, R, bs, rs, rfl, hR, rns, few, fun R2 ds H1 hR2 rd s1 => ?_⟩
    refine ⟨_, rfl, _, rfl, _, rfl, R2, ds, rs.map mir, -post, index, rfl, hR2, rd, fun r hr => ?_, by rw [List.length_map]; exact few, by omega, i0, i1, fun o H2 nth s2 => ?_⟩
    · obtain ⟨x, hx, rfl⟩ := List.mem_map.mp hr
      have k := ok x hx
      have k1 := k.pb
      have k2 := k.sb
      have k3 := k.sn
      exact ⟨by show -x.s ≠ 0; omega, by show (-x.s).natAbs ≤ _; omega, by show (-x.p).natAbs ≤ _; omega, k.wb, fun kk e => ⟨(k.mb kk e).1, by show ((kk - 1) * -x.s).natAbs ≤ _; rw [Int.mul_neg, Int.natAbs_neg]; exact (k.mb kk e).2⟩⟩
    · have z := q o H2 nth (s1.trans s2)
      refine ⟨_, rfl, rfl, _, rfl, ?_⟩
      cases o with
      | none => exact iteDT rfl z
      | some x => exact iteDF (fun z => by cases z) ⟨_, rfl, _, rfl, z⟩
end
end Ur
/-! PB: counted posts one by one: each post is painted once at most, so that counts grow by one at most. -/
namespace Ur
open PySem PySem.Spec PyProof.Rows L2
/-- the run has the post x -/
def OnRun (p s : Int) (m : Option Int) (x : Int) : Prop := ∃ n, 0 ≤ n ∧ (∀ k, m = some k → n < k) ∧ p + n * s = x
theorem ediv_step {b t : Int} (ht : 0 < t) : (∃ q, b + 1 = q * t ∧ (b + 1) / t = q ∧ b / t = q - 1) ∨ ((∀ q, b + 1 ≠ q * t) ∧ (b + 1) / t = b / t) := by
  have h1 : t * (b / t) + b % t = b := Int.mul_ediv_add_emod b t
  have r0 : 0 ≤ b % t := Int.emod_nonneg b (by omega)
  have r1 : b % t < t := Int.emod_lt_of_pos b ht
  by_cases c : b % t + 1 = t
  · left
    refine ⟨b / t + 1, ?_, ?_, by omega⟩
    · rw [Int.add_mul, Int.one_mul, Int.mul_comm]; omega
    · have e : b + 1 = 0 + (b / t + 1) * t := by rw [Int.add_mul, Int.one_mul, Int.mul_comm (b / t)]; omega
      rw [e, Int.add_mul_ediv_right _ _ (by omega), Int.zero_ediv, Int.zero_add]
  · right
    have e : b + 1 = (b % t + 1) + (b / t) * t := by rw [Int.mul_comm (b / t)]; omega
    have z : (b % t + 1) / t = 0 := Int.ediv_eq_zero_of_lt (by omega) (by omega)
    have d : (b + 1) / t = b / t := by rw [e, Int.add_mul_ediv_right _ _ (by omega), z, Int.zero_add]
    refine ⟨fun q hq => ?_, d⟩
    have m1 : (b + 1) % t = 0 := by rw [hq]; exact Int.mul_emod_left q t
    have m2 : (b + 1) % t = b % t + 1 := by rw [e, Int.add_mul_emod_self_right, Int.emod_eq_of_lt (by omega) (by omega)]
    omega
/-- one post more -/
theorem runIn_step {p s f x : Int} {m : Option Int} (sn : s ≠ 0) (h : f ≤ x + 1) : (OnRun p s m (x + 1) ∧ runIn p s m f (x + 1) = runIn p s m f x + 1) ∨ (¬ OnRun p s m (x + 1) ∧ runIn p s m f (x + 1) = runIn p s m f x) := by
  by_cases c : s < 0
  · have t0 : 0 < -s := by omega
    have key : ∀ l, runIn p s m f l = max 0 (nbM (-p) (-s) (-f) m - max 0 (-((l - p) / -s)) + 1) := fun l => by
      unfold runIn
      rw [if_pos c]
      unfold nbL
      rw [show -p - -l = l - p by omega]
    have hM : ∀ q, x + 1 - p = q * -s → -q ≤ (p - f) / -s := fun q hq => (Int.le_ediv_iff_mul_le t0).mpr (by rw [Int.neg_mul]; omega)
    rw [key, key]
    rcases ediv_step (b := x - p) t0 with ⟨q, e1, e2, e3⟩ | ⟨e1, e2⟩
    · have e1' : x + 1 - p = q * -s := by omega
      have e2' : (x + 1 - p) / -s = q := by rw [show x + 1 - p = x - p + 1 by omega]; exact e2
      have hq := hM q e1'
      have onI : OnRun p s m (x + 1) ↔ 0 ≤ -q ∧ ∀ k, m = some k → -q < k := by
        constructor
        · rintro ⟨n, n0, nk, e⟩
          have : n = -q := by
            have z : n * s = -q * s := by rw [Int.neg_mul, ← Int.mul_neg]; omega
            exact Int.eq_of_mul_eq_mul_right sn z
          subst this
          exact ⟨n0, nk⟩
        · rintro ⟨a, b⟩
          refine ⟨-q, a, b, ?_⟩
          rw [Int.neg_mul, ← Int.mul_neg]; omega
      rw [e2', e3, onI]
      cases m with
      | none =>
        have eM : nbM (-p) (-s) (-f) none = (p - f) / -s := by show (-f - -p) / -s = _; rw [show -f - -p = p - f by omega]
        rw [eM]
        by_cases z : 0 ≤ -q
        · exact .inl ⟨⟨z, fun k e => by cases e⟩, by omega⟩
        · exact .inr ⟨fun w => z w.1, by omega⟩
      | some k =>
        have eM : nbM (-p) (-s) (-f) (some k) = min ((p - f) / -s) (k - 1) := by show min ((-f - -p) / -s) (k - 1) = _; rw [show -f - -p = p - f by omega]
        rw [eM]
        by_cases z : 0 ≤ -q ∧ -q < k
        · exact .inl ⟨⟨z.1, fun k' e => by obtain rfl := Option.some.inj e; exact z.2⟩, by omega⟩
        · exact .inr ⟨fun w => z ⟨w.1, w.2 k rfl⟩, by omega⟩
    · have e2' : (x + 1 - p) / -s = (x - p) / -s := by rw [show x + 1 - p = x - p + 1 by omega]; exact e2
      rw [e2']
      refine .inr ⟨?_, rfl⟩
      rintro ⟨n, n0, nk, e⟩
      refine e1 (-n) ?_
      rw [Int.neg_mul_neg]; omega
  · have t0 : 0 < s := by omega
    have key : ∀ l, runIn p s m f l = max 0 (nbM p s l m - max 0 (-((p - f) / s)) + 1) := fun l => by
      unfold runIn
      rw [if_neg c]
      rfl
    have hL : ∀ q, x + 1 - p = q * s → -((p - f) / s) ≤ q := fun q hq => by
      have : -q ≤ (p - f) / s := (Int.le_ediv_iff_mul_le t0).mpr (by rw [Int.neg_mul]; omega)
      omega
    rw [key, key]
    rcases ediv_step (b := x - p) t0 with ⟨q, e1, e2, e3⟩ | ⟨e1, e2⟩
    · have e1' : x + 1 - p = q * s := by omega
      have e2' : (x + 1 - p) / s = q := by rw [show x + 1 - p = x - p + 1 by omega]; exact e2
      have hq := hL q e1'
      have onI : OnRun p s m (x + 1) ↔ 0 ≤ q ∧ ∀ k, m = some k → q < k := by
        constructor
        · rintro ⟨n, n0, nk, e⟩
          have : n = q := Int.eq_of_mul_eq_mul_right sn (by omega)
          subst this
          exact ⟨n0, nk⟩
        · rintro ⟨a, b⟩
          exact ⟨q, a, b, by omega⟩
      rw [onI]
      cases m with
      | none =>
        show (_ ∧ max 0 ((x + 1 - p) / s - _ + 1) = max 0 ((x - p) / s - _ + 1) + 1) ∨ (_ ∧ max 0 ((x + 1 - p) / s - _ + 1) = max 0 ((x - p) / s - _ + 1))
        rw [e2', e3]
        by_cases z : 0 ≤ q
        · exact .inl ⟨⟨z, fun k e => by cases e⟩, by omega⟩
        · exact .inr ⟨fun w => z w.1, by omega⟩
      | some k =>
        show (_ ∧ max 0 (min ((x + 1 - p) / s) (k - 1) - _ + 1) = max 0 (min ((x - p) / s) (k - 1) - _ + 1) + 1) ∨ (_ ∧ max 0 (min ((x + 1 - p) / s) (k - 1) - _ + 1) = max 0 (min ((x - p) / s) (k - 1) - _ + 1))
        rw [e2', e3]
        by_cases z : 0 ≤ q ∧ q < k
        · exact .inl ⟨⟨z.1, fun k' e => by obtain rfl := Option.some.inj e; exact z.2⟩, by omega⟩
        · exact .inr ⟨fun w => z ⟨w.1, w.2 k rfl⟩, by omega⟩
    · have e2' : (x + 1 - p) / s = (x - p) / s := by rw [show x + 1 - p = x - p + 1 by omega]; exact e2
      have eM : nbM p s (x + 1) m = nbM p s x m := by
        cases m with
        | none => exact e2'
        | some k => show min ((x + 1 - p) / s) (k - 1) = min ((x - p) / s) (k - 1); rw [e2']
      rw [eM]
      refine .inr ⟨?_, rfl⟩
      rintro ⟨n, n0, nk, e⟩
      exact e1 n (by omega)
/-- no post in an interval without posts -/
theorem runIn_empty {p s f l : Int} {m : Option Int} (sn : s ≠ 0) (h : l < f) : runIn p s m f l = 0 := by
  have key : ∀ {p s f l : Int}, 0 < s → l < f → max 0 (nbM p s l m - nbL p s f + 1) = 0 := fun {p s f l} t0 h => by
    have a : nbM p s l m ≤ (l - p) / s := by
      cases m with
      | none => exact Int.le_refl _
      | some m => exact Int.min_le_left ..
    have b : -((p - f) / s) ≤ nbL p s f := Int.le_max_right ..
    have c : (l - p) / s < -((p - f) / s) := by
      have h1 := Int.ediv_mul_le (l - p) (b := s) (by omega)
      have h2 := Int.ediv_mul_le (p - f) (b := s) (by omega)
      have h3 : ((l - p) / s + (p - f) / s) * s < 0 := by rw [Int.add_mul]; omega
      have h4 : (l - p) / s + (p - f) / s < 0 := by
        by_cases z : 0 ≤ (l - p) / s + (p - f) / s
        · have := Int.mul_nonneg z (show 0 ≤ s by omega)
          omega
        · omega
      omega
    omega
  unfold runIn
  by_cases c : s < 0
  · rw [if_pos c]
    exact key (by omega) (by omega)
  · rw [if_neg c]
    exact key (by omega) h
theorem sum_pairs {F G : Nat → Int} {Q : Nat → Prop} : ∀ n, (∀ j, j < n → (Q j ∧ F j = G j + 1) ∨ (¬ Q j ∧ F j = G j)) → (∀ i j, i < n → j < n → Q i → Q j → i = j) →
    ((∃ j, j < n ∧ Q j) ∧ ((List.range n).map F).sum = ((List.range n).map G).sum + 1) ∨ ((∀ j, j < n → ¬ Q j) ∧ ((List.range n).map F).sum = ((List.range n).map G).sum)
  | 0, _, _ => .inr ⟨fun j hj => absurd hj (Nat.not_lt_zero j), rfl⟩
  | n + 1, h, u => by
    have ih := sum_pairs (F := F) (G := G) (Q := Q) n (fun j hj => h j (by omega)) fun i j hi hj => u i j (by omega) (by omega)
    have hn := h n (Nat.lt_succ_self n)
    rw [List.range_succ, List.map_append, List.map_append, List.sum_append, List.sum_append]
    simp only [List.map_cons, List.map_nil, List.sum_cons, List.sum_nil]
    rcases ih with ⟨⟨j, hj, qj⟩, e⟩ | ⟨no, e⟩
    · rcases hn with ⟨qn, en⟩ | ⟨qn, en⟩
      · have := u j n (by omega) (by omega) qj qn
        omega
      · exact .inl ⟨⟨j, by omega, qj⟩, by omega⟩
    · rcases hn with ⟨qn, en⟩ | ⟨qn, en⟩
      · exact .inl ⟨⟨n, Nat.lt_succ_self n, qn⟩, by omega⟩
      · refine .inr ⟨fun j hj => ?_, by omega⟩
        by_cases z : j = n
        · subst z; exact qn
        · exact no j (by omega)
/-- how the number of counted posts grows with each post -/
theorem grow {A : Int → Int} {f : Int} (z : ∀ x, x < f → A x = 0) (st : ∀ x, f ≤ x + 1 → A x ≤ A (x + 1) ∧ A (x + 1) ≤ A x + 1) : ∀ (n : Nat) (x : Int), A x ≤ A (x + n) ∧ A (x + n) ≤ A x + n
  | 0, x => by rw [Int.natCast_zero, Int.add_zero, Int.add_zero]; omega
  | n + 1, x => by
    have ih := grow z st n x
    have e : x + ((n + 1 : Nat) : Int) = x + n + 1 := by omega
    rw [e]
    by_cases c : f ≤ x + n + 1
    · have := st (x + n) c
      omega
    · have a := z (x + n) (by omega)
      have b := z (x + n + 1) (by omega)
      omega
theorem grow_le {A : Int → Int} {f x y : Int} (z : ∀ x, x < f → A x = 0) (st : ∀ x, f ≤ x + 1 → A x ≤ A (x + 1) ∧ A (x + 1) ≤ A x + 1) (h : x ≤ y) : A x ≤ A y ∧ A y ≤ A x + (y - x) := by
  have g := grow z st (y - x).toNat x
  rw [show x + (((y - x).toNat : Nat) : Int) = y by omega] at g
  omega
theorem byC_paints {day : Option Int} {d n : Int} {c : Option Int} (h : ∀ k, byC day d c = some k → n < k) (n0 : 0 ≤ n) : ∀ k, c = some k → n < k := by
  rintro k rfl
  cases day with
  | none => exact h k rfl
  | some t =>
    have := h (min (max 0 (t - d + 1)) k) rfl
    omega
/-- by a day no post is painted twice -/
theorem on_once {qs : List Quad} {C : Nat → Option Int} {day : Option Int} {x : Int} (h : IsHist qs.length (dQ qs) (fSP qs) C) {i j : Nat} (hi : i < qs.length) (hj : j < qs.length) (a : OnRun (pQ qs i) (sQ qs i) (byC day (dQ qs i) (C i)) x) (b : OnRun (pQ qs j) (sQ qs j) (byC day (dQ qs j) (C j)) x) : i = j := by
  obtain ⟨n, n0, nk, e1⟩ := a
  obtain ⟨m, m0, mk, e2⟩ := b
  exact paint_once h hi hj n0 m0 (byC_paints nk n0) (byC_paints mk m0) (e1.trans e2.symm) (e2.trans e1.symm)
/-- how many posts from f to l are painted by a day, by the numbers of posts -/
def pntN (qs : List Quad) (Cn : Nat → Option Int) (day : Option Int) (f l : Int) (n : Nat) : Int := ((List.range n).map fun j => runIn (pQ qs j) (sQ qs j) (byC day (dQ qs j) (Cn j)) f l).sum
theorem pntN_snoc {qs : List Quad} {Cn : Nat → Option Int} {day : Option Int} {f l : Int} {n : Nat} : pntN qs Cn day f l (n + 1) = pntN qs Cn day f l n + runIn (pQ qs n) (sQ qs n) (byC day (dQ qs n) (Cn n)) f l := by
  unfold pntN
  rw [List.range_succ, List.map_append, List.sum_append]
  simp only [List.map_cons, List.map_nil, List.sum_cons, List.sum_nil]
  omega
/-- the post x is painted by a day -/
def PaintedBy (qs : List Quad) (C : Nat → Option Int) (day : Option Int) (x : Int) : Prop := ∃ j, j < qs.length ∧ OnRun (pQ qs j) (sQ qs j) (byC day (dQ qs j) (C j)) x
theorem pnt_step {qs : List Quad} {C : Nat → Option Int} {day : Option Int} {f x : Int} (h : IsHist qs.length (dQ qs) (fSP qs) C) (sn : ∀ q ∈ qs, q.2.2.2 ≠ 0) (hf : f ≤ x + 1) :
    (PaintedBy qs C day (x + 1) ∧ pntN qs C day f (x + 1) qs.length = pntN qs C day f x qs.length + 1) ∨ (¬ PaintedBy qs C day (x + 1) ∧ pntN qs C day f (x + 1) qs.length = pntN qs C day f x qs.length) := by
  have s := sum_pairs (F := fun j => runIn (pQ qs j) (sQ qs j) (byC day (dQ qs j) (C j)) f (x + 1)) (G := fun j => runIn (pQ qs j) (sQ qs j) (byC day (dQ qs j) (C j)) f x) (Q := fun j => OnRun (pQ qs j) (sQ qs j) (byC day (dQ qs j) (C j)) (x + 1)) qs.length (fun j hj => by
    obtain ⟨_, _, _, a4⟩ := q_at (List.getElem?_eq_getElem hj)
    exact runIn_step (by rw [a4]; exact sn _ (List.getElem_mem hj)) hf) fun i j hi hj => on_once h hi hj
  rcases s with ⟨⟨j, hj, o⟩, e⟩ | ⟨no, e⟩
  · exact .inl ⟨⟨j, hj, o⟩, e⟩
  · exact .inr ⟨fun ⟨j, hj, o⟩ => no j hj o, e⟩
theorem pnt_none {qs : List Quad} {C : Nat → Option Int} {day : Option Int} {f x : Int} (sn : ∀ q ∈ qs, q.2.2.2 ≠ 0) (h : x < f) : ∀ n, n ≤ qs.length → pntN qs C day f x n = 0
  | 0, _ => rfl
  | n + 1, hn => by
    obtain ⟨_, _, _, a4⟩ := q_at (List.getElem?_eq_getElem (show n < qs.length from hn))
    rw [pntN_snoc, pnt_none sn h n (by omega), runIn_empty (by rw [a4]; exact sn _ (List.getElem_mem _)) h]
    rfl
/-- counts of posts grow by one at most with each post -/
theorem pnt_grow {qs : List Quad} {C : Nat → Option Int} {day : Option Int} {f x y : Int} (h : IsHist qs.length (dQ qs) (fSP qs) C) (sn : ∀ q ∈ qs, q.2.2.2 ≠ 0) (hxy : x ≤ y) : pntN qs C day f x qs.length ≤ pntN qs C day f y qs.length ∧ pntN qs C day f y qs.length ≤ pntN qs C day f x qs.length + (y - x) :=
  grow_le (A := fun z => pntN qs C day f z qs.length) (f := f) (fun z hz => pnt_none sn hz _ (Nat.le_refl _)) (fun z hz => by
    have := pnt_step (day := day) h sn hz
    show pntN qs C day f z qs.length ≤ pntN qs C day f (z + 1) qs.length ∧ pntN qs C day f (z + 1) qs.length ≤ pntN qs C day f z qs.length + 1
    omega) hxy
/-- the posts that a run without an end has, one beside the other -/
theorem run_all1 {f x : Int} (h : f ≤ x + 1) : runIn f 1 none f x = x - f + 1 := by
  show (if (1 : Int) < 0 then _ else max 0 ((x - f) / 1 - max 0 (-((f - f) / 1)) + 1)) = _
  rw [if_neg (by decide), Int.ediv_one, Int.ediv_one]
  omega
theorem hist_cntR {qs : List Quad} {rs : List Rw} (h : HistR qs (fSP qs) rs) : IsHist qs.length (dQ qs) (fSP qs) (cntR rs) := by
  obtain ⟨Cn, Bn, hc, rfl⟩ := h
  have e : ∀ j, j < qs.length → cntR ((List.range qs.length).map (rowQ qs Cn Bn)) j = Cn j := fun j hj => by
    unfold cntR
    rw [List.getElem?_map, List.getElem?_range hj]
    rfl
  intro i hi
  have z : HBlk qs.length (dQ qs) (fSP qs) (cntR ((List.range qs.length).map (rowQ qs Cn Bn))) i = HBlk qs.length (dQ qs) (fSP qs) Cn i := funext fun n => propext ⟨fun ⟨j, hj, b⟩ => ⟨j, hj, by rw [← e j hj]; exact b⟩, fun ⟨j, hj, b⟩ => ⟨j, hj, by rw [e j hj]; exact b⟩⟩
  rw [z, e i hi]
  exact hc.is i hi
end Ur
/-! MC: painter_of. -/
namespace Ur
open PySem PySem.Spec PyProof.Rows L2
end Ur
/-! HS: what stays of a fence while the pen moves; lists of names as data. -/
namespace Ur
open PySem PySem.Spec PyProof.Rows L2
end Ur
/-! NA: painters moved along, turned and widened: their history. -/
namespace Ur
open PySem PySem.Spec PyProof.Rows L2
def mvQ (f p w : Int) (x : Quad) : Quad := (x.1, x.2.1 + w, f * x.2.2.1 + p, f * x.2.2.2)
theorem mvQ_at {qs : List Quad} {f p w : Int} {i : Nat} (hi : i < qs.length) : nQ (qs.map (mvQ f p w)) i = nQ qs i ∧ dQ (qs.map (mvQ f p w)) i = dQ qs i + w ∧ pQ (qs.map (mvQ f p w)) i = f * pQ qs i + p ∧ sQ (qs.map (mvQ f p w)) i = f * sQ qs i := by
  have e : qs[i]? = some qs[i] := List.getElem?_eq_getElem hi
  have e' : (qs.map (mvQ f p w))[i]? = some (mvQ f p w qs[i]) := by rw [List.getElem?_map, e]; rfl
  obtain ⟨a1, a2, a3, a4⟩ := q_at e
  obtain ⟨b1, b2, b3, b4⟩ := q_at e'
  rw [a1, a2, a3, a4, b1, b2, b3, b4]
  exact ⟨rfl, rfl, rfl, rfl⟩
theorem lin_mv {f b p s q t n m : Int} (hf : f ≠ 0) : f * p + b + n * (f * s) = f * q + b + m * (f * t) ↔ p + n * s = q + m * t := by
  have e1 : f * p + b + n * (f * s) = f * (p + n * s) + b := by rw [Int.mul_add, Int.mul_left_comm n f s]; omega
  have e2 : f * q + b + m * (f * t) = f * (q + m * t) + b := by rw [Int.mul_add, Int.mul_left_comm m f t]; omega
  rw [e1, e2]
  constructor
  · intro h
    exact Int.eq_of_mul_eq_mul_left hf (by omega)
  · intro h
    rw [h]
section
variable {qs : List Quad} {f p w : Int}
theorem fSP_mv (hf : f ≠ 0) {i j : Nat} (hi : i < qs.length) (hj : j < qs.length) {n m : Int} : fSP (qs.map (mvQ f p w)) i n j m ↔ fSP qs i n j m := by
  unfold fSP
  obtain ⟨_, _, a3, a4⟩ := mvQ_at (f := f) (p := p) (w := w) hi
  obtain ⟨_, _, b3, b4⟩ := mvQ_at (f := f) (p := p) (w := w) hj
  rw [a3, a4, b3, b4]
  exact lin_mv hf
theorem histC_mv (hf : f ≠ 0) {Cn : Nat → Option Int} {Bn : Nat → Nat} (h : HistC qs.length (dQ qs) (fSP qs) Cn Bn) : HistC qs.length (dQ (qs.map (mvQ f p w))) (fSP (qs.map (mvQ f p w))) Cn Bn := by
  have dd : ∀ {i : Nat}, i < qs.length → dQ (qs.map (mvQ f p w)) i = dQ qs i + w := fun hi => (mvQ_at hi).2.1
  refine ⟨fun i hi => Least.congr (fun n n0 => ?_) (h.is i hi), fun i c hi e => ?_, h.bd⟩
  · constructor
    · rintro ⟨j, hj, m, m0, sp, lt, o⟩
      exact ⟨j, hj, m, m0, (fSP_mv hf hi hj).mpr sp, lt, by rw [dd hi, dd hj]; omega⟩
    · rintro ⟨j, hj, m, m0, sp, lt, o⟩
      exact ⟨j, hj, m, m0, (fSP_mv hf hi hj).mp sp, lt, by rw [dd hi, dd hj] at o; omega⟩
  · obtain ⟨b0, m, m0, sp, pj⟩ := h.bl i c hi e
    exact ⟨b0, m, m0, (fSP_mv hf hi b0).mpr sp, pj⟩
def sentR (f p w : Int) (r : Rw) : Rw := ⟨r.nm, r.cnt, match r.stop with | none => none | some (d, q, b) => some (d + w, f * q + p, b)⟩
theorem histR_mv (hf : f ≠ 0) {rs : List Rw} (h : HistR qs (fSP qs) rs) : HistR (qs.map (mvQ f p w)) (fSP (qs.map (mvQ f p w))) (rs.map (sentR f p w)) := by
  obtain ⟨Cn, Bn, hc, rfl⟩ := h
  refine ⟨Cn, Bn, by rw [List.length_map]; exact histC_mv hf hc, ?_⟩
  rw [List.length_map, List.map_map]
  refine List.map_congr_left fun i hi => ?_
  have hi := List.mem_range.mp hi
  obtain ⟨a1, a2, a3, a4⟩ := mvQ_at (f := f) (p := p) (w := w) hi
  show sentR f p w (rowQ qs Cn Bn i) = rowQ (qs.map (mvQ f p w)) Cn Bn i
  unfold rowQ sentR
  rw [a1, a2, a3, a4]
  cases e : Cn i with
  | none => rfl
  | some c =>
    obtain ⟨b1, _, _, _⟩ := mvQ_at (f := f) (p := p) (w := w) (hc.bl i c hi e).1
    show (⟨nQ qs i, some c, some (dQ qs i + c + w, f * (pQ qs i + c * sQ qs i) + p, nQ qs (Bn i))⟩ : Rw) = ⟨nQ qs i, some c, some (dQ qs i + w + c, f * pQ qs i + p + c * (f * sQ qs i), nQ (qs.map (mvQ f p w)) (Bn i))⟩
    rw [b1, Int.mul_add, Int.mul_left_comm f c (sQ qs i), show dQ qs i + c + w = dQ qs i + w + c by omega, show f * pQ qs i + c * (f * sQ qs i) + p = f * pQ qs i + p + c * (f * sQ qs i) by omega]
theorem cntR_mv {rs : List Rw} {i : Nat} : cntR (rs.map (sentR f p w)) i = cntR rs i := by
  unfold cntR
  rw [List.getElem?_map]
  cases rs[i]? with
  | none => rfl
  | some r => rfl
end
end Ur
/-! HR: how far away a stop can be. -/
namespace Ur
open PySem PySem.Spec PyProof.Rows L2
theorem meet_same {a b n m g D : Int} (a0 : 0 < a) (a1 : a ≤ 10 ^ 18) (b0 : 0 < b) (b1 : b ≤ 10 ^ 18) (g0 : -(2 * 10 ^ 30) ≤ g) (g1 : g ≤ 2 * 10 ^ 30) (D0 : -(10 ^ 30) ≤ D) (D1 : D ≤ 10 ^ 30 + 1) (m0 : 0 ≤ m) (e : n * a - m * b = g) (late : D ≤ n - m)
    (least : ∀ n' m', 0 ≤ n' → n' < n → 0 ≤ m' → m' ≤ m → n' * a - m' * b = g → ¬ D ≤ n' - m') : n ≤ 10 ^ 50 := by
  rcases Int.lt_or_le (10 ^ 50) n with big | ok
  · exfalso
    have na : n ≤ n * a := by
      have := Int.mul_le_mul_of_nonneg_left (show (1 : Int) ≤ a by omega) (show 0 ≤ n by omega)
      omega
    rcases Int.lt_or_le m a with c | c
    · have mb := mul_bd (a := m) (b := b) (A := 10 ^ 18) (B := 10 ^ 18) m0 (by omega) (by omega) b1 (by decide)
      omega
    · have e2 : (n - b) * a - (m - a) * b = g := by
        rw [Int.sub_mul, Int.sub_mul, Int.mul_comm a b]
        omega
      have nl := least (n - b) (m - a) (by omega) (by omega) (by omega) (by omega) e2
      have ab : a < b := by omega
      have wb := mul_bd (a := b) (b := n - m) (A := 10 ^ 18) (B := 10 ^ 31) (by omega) b1 (by omega) (by omega) (by decide)
      have e3 : n * (b - a) = b * (n - m) - g := by
        rw [Int.mul_sub, Int.mul_sub, Int.mul_comm b n, Int.mul_comm b m]
        omega
      have nb : n ≤ n * (b - a) := by
        have := Int.mul_le_mul_of_nonneg_left (show (1 : Int) ≤ b - a by omega) (show 0 ≤ n by omega)
        omega
      omega
  · exact ok
theorem meet_bd {p s q t n m D : Int} (p0 : -(10 ^ 30) ≤ p) (p1 : p ≤ 10 ^ 30) (q0 : -(10 ^ 30) ≤ q) (q1 : q ≤ 10 ^ 30) (s0 : -(10 ^ 18) ≤ s) (s1 : s ≤ 10 ^ 18) (sz : s ≠ 0) (t0 : -(10 ^ 18) ≤ t) (t1 : t ≤ 10 ^ 18) (tz : t ≠ 0) (D0 : -(10 ^ 30) ≤ D) (D1 : D ≤ 10 ^ 30 + 1)
    (n0 : 0 ≤ n) (m0 : 0 ≤ m) (e : p + n * s = q + m * t) (late : D ≤ n - m) (least : ∀ n' m', 0 ≤ n' → n' < n → 0 ≤ m' → m' ≤ m → p + n' * s = q + m' * t → ¬ D ≤ n' - m') : n ≤ 10 ^ 50 := by
  have mono : ∀ {u v : Int}, 0 ≤ u → 0 < v → u ≤ u * v := fun {u v} h0 h1 => by
    have := Int.mul_le_mul_of_nonneg_left (show (1 : Int) ≤ v by omega) h0
    omega
  have nn : ∀ u v : Int, u * (0 - v) = 0 - u * v := fun u v => by rw [Int.mul_sub, Int.mul_zero]
  rcases Int.lt_or_le 0 s with hs | hs
  · rcases Int.lt_or_le 0 t with ht | ht
    · exact meet_same (a := s) (b := t) (g := q - p) hs s1 ht t1 (by omega) (by omega) D0 D1 m0 (by omega) late fun n' m' a1 a2 a3 a4 a5 => least n' m' a1 a2 a3 a4 (by omega)
    · have e2 := nn m t
      have h1 := mono n0 hs
      have h2 := Int.mul_nonneg m0 (show 0 ≤ 0 - t by omega)
      omega
  · rcases Int.lt_or_le 0 t with ht | ht
    · have e2 := nn n s
      have h1 := mono n0 (show 0 < 0 - s by omega)
      have h2 := Int.mul_nonneg m0 (show 0 ≤ t by omega)
      omega
    · exact meet_same (a := 0 - s) (b := 0 - t) (g := p - q) (by omega) (by omega) (by omega) (by omega) (by omega) (by omega) D0 D1 m0 (by rw [nn, nn]; omega) late fun n' m' a1 a2 a3 a4 a5 => least n' m' a1 a2 a3 a4 (by rw [nn, nn] at a5; omega)
/-- the number of posts that a painter paints, if it stops -/
theorem hist_cnt {qs : List Quad} {Cn : Nat → Option Int} {Bn : Nat → Nat} (ok : ∀ q ∈ qs, QuadOk q) (h : HistC qs.length (dQ qs) (fSP qs) Cn Bn) {i : Nat} {c : Int} (hi : i < qs.length) (e : Cn i = some c) : 0 ≤ c ∧ c ≤ 10 ^ 50 := by
  have l := h.is i hi
  rw [e] at l
  obtain ⟨c0, ⟨j, hj, m, m0, sp, lt, o⟩, least⟩ := l
  have gi : qs[i]? = some qs[i] := List.getElem?_eq_getElem hi
  have gj : qs[j]? = some qs[j] := List.getElem?_eq_getElem hj
  have ki : QuadOk qs[i] := ok _ (List.getElem_mem hi)
  have kj : QuadOk qs[j] := ok _ (List.getElem_mem hj)
  obtain ⟨_, d1, d2, d3⟩ := q_at gi
  obtain ⟨_, d4, d5, d6⟩ := q_at gj
  have i1 := ki.d0; have i2 := ki.d1; have i3 := ki.p0; have i4 := ki.p1; have i5 := ki.s0; have i6 := ki.s1; have i7 := ki.sn
  have j1 := kj.d0; have j2 := kj.d1; have j3 := kj.p0; have j4 := kj.p1; have j5 := kj.s0; have j6 := kj.s1; have j7 := kj.sn
  refine ⟨c0, ?_⟩
  obtain ⟨D, hD⟩ : ∃ D : Int, D = dQ qs j - dQ qs i + (if j < i then 0 else 1) := ⟨_, rfl⟩
  have lat : ∀ n k : Int, (dQ qs j + k < dQ qs i + n ∨ dQ qs j + k = dQ qs i + n ∧ j < i) ↔ D ≤ n - k := fun n k => by
    rw [hD]
    split
    · constructor
      · intro z; omega
      · intro z; omega
    · constructor
      · intro z; omega
      · intro z; omega
  have Db : -(10 ^ 30) ≤ D ∧ D ≤ 10 ^ 30 + 1 := by
    rw [hD, d1, d4]
    split <;> omega
  refine meet_bd (p := pQ qs i) (s := sQ qs i) (q := pQ qs j) (t := sQ qs j) (D := D) (by omega) (by omega) (by omega) (by omega) (by omega) (by omega) (by rw [d3]; exact i7) (by omega) (by omega) (by rw [d6]; exact j7) Db.1 Db.2 c0 m0 sp ((lat _ _).mp o) fun n' m' a1 a2 a3 a4 a5 a6 => ?_
  exact least n' a1 a2 ⟨j, hj, m', a3, a5, fun x ex => by have := lt x ex; omega, (lat _ _).mpr a6⟩
end Ur
/-! WA: the least day by which so many posts are painted (_least_day, day_of_count). -/
namespace Ur
open PySem PySem.Spec PyProof.Rows L2
end Ur
/-! PD: the posts of a fence that are not painted, one after the other (check_place, unpainted_from), and the day of all posts. -/
namespace Ur
open PySem PySem.Spec PyProof.Rows L2
def sideQ (left : Bool) (qs : List Quad) : List Quad := if left then qs.map (mvQ (-1) 0 0) else qs
def mirP (x : Pt) : Pt := ⟨x.a, x.nm, x.d, -x.p, -x.s⟩
theorem parts_mir (L : List Pt) : partsOf (L.map mirP) = (partsOf L).map (mvQ (-1) 0 0) := by
  unfold partsOf
  rw [List.map_map, List.map_map]
  refine List.map_congr_left fun x _ => ?_
  show ((x.nm, x.d, -x.p, -x.s) : Quad) = (x.nm, x.d + 0, -1 * x.p + 0, -1 * x.s)
  rw [Int.add_zero, Int.add_zero, Int.neg_one_mul, Int.neg_one_mul]
theorem rns_mir (L : List Pt) (cs : List (Option Int)) (n : Nat) : (rnsOf L cs n).map mir = rnsOf (L.map mirP) cs n := by
  unfold rnsOf
  rw [List.map_filterMap]
  congr 1
  funext i
  rw [List.getElem?_map]
  cases L[i]? with
  | none => rfl
  | some x =>
    cases cs[i]? with
    | none => rfl
    | some c =>
      by_cases z : c = some 0
      · subst z; rfl
      · show Option.map mir (if c = some 0 then none else some (⟨1, x.p, x.s, c⟩ : Rn)) = if c = some 0 then none else some (⟨1, -x.p, -x.s, c⟩ : Rn)
        rw [if_neg z, if_neg z]
        rfl
theorem bys_mir (day : Option Int) (L : List Pt) (cs : List (Option Int)) : bysC day (L.map mirP) cs = bysC day L cs := by
  unfold bysC
  rw [List.zipWith_map_left]
  rfl
theorem rns_memC {L : List Pt} {cs : List (Option Int)} {n : Nat} {r : Rn} (h : r ∈ rnsOf L cs n) : ∃ (i : Nat) (x : Pt) (c : Option Int), L[i]? = some x ∧ cs[i]? = some c ∧ r = ⟨1, x.p, x.s, c⟩ := by
  obtain ⟨i, _, e⟩ := List.mem_filterMap.mp h
  cases h1 : L[i]? with
  | none => rw [h1] at e; cases e
  | some x =>
    cases h2 : cs[i]? with
    | none => rw [h1, h2] at e; cases e
    | some c =>
      rw [h1, h2] at e
      by_cases z : c = some 0
      · simp [z] at e
      · simp only [if_neg z] at e
        exact ⟨i, x, c, h1, h2, (Option.some.inj e).symm⟩
theorem cntR_bd {qs : List Quad} {rs : List Rw} (ok : ∀ q ∈ qs, QuadOk q) (h : HistR qs (fSP qs) rs) {i : Nat} {c : Int} (hi : i < qs.length) (e : cntR rs i = some c) : 0 ≤ c ∧ c ≤ 10 ^ 50 := by
  obtain ⟨Cn, Bn, hc, rfl⟩ := h
  have z : cntR ((List.range qs.length).map (rowQ qs Cn Bn)) i = Cn i := by
    unfold cntR
    rw [List.getElem?_map, List.getElem?_range hi]
    rfl
  rw [z] at e
  exact hist_cnt ok hc hi e
/-- the runs of what is painted by a day -/
def dayRns (L : List Pt) (rs : List Rw) (day : Option Int) : List Rn := rnsOf L (bysC day L ((List.range L.length).map (cntR rs))) L.length
theorem day_sum {L : List Pt} {rs : List Rw} {day : Option Int} {f l : Int} : sumIn (dayRns L rs day) f l = paintN (partsOf L) rs day f l := by
  unfold dayRns
  rw [rns_sum (by unfold bysC; rw [List.length_zipWith, List.length_map, List.length_range, Nat.min_self]), all_paint]
theorem side_sum {L : List Pt} {rs : List Rw} {day : Option Int} {f l : Int} {left : Bool} : sumIn (sideR left (dayRns L rs day)) f l = paintN (sideQ left (partsOf L)) rs day f l := by
  cases left with
  | false => exact day_sum
  | true =>
    show sumIn ((dayRns L rs day).map mir) f l = paintN ((partsOf L).map (mvQ (-1) 0 0)) rs day f l
    have e : (dayRns L rs day).map mir = dayRns (L.map mirP) rs day := by
      unfold dayRns
      rw [rns_mir, bys_mir, List.length_map]
    rw [e, day_sum, parts_mir]
theorem sum_wgt {rs : List Rn} {f l : Int} : sumIn (rs.map (wgt (-1))) f l = -sumIn rs f l := by
  induction rs with
  | nil => rfl
  | cons r rs ih =>
    have e1 : sumIn ((r :: rs).map (wgt (-1))) f l = r.w * -1 * runIn r.p r.s r.m f l + sumIn (rs.map (wgt (-1))) f l := rfl
    have e2 : sumIn (r :: rs) f l = r.w * runIn r.p r.s r.m f l + sumIn rs f l := rfl
    rw [e1, e2, ih, Int.mul_neg, Int.mul_one, Int.neg_mul]
    omega
theorem out_sum {rs : List Rn} {post x : Int} {left : Bool} (h : sgn left post ≤ x + 1) : sumIn (sideR left (outR rs post left)) (sgn left post) x = x - sgn left post + 1 - sumIn (sideR left rs) (sgn left post) x := by
  cases left with
  | false =>
    have h : post ≤ x + 1 := h
    show 1 * runIn post 1 none post x + sumIn (rs.map (wgt (-1))) post x = x - post + 1 - sumIn rs post x
    rw [run_all1 h, sum_wgt]
    omega
  | true =>
    have h : -post ≤ x + 1 := h
    have e : (rs.map (wgt (-1))).map mir = (rs.map mir).map (wgt (-1)) := by
      rw [List.map_map, List.map_map]
      rfl
    show 1 * runIn (-post) (- -1) none (-post) x + sumIn ((rs.map (wgt (-1))).map mir) (-post) x = x - -post + 1 - sumIn (rs.map mir) (-post) x
    rw [show (- -1 : Int) = 1 by decide, run_all1 h, e, sum_wgt]
    omega
theorem Nth.congr {c1 c2 : Int → Int} {post high index : Int} {o : Option Int} (e : ∀ x, post ≤ x → c1 x = c2 x) (hp : post ≤ high) (h : Nth c1 post high index o) : Nth c2 post high index o := by
  cases o with
  | none =>
    have h : c1 high ≤ index := h
    rw [e _ hp] at h
    exact h
  | some x =>
    obtain ⟨a, b, c, d⟩ := h
    refine ⟨a, b, by rw [← e _ a]; exact c, ?_⟩
    rcases d with d | d
    · exact .inl d
    · by_cases z : x = post
      · exact .inl z
      · exact .inr (by rw [← e _ (by omega)]; exact d)
/-- what a search for a post that is not painted gives -/
def RawF (left : Bool) (L : List Pt) (rs : List Rw) (day : Option Int) (post index : Int) (o : Option Int) : Prop := ∃ o' : Option Int, o = o'.map (sgn left) ∧ Nth (sumIn (sideR left (outR (dayRns L rs day) post left)) (sgn left post)) (sgn left post) (hiR (sideR left (outR (dayRns L rs day) post left)) (sgn left post) index) index o'
theorem dayRns_ok {C : Addr} {H : Hp} {L : List Pt} {rs : List Rw} {day : Option Int} (cr : Crew C H L) (ok : ∀ q ∈ partsOf L, QuadOk q) (hist : HistR (partsOf L) (fSP (partsOf L)) rs) (dd : ∀ d, day = some d → 0 ≤ d ∧ d ≤ 10 ^ 40) : ∀ r ∈ dayRns L rs day, RnOk r ∧ r.w = 1 := fun r hr => by
  obtain ⟨i, x, c, hx, hc, rfl⟩ := rns_memC hr
  have hi : i < L.length := (List.getElem?_eq_some_iff.mp hx).1
  have k := (cr.at_ x (List.mem_of_getElem? hx)).2
  have k1 := k.s0
  have k2 := k.s1
  have k3 := k.p0
  have k4 := k.p1
  have k5 := k.d0
  unfold bysC at hc
  rw [List.getElem?_zipWith, hx, List.getElem?_map, List.getElem?_range hi] at hc
  obtain rfl := Option.some.inj hc
  have pl : (partsOf L).length = L.length := parts_len _
  have kb : ∀ z, byC day x.d (cntR rs i) = some z → 0 ≤ z ∧ z ≤ 10 ^ 50 := fun z e => by
    cases ec : cntR rs i with
    | none =>
      rw [ec] at e
      cases day with
      | none => cases e
      | some t =>
        have := dd t rfl
        have e : max 0 (t - x.d + 1) = z := Option.some.inj e
        omega
    | some k =>
      have b := cntR_bd ok hist (by rw [pl]; exact hi) ec
      rw [ec] at e
      cases day with
      | none =>
        obtain rfl := Option.some.inj e
        exact b
      | some t =>
        have := dd t rfl
        have e : min (max 0 (t - x.d + 1)) k = z := Option.some.inj e
        omega
  refine ⟨⟨k.sn, by show x.s.natAbs ≤ _; omega, by show x.p.natAbs ≤ _; omega, by show (1 : Int).natAbs ≤ 10; decide, fun z e => ?_⟩, rfl⟩
  have b := kb z e
  refine ⟨by omega, ?_⟩
  show ((z - 1) * x.s).natAbs ≤ _
  rw [Int.natAbs_mul]
  exact Nat.le_trans (Nat.mul_le_mul (show (z - 1).natAbs ≤ 10 ^ 50 by omega) (show x.s.natAbs ≤ 10 ^ 18 by omega)) (by decide)
theorem outR_ok {rs : List Rn} {post : Int} {left : Bool} (pb : post.natAbs ≤ 10 ^ 80) (h : ∀ r ∈ rs, RnOk r ∧ r.w = 1) : ∀ r ∈ outR rs post left, RnOk r := fun r hr => by
  rcases List.mem_cons.mp hr with rfl | hr
  · exact ⟨by show (if left = true then (-1 : Int) else 1) ≠ 0; cases left <;> decide, by show (if left = true then (-1 : Int) else 1).natAbs ≤ 10 ^ 37; cases left <;> decide, pb, by show (1 : Int).natAbs ≤ 10; decide, fun k e => by cases e⟩
  · obtain ⟨x, hx, rfl⟩ := List.mem_map.mp hr
    obtain ⟨k, w1⟩ := h x hx
    exact ⟨k.sn, k.sb, k.pb, by show (x.w * -1).natAbs ≤ 10; rw [w1]; decide, k.mb⟩
theorem crew_quads {C : Addr} {H : Hp} {L : List Pt} (h : Crew C H L) : ∀ q ∈ partsOf L, QuadOk q := fun q hq => by
  obtain ⟨x, hx, rfl⟩ := List.mem_map.mp hq
  exact (h.at_ x hx).2
abbrev s_check_place : Stmt := (topS 24)
abbrev N_sc_check_place : List Str := ["post", "index", "day"]
abbrev P_check_place : List Str := ["post", "index", "day"]
theorem sc_check_place : FnScope N_sc_check_place P_check_place (defScope s_check_place) := ⟨rfl, rfl, rfl, by decide +kernel, rfl, by decide +kernel, by decide +kernel⟩
def spCkPl : Sp := fun vs H Q _ => ∃ (a b : Int) (c : Option Int), vs = [.int a, .int b, optV c] ∧ -(10 ^ 80) ≤ a ∧ a ≤ 10 ^ 80 ∧ 0 ≤ b ∧ b ≤ 10 ^ 80 ∧ (∀ d, c = some d → 0 ≤ d ∧ d ≤ 10 ^ 80) ∧ Q .non H
section
variable {P : Program} {w : World} {K : PySem.W.Frag} {mg : Str → Option Value} {base : Heap}
theorem ok_ckpl (D : Dfn K mg "check_place" s_check_place P_check_place) (CKP : Cal P w K mg base 3 "check_post" P_check_post spCkPost) (CC : Cal P w K mg base 3 "check_count" P_check_count spCount) (CKN : Cal P w K mg base 4 "check_day_or_none" P_check_day_or_none spCkDayN) : Cal P w K mg base 5 "check_place" P_check_place spCkPl := by
  refine D.cal sc_check_place (fun vs H Q E h => ?_) fun f cdv A outer s H vs Q E hr h => ?_
  · obtain ⟨a, b, c, rfl, _⟩ := h
    rfl
  obtain ⟨a, b, c, rfl, a0, a1, b0, b1, cc, q⟩ := h
  refine ⟨_, (pss_cons (ps_expr (pe_cal CKP (hr.mono (by decide)) (pa_cons (pv 0) pa_nil))) (pss_cons (ps_expr (pe_cal CC (hr.mono (by decide)) (pa_cons (pv 1) pa_nil))) (pss_one (ps_expr (pe_cal CKN (hr.mono (by decide)) (pa_cons (pv 2) pa_nil)))))), ?_⟩
  exact ⟨_, rfl, a, rfl, a0, a1, _, rfl, b, rfl, b0, b1, _, rfl, c, rfl, cc, q⟩
end
abbrev s_unpainted_from : Stmt := (topS 59)
abbrev N_sc_unpainted_from : List Str := ["fence", "post", "index", "day", "left", "runs"]
abbrev P_unpainted_from : List Str := ["fence", "post", "index", "day", "left"]
theorem sc_unpainted_from : FnScope N_sc_unpainted_from P_unpainted_from (defScope s_unpainted_from) := ⟨rfl, rfl, rfl, by decide +kernel, rfl, by decide +kernel, by decide +kernel⟩
def spUnp (T : List (Addr × Str)) (C CF : Addr) : Sp := fun vs H Q _ => ∃ (g : Addr) (L : List Pt) (post index : Int) (day : Option Int) (left : Bool), vs = [.ref g, .int post, .int index, optV day, .bl left] ∧ FcAt C CF H g L ∧ -(10 ^ 80) ≤ post ∧ post ≤ 10 ^ 80 ∧ 0 ≤ index ∧ index ≤ 10 ^ 40 ∧ (∀ d, day = some d → 0 ≤ d ∧ d ≤ 10 ^ 40) ∧ LamX.Tabs T H ∧
  ∀ rs o H', HistR (partsOf L) (fSP (partsOf L)) rs → RawF left L rs day post index o → LamX.ExtN H H' → LamX.Tabs T H' → Q (optV o) H'
def UnpK (K : PySem.W.Frag) (f : Addr) (fd : FuncData) : Prop := FunD K "unpainted_from" "unpainted_from" (defArgs s_unpainted_from) (defBody s_unpainted_from) (defScope s_unpainted_from) [] [("day", .non), ("left", .bl false)] f fd
section
variable {P : Program} {w : World} {K : PySem.W.Frag} {mg : Str → Option Value} {base : Heap} {C CF CH : Addr}
theorem ok_unp {Tt : List (Addr × Str)} {f : Addr} {fd : FuncData} (F : UnpK K f fd) (CPl : Cal P w K mg base 5 "check_place" P_check_place spCkPl) (CPR : Cal P w K mg base 17 "painted_runs" P_painted_runs (spPRu Tt C CF)) (COu : Cal P w K mg base 2 "without" P_without (spOut K)) (CPA : Cal P w K mg base 5 "post_at" P_post_at (spPostAt K)) : FnOk P w K mg base CX0 18 f fd P_unpainted_from (spUnp Tt C CF) := by
  refine FunD.ok F sc_unpainted_from (fun vs H Q E h => ?_) (fun cdv A outer s H vs Q E hr h => ?_)
  · obtain ⟨g, L, post, index, day, left, rfl, _⟩ := h
    rfl
  obtain ⟨g, L, post, index, day, left, rfl, hf, p0, p1, i0, i1, dd, tb, q⟩ := h
  refine ⟨_, (pss_cons (ps_expr (pe_cal CPl (hr.mono (by decide)) (pa_cons (pv 1) (pa_cons (pv 2) (pa_cons (pv 3) pa_nil))))) (pss_cons (ps_set (i := 5) sc_unpainted_from.nd rfl (Or.inl rfl) (pe_cal COu (hr.mono (by decide)) (pa_cons (pe_cal CPR (hr.mono (by decide)) (pa_cons (pv 0) (pa_cons (pv 3) pa_nil))) (pa_cons (pv 1) (pa_cons (pv 4) pa_nil))))) (pss_one (ps_ret (pe_cal CPA (hr.mono (by decide)) (pa_cons (pv 5) (pa_cons (pv 1) (pa_cons (pv 2) (pa_cons (pv 4) pa_nil))))))))), ?_⟩
  refine ⟨_, rfl, _, rfl, _, rfl, post, index, day, rfl, p0, p1, i0, by omega, (fun d e => by have := dd d e; omega), ?_⟩
  refine ⟨_, rfl, _, rfl, g, L, day, rfl, hf, tb, fun rs R ds H1 hist hR rns e1 tb1 => ?_⟩
  have few := hf.crew.few
  have okr := dayRns_ok hf.crew (crew_quads hf.crew) hist dd
  have len : (dayRns L rs day).length ≤ 40 := Nat.le_trans (rns_len _ _ _) few
  refine ⟨_, rfl, _, rfl, R, ds, dayRns L rs day, post, left, rfl, hR, rns, (fun r hr => (okr r hr).1.wb), by omega, fun R2 ds2 H2 hR2 rns2 s2 => ?_⟩
  refine ⟨_, rfl, _, rfl, _, rfl, _, rfl, R2, ds2, _, post, index, left, rfl, hR2, rns2, outR_ok (by omega) okr, ?_, by omega, i0, i1, fun o H3 nth s3 => ?_⟩
  · show (_ :: (dayRns L rs day).map (wgt (-1))).length ≤ 4000
    rw [List.length_cons, List.length_map]
    omega
  · exact q rs _ H3 hist ⟨o, rfl, nth⟩ ((e1.trans (LamX.ExtN.of s2)).trans (LamX.ExtN.of s3)) (tabs_same s3 (tabs_same s2 tb1))
end
end Ur
/-! PM: counts of painted posts never fall under nothing, nor rise above those of all days; the least day and the first post with an index are one only. -/
namespace Ur
open PySem PySem.Spec PyProof.Rows L2
section
variable {qs : List Quad} {rs : List Rw} {C : Nat → Option Int} {f l : Int}
end
end Ur
/-! PE: counts of painted posts: for ever, early, late, moved; the least day and the first post that is not painted are one only. -/
namespace Ur
open PySem PySem.Spec PyProof.Rows L2
section
variable {qs : List Quad} {rs : List Rw} {C : Nat → Option Int} {f l : Int}
end
end Ur
/-! KO: operators that the painters' class defines. -/
namespace Ur
open PySem PySem.Spec PyProof.Rows L2
/-- what + asks of the class and of int -/
structure AddCls (K : PySem.W.Frag) (C : Addr) : Prop where
  self : PySem.W.selfFirst K C = true
  back : PySem.W.findIn K (.ref C) "__radd__" = some none
  iadd : ∃ v, PySem.W.findIn K (.type "int") "__add__" = some v
  irad : ∃ v, PySem.W.findIn K (.type "int") "__radd__" = some v
  sub : PySem.W.subIn K (.type "int") (.ref C) = some false
section
variable {X : Cx} {C : Addr} {k : Nat} {sp : Sp} {ps : List Str}
end
section
variable {P : Program} {w : World} {K : PySem.W.Frag} {mg : Str → Option Value} {base : Heap} {C : Addr} {f : Addr} {fd : FuncData}
end
section
variable {P : Program} {w : World} {K : PySem.W.Frag} {mg : Str → Option Value} {base : Heap} {C : Addr} {f : Addr} {fd : FuncData}
end
end Ur
/-! NB: Fence.moved, mirrored, widened. -/
namespace Ur
open PySem PySem.Spec PyProof.Rows L2
/-- painters that were made one for each of a crew -/
structure Sent (C : Addr) (H : Hp) (L L' : List Pt) (f p w : Int) : Prop where
  at_ : ∀ x ∈ L', PtAt C H x
  eq : partsOf L' = (partsOf L).map (mvQ f p w)
end Ur
/-! PG: classes that leave one number leave one of so many neighbours; what a search for a post finds, in words of counts. -/
namespace Ur
open PySem PySem.Spec PyProof.Rows L2
/-- a class of numbers with a period, or nothing -/
def IsCls (S : Int → Prop) (m : Nat) : Prop := 1 ≤ m ∧ ∀ x y, S x → (S y ↔ (m : Int) ∣ y - x)
theorem cls_sub {S : Int → Prop} {m d : Nat} (h : IsCls S m) (hd : 1 ≤ d) (x0 : Int) : ∃ m', IsCls (fun t => S (x0 + d * t)) m' := by
  obtain ⟨m1, h⟩ := h
  have g0 : 0 < Nat.gcd m d := Nat.gcd_pos_of_pos_left d (by omega)
  refine ⟨m / Nat.gcd m d, Nat.div_pos (Nat.le_of_dvd (by omega) (Nat.gcd_dvd_left m d)) g0, fun x y hx => ?_⟩
  show S (x0 + d * y) ↔ _
  rw [h _ _ hx, show x0 + (d : Int) * y - (x0 + d * x) = d * (y - x) by rw [Int.mul_sub]; omega]
  have key : ∀ k : Nat, m ∣ d * k ↔ m / Nat.gcd m d ∣ k := fun k => by
    have e1 : m = Nat.gcd m d * (m / Nat.gcd m d) := (Nat.mul_div_cancel' (Nat.gcd_dvd_left m d)).symm
    have e2 : d = Nat.gcd m d * (d / Nat.gcd m d) := (Nat.mul_div_cancel' (Nat.gcd_dvd_right m d)).symm
    have cp : Nat.Coprime (m / Nat.gcd m d) (d / Nat.gcd m d) := Nat.coprime_div_gcd_div_gcd g0
    constructor
    · intro hk
      rw [e1] at hk
      have hk2 : Nat.gcd m d * (m / Nat.gcd m d) ∣ Nat.gcd m d * (d / Nat.gcd m d * k) := by
        rw [← Nat.mul_assoc, ← e2]
        exact hk
      exact cp.dvd_of_dvd_mul_left (Nat.dvd_of_mul_dvd_mul_left g0 hk2)
    · rintro ⟨c, rfl⟩
      refine ⟨d / Nat.gcd m d * c, ?_⟩
      generalize Nat.gcd m d = g at e1 e2 ⊢
      generalize m / g = a at e1 ⊢
      generalize d / g = b at e2 ⊢
      rw [e1, e2]
      ac_rfl
  have z := key (y - x).natAbs
  rw [← Int.natAbs_dvd_natAbs, ← Int.natAbs_dvd_natAbs, Int.natAbs_mul, Int.natAbs_natCast, Int.natAbs_natCast, Int.natAbs_natCast]
  exact z
/-- fewer classes that hit once than numbers: one is not hit -/
theorem not_hit : ∀ (Ss : List (Int → Prop)) (l : List Int), l.Nodup → Ss.length < l.length → (∀ S ∈ Ss, ∀ x ∈ l, ∀ y ∈ l, S x → S y → x = y) → ∃ x ∈ l, ∀ S ∈ Ss, ¬ S x
  | [], l, _, hl, _ => by
    cases l with
    | nil => exact absurd hl (Nat.lt_irrefl 0)
    | cons x r => exact ⟨x, List.mem_cons_self, fun S hS => by cases hS⟩
  | S :: Ss, l, nd, hl, one => by
    by_cases c : ∃ x ∈ l, S x
    · obtain ⟨x, hx, sx⟩ := c
      have el : (l.erase x).length = l.length - 1 := List.length_erase_of_mem hx
      obtain ⟨y, hy, no⟩ := not_hit Ss (l.erase x) (nd.erase x) (by rw [el]; have : Ss.length + 1 < l.length := hl; omega) fun T hT a ha b hb => one T (List.mem_cons_of_mem _ hT) a (List.mem_of_mem_erase ha) b (List.mem_of_mem_erase hb)
      refine ⟨y, List.mem_of_mem_erase hy, fun T hT => ?_⟩
      rcases List.mem_cons.mp hT with rfl | hT
      · intro sy
        have e := one T List.mem_cons_self y (List.mem_of_mem_erase hy) x hx sy sx
        rw [e] at hy
        exact (List.Nodup.not_mem_erase nd) hy
      · exact no T hT
    · obtain ⟨y, hy, no⟩ := not_hit Ss l nd (by have : Ss.length + 1 < l.length := hl; omega) fun T hT => one T (List.mem_cons_of_mem _ hT)
      refine ⟨y, hy, fun T hT => ?_⟩
      rcases List.mem_cons.mp hT with rfl | hT
      · exact fun sy => c ⟨y, hy, sy⟩
      · exact no T hT
def covB : Nat → Nat
  | 0 => 1
  | n + 1 => (n + 2) * covB n
theorem covB_pos : ∀ n, 1 ≤ covB n
  | 0 => Nat.le_refl 1
  | n + 1 => by
    have := covB_pos n
    show 1 ≤ (n + 2) * covB n
    exact Nat.le_trans this (Nat.le_mul_of_pos_left _ (by omega))
theorem covB_big : ∀ n, n + 1 ≤ covB n
  | 0 => Nat.le_refl 1
  | n + 1 => by
    have := covB_big n
    show n + 1 + 1 ≤ (n + 2) * covB n
    exact Nat.le_mul_of_pos_right _ (by omega)
/-- classes that leave one number leave one of so many neighbours -/
theorem cov_window : ∀ (n : Nat) (Ss : List (Int → Prop)), Ss.length = n → (∀ S ∈ Ss, ∃ m, IsCls S m) → (∃ z, ∀ S ∈ Ss, ¬ S z) → ∀ y : Int, ∃ x, y < x ∧ x ≤ y + covB n ∧ ∀ S ∈ Ss, ¬ S x
  | 0, Ss, hn, _, _, y => by
    obtain rfl := List.eq_nil_of_length_eq_zero hn
    exact ⟨y + 1, by omega, by show y + 1 ≤ y + 1; omega, fun S hS => by cases hS⟩
  | n + 1, Ss, hn, cl, ⟨z, hz⟩, y => by
    by_cases c : ∃ S ∈ Ss, ∃ m, IsCls S m ∧ m ≤ n + 2 ∧ 1 ≤ m
    · obtain ⟨S, hS, d, hd, dn, d1⟩ := c
      obtain ⟨A, B, rfl⟩ := List.append_of_mem hS
      have len : (A ++ B).length = n := by
        rw [List.length_append, List.length_cons] at hn
        rw [List.length_append]
        omega
      have inS : ∀ T, T ∈ A ++ B → T ∈ A ++ S :: B := fun T hT => by
        rcases List.mem_append.mp hT with h | h
        · exact List.mem_append_left _ h
        · exact List.mem_append_right _ (List.mem_cons_of_mem _ h)
      have ih := cov_window n ((A ++ B).map fun T => fun t : Int => T (z + d * t)) (by rw [List.length_map]; exact len) (fun T hT => by
        obtain ⟨T0, h0, rfl⟩ := List.mem_map.mp hT
        obtain ⟨m, hm⟩ := cl T0 (inS T0 h0)
        exact cls_sub hm d1 z) ⟨0, fun T hT => by
        obtain ⟨T0, h0, rfl⟩ := List.mem_map.mp hT
        show ¬ T0 (z + d * 0)
        rw [Int.mul_zero, Int.add_zero]
        exact hz T0 (inS T0 h0)⟩ ((y - z) / d)
      obtain ⟨t, t0, t1, no⟩ := ih
      have d0 : (0 : Int) < (d : Int) := by omega
      have q1 := Int.mul_ediv_add_emod (y - z) d
      have q2 := Int.emod_nonneg (y - z) (show (d : Int) ≠ 0 by omega)
      have q3 := Int.emod_lt_of_pos (y - z) d0
      have u1 : (d : Int) * ((y - z) / d + 1) ≤ d * t := Int.mul_le_mul_of_nonneg_left (by omega) (by omega)
      have u2 : (d : Int) * t ≤ d * ((y - z) / d + covB n) := Int.mul_le_mul_of_nonneg_left t1 (by omega)
      have u3 : (d : Int) * (covB n : Int) ≤ ((n + 2 : Nat) : Int) * (covB n : Int) := Int.mul_le_mul_of_nonneg_right (by omega) (by omega)
      have u4 : ((covB (n + 1) : Nat) : Int) = ((n + 2 : Nat) : Int) * (covB n : Int) := by
        show (((n + 2) * covB n : Nat) : Int) = _
        rw [Int.natCast_mul]
      rw [Int.mul_add] at u1 u2
      refine ⟨z + d * t, by omega, by rw [u4]; omega, fun T hT => ?_⟩
      rcases List.mem_append.mp hT with h | h
      · exact no _ (List.mem_map.mpr ⟨T, List.mem_append_left _ h, rfl⟩)
      · rcases List.mem_cons.mp h with rfl | h
        · intro hs
          refine hz T hT ((hd.2 _ z hs).mpr ?_)
          rw [show z - (z + (d : Int) * t) = d * (-t) by rw [Int.mul_neg]; omega]
          exact Int.dvd_mul_right _ _
        · exact no _ (List.mem_map.mpr ⟨T, List.mem_append_right _ h, rfl⟩)
    · have big := covB_big (n + 1)
      obtain ⟨x, hx, no⟩ := not_hit Ss ((List.range (n + 2)).map fun k : Nat => y + 1 + (k : Int)) (List.Pairwise.map _ (fun a b hab e => hab (by have e : y + 1 + (a : Int) = y + 1 + (b : Int) := e; omega)) List.nodup_range) (by rw [List.length_map, List.length_range]; omega) fun S hS a ha b hb sa sb => by
        obtain ⟨i, hi, rfl⟩ := List.mem_map.mp ha
        obtain ⟨j, hj, rfl⟩ := List.mem_map.mp hb
        have hi := List.mem_range.mp hi
        have hj := List.mem_range.mp hj
        obtain ⟨m, hm⟩ := cl S hS
        have mb : ¬ m ≤ n + 2 := fun z => c ⟨S, hS, m, hm, z, hm.1⟩
        have dv := (hm.2 _ _ sa).mp sb
        have dv2 := Int.natAbs_dvd_natAbs.mpr dv
        rw [Int.natAbs_natCast] at dv2
        by_cases e : i = j
        · rw [e]
        · have := Nat.le_of_dvd (by omega) dv2
          omega
      obtain ⟨k, hk, rfl⟩ := List.mem_map.mp hx
      have hk := List.mem_range.mp hk
      exact ⟨_, by omega, by omega, no⟩
/-- the post with an index, in words of counts -/
def SemN (F : Int → Int) (post index : Int) : Option Int → Prop
  | none => ∀ x, post ≤ x → F x ≤ index
  | some x => post ≤ x ∧ F x = index + 1 ∧ F (x - 1) = index
/-- what a search through windows finds, in words of counts -/
theorem sem_of {F : Int → Int} {post index far hi : Int} {W : Int} {o : Option Int} (z : F (post - 1) = 0) (st : ∀ x, post - 1 ≤ x → F x ≤ F (x + 1) ∧ F (x + 1) ≤ F x + 1) (mono : ∀ x y, post - 1 ≤ x → x ≤ y → F x ≤ F y)
    (i0 : 0 ≤ index) (pf : post ≤ far) (w0 : 0 ≤ W) (win : (∃ x, far < x ∧ F (x - 1) < F x) → ∀ y, far ≤ y → F y + 1 ≤ F (y + W)) (eh : hi = far + (index + 1) * W)
    (h : match o with | none => F hi ≤ index | some x => post ≤ x ∧ x ≤ hi ∧ index < F x ∧ (x = post ∨ F (x - 1) ≤ index)) : SemN F post index o := by
  cases o with
  | none =>
    have h : F hi ≤ index := h
    intro x hx
    by_cases c : ∃ x, far < x ∧ F (x - 1) < F x
    · exfalso
      have w := win c
      have many : ∀ n : Nat, (n : Int) ≤ F (far + n * W) := fun n => by
        induction n with
        | zero =>
          have := mono (post - 1) far (by omega) (by omega)
          rw [Int.natCast_zero, Int.zero_mul, Int.add_zero]
          omega
        | succ n ih =>
          have a := w (far + n * W) (by have := Int.mul_nonneg (show 0 ≤ (n : Int) by omega) w0; omega)
          have e : far + ((n + 1 : Nat) : Int) * W = far + n * W + W := by rw [Int.natCast_add, Int.add_mul]; omega
          rw [e]
          omega
      have b := many (index + 1).toNat
      rw [show (((index + 1).toNat : Nat) : Int) = index + 1 by omega, ← eh] at b
      omega
    · have flat : ∀ n : Nat, F (far + n) ≤ F far := fun n => by
        induction n with
        | zero => rw [Int.natCast_zero, Int.add_zero]; exact Int.le_refl _
        | succ n ih =>
          have e : far + ((n + 1 : Nat) : Int) = far + n + 1 := by omega
          rw [e]
          rcases Int.lt_or_le (F (far + n)) (F (far + n + 1)) with g | g
          · exact absurd ⟨far + n + 1, by omega, by rw [show far + n + 1 - 1 = far + n by omega]; exact g⟩ c
          · omega
      have fh : far ≤ hi := by
        have := Int.mul_nonneg (show 0 ≤ index + 1 by omega) w0
        omega
      have a := mono far hi (by omega) fh
      by_cases g : x ≤ far
      · have := mono x far (by omega) g
        omega
      · have b := flat (x - far).toNat
        rw [show far + (((x - far).toNat : Nat) : Int) = x by omega] at b
        omega
  | some x =>
    obtain ⟨h0, h1, h2, h3⟩ := h
    have s := st (x - 1) (by omega)
    rw [show x - 1 + 1 = x by omega] at s
    rcases h3 with h3 | h3
    · subst h3
      refine ⟨h0, by omega, by omega⟩
    · exact ⟨h0, by omega, by omega⟩
theorem covB_mono : ∀ {n m : Nat}, n ≤ m → covB n ≤ covB m
  | n, 0, h => by
    obtain rfl : n = 0 := by omega
    exact Nat.le_refl _
  | n, m + 1, h => by
    by_cases c : n = m + 1
    · rw [c]; exact Nat.le_refl _
    · exact Nat.le_trans (covB_mono (show n ≤ m by omega)) (Nat.le_mul_of_pos_left _ (by omega))
theorem covB_30 {n : Nat} (h : n ≤ 30) : covB n ≤ 10 ^ 36 := Nat.le_trans (covB_mono h) (by decide +kernel)
/-- from far on, runs have come to their end or go on for ever -/
def Ends (Q : List Quad) (C : Nat → Option Int) (day : Option Int) (far : Int) : Prop := ∀ j, j < Q.length → byC day (dQ Q j) (C j) ≠ some 0 → farV ⟨1, pQ Q j, sQ Q j, byC day (dQ Q j) (C j)⟩ ≤ far
def EndS (Q : List Quad) (C : Nat → Option Int) (day : Option Int) (j : Nat) (x : Int) : Prop := byC day (dQ Q j) (C j) = none ∧ 0 < sQ Q j ∧ sQ Q j ∣ x - pQ Q j
section
variable {Q : List Quad} {C : Nat → Option Int} {day : Option Int} {far : Int}
theorem endS_cls (j : Nat) : ∃ m, IsCls (EndS Q C day j) m := by
  by_cases c : byC day (dQ Q j) (C j) = none ∧ 0 < sQ Q j
  · obtain ⟨c1, c2⟩ := c
    have e : (((sQ Q j).natAbs : Nat) : Int) = sQ Q j := by omega
    refine ⟨(sQ Q j).natAbs, by omega, fun x y hx => ?_⟩
    rw [e]
    obtain ⟨_, _, dx⟩ := hx
    constructor
    · rintro ⟨_, _, dy⟩
      have := Int.dvd_sub dy dx
      rw [show y - pQ Q j - (x - pQ Q j) = y - x by omega] at this
      exact this
    · intro d
      refine ⟨c1, c2, ?_⟩
      have := Int.dvd_add d dx
      rw [show y - x + (x - pQ Q j) = y - pQ Q j by omega] at this
      exact this
  · exact ⟨1, Nat.le_refl _, fun x y hx => absurd ⟨hx.1, hx.2.1⟩ c⟩
theorem far_iff (ok : ∀ q ∈ Q, q.2.2.2 ≠ 0) (en : Ends Q C day far) {x : Int} (hx : far < x) : PaintedBy Q C day x ↔ ∃ j, j < Q.length ∧ EndS Q C day j x := by
  constructor
  · rintro ⟨j, hj, n, n0, nk, e⟩
    obtain ⟨_, _, _, a4⟩ := q_at (List.getElem?_eq_getElem hj)
    have sn : sQ Q j ≠ 0 := by rw [a4]; exact ok _ (List.getElem_mem hj)
    have nz : byC day (dQ Q j) (C j) ≠ some 0 := fun z => by
      have := nk 0 z
      omega
    have f := en j hj nz
    refine ⟨j, hj, ?_⟩
    cases m : byC day (dQ Q j) (C j) with
    | none =>
      rw [m] at f
      have f : pQ Q j ≤ far := f
      refine ⟨m, ?_, ⟨n, by rw [Int.mul_comm]; omega⟩⟩
      rcases Int.lt_or_le 0 (sQ Q j) with g | g
      · exact g
      · have := Int.mul_nonneg n0 (show 0 ≤ -sQ Q j by omega)
        rw [Int.mul_neg] at this
        omega
    | some k =>
      exfalso
      rw [m] at f
      have f : max (pQ Q j) (pQ Q j + (k - 1) * sQ Q j) ≤ far := f
      have lt := nk k m
      rcases Int.lt_or_le 0 (sQ Q j) with g | g
      · have := Int.mul_le_mul_of_nonneg_right (show n ≤ k - 1 by omega) (show 0 ≤ sQ Q j by omega)
        omega
      · have := Int.mul_nonneg n0 (show 0 ≤ -sQ Q j by omega)
        rw [Int.mul_neg] at this
        omega
  · rintro ⟨j, hj, m, s0, c, hc⟩
    have f := en j hj (by rw [m]; intro z; cases z)
    rw [m] at f
    have f : pQ Q j ≤ far := f
    refine ⟨j, hj, c, ?_, fun k e => (by rw [m] at e; cases e), by rw [Int.mul_comm]; omega⟩
    rcases Int.lt_or_le c 0 with g | g
    · have := Int.mul_nonneg (show 0 ≤ sQ Q j by omega) (show 0 ≤ -c by omega)
      rw [Int.mul_neg] at this
      omega
    · exact g
/-- posts that are not painted: none far away, or one in each window -/
theorem win_free (ok : ∀ q ∈ Q, q.2.2.2 ≠ 0) (few : Q.length ≤ 30) (en : Ends Q C day far) (h : ∃ x, far < x ∧ ¬ PaintedBy Q C day x) {y : Int} (hy : far ≤ y) : ∃ x, y < x ∧ x ≤ y + 10 ^ 36 ∧ ¬ PaintedBy Q C day x := by
  obtain ⟨z, hz, nz⟩ := h
  have iff_ : ∀ x, far < x → (PaintedBy Q C day x ↔ ∃ S ∈ (List.range Q.length).map (EndS Q C day), S x) := fun x hx => by
    rw [far_iff ok en hx]
    constructor
    · rintro ⟨j, hj, e⟩
      exact ⟨_, List.mem_map.mpr ⟨j, List.mem_range.mpr hj, rfl⟩, e⟩
    · rintro ⟨S, hS, e⟩
      obtain ⟨j, hj, rfl⟩ := List.mem_map.mp hS
      exact ⟨j, List.mem_range.mp hj, e⟩
  obtain ⟨x, x0, x1, no⟩ := cov_window Q.length ((List.range Q.length).map (EndS Q C day)) (by rw [List.length_map, List.length_range]) (fun S hS => by
    obtain ⟨j, _, rfl⟩ := List.mem_map.mp hS
    exact endS_cls j) ⟨z, fun S hS e => nz ((iff_ z hz).mpr ⟨S, hS, e⟩)⟩ y
  have b := covB_30 few
  have b2 : (covB Q.length : Int) ≤ 10 ^ 36 := by
    have : ((covB Q.length : Nat) : Int) ≤ ((10 ^ 36 : Nat) : Int) := by omega
    exact this
  refine ⟨x, x0, by omega, fun p => ?_⟩
  obtain ⟨S, hS, e⟩ := (iff_ x (by omega)).mp p
  exact no S hS e
/-- what a search for a post that is not painted finds -/
theorem sem_free0 (is : IsHist Q.length (dQ Q) (fSP Q) C) (ok : ∀ q ∈ Q, q.2.2.2 ≠ 0) (few : Q.length ≤ 30) (en : Ends Q C day far) {post index hi : Int} {o : Option Int} (i0 : 0 ≤ index) (pf : post ≤ far) (eh : hi = far + (index + 1) * 10 ^ 36)
    (h : Nth (fun x => x - post + 1 - pntN Q C day post x Q.length) post hi index o) : SemN (fun x => x - post + 1 - pntN Q C day post x Q.length) post index o := by
  have st : ∀ x, post ≤ x + 1 → _ := fun x hx => pnt_step (day := day) (f := post) (x := x) is ok hx
  refine sem_of (far := far) (hi := hi) (W := 10 ^ 36) ?_ (fun x hx => ?_) (fun x y hx hxy => ?_) i0 pf (by decide) (fun hw y hy => ?_) eh ?_
  · show post - 1 - post + 1 - pntN Q C day post (post - 1) Q.length = 0
    rw [pnt_none ok (by omega) _ (Nat.le_refl _)]
    omega
  · show x - post + 1 - pntN Q C day post x Q.length ≤ x + 1 - post + 1 - pntN Q C day post (x + 1) Q.length ∧ x + 1 - post + 1 - pntN Q C day post (x + 1) Q.length ≤ x - post + 1 - pntN Q C day post x Q.length + 1
    rcases st x (by omega) with ⟨_, e⟩ | ⟨_, e⟩ <;> omega
  · show x - post + 1 - pntN Q C day post x Q.length ≤ y - post + 1 - pntN Q C day post y Q.length
    have := pnt_grow (day := day) (f := post) is ok hxy
    omega
  · obtain ⟨x, hx, lt⟩ := hw
    have lt : x - 1 - post + 1 - pntN Q C day post (x - 1) Q.length < x - post + 1 - pntN Q C day post x Q.length := lt
    have nx : ¬ PaintedBy Q C day x := by
      rcases st (x - 1) (by omega) with ⟨_, e⟩ | ⟨a, e⟩
      · rw [show x - 1 + 1 = x by omega] at e
        omega
      · rw [show x - 1 + 1 = x by omega] at a
        exact a
    obtain ⟨z, z0, z1, nz⟩ := win_free ok few en ⟨x, hx, nx⟩ hy
    show y - post + 1 - pntN Q C day post y Q.length + 1 ≤ y + 10 ^ 36 - post + 1 - pntN Q C day post (y + 10 ^ 36) Q.length
    have g1 := pnt_grow (day := day) (f := post) is ok (show y ≤ z - 1 by omega)
    have g2 := pnt_grow (day := day) (f := post) is ok z1
    rcases st (z - 1) (by omega) with ⟨a, e⟩ | ⟨a, e⟩
    · rw [show z - 1 + 1 = z by omega] at a
      exact absurd a nz
    · rw [show z - 1 + 1 = z by omega] at e
      omega
  · cases o with
    | none => exact h
    | some x => exact h
end
theorem side_is {qs : List Quad} {rs : List Rw} (left : Bool) (h : HistR qs (fSP qs) rs) : IsHist (sideQ left qs).length (dQ (sideQ left qs)) (fSP (sideQ left qs)) (cntR rs) := by
  cases left with
  | false => exact hist_cntR h
  | true =>
    have z := hist_cntR (histR_mv (f := -1) (p := 0) (w := 0) (by decide) h)
    rw [show cntR (rs.map (sentR (-1) 0 0)) = cntR rs from funext fun i => cntR_mv] at z
    exact z
theorem side_quad {qs : List Quad} (left : Bool) (ok : ∀ q ∈ qs, QuadOk q) : ∀ q ∈ sideQ left qs, QuadOk q := fun q hq => by
  cases left with
  | false => exact ok q hq
  | true =>
    obtain ⟨x, hx, rfl⟩ := List.mem_map.mp hq
    have k := ok x hx
    have k1 := k.d0
    have k2 := k.d1
    have k3 := k.p0
    have k4 := k.p1
    have k5 := k.s0
    have k6 := k.s1
    have k7 := k.sn
    exact ⟨k.nm, by show 0 ≤ x.2.1 + 0; omega, by show x.2.1 + 0 ≤ _; omega, by show _ ≤ -1 * x.2.2.1 + 0; omega, by show -1 * x.2.2.1 + 0 ≤ _; omega, by show _ ≤ -1 * x.2.2.2; omega, by show -1 * x.2.2.2 ≤ _; omega, by show -1 * x.2.2.2 ≠ 0; omega⟩
theorem side_len {qs : List Quad} (left : Bool) : (sideQ left qs).length = qs.length := by
  cases left with
  | false => rfl
  | true => exact List.length_map ..
theorem rns_has {L : List Pt} {cs : List (Option Int)} {n i : Nat} {x : Pt} {c : Option Int} (hi : i < n) (h : L[i]? = some x) (g : cs[i]? = some c) (z : c ≠ some 0) : (⟨1, x.p, x.s, c⟩ : Rn) ∈ rnsOf L cs n := by
  refine List.mem_filterMap.mpr ⟨i, List.mem_range.mpr hi, ?_⟩
  rw [h, g]
  show (if c = some 0 then none else some (⟨1, x.p, x.s, c⟩ : Rn)) = _
  rw [if_neg z]
theorem ends_day {L : List Pt} {rs : List Rw} {day : Option Int} {left : Bool} {R : List Rn} {P : Int} (h : ∀ r ∈ sideR left (dayRns L rs day), ∃ r' ∈ R, farV r' = farV r) : Ends (sideQ left (partsOf L)) (cntR rs) day (farR P R) := fun j hj nz => by
  rw [side_len, parts_len] at hj
  have hx : L[j]? = some L[j] := List.getElem?_eq_getElem hj
  obtain ⟨_, a2, a3, a4⟩ := q_at (parts_at hx)
  have hd : dQ (sideQ left (partsOf L)) j = L[j].d ∧ (pQ (sideQ left (partsOf L)) j, sQ (sideQ left (partsOf L)) j) = (sgn left L[j].p, sgn left L[j].s) := by
    cases left with
    | false => exact ⟨a2, by show (pQ (partsOf L) j, sQ (partsOf L) j) = _; rw [a3, a4]; rfl⟩
    | true =>
      obtain ⟨_, m2, m3, m4⟩ := mvQ_at (qs := partsOf L) (f := -1) (p := 0) (w := 0) (i := j) (by rw [parts_len]; exact hj)
      refine ⟨?_, ?_⟩
      · show dQ ((partsOf L).map (mvQ (-1) 0 0)) j = _
        rw [m2, a2, Int.add_zero]
      · show (pQ ((partsOf L).map (mvQ (-1) 0 0)) j, sQ ((partsOf L).map (mvQ (-1) 0 0)) j) = (-L[j].p, -L[j].s)
        rw [m3, m4, a3, a4, Int.add_zero, Int.neg_one_mul, Int.neg_one_mul]
  obtain ⟨h1, h2⟩ := hd
  have e3 := congrArg Prod.fst h2
  have e4 := congrArg Prod.snd h2
  have e3 : pQ (sideQ left (partsOf L)) j = sgn left L[j].p := e3
  have e4 : sQ (sideQ left (partsOf L)) j = sgn left L[j].s := e4
  rw [h1] at nz ⊢
  rw [e3, e4]
  have mem : (⟨1, L[j].p, L[j].s, byC day L[j].d (cntR rs j)⟩ : Rn) ∈ dayRns L rs day := by
    refine rns_has hj hx ?_ nz
    unfold bysC
    rw [List.getElem?_zipWith, hx, List.getElem?_map, List.getElem?_range hj]
    rfl
  have mem2 : ∃ r ∈ sideR left (dayRns L rs day), farV r = farV ⟨1, sgn left L[j].p, sgn left L[j].s, byC day L[j].d (cntR rs j)⟩ := by
    cases left with
    | false => exact ⟨_, mem, rfl⟩
    | true => exact ⟨_, List.mem_map.mpr ⟨_, mem, rfl⟩, rfl⟩
  obtain ⟨r, hr, er⟩ := mem2
  obtain ⟨r', hr', er'⟩ := h r hr
  rw [← er, ← er']
  exact far_le R _ (List.mem_cons_of_mem _ (List.mem_map.mpr ⟨r', hr', rfl⟩))
theorem out_far {rs : List Rn} {post : Int} {left : Bool} : ∀ r ∈ sideR left rs, ∃ r' ∈ sideR left (outR rs post left), farV r' = farV r := fun r hr => by
  cases left with
  | false => exact ⟨wgt (-1) r, List.mem_cons_of_mem _ (List.mem_map.mpr ⟨r, hr, rfl⟩), rfl⟩
  | true =>
    obtain ⟨x, hx, rfl⟩ := List.mem_map.mp hr
    exact ⟨mir (wgt (-1) x), List.mem_map.mpr ⟨wgt (-1) x, List.mem_cons_of_mem _ (List.mem_map.mpr ⟨x, hx, rfl⟩), rfl⟩, rfl⟩
/-- the post with an index that is not painted by a day, to one side -/
def SemF (left : Bool) (qs : List Quad) (rs : List Rw) (day : Option Int) (post index : Int) (o : Option Int) : Prop := ∃ o' : Option Int, o = o'.map (sgn left) ∧ SemN (fun x => x - sgn left post + 1 - paintN (sideQ left qs) rs day (sgn left post) x) (sgn left post) index o' ∧ ∀ x, o' = some x → x ≤ max (sgn left post) (10 ^ 69) + (index + 1) * 10 ^ 36
theorem dayRns_far {L : List Pt} {rs : List Rw} {day : Option Int} (okL : ∀ x ∈ L, PartOk x.nm x.d x.p x.s) (ok : ∀ q ∈ partsOf L, QuadOk q) (hist : HistR (partsOf L) (fSP (partsOf L)) rs) (dd : ∀ d, day = some d → 0 ≤ d ∧ d ≤ 10 ^ 40) {left : Bool} : ∀ r ∈ sideR left (dayRns L rs day), farV r ≤ 10 ^ 69 := by
  have base : ∀ r ∈ dayRns L rs day, r.p.natAbs ≤ 10 ^ 30 ∧ r.s.natAbs ≤ 10 ^ 18 ∧ ∀ k, r.m = some k → 0 ≤ k ∧ k ≤ 10 ^ 50 := fun r hr => by
    obtain ⟨i, x, c, hx, hc, rfl⟩ := rns_memC hr
    have hi : i < L.length := (List.getElem?_eq_some_iff.mp hx).1
    have k := okL x (List.mem_of_getElem? hx)
    have k1 := k.s0
    have k2 := k.s1
    have k3 := k.p0
    have k4 := k.p1
    have k5 := k.d0
    unfold bysC at hc
    rw [List.getElem?_zipWith, hx, List.getElem?_map, List.getElem?_range hi] at hc
    obtain rfl := Option.some.inj hc
    have pl : (partsOf L).length = L.length := parts_len _
    refine ⟨by show x.p.natAbs ≤ _; omega, by show x.s.natAbs ≤ _; omega, fun z e => ?_⟩
    have e : byC day x.d (cntR rs i) = some z := e
    cases ec : cntR rs i with
    | none =>
      rw [ec] at e
      cases day with
      | none => cases e
      | some t =>
        have := dd t rfl
        have e : max 0 (t - x.d + 1) = z := Option.some.inj e
        omega
    | some k =>
      have b := cntR_bd ok hist (by rw [pl]; exact hi) ec
      rw [ec] at e
      cases day with
      | none =>
        obtain rfl := Option.some.inj e
        exact b
      | some t =>
        have := dd t rfl
        have e : min (max 0 (t - x.d + 1)) k = z := Option.some.inj e
        omega
  have one : ∀ {w p s : Int} {m : Option Int}, p.natAbs ≤ 10 ^ 30 → s.natAbs ≤ 10 ^ 18 → (∀ k, m = some k → 0 ≤ k ∧ k ≤ 10 ^ 50) → farV ⟨w, p, s, m⟩ ≤ 10 ^ 69 := fun {w p s m} hp hs hm => by
    cases m with
    | none => show p ≤ _; omega
    | some k =>
      have b := hm k rfl
      have z : ((k - 1) * s).natAbs ≤ 10 ^ 50 * 10 ^ 18 := by
        rw [Int.natAbs_mul]
        exact Nat.mul_le_mul (by omega) hs
      show max p (p + (k - 1) * s) ≤ _
      omega
  intro r hr
  cases left with
  | false =>
    obtain ⟨a, b, c⟩ := base r hr
    exact one a b c
  | true =>
    obtain ⟨x, hx, rfl⟩ := List.mem_map.mp hr
    obtain ⟨a, b, c⟩ := base x hx
    exact one (by omega) (by omega) c
theorem far_ub {P B : Int} (hP : P ≤ B) : ∀ {R : List Rn}, (∀ r ∈ R, farV r ≤ B) → farR P R ≤ B
  | [], _ => hP
  | r :: R, h => by
    have a := h r List.mem_cons_self
    have b := far_ub hP (R := R) fun x hx => h x (List.mem_cons_of_mem _ hx)
    show max (farV r) (farR P R) ≤ B
    omega
theorem nth_le {c : Int → Int} {post hi index x : Int} (h : Nth c post hi index (some x)) : x ≤ hi := h.2.1
theorem semF_of {L : List Pt} {rs : List Rw} {day : Option Int} {post index : Int} {left : Bool} {o : Option Int} (okq : ∀ q ∈ partsOf L, QuadOk q) (hist : HistR (partsOf L) (fSP (partsOf L)) rs) (okL : ∀ x ∈ L, PartOk x.nm x.d x.p x.s) (dd : ∀ d, day = some d → 0 ≤ d ∧ d ≤ 10 ^ 40) (few : L.length ≤ 30) (i0 : 0 ≤ index) (h : RawF left L rs day post index o) : SemF left (partsOf L) rs day post index o := by
  obtain ⟨o', rfl, h⟩ := h
  have fp : sgn left post ≤ farR (sgn left post) (sideR left (outR (dayRns L rs day) post left)) := far_le _ _ List.mem_cons_self
  have sq := side_quad left okq
  refine ⟨o', rfl, sem_free0 (side_is left hist) (fun q hq => (sq q hq).sn) (by rw [side_len, parts_len]; exact few) (ends_day (P := sgn left post) out_far) i0 fp rfl (Nth.congr (fun x hx => ?_) ?_ h), fun x e => ?_⟩
  · rw [out_sum (by omega), side_sum]
    rfl
  · have := Int.mul_nonneg (show 0 ≤ index + 1 by omega) (show (0 : Int) ≤ 10 ^ 36 by decide)
    show sgn left post ≤ hiR _ _ _
    unfold hiR
    omega
  · subst e
    have b := nth_le h
    unfold hiR at b
    have u : farR (sgn left post) (sideR left (outR (dayRns L rs day) post left)) ≤ max (sgn left post) (10 ^ 69) := far_ub (by omega) fun r hr => by
      have side : ∀ {r}, r ∈ sideR left (outR (dayRns L rs day) post left) → farV r = sgn left post ∨ ∃ r' ∈ sideR left (dayRns L rs day), farV r = farV r' := fun {r} hr => by
        cases left with
        | false =>
          rcases List.mem_cons.mp hr with rfl | hr
          · exact .inl rfl
          · obtain ⟨y, hy, rfl⟩ := List.mem_map.mp hr
            exact .inr ⟨y, hy, rfl⟩
        | true =>
          obtain ⟨y, hy, rfl⟩ := List.mem_map.mp hr
          rcases List.mem_cons.mp hy with rfl | hy
          · exact .inl rfl
          · obtain ⟨v, hv, rfl⟩ := List.mem_map.mp hy
            exact .inr ⟨mir v, List.mem_map.mpr ⟨v, hv, rfl⟩, rfl⟩
      rcases side hr with e | ⟨r', hr', e⟩
      · omega
      · have := dayRns_far okL okq hist dd r' hr'
        omega
    omega
/-- a mirrored fence, looked at from the other side -/
theorem mirr_twice {qs : List Quad} : sideQ true (qs.map (mvQ (-1) 0 0)) = qs := by
  show (qs.map (mvQ (-1) 0 0)).map (mvQ (-1) 0 0) = qs
  rw [List.map_map]
  refine (List.map_congr_left fun x _ => ?_).trans (List.map_id qs)
  obtain ⟨a, b, c, d⟩ := x
  show (a, b + 0 + 0, -1 * (-1 * c + 0) + 0, -1 * (-1 * d)) = (a, b, c, d)
  rw [show b + 0 + 0 = b by omega, show -1 * (-1 * c + 0) + 0 = c by omega, show -1 * (-1 * d) = d by omega]
end Ur
/-! CVm: classes (r, d) of numbers that part the whole numbers, made by parting one class after the other. -/
namespace Ur
abbrev Cl := Int × Int
/-- how many of the classes have the number x -/
def hits (cs : List Cl) (x : Int) : Nat := cs.countP fun c => decide (x % c.2 = c.1)
theorem hits_cons (c : Cl) (cs : List Cl) (x : Int) : hits (c :: cs) x = hits cs x + if x % c.2 = c.1 then 1 else 0 := by
  unfold hits
  rw [List.countP_cons]
  simp only [decide_eq_true_eq]
theorem hits_app (a b : List Cl) (x : Int) : hits (a ++ b) x = hits a x + hits b x := List.countP_append
theorem one_hit {P : Nat → Prop} [DecidablePred P] {k0 : Nat} : ∀ {n : Nat}, (∀ k, k < n → (P k ↔ k = k0)) → (List.range n).countP (fun k => decide (P k)) = if k0 < n then 1 else 0
  | 0, _ => rfl
  | n + 1, h => by
    rw [List.range_succ, List.countP_append, one_hit fun k hk => h k (by omega), List.countP_cons, List.countP_nil]
    have hn := h n (Nat.lt_succ_self n)
    by_cases c : n = k0
    · rw [if_neg (by omega), if_pos (decide_eq_true (hn.mpr c)), if_pos (by omega)]
    · rw [if_neg (fun z => c (hn.mp (of_decide_eq_true z)))]
      by_cases z : k0 < n
      · rw [if_pos z, if_pos (by omega)]
      · rw [if_neg z, if_neg (by omega)]
theorem no_hit {P : Nat → Prop} [DecidablePred P] : ∀ {n : Nat}, (∀ k, k < n → ¬ P k) → (List.range n).countP (fun k => decide (P k)) = 0
  | 0, _ => rfl
  | n + 1, h => by
    rw [List.range_succ, List.countP_append, no_hit fun k hk => h k (by omega), List.countP_cons, List.countP_nil, if_neg (fun z => h n (Nat.lt_succ_self n) (of_decide_eq_true z))]
/-- a class parted -/
def splitC (r d : Int) (m : Nat) : List Cl := (List.range m).map fun k : Nat => (r + d * (k : Int), d * (m : Int))
theorem emod_two {x d : Int} {m : Nat} (d0 : 0 < d) (m0 : 0 < m) : x % (d * (m : Int)) = x % d + d * (x / d % (m : Int)) := by
  have a := Int.mul_ediv_add_emod x d
  have b := Int.mul_ediv_add_emod (x / d) (m : Int)
  have e0 := Int.emod_nonneg x (show d ≠ 0 by omega)
  have e1 := Int.emod_lt_of_pos x d0
  have f0 := Int.emod_nonneg (x / d) (show (m : Int) ≠ 0 by omega)
  have f1 := Int.emod_lt_of_pos (x / d) (show (0 : Int) < m by omega)
  generalize x / d % (m : Int) = k at b f0 f1 ⊢
  generalize x / d / (m : Int) = q at b
  generalize x % d = r at a e0 e1 ⊢
  generalize x / d = y at a b
  subst b
  have e : x = (r + d * k) + d * (m : Int) * q := by rw [← a, Int.mul_add, Int.mul_assoc]; omega
  have lo : 0 ≤ d * k := Int.mul_nonneg (by omega) f0
  have hi : d * (k + 1) ≤ d * (m : Int) := Int.mul_le_mul_of_nonneg_left (by omega) (by omega)
  rw [Int.mul_add, Int.mul_one] at hi
  rw [e, Int.add_mul_emod_self_left, Int.emod_eq_of_lt (by omega) (by omega)]
theorem hits_split {r d x : Int} {m : Nat} (r0 : 0 ≤ r) (r1 : r < d) (m0 : 0 < m) : hits (splitC r d m) x = if x % d = r then 1 else 0 := by
  have d0 : 0 < d := by omega
  unfold hits splitC
  rw [List.countP_map]
  have e0 := Int.emod_nonneg x (show d ≠ 0 by omega)
  have e1 := Int.emod_lt_of_pos x d0
  have f0 := Int.emod_nonneg (x / d) (show (m : Int) ≠ 0 by omega)
  have f1 := Int.emod_lt_of_pos (x / d) (show (0 : Int) < m by omega)
  have key : ∀ k : Nat, (x % (d * (m : Int)) = r + d * (k : Int)) ↔ (x % d = r ∧ (k : Int) = x / d % (m : Int)) := fun k => by
    rw [emod_two d0 m0]
    constructor
    · intro h
      have h1 := congrArg (· % d) h
      simp only [Int.add_mul_emod_self_left] at h1
      rw [Int.emod_eq_of_lt e0 e1, Int.emod_eq_of_lt r0 r1] at h1
      refine ⟨h1, ?_⟩
      rw [h1] at h
      exact (Int.eq_of_mul_eq_mul_left (show d ≠ 0 by omega) (show d * (x / d % (m : Int)) = d * (k : Int) by omega)).symm
    · rintro ⟨h1, h2⟩
      rw [h1, h2]
  show (List.range m).countP (fun k : Nat => decide (x % (d * (m : Int)) = r + d * (k : Int))) = _
  by_cases c : x % d = r
  · rw [if_pos c, one_hit (k0 := (x / d % (m : Int)).toNat) fun k _ => (key k).trans ⟨fun z => by omega, fun z => ⟨c, by omega⟩⟩, if_pos (by omega)]
  · rw [if_neg c, no_hit fun k _ z => c ((key k).mp z).1]
theorem sum_const (a : Int) : ∀ m : Nat, ((List.range m).map fun _ => a).sum = (m : Int) * a
  | 0 => by simp
  | m + 1 => by
    rw [List.range_succ, List.map_append, List.sum_append, sum_const a m]
    simp only [List.map_cons, List.map_nil, List.sum_cons, List.sum_nil]
    rw [Int.natCast_succ, Int.add_mul, Int.one_mul, Int.add_zero]
/-- classes that part the whole numbers, after so many turns -/
structure Cov (t : Nat) (cs : List Cl) : Prop where
  t5 : t ≤ 5
  pos : ∀ c ∈ cs, 0 ≤ c.1 ∧ c.1 < c.2 ∧ c.2 ∣ 12 ^ t
  one : ∀ x, hits cs x = 1
  sum : (cs.map fun c => 248832 / c.2).sum = 248832
theorem Cov.start : Cov 0 [(0, 1)] := ⟨by decide, fun c hc => by rw [List.mem_singleton.mp hc]; decide, fun x => by rw [hits_cons]; simp [hits, Int.emod_one], by decide⟩
theorem Cov.up {t : Nat} {cs : List Cl} (h : Cov t cs) (ht : t + 1 ≤ 5) : Cov (t + 1) cs := ⟨ht, fun c hc => let ⟨a, b, d⟩ := h.pos c hc; ⟨a, b, Int.dvd_trans d ⟨12, by rw [Int.pow_succ]⟩⟩, h.one, h.sum⟩
theorem Cov.top {t : Nat} {cs : List Cl} (h : Cov t cs) (ht : t ≤ 5) : Cov 5 cs := ⟨Nat.le_refl 5, fun c hc => let ⟨a, b, d⟩ := h.pos c hc; ⟨a, b, Int.dvd_trans d ⟨12 ^ (5 - t), by rw [← Int.pow_add, show t + (5 - t) = 5 by omega]⟩⟩, h.one, h.sum⟩
theorem pow12 {t : Nat} (h : t ≤ 5) : (12 : Int) ^ t ∣ 248832 := by
  have : t = 0 ∨ t = 1 ∨ t = 2 ∨ t = 3 ∨ t = 4 ∨ t = 5 := by omega
  rcases this with rfl | rfl | rfl | rfl | rfl | rfl <;> decide +kernel
theorem Cov.dvd {t : Nat} {cs : List Cl} (h : Cov t cs) {c : Cl} (hc : c ∈ cs) : c.2 ∣ 248832 := Int.dvd_trans (h.pos c hc).2.2 (pow12 h.t5)
theorem Cov.le {t : Nat} {cs : List Cl} (h : Cov t cs) {c : Cl} (hc : c ∈ cs) : c.2 ≤ 248832 := Int.le_of_dvd (by decide) (h.dvd hc)
theorem Cov.split {t : Nat} {A B : List Cl} {r d : Int} {m : Nat} (h : Cov t (A ++ (r, d) :: B)) (ht : t + 1 ≤ 5) (m2 : 2 ≤ m) (m4 : m ≤ 4) : Cov (t + 1) (A ++ splitC r d m ++ B) := by
  obtain ⟨r0, r1, dd⟩ := h.pos (r, d) (by simp)
  have r0 : 0 ≤ r := r0
  have r1 : r < d := r1
  have dd : d ∣ 12 ^ t := dd
  have dm : d * (m : Int) ∣ 12 ^ (t + 1) := by
    rw [Int.pow_succ]
    obtain ⟨q, hq⟩ := dd
    have : (m : Int) ∣ 12 := by
      have : m = 2 ∨ m = 3 ∨ m = 4 := by omega
      rcases this with rfl | rfl | rfl <;> decide
    obtain ⟨k, hk⟩ := this
    exact ⟨q * k, by rw [hq, hk]; ac_rfl⟩
  refine ⟨ht, fun c hc => ?_, fun x => ?_, ?_⟩
  · rcases List.mem_append.mp hc with hc | hc
    · rcases List.mem_append.mp hc with hc | hc
      · exact (h.up ht).pos c (List.mem_append_left _ hc)
      · obtain ⟨k, hk, rfl⟩ := List.mem_map.mp hc
        have hk := List.mem_range.mp hk
        have a := Int.mul_nonneg (show 0 ≤ d by omega) (show 0 ≤ (k : Int) by omega)
        have b : d * ((k : Int) + 1) ≤ d * (m : Int) := Int.mul_le_mul_of_nonneg_left (by omega) (by omega)
        rw [Int.mul_add, Int.mul_one] at b
        exact ⟨by show 0 ≤ r + d * (k : Int); omega, by show r + d * (k : Int) < d * (m : Int); omega, dm⟩
    · exact (h.up ht).pos c (List.mem_append_right _ (List.mem_cons_of_mem _ hc))
  · have e := h.one x
    rw [hits_app, hits_cons] at e
    rw [hits_app, hits_app, hits_split r0 r1 (by omega)]
    have e : hits A x + (hits B x + if x % d = r then 1 else 0) = 1 := e
    omega
  · have e := h.sum
    rw [List.map_append, List.map_cons, List.sum_append, List.sum_cons] at e
    rw [List.map_append, List.map_append, List.sum_append, List.sum_append]
    have s : ((splitC r d m).map fun c => 248832 / c.2).sum = 248832 / d := by
      unfold splitC
      rw [List.map_map]
      show ((List.range m).map fun _ => 248832 / (d * (m : Int))).sum = _
      rw [sum_const]
      obtain ⟨q, hq⟩ := Int.dvd_trans dm (pow12 ht)
      rw [hq, Int.mul_ediv_cancel_left _ (by have := Int.mul_pos (show 0 < d by omega) (show (0 : Int) < m by omega); omega), Int.mul_assoc, Int.mul_ediv_cancel_left _ (by omega)]
    rw [s]
    have e : (A.map fun c => 248832 / c.2).sum + (248832 / d + (B.map fun c => 248832 / c.2).sum) = 248832 := e
    omega
end Ur
/-! CV: classes that part the whole numbers, as the laws make them (_law_cover), and their painters (_law_covering). -/
namespace Ur
open PySem PySem.Spec PyProof.Rows L2
abbrev ClsAt (H : Hp) (us : List Addr) (cs : List Cl) : Prop := Paired (fun u (c : Cl) => H u = some (.tup [.int c.1, .int c.2])) us cs
theorem ClsAt.keep {H H' : Hp} {p : Addr} {kvs : List (Key × V)} {us : List Addr} {cs : List Cl} (h : ClsAt H us cs) (k : Keep p H H') (hp : H p = some (.dK kvs)) : ClsAt H' us cs := Paired.mapP h fun _ _ e => k _ _ e (ne_of e hp (by intro z; cases z))
theorem ClsAt.same {H H' : Hp} {us : List Addr} {cs : List Cl} (h : ClsAt H us cs) (s : Same H H') : ClsAt H' us cs := Paired.mapP h fun _ _ e => s _ _ e
theorem ClsAt.updL {H : Hp} {F : Addr} {xs ys : List V} {us : List Addr} {cs : List Cl} (h : ClsAt H us cs) (hF : H F = some (.lst xs)) : ClsAt (upd H F (.lst ys)) us cs := Paired.mapP h fun _ _ e => by rw [upd_ne (ne_of e hF (by intro z; cases z))]; exact e
theorem ClsAt.app {H : Hp} : ∀ {us ws : List Addr} {cs ds : List Cl}, ClsAt H us cs → ClsAt H ws ds → ClsAt H (us ++ ws) (cs ++ ds)
  | [], _, [], _, _, h => h
  | _ :: _, _, _ :: _, _, .cons a b, h => .cons a (ClsAt.app b h)
theorem ClsAt.cut {H : Hp} : ∀ {us : List Addr} {cs : List Cl} (j : Nat), ClsAt H us cs → ClsAt H (us.take j) (cs.take j) ∧ ClsAt H (us.drop j) (cs.drop j)
  | [], [], j, _ => by simp only [List.take_nil, List.drop_nil]; exact ⟨.nil, .nil⟩
  | u :: us, c :: cs, 0, h => ⟨.nil, h⟩
  | u :: us, c :: cs, j + 1, .cons a b => ⟨.cons a (ClsAt.cut j b).1, (ClsAt.cut j b).2⟩
theorem cut_to {xs : List V} {j : Nat} (h : j ≤ xs.length) : cutV xs none (some (j : Int)) = xs.take j := by
  unfold cutV
  rw [HT.sIx_none, HT.sIx_nat, Nat.min_eq_left h, List.drop_zero, Nat.sub_zero]
theorem cut_from {xs : List V} {j : Nat} (h : j ≤ xs.length) : cutV xs (some (j : Int)) none = xs.drop j := by
  unfold cutV
  rw [HT.sIx_nat, HT.sIx_none, Nat.min_eq_left h]
  exact List.take_of_length_le (by rw [List.length_drop]; exact Nat.le_refl _)
def clsQ (q : Quad) : Cl := (q.2.2.1 % q.2.2.2, q.2.2.2)
abbrev s__law_cover : Stmt := (topS 86)
abbrev N_sc__law_cover : List Str := ["_law_pen_here", "_law_most", "_law_classes", "_law_turn", "_law_at", "_law_parts", "_law_r", "_law_d", "_law_k"]
abbrev P__law_cover : List Str := ["_law_pen_here", "_law_most"]
theorem sc__law_cover : FnScope N_sc__law_cover P__law_cover (defScope s__law_cover) := ⟨rfl, rfl, rfl, by decide +kernel, rfl, by decide +kernel, by decide +kernel⟩
def spCov (K : PySem.W.Frag) : Sp := fun vs H Q _ => ∃ (p l : Addr) (most n : Nat), vs = [.ref p, .int (most : Int)] ∧ Pen H p l n ∧ n + 200 ≤ 2 ^ 39 ∧ 1 ≤ most ∧ most ≤ 40 ∧
  ∀ R us cs H', H' R = some (.lst (us.map V.ref)) → ClsAt H' us cs → Cov 5 cs → 1 ≤ cs.length → cs.length ≤ most → H R = none → Pen H' p l (n + 200) → Keep p H H' → Q (.ref R) H'
section
variable {P : Program} {w : World} {K : PySem.W.Frag} {mg : Str → Option Value} {base : Heap}
set_option maxHeartbeats 16000000 in
theorem ok_cover (D : Dfn K mg "_law_cover" s__law_cover P__law_cover) (B : Blt mg) (CD : Cal P w K mg base 12 "_law_draw" P__law_draw spDr) : Cal P w K mg base 13 "_law_cover" P__law_cover (spCov K) := by
  refine D.cal sc__law_cover (fun vs H Q E h => ?_) fun f cdv A outer s H vs Q E hr h => ?_
  · obtain ⟨p, l, most, n, rfl, _⟩ := h
    rfl
  obtain ⟨p, l, most, n, rfl, Pn, hn, m1, m2, q⟩ := h
  refine ⟨_, (pss_cons (ps_set (i := 2) sc__law_cover.nd rfl (Or.inl rfl) (pe_lst (pa_cons (pe_tup (pa_cons pe_int (pa_cons pe_int pa_nil))) pa_nil))) (pss_cons (ps_for PassesOwn.never rfl (pi_range1 rfl B.range_ (pa_cons (pe_cal CD (hr.mono (by decide)) (pa_cons (pv 0) (pa_cons pe_int pa_nil))) pa_nil)) (pg_name (i := 3) sc__law_cover.nd rfl (Or.inl rfl)) (C8.pss_cut (ps_asg (pe_tup (pa_cons (pe_cal CD (hr.mono (by decide)) (pa_cons (pv 0) (pa_cons (pe_callB call_len_seq rfl B.len_ PySem.boot_len (pa_cons (pv 2) pa_nil)) pa_nil))) (pa_cons (pe_op op_add pe_int (pe_cal CD (hr.mono (by decide)) (pa_cons (pv 0) (pa_cons pe_int pa_nil)))) pa_nil))) (pg_tup rfl (pgs_cons (pg_name (i := 4) sc__law_cover.nd rfl (Or.inl rfl)) (pgs_cons (pg_name (i := 5) sc__law_cover.nd rfl (Or.inr rfl)) pgs_nil)))) (C8.pss_cut (ps_asg (pe_ix ix_list (pv 2) (pv 4) (fun _ _ => rfl)) (pg_tup rfl (pgs_cons (pg_name (i := 6) sc__law_cover.nd rfl (Or.inr rfl)) (pgs_cons (pg_name (i := 7) sc__law_cover.nd rfl (Or.inr rfl)) pgs_nil)))) (pss_one (ps_if (pt_cmpR op_le (pe_op op_sub (pe_op op_add (pe_callB call_len_seq rfl B.len_ PySem.boot_len (pa_cons (pv 2) pa_nil)) (pv 5)) pe_int) (pv 1) (nomark _)) (pss_one (ps_set (i := 2) sc__law_cover.nd rfl (Or.inl rfl) (pe_op op_cat (pe_op op_cat (pe_slice sl_list (pv 2) po_none (po_some (pv 4))) (pe_lc (own := [("_law_k", 8)]) (g := gName 8) (tt := tYes) rfl sc__law_cover.nd (pi_range1 rfl B.range_ (pa_cons (pv 5) pa_nil)) (blkOk_by (N := N_sc__law_cover) (sc := defScope s__law_cover) (by decide +kernel)) (fun _ _ _ _ _ => pg_name (i := 8) sc__law_cover.nd rfl (Or.inl rfl)) (fun _ _ _ _ _ => pts_nil) (fun _ _ _ _ _ => (pe_tup (pa_cons (pe_op op_add (pv 6) (pe_op op_mulW (pv 7) (pv 8))) (pa_cons (pe_op op_mulW (pv 7) (pv 5)) pa_nil)))))) (pe_slice sl_list (pv 2) (po_some (pe_op op_add (pv 4) pe_int)) po_none)))) pss_nil))))) (pss_one (ps_ret (pv 2))))), ?_⟩
  refine ⟨by show 2 ≤ sizeLine; decide, fun t0 nt => ⟨by show 1 ≤ sizeLine; decide, fun R nR => ?_⟩⟩
  have nt_p := Pn.ne nt
  have P0 := (Pn.new (o := .tup [.int 0, .int 1]) nt).new (o := .lst [.ref t0]) nR
  have k0 : Keep p H (upd (upd H t0 (.tup [.int 0, .int 1])) R (.lst [.ref t0])) := (Keep.refl.new nt).new nR
  have hR0 : H R = none := (Keep.refl.new nt).none_of nR ((Pn.new nt).ne nR)
  have hT := same_new nR (.lst [.ref t0]) _ _ (upd_same (H := H) (a := t0) (o := HO.tup [.int 0, .int 1]))
  refine ⟨_, rfl, p, l, 6, n, rfl, P0, by omega, by omega, by omega, fun v H1 v0 v1 P1 k1 => ?_⟩
  have hR1 := k1 _ _ (upd_same (H := upd H t0 (.tup [.int 0, .int 1])) (a := R) (o := .lst [.ref t0])) ((Pn.new nt).ne nR)
  have hT1 := k1 _ _ hT nt_p
  refine ⟨v, rfl, by omega, by omega, for_range (lo := 0) (n := v.toNat) (fun i σ H' => ∃ (R : Addr) (us : List Addr) (cs : List Cl) (o3 o4 o5 o6 o7 : Option V), σ = [some (.ref p), some (.int (most : Int)), some (.ref R), o3, o4, o5, o6, o7, none] ∧ H' R = some (.lst (us.map V.ref)) ∧ ClsAt H' us cs ∧ Cov i cs ∧ 1 ≤ cs.length ∧ cs.length ≤ most ∧ H R = none ∧ Pen H' p l (n + 12 + 24 * i) ∧ Keep p H H')
    ⟨R, [t0], [(0, 1)], none, none, none, none, none, rfl, hR1, .cons hT1 .nil, Cov.start, Nat.le_refl 1, m1, hR0, P1.le (by omega), k0.trans k1⟩ ?_ ?_⟩
  · rintro i σ H' hi ⟨R, us, cs, o3, o4, o5, o6, o7, rfl, hR, hc, cv, c1, c2, hR0, Pi, ki⟩
    have lu : us.length = cs.length := Paired.length hc
    have hl40 : cs.length ≤ 40 := by omega
    have i5 : i + 1 ≤ 5 := by omega
    refine ⟨fun σ' H2 => ∃ (j m : Nat) (o3' : Option V), σ' = [some (.ref p), some (.int (most : Int)), some (.ref R), o3', some (.int (j : Int)), some (.int (m : Int)), o6, o7, none] ∧ j < cs.length ∧ 2 ≤ m ∧ m ≤ 4 ∧ H2 R = some (.lst (us.map V.ref)) ∧ ClsAt H2 us cs ∧ Pen H2 p l (n + 12 + 24 * (i + 1)) ∧ Keep p H H2, ?_, ?_⟩
    · obtain ⟨kvi, hpi⟩ := Pi.dk
      refine ⟨_, rfl, _, rfl, R, _, rfl, .inl (SqL.of hR), p, l, _, _, rfl, Pi, by omega, by rw [List.length_map]; omega, by rw [List.length_map]; omega, fun a H2 a0 a1 P2 k2 => ?_⟩
      rw [List.length_map, lu] at a1
      refine ⟨_, rfl, p, l, 3, _, rfl, P2, by omega, by omega, by omega, fun b H3 b0 b1 P3 k3 => ⟨_, _, rfl, rfl, ?_⟩⟩
      obtain ⟨j, rfl⟩ : ∃ j : Nat, a = (j : Int) := ⟨a.toNat, by omega⟩
      obtain ⟨m, em⟩ : ∃ m : Nat, 2 + b = (m : Int) := ⟨(2 + b).toNat, by omega⟩
      refine ⟨by show 2 ≤ sizeLine; decide, fun t nt => ⟨t, _, rfl, SqT.of upd_same, rfl, _, _, rfl, _, _, rfl, rfl, ?_⟩⟩
      have k23 := (k2.trans k3).new (o := .tup [.int (j : Int), .int (2 + b)]) nt
      have hpe : R ≠ p := ne_of hR hpi (by intro z; cases z)
      exact ⟨j, m, _, by rw [← em]; rfl, by omega, by omega, by omega, k23 _ _ hR hpe, hc.keep k23 hpi, (P3.new nt).le (by omega), ki.trans k23⟩
    rintro σ' H2 ⟨j, m, o3', rfl, jl, m2, m4, hR2, hc2, P2, k2⟩
    obtain ⟨u, eu⟩ : ∃ u, us[j]? = some u := ⟨_, List.getElem?_eq_getElem (by omega)⟩
    obtain ⟨c, ec⟩ : ∃ c, cs[j]? = some c := ⟨_, List.getElem?_eq_getElem jl⟩
    have hu2 := paired_at (F := fun (u : Addr) (c : Cl) => H2 u = some (.tup [.int c.1, .int c.2])) hc2 eu ec
    obtain ⟨r, d⟩ := c
    refine ⟨fun σ' H3 => σ' = [some (.ref p), some (.int (most : Int)), some (.ref R), o3', some (.int (j : Int)), some (.int (m : Int)), some (.int r), some (.int d), none] ∧ H3 = H2, ?_, ?_⟩
    · refine ⟨_, rfl, _, rfl, R, _, _, _, rfl, rfl, SqL.of hR2, atI_nat (show (us.map V.ref)[j]? = some (V.ref u) by rw [List.getElem?_map, eu]; rfl), u, _, rfl, SqT.of hu2, rfl, _, _, rfl, _, _, rfl, rfl, rfl, rfl⟩
    rintro σ' H3 ⟨rfl, rfl⟩
    obtain ⟨kv3, hp3⟩ := P2.dk
    have nRp : R ≠ p := ne_of hR2 hp3 (by intro z; cases z)
    refine ⟨_, rfl, R, _, rfl, .inl (SqL.of hR2), _, rfl, _, _, rfl, rfl, _, _, rfl, rfl, _, rfl, _, _, rfl, rfl, _, rfl, ?_⟩
    rw [List.length_map, lu]
    by_cases z : (cs.length : Int) + (m : Int) - 1 ≤ (most : Int)
    · refine iteDT z ?_
      have a1 : (us.map V.ref).length = us.length := List.length_map ..
      refine ⟨_, rfl, _, rfl, (j : Int), rfl, R, _, rfl, SqL.of hR2, fun X1 nX1 => ?_⟩
      rw [cut_to (by omega), ← List.map_take]
      have w1 := same_new nX1 (.lst ((us.take j).map V.ref))
      obtain ⟨H4, e4⟩ : ∃ H4, H4 = upd H3 X1 (.lst ((us.take j).map V.ref)) := ⟨_, rfl⟩
      have hX1 : H4 X1 = some (.lst ((us.take j).map V.ref)) := by rw [e4]; exact upd_same
      rw [← e4] at w1 ⊢
      have hR4 := w1 _ _ hR2
      have hc4 := ClsAt.same hc2 w1
      have P4 := P2.same w1
      refine ⟨_, rfl, (m : Int), rfl, by omega, by omega, fun X2 nX2 => ?_⟩
      have P5 := P4.new (o := .lst []) nX2
      have nX2p := P4.ne nX2
      have nX2l := P4.nl nX2
      refine lc_range (lo := 0) (n := (m : Int).toNat) (fun k H' => ∃ ws : List Addr, H' X2 = some (.lst (ws.map V.ref)) ∧ ClsAt H' ws ((splitC r d m).take k) ∧ Same H4 H') ⟨[], upd_same, by rw [List.take_zero]; exact .nil, same_new nX2 _⟩ ?_ ?_
      · rintro k H' hk ⟨ws, hX, hw, sw⟩
        have hk : k < m := by omega
        have dle : d ≤ 248832 := cv.le (List.mem_of_getElem? ec)
        have d0 : 0 ≤ r ∧ r < d := ⟨(cv.pos _ (List.mem_of_getElem? ec)).1, (cv.pos _ (List.mem_of_getElem? ec)).2.1⟩
        refine ⟨rfl, _, rfl, _, rfl, _, rfl, _, _, rfl, rfl, wide_mul (a := 64) (b := 8) (by omega) (by omega) (by decide) (by decide) (by decide), _, _, rfl, rfl, _, rfl, _, rfl, _, _, rfl, rfl, wide_mul (a := 64) (b := 8) (by omega) (by omega) (by decide) (by decide) (by decide), by show 2 ≤ sizeLine; decide, fun u2 nu2 => ?_⟩
        have lw : ws.length = k := by
          have := Paired.length hw
          rw [List.length_take] at this
          have e : (splitC r d m).length = m := by unfold splitC; rw [List.length_map, List.length_range]
          omega
        have su := same_new nu2 (.tup [.int (r + d * (0 + (k : Int))), .int (d * (m : Int))])
        have hXu := su _ _ hX
        refine ⟨_, hXu, by rw [List.length_map, lw]; exact Nat.lt_of_le_of_lt (show k ≤ 4 by omega) (by decide), ws ++ [u2], by rw [upd_same, List.map_append]; rfl, ?_, sameAt (sw.trans su) nX2⟩
        have et : (splitC r d m).take (k + 1) = (splitC r d m).take k ++ [(r + d * (k : Int), d * (m : Int))] := take_snoc (by unfold splitC; rw [List.getElem?_map, List.getElem?_range hk]; rfl)
        rw [et]
        refine ClsAt.app ((ClsAt.same hw su).updL hXu) (.cons ?_ .nil)
        rw [upd_ne (ne_of (upd_same (H := H') (a := u2) (o := HO.tup [.int (r + d * (0 + (k : Int))), .int (d * (m : Int))])) hXu (by intro z; cases z)), upd_same, Int.zero_add]
      · rintro H' ⟨ws, hX, hw, sw⟩
        have lsp : (splitC r d m).length = m := by unfold splitC; rw [List.length_map, List.length_range]
        have hw : ClsAt H' ws (splitC r d m) := by rw [show (m : Int).toNat = m from Int.toNat_natCast m, List.take_of_length_le (by omega)] at hw; exact hw
        have lw : ws.length = m := by rw [Paired.length hw, lsp]
        have s4 := w1.trans sw
        have hX1' := sw _ _ hX1
        have a2 : (us.take j).length = j := by rw [List.length_take]; omega
        refine ⟨X1, X2, _, _, rfl, rfl, hX1', hX, by rw [List.length_map, List.length_map]; exact Nat.le_trans (show (us.take j).length + ws.length ≤ 100 by omega) (by decide), fun Y1 nY1 => ?_⟩
        rw [← List.map_append]
        have sY1 := same_new nY1 (.lst ((us.take j ++ ws).map V.ref))
        refine ⟨_, rfl, _, rfl, _, _, rfl, rfl, (j : Int) + 1, rfl, R, _, rfl, SqL.of (sY1 _ _ (s4 _ _ hR2)), fun Y2 nY2 => ?_⟩
        rw [show (j : Int) + 1 = ((j + 1 : Nat) : Int) from rfl, cut_from (by omega), ← List.map_drop]
        have sY2 := same_new nY2 (.lst ((us.drop (j + 1)).map V.ref))
        refine ⟨Y1, Y2, _, _, rfl, rfl, sY2 _ _ upd_same, upd_same, by rw [List.length_map, List.length_map, List.length_append, List.length_drop]; exact Nat.le_trans (show (us.take j).length + ws.length + (us.length - (j + 1)) ≤ 100 by omega) (by decide), fun Y3 nY3 => ?_⟩
        rw [← List.map_append]
        have sY3 := same_new nY3 (.lst ((us.take j ++ ws ++ us.drop (j + 1)).map V.ref))
        have all := ((s4.trans sY1).trans sY2).trans sY3
        have ce : cs = cs.take j ++ (r, d) :: cs.drop (j + 1) := by
          have h1 := List.take_append_drop j cs
          rw [List.drop_eq_getElem_cons jl] at h1
          rw [List.getElem?_eq_getElem jl] at ec
          rw [Option.some.inj ec] at h1
          exact h1.symm
        have cv' : Cov i (cs.take j ++ (r, d) :: cs.drop (j + 1)) := by rw [← ce]; exact cv
        have ll : (cs.take j ++ splitC r d m ++ cs.drop (j + 1)).length + 1 = cs.length + m := by
          rw [List.length_append, List.length_append, lsp, List.length_take, List.length_drop]
          omega
        have k4 : Keep p H3 _ := Keep.of all
        refine ⟨Y3, us.take j ++ ws ++ us.drop (j + 1), cs.take j ++ splitC r d m ++ cs.drop (j + 1), _, _, _, _, _, rfl, upd_same, ?_, cv'.split i5 m2 m4, by omega, by omega, ?_, (P2.same all).le (by omega), k2.trans k4⟩
        · exact ClsAt.app (ClsAt.app (ClsAt.same (ClsAt.cut j hc2).1 all) (ClsAt.same hw ((sY1.trans sY2).trans sY3))) (ClsAt.same (ClsAt.cut (j + 1) hc2).2 all)
        · exact (k2.trans (Keep.of ((s4.trans sY1).trans sY2))).none_of nY3 (((P2.same s4).same sY1 |>.same sY2).ne nY3)
    · refine iteDF z ?_
      exact ⟨R, us, cs, _, _, _, _, _, rfl, hR2, hc2, cv.up i5, c1, c2, hR0, P2.le (by omega), k2⟩
  · rintro σ H' ⟨R, us, cs, o3, o4, o5, o6, o7, rfl, hR, hc, cv, c1, c2, hR0, Pi, ki⟩
    refine ⟨_, rfl, ?_⟩
    exact q R us cs H' hR hc (cv.top (by omega)) c1 c2 hR0 (Pi.le (by omega)) ki
end
/-- a painter of a class: its first post is the first of the class from the base on, or some strides behind -/
def InCls (base : Int) (gs : List Int) (q : Quad) : Prop := 0 < q.2.2.2 ∧ 0 ≤ q.2.1 ∧ q.2.1 < 10 ^ 20 ∧ ∃ r g, g ∈ gs ∧ q.2.2.1 = base + (r - base) % q.2.2.2 + q.2.2.2 * g
abbrev s__law_covering : Stmt := (topS 87)
abbrev N_sc__law_covering : List Str := ["_law_pen_here", "_law_names_here", "_law_classes", "_law_base", "_law_gaps", "_law_found", "_law_k", "_law_r", "_law_d", "_law_post"]
abbrev P__law_covering : List Str := ["_law_pen_here", "_law_names_here", "_law_classes", "_law_base", "_law_gaps"]
theorem sc__law_covering : FnScope N_sc__law_covering P__law_covering (defScope s__law_covering) := ⟨rfl, rfl, rfl, by decide +kernel, rfl, by decide +kernel, by decide +kernel⟩
def spCvr (K : PySem.W.Frag) : Sp := fun vs H Q _ => ∃ (p l N R G : Addr) (ss : List Str) (us : List Addr) (cs : List Cl) (base : Int) (gs : List Int) (n : Nat), vs = [.ref p, .ref N, .ref R, .int base, .ref G] ∧ Pen H p l n ∧ n + 5000 ≤ 2 ^ 39 ∧
  H N = some (.lst (ss.map V.str)) ∧ (∀ z ∈ ss, NameOk z) ∧ ss.Nodup ∧ H R = some (.lst (us.map V.ref)) ∧ ClsAt H us cs ∧ cs.length ≤ ss.length ∧ cs.length ≤ 40 ∧ (∀ c ∈ cs, 0 ≤ c.1 ∧ c.1 < c.2 ∧ c.2 ≤ 248832) ∧ -(10 ^ 29) ≤ base ∧ base ≤ 10 ^ 29 ∧
  H G = some (.lst (gs.map V.int)) ∧ (∀ g ∈ gs, 0 ≤ g ∧ g ≤ 10 ^ 20) ∧ 1 ≤ gs.length ∧ gs.length ≤ 1000 ∧
  ∀ F ts qs H', H' F = some (.lst (ts.map V.ref)) → Team H' ts qs → qs.map clsQ = cs → qs.map (·.1) = ss.take cs.length → (∀ q ∈ qs, InCls base gs q) → Pen H' p l (n + 5000) → Keep p H H' → Q (.ref F) H'
section
variable {P : Program} {w : World} {K : PySem.W.Frag} {mg : Str → Option Value} {base : Heap}
set_option maxHeartbeats 16000000 in
theorem ok_covering (D : Dfn K mg "_law_covering" s__law_covering P__law_covering) (B : Blt mg) (CD : Cal P w K mg base 12 "_law_draw" P__law_draw spDr) (CI : Cal P w K mg base 13 "_law_pick" P__law_pick (spPickI K)) (CG : Cal P w K mg base 14 "_law_great" P__law_great spGreat) : Cal P w K mg base 15 "_law_covering" P__law_covering (spCvr K) := by
  refine D.cal sc__law_covering (fun vs H Q E h => ?_) fun f cdv A outer s H vs Q E hr h => ?_
  · obtain ⟨_, _, _, _, _, _, _, _, _, _, _, rfl, _⟩ := h
    rfl
  obtain ⟨p, l, N, R, G, ss, us, cs, bs, gs, n, rfl, Pn, hn, hN, nok, nnd, hR, hc, cn, c40, cok, b0, b1, hG, gok, g1, g2, q⟩ := h
  refine ⟨_, (pss_cons (ps_set (i := 5) sc__law_covering.nd rfl (Or.inl rfl) (pe_lst pa_nil)) (pss_cons (ps_for PassesOwn.never rfl (pi_range1 rfl B.range_ (pa_cons (pe_callB call_len_seq rfl B.len_ PySem.boot_len (pa_cons (pv 2) pa_nil)) pa_nil)) (pg_name (i := 6) sc__law_covering.nd rfl (Or.inl rfl)) (pss_cons (ps_asg (pe_ix ix_list (pv 2) (pv 6) (fun _ _ => rfl)) (pg_tup rfl (pgs_cons (pg_name (i := 7) sc__law_covering.nd rfl (Or.inl rfl)) (pgs_cons (pg_name (i := 8) sc__law_covering.nd rfl (Or.inl rfl)) pgs_nil)))) (pss_cons (ps_set (i := 9) sc__law_covering.nd rfl (Or.inl rfl) (pe_op op_add (pe_op op_add (pv 3) (pe_op op_mod (pe_callTy call_int1 rfl B.int_ (by decide +kernel) (pa_cons (pe_op op_sub (pv 7) (pv 3)) pa_nil)) (pv 8))) (pe_op op_mulW (pv 8) (pe_cal CI (hr.mono (by decide)) (pa_cons (pv 0) (pa_cons (pv 4) pa_nil)))))) (pss_one (ps_expr (pe_bm PySem.F.plainAttrs_list PySem.F.slot_list_append PySem.F.type_list_append mt_append (pv 5) (pa_cons (pe_tup (pa_cons (pe_ix ix_list (pv 1) (pv 6) (fun _ _ => rfl)) (pa_cons (pe_cal CI (hr.mono (by decide)) (pa_cons (pv 0) (pa_cons (pe_lst (pa_cons pe_int (pa_cons (pe_cal CD (hr.mono (by decide)) (pa_cons (pv 0) (pa_cons pe_int pa_nil))) (pa_cons (pe_cal CG (hr.mono (by decide)) (pa_cons (pv 0) (pa_cons pe_int pa_nil))) pa_nil)))) pa_nil))) (pa_cons (pv 9) (pa_cons (pv 8) pa_nil))))) pa_nil))))))) (pss_one (ps_ret (pv 5))))), ?_⟩
  refine ⟨by show 0 ≤ sizeLine; decide, fun F nF => ?_⟩
  obtain ⟨kvs, hp⟩ := Pn.dk
  have nFp := Pn.ne nF
  have nFl := Pn.nl nF
  have P0 := Pn.new (o := .lst []) nF
  have k0 : Keep p H (upd H F (.lst [])) := Keep.refl.new nF
  have hR0 := k0 _ _ hR (ne_of hR hp (by intro z; cases z))
  have lu : us.length = cs.length := Paired.length hc
  refine ⟨_, rfl, R, _, rfl, .inl (SqL.of hR0), _, rfl, by omega, by rw [List.length_map]; omega, ?_⟩
  refine for_range (lo := 0) (fun i σ H' => ∃ (ts : List Addr) (qs : List Quad) (o6 o7 o8 o9 : Option V), σ = [some (.ref p), some (.ref N), some (.ref R), some (.int bs), some (.ref G), some (.ref F), o6, o7, o8, o9] ∧ H' F = some (.lst (ts.map V.ref)) ∧ ts.length = i ∧ qs.length = i ∧ i ≤ cs.length ∧ (∀ (j : Nat) (t : Addr) (x : Quad), ts[j]? = some t → qs[j]? = some x → H' t = some (.tup (quadV x))) ∧
      qs.map (·.1) = ss.take i ∧ qs.map clsQ = cs.take i ∧ (∀ q ∈ qs, QuadOk q ∧ InCls bs gs q) ∧ Pen H' p l (n + 120 * i) ∧ Keep p H H') ⟨[], [], none, none, none, none, rfl, upd_same, rfl, rfl, Nat.zero_le _, (fun j t x e => by simp at e), rfl, rfl, (fun q h => nomatch h), P0.le (by omega), k0⟩ ?_ ?_
  · rintro i σ H' hi ⟨ts, qs, o6, o7, o8, o9, rfl, hF, tl, ql, ic, at1, en, ec, okq, Pi, ki⟩
    rw [List.length_map, lu] at hi
    have hi : i < cs.length := by omega
    obtain ⟨kvi, hpi⟩ := Pi.dk
    obtain ⟨u, eu⟩ : ∃ u, us[i]? = some u := ⟨_, List.getElem?_eq_getElem (by omega)⟩
    obtain ⟨c, hci⟩ : ∃ c, cs[i]? = some c := ⟨_, List.getElem?_eq_getElem hi⟩
    obtain ⟨z, ez⟩ : ∃ z, ss[i]? = some z := ⟨_, List.getElem?_eq_getElem (by omega)⟩
    have hc0 := hc.keep k0 hp
    have hci' : ClsAt H' us cs := hc.keep ki hp
    have hu2 := paired_at (F := fun (u : Addr) (c : Cl) => H' u = some (.tup [.int c.1, .int c.2])) hci' eu hci
    obtain ⟨c0, c1, c2⟩ := cok c (List.mem_of_getElem? hci)
    obtain ⟨r, d⟩ := c
    have c0 : 0 ≤ r := c0
    have c1 : r < d := c1
    have c2 : d ≤ 248832 := c2
    have hRi := ki _ _ hR (ne_of hR hp (by intro z; cases z))
    have hGi := ki _ _ hG (ne_of hG hp (by intro z; cases z))
    refine ⟨_, rfl, _, rfl, R, _, _, _, rfl, rfl, SqL.of hRi, atI_nat (show (us.map V.ref)[0 + i]? = some (V.ref u) by rw [Nat.zero_add, List.getElem?_map, eu]; rfl), u, _, rfl, SqT.of hu2, rfl, _, _, rfl, _, _, rfl, rfl, ?_⟩
    refine ⟨_, rfl, _, rfl, _, rfl, _, _, rfl, rfl, .inl ⟨_, rfl, _, rfl, _, _, rfl, rfl, by omega, _, _, rfl, rfl, _, rfl, _, rfl, _, rfl, p, l, G, gs, _, rfl, Pi, by omega, SqL.of hGi, g1, by omega, fun g H3 hg P3 k3 => ?_⟩⟩
    obtain ⟨g0, gb⟩ := gok g hg
    have d2 : 0 < d := by omega
    have e0 := Int.emod_nonneg (r - bs) (show d ≠ 0 by omega)
    have e1 := Int.emod_lt_of_pos (r - bs) d2
    have dg0 := Int.mul_nonneg (show 0 ≤ d by omega) g0
    have dg1 : d * g ≤ 248832 * 10 ^ 20 := Int.mul_le_mul c2 gb g0 (by decide)
    obtain ⟨kv3, hp3⟩ := P3.dk
    have hF3 := k3 _ _ hF (ne_of hF hpi (by intro z; cases z))
    have hN3 := k3 _ _ (ki _ _ hN (ne_of hN hp (by intro z; cases z))) (ne_of (ki _ _ hN (ne_of hN hp (by intro z; cases z))) hpi (by intro z; cases z))
    have ki3 := ki.trans k3
    refine ⟨_, _, rfl, rfl, wide_mul (a := 20) (b := 70) (by omega) (by omega) (by decide) (by decide) (by decide), _, _, rfl, rfl, ?_⟩
    refine ⟨_, rfl, .inl ⟨rfl, _, SqL.of hF3⟩, _, rfl, _, rfl, N, _, _, _, rfl, rfl, SqL.of hN3, atI_nat (show (ss.map V.str)[0 + i]? = some (V.str z) by rw [Nat.zero_add, List.getElem?_map, ez]; rfl), _, rfl, _, rfl, p, l, 9, _, rfl, P3, by omega, by omega, by omega, fun v1 H4 v10 v11 P4 k4 => ?_⟩
    refine ⟨_, rfl, p, l, 20, _, rfl, P4, by omega, by decide, by decide, fun v2 H5 v20 v21 P5 k5 => ?_⟩
    refine ⟨by show 3 ≤ sizeLine; decide, fun y ny => ?_⟩
    have P6 := P5.new (o := .lst [.int 0, .int v1, .int v2]) ny
    have k6 := (k4.trans k5).new (o := .lst [.int 0, .int v1, .int v2]) ny
    refine ⟨p, l, y, [0, v1, v2], _, rfl, P6, by omega, SqL.of upd_same, by show 1 ≤ 3; decide, by show 3 ≤ 1000000; decide, fun dy H7 hdy P7 k7 => ?_⟩
    have dyb : 0 ≤ dy ∧ dy < 10 ^ 20 := by
      simp only [List.mem_cons, List.not_mem_nil, or_false] at hdy
      rcases hdy with rfl | rfl | rfl <;> omega
    have k67 := k6.trans k7
    have hF7 := k67 _ _ hF3 (ne_of hF3 hp3 (by intro z; cases z))
    obtain ⟨po, epo⟩ : ∃ po, bs + (r - bs) % d + d * g = po := ⟨_, rfl⟩
    refine ⟨_, rfl, _, rfl, by show 4 ≤ sizeLine; decide, fun t nt => ?_⟩
    have ht := same_new nt (.tup [.str z, .int dy, .int (bs + (r - bs) % d + d * g), .int d])
    have hF8 := ht _ _ hF7
    refine ⟨F, _, _, rfl, rfl, hF8, by rw [List.length_map, tl]; exact small1000 (by omega), ?_⟩
    have kAll := (ki3.trans k67).new (o := .tup [.str z, .int dy, .int (bs + (r - bs) % d + d * g), .int d]) nt
    have kF := kAll.at_new (o := .lst ((ts.map V.ref) ++ [.ref t])) nF
    refine ⟨ts ++ [t], qs ++ [(z, dy, bs + (r - bs) % d + d * g, d)], _, _, _, _, rfl, by rw [upd_same, List.map_append]; rfl, by rw [List.length_append, tl]; rfl, by rw [List.length_append, ql]; rfl, by omega, fun j t' x a b => ?_, ?_, ?_, fun q hq => ?_, ((P7.new nt).upd nFp nFl).le (by omega), kF⟩
    · by_cases cj : j < i
      · rw [List.getElem?_append_left (by omega)] at a b
        have h0 := at1 j t' x a b
        have h3 := k3 _ _ h0 (ne_of h0 hpi (by intro z; cases z))
        have h7 := ht _ _ (k67 _ _ h3 (ne_of h3 hp3 (by intro z; cases z)))
        rw [upd_ne (ne_of h7 hF8 (by intro z; cases z))]
        exact h7
      · have hj2 := (List.getElem?_eq_some_iff.mp a).1
        rw [List.length_append] at hj2
        have e1' : ([t] : List Addr).length = 1 := rfl
        obtain rfl : j = i := by omega
        rw [List.getElem?_append_right (by omega), tl, Nat.sub_self] at a
        rw [List.getElem?_append_right (by omega), ql, Nat.sub_self] at b
        obtain rfl := Option.some.inj a
        obtain rfl := Option.some.inj b
        rw [upd_ne (ne_of (upd_same (H := H7) (a := t) (o := HO.tup [.str z, .int dy, .int (bs + (r - bs) % d + d * g), .int d])) hF8 (by intro z; cases z)), upd_same]
        rfl
    · rw [List.map_append, en, take_snoc ez]
      rfl
    · rw [List.map_append, ec, take_snoc hci]
      show _ ++ [((bs + (r - bs) % d + d * g) % d, d)] = _ ++ [(r, d)]
      rw [Int.add_mul_emod_self_left, Int.add_emod, Int.emod_emod, ← Int.add_emod, show bs + (r - bs) = r by omega, Int.emod_eq_of_lt c0 c1]
    · rcases List.mem_append.mp hq with hq | hq
      · exact okq q hq
      · obtain rfl := List.mem_singleton.mp hq
        exact ⟨⟨nok z (List.mem_of_getElem? ez), by show 0 ≤ dy; omega, by show dy ≤ _; omega, by show _ ≤ bs + (r - bs) % d + d * g; omega, by show bs + (r - bs) % d + d * g ≤ _; omega, by show _ ≤ d; omega, by show d ≤ _; omega, by show d ≠ 0; omega⟩, d2, dyb.1, dyb.2, r, g, hg, rfl⟩
  · rintro σ H' ⟨ts, qs, o6, o7, o8, o9, rfl, hF, tl, ql, ic, at1, en, ec, okq, Pi, ki⟩
    rw [List.length_map, lu] at tl ql en ec ic Pi
    have tl : ts.length = cs.length := tl
    have ql : qs.length = cs.length := ql
    have en : qs.map (·.1) = ss.take cs.length := en
    have ec : qs.map clsQ = cs := by
      have ec : qs.map clsQ = cs.take cs.length := ec
      rw [ec, List.take_length]
    refine ⟨_, rfl, ?_⟩
    refine q F ts qs H' hF ⟨by omega, at1, fun x hx => (okq x hx).1, ?_, by omega⟩ ec en (fun x hx => (okq x hx).2) (Pi.le ?_) ki
    · rw [en]
      exact nnd.sublist (List.take_sublist _ _)
    · show n + 120 * cs.length ≤ n + 5000
      omega
end
end Ur
/-! CX: what a search for a post that is not painted says of the posts themselves; painters of different classes. -/
namespace Ur
open PySem PySem.Spec PyProof.Rows L2
/-- the first post, from this one on to one side, that is none of P -/
def FreeS (P : Int → Prop) (left : Bool) (post : Int) : Option Int → Prop
  | none => ∀ x, sgn left post ≤ sgn left x → P x
  | some h => sgn left post ≤ sgn left h ∧ ¬ P h ∧ ∀ x, sgn left post ≤ sgn left x → sgn left x < sgn left h → P x
theorem sgn_sgn (left : Bool) (x : Int) : sgn left (sgn left x) = x := by
  cases left with
  | false => rfl
  | true => show - -x = x; omega
section
variable {P : Int → Prop} {A : Int → Int} {post : Int}
theorem count_bd (z : A (post - 1) = 0) (st : ∀ x, post ≤ x + 1 → (P (x + 1) ∧ A (x + 1) = A x + 1) ∨ (¬ P (x + 1) ∧ A (x + 1) = A x)) : ∀ n : Nat, A (post - 1 + n) ≤ n
  | 0 => by rw [Int.natCast_zero, Int.add_zero]; omega
  | n + 1 => by
    have ih := count_bd z st n
    have e : post - 1 + ((n + 1 : Nat) : Int) = post - 1 + n + 1 := by omega
    rw [e]
    rcases st (post - 1 + n) (by omega) with ⟨_, h⟩ | ⟨_, h⟩ <;> omega
theorem sem_all (z : A (post - 1) = 0) (st : ∀ x, post ≤ x + 1 → (P (x + 1) ∧ A (x + 1) = A x + 1) ∨ (¬ P (x + 1) ∧ A (x + 1) = A x)) (h : SemN (fun x => x - post + 1 - A x) post 0 none) : ∀ x, post ≤ x → P x := by
  intro x hx
  have h1 : x - post + 1 - A x ≤ 0 := h x hx
  have b := count_bd z st (x - post).toNat
  rw [show post - 1 + (((x - post).toNat : Nat) : Int) = x - 1 by omega] at b
  have s := st (x - 1) (by omega)
  rw [show x - 1 + 1 = x by omega] at s
  rcases s with ⟨p, _⟩ | ⟨_, e⟩
  · exact p
  · omega
theorem sem_one (z : A (post - 1) = 0) (st : ∀ x, post ≤ x + 1 → (P (x + 1) ∧ A (x + 1) = A x + 1) ∨ (¬ P (x + 1) ∧ A (x + 1) = A x)) {x : Int} (h : SemN (fun x => x - post + 1 - A x) post 0 (some x)) : post ≤ x ∧ ¬ P x ∧ ∀ y, post ≤ y → y < x → P y := by
  obtain ⟨h0, h1, h2⟩ := h
  have h1 : x - post + 1 - A x = 0 + 1 := h1
  have h2 : x - 1 - post + 1 - A (x - 1) = 0 := h2
  have s := st (x - 1) (by omega)
  rw [show x - 1 + 1 = x by omega] at s
  refine ⟨h0, ?_, fun y hy hyx => ?_⟩
  · rcases s with ⟨_, e⟩ | ⟨p, _⟩
    · omega
    · exact p
  · have up : ∀ n : Nat, A (y + n) ≤ A y + n := fun n => by
      induction n with
      | zero => rw [Int.natCast_zero, Int.add_zero]; omega
      | succ n ih =>
        have e : y + ((n + 1 : Nat) : Int) = y + n + 1 := by omega
        rw [e]
        rcases st (y + n) (by omega) with ⟨_, h⟩ | ⟨_, h⟩ <;> omega
    have u := up (x - 1 - y).toNat
    rw [show y + (((x - 1 - y).toNat : Nat) : Int) = x - 1 by omega] at u
    have b := count_bd z st (y - post).toNat
    rw [show post - 1 + (((y - post).toNat : Nat) : Int) = y - 1 by omega] at b
    have sy := st (y - 1) (by omega)
    rw [show y - 1 + 1 = y by omega] at sy
    rcases sy with ⟨p, _⟩ | ⟨_, e⟩
    · exact p
    · omega
end
theorem onrun_mir {p s x : Int} {m : Option Int} : OnRun (-1 * p + 0) (-1 * s) m x ↔ OnRun p s m (-x) := by
  constructor
  · rintro ⟨n, n0, nk, e⟩
    exact ⟨n, n0, nk, by rw [Int.neg_one_mul, Int.neg_one_mul, Int.mul_neg] at e; omega⟩
  · rintro ⟨n, n0, nk, e⟩
    exact ⟨n, n0, nk, by rw [Int.neg_one_mul, Int.neg_one_mul, Int.mul_neg]; omega⟩
theorem painted_side {qs : List Quad} {C : Nat → Option Int} {day : Option Int} (left : Bool) (x : Int) : PaintedBy (sideQ left qs) C day x ↔ PaintedBy qs C day (sgn left x) := by
  cases left with
  | false => exact Iff.rfl
  | true =>
    show PaintedBy (qs.map (mvQ (-1) 0 0)) C day x ↔ PaintedBy qs C day (-x)
    unfold PaintedBy
    rw [List.length_map]
    refine exists_congr fun j => and_congr_right fun hj => ?_
    obtain ⟨_, a2, a3, a4⟩ := mvQ_at (f := -1) (p := 0) (w := 0) hj
    rw [a2, a3, a4, Int.add_zero (dQ qs j)]
    exact onrun_mir
/-- what a search for a post that is not painted says -/
theorem raw_says {L : List Pt} {rs : List Rw} {day : Option Int} {post : Int} {left : Bool} {o : Option Int} (okq : ∀ q ∈ partsOf L, QuadOk q) (hist : HistR (partsOf L) (fSP (partsOf L)) rs) (okL : ∀ x ∈ L, PartOk x.nm x.d x.p x.s) (dd : ∀ d, day = some d → 0 ≤ d ∧ d ≤ 10 ^ 40) (few : L.length ≤ 30) (h : RawF left L rs day post 0 o) :
    FreeS (PaintedBy (partsOf L) (cntR rs) day) left post o := by
  obtain ⟨o', rfl, sem, _⟩ := semF_of okq hist okL dd few (Int.le_refl 0) h
  have sq := side_quad left okq
  have is := side_is left hist
  have z : pntN (sideQ left (partsOf L)) (cntR rs) day (sgn left post) (sgn left post - 1) (sideQ left (partsOf L)).length = 0 := pnt_none (fun q hq => (sq q hq).sn) (by omega) _ (Nat.le_refl _)
  have st : ∀ x, sgn left post ≤ x + 1 → _ := fun x hx => pnt_step (day := day) is (fun q hq => (sq q hq).sn) hx
  cases o' with
  | none =>
    intro x hx
    have a := sem_all z st sem (sgn left x) hx
    rw [painted_side, sgn_sgn] at a
    exact a
  | some y =>
    obtain ⟨h0, h1, h2⟩ := sem_one z st sem
    refine ⟨by rw [sgn_sgn]; exact h0, fun p => h1 ((painted_side left y).mpr p), fun x hx hxy => ?_⟩
    rw [sgn_sgn] at hxy
    have a := h2 (sgn left x) hx hxy
    rw [painted_side, sgn_sgn] at a
    exact a
theorem rawF_cnt {b : Bool} {L : List Pt} {rs rs' : List Rw} {day : Option Int} {post index : Int} {o : Option Int} (e : cntR rs' = cntR rs) (h : RawF b L rs day post index o) : RawF b L rs' day post index o := by
  unfold RawF dayRns at *
  rw [e]
  exact h
theorem okL_of {L : List Pt} (ok : ∀ q ∈ partsOf L, QuadOk q) : ∀ x ∈ L, PartOk x.nm x.d x.p x.s := fun x hx => ok _ (List.mem_map.mpr ⟨x, hx, rfl⟩)
/-! ### painters of different classes -/
/-- from the greatest of all posts behind first posts on, all is painted; the one before is not -/
structure DueAt (qs : List Quad) (D : Int) : Prop where
  le : ∀ i, i < qs.length → pQ qs i - sQ qs i + 1 ≤ D
  at_ : ∃ i, i < qs.length ∧ pQ qs i - sQ qs i + 1 = D
section
variable {qs : List Quad} {C : Nat → Option Int}
end
end Ur
/-! DX: how dense the painted posts lie far away. -/
namespace Ur
open PySem PySem.Spec PyProof.Rows L2
theorem run_none {p s f : Int} {m : Option Int} (sn : s ≠ 0) : ∀ n : Nat, (∀ x, f ≤ x → x ≤ f - 1 + n → ¬ OnRun p s m x) → runIn p s m f (f - 1 + n) = 0
  | 0, _ => by rw [Int.natCast_zero, Int.add_zero]; exact runIn_empty sn (by omega)
  | n + 1, h => by
    have ih := run_none (p := p) (s := s) (f := f) (m := m) sn n fun x a b => h x a (by omega)
    have e : f - 1 + ((n + 1 : Nat) : Int) = f - 1 + n + 1 := by omega
    rw [e]
    rcases runIn_step (p := p) (s := s) (f := f) (x := f - 1 + n) (m := m) sn (by omega) with ⟨o, _⟩ | ⟨_, e2⟩
    · exact absurd o (h _ (by omega) (by omega))
    · rw [e2, ih]
theorem run_div {p s f : Int} (s0 : 0 < s) (hp : p ≤ f) : ∀ n : Nat, runIn p s none f (f - 1 + n) = (f - 1 + n - p) / s - (f - 1 - p) / s
  | 0 => by rw [Int.natCast_zero, Int.add_zero, runIn_empty (by omega) (by omega)]; omega
  | n + 1 => by
    have ih := run_div s0 hp n
    have e : f - 1 + ((n + 1 : Nat) : Int) = f - 1 + n + 1 := by omega
    have e2 : f - 1 + (n : Int) + 1 - p = f - 1 + n - p + 1 := by omega
    rw [e, e2]
    rcases runIn_step (p := p) (s := s) (f := f) (x := f - 1 + n) (m := none) (by omega) (by omega) with ⟨o, e3⟩ | ⟨o, e3⟩ <;> rcases ediv_step (b := f - 1 + (n : Int) - p) s0 with ⟨q, g1, g2, g3⟩ | ⟨g1, g2⟩
    · rw [e3, ih]; omega
    · obtain ⟨k, _, _, ek⟩ := o
      exact absurd (show f - 1 + (n : Int) - p + 1 = k * s by omega) (g1 k)
    · refine absurd ⟨q, ?_, (fun k z => by cases z), by omega⟩ o
      rcases Int.lt_or_le q 0 with z | z
      · have := Int.mul_le_mul_of_nonneg_right (show q ≤ -1 by omega) (show 0 ≤ s by omega)
        rw [Int.neg_one_mul] at this
        omega
      · exact z
    · rw [e3, ih, g2]
/-- a multiple of all strides -/
def prodS : List Quad → Int
  | [] => 1
  | q :: r => (q.2.2.2.natAbs : Int) * prodS r
theorem prodS_pos : ∀ {qs : List Quad}, (∀ q ∈ qs, q.2.2.2 ≠ 0) → 0 < prodS qs
  | [], _ => by decide
  | q :: r, h => Int.mul_pos (by have := h q List.mem_cons_self; omega) (prodS_pos fun x hx => h x (List.mem_cons_of_mem _ hx))
theorem prodS_dvd : ∀ {qs : List Quad} {q : Quad}, q ∈ qs → 0 < q.2.2.2 → q.2.2.2 ∣ prodS qs
  | x :: r, q, h, p => by
    rcases List.mem_cons.mp h with rfl | h
    · exact ⟨prodS r, by show (q.2.2.2.natAbs : Int) * prodS r = _; rw [show (q.2.2.2.natAbs : Int) = q.2.2.2 by omega]⟩
    · exact Int.dvd_trans (prodS_dvd h p) ⟨_, Int.mul_comm _ _⟩
/-- who goes on to the right for ever -/
def EndR (qs : List Quad) (C : Nat → Option Int) (j : Nat) : Prop := C j = none ∧ 0 < sQ qs j
instance (qs : List Quad) (C : Nat → Option Int) (j : Nat) : Decidable (EndR qs C j) := by unfold EndR; exact inferInstance
/-- how many posts of so many that follow each other are painted -/
def densS (qs : List Quad) (C : Nat → Option Int) (n : Nat) : Int := ((List.range n).map fun j => if EndR qs C j then prodS qs / sQ qs j else 0).sum
theorem densS_succ {qs : List Quad} {C : Nat → Option Int} {n : Nat} : densS qs C (n + 1) = densS qs C n + if EndR qs C n then prodS qs / sQ qs n else 0 := by
  unfold densS
  rw [List.range_succ, List.map_append, List.sum_append]
  simp only [List.map_cons, List.map_nil, List.sum_cons, List.sum_nil]
  omega
section
variable {qs : List Quad} {C : Nat → Option Int} {far : Int}
theorem endr_dvd {j : Nat} (hj : j < qs.length) (h : EndR qs C j) : sQ qs j ∣ prodS qs := by
  obtain ⟨_, _, _, a4⟩ := q_at (List.getElem?_eq_getElem hj)
  have := h.2
  rw [a4] at this ⊢
  exact prodS_dvd (List.getElem_mem hj) this
theorem not_endr (en : Ends qs C none far) (ok : ∀ q ∈ qs, q.2.2.2 ≠ 0) {j : Nat} (hj : j < qs.length) (h : ¬ EndR qs C j) {x : Int} (hx : far < x) : ¬ OnRun (pQ qs j) (sQ qs j) (C j) x := by
  intro o
  obtain ⟨_, _, _, a4⟩ := q_at (List.getElem?_eq_getElem hj)
  have sn : sQ qs j ≠ 0 := by rw [a4]; exact ok _ (List.getElem_mem hj)
  obtain ⟨n, n0, nk, e⟩ := o
  cases c : C j with
  | none =>
    have l := en j hj (by show C j ≠ _; rw [c]; intro z; cases z)
    have l : farV ⟨1, pQ qs j, sQ qs j, C j⟩ ≤ far := l
    rw [c] at l
    have l : pQ qs j ≤ far := l
    have s0 : sQ qs j ≤ 0 := by
      rcases Int.lt_or_le 0 (sQ qs j) with g | g
      · exact absurd ⟨c, g⟩ h
      · exact g
    have := Int.mul_nonneg n0 (show 0 ≤ -sQ qs j by omega)
    rw [Int.mul_neg] at this
    omega
  | some k =>
    have nk := nk k c
    have l := en j hj (by show C j ≠ _; rw [c]; intro z; have := Option.some.inj z; omega)
    have l : farV ⟨1, pQ qs j, sQ qs j, C j⟩ ≤ far := l
    rw [c] at l
    have l : max (pQ qs j) (pQ qs j + (k - 1) * sQ qs j) ≤ far := l
    rcases Int.lt_or_le 0 (sQ qs j) with g | g
    · have := Int.mul_le_mul_of_nonneg_right (show n ≤ k - 1 by omega) (show 0 ≤ sQ qs j by omega)
      omega
    · have := Int.mul_nonneg n0 (show 0 ≤ -sQ qs j by omega)
      rw [Int.mul_neg] at this
      omega
/-- one painter's posts in a window behind far -/
theorem one_dens (en : Ends qs C none far) (ok : ∀ q ∈ qs, q.2.2.2 ≠ 0) {j : Nat} (hj : j < qs.length) {f : Int} (hf : far < f) (n : Nat) :
    (runIn (pQ qs j) (sQ qs j) (C j) f (f - 1 + n) * prodS qs - n * (if EndR qs C j then prodS qs / sQ qs j else 0)).natAbs ≤ prodS qs ∧
    ((n : Int) = prodS qs → runIn (pQ qs j) (sQ qs j) (C j) f (f - 1 + n) = if EndR qs C j then prodS qs / sQ qs j else 0) := by
  have M0 := prodS_pos ok
  obtain ⟨_, _, _, a4⟩ := q_at (List.getElem?_eq_getElem hj)
  have sn : sQ qs j ≠ 0 := by rw [a4]; exact ok _ (List.getElem_mem hj)
  by_cases c : EndR qs C j
  · obtain ⟨k, hk⟩ := endr_dvd hj c
    have c1 := c.1
    have c2 := c.2
    have l := en j hj (by show C j ≠ _; rw [c1]; intro z; cases z)
    have l : farV ⟨1, pQ qs j, sQ qs j, C j⟩ ≤ far := l
    rw [c1] at l
    have l : pQ qs j ≤ far := l
    have ek : prodS qs / sQ qs j = k := by rw [hk, Int.mul_ediv_cancel_left _ (by omega)]
    rw [if_pos c, c1, run_div c2 (by omega), ek]
    generalize sQ qs j = s at *
    generalize prodS qs = M at *
    have q1 := Int.mul_ediv_add_emod (f - 1 + n - pQ qs j) s
    have q2 := Int.emod_nonneg (f - 1 + n - pQ qs j) (show s ≠ 0 by omega)
    have q3 := Int.emod_lt_of_pos (f - 1 + n - pQ qs j) c2
    have r1 := Int.mul_ediv_add_emod (f - 1 - pQ qs j) s
    have r2 := Int.emod_nonneg (f - 1 - pQ qs j) (show s ≠ 0 by omega)
    have r3 := Int.emod_lt_of_pos (f - 1 - pQ qs j) c2
    have k0 : 0 < k := by
      rcases Int.lt_or_le 0 k with g | g
      · exact g
      · have := Int.mul_le_mul_of_nonneg_left g (show 0 ≤ s by omega)
        rw [Int.mul_zero] at this
        omega
    constructor
    · generalize (f - 1 + n - pQ qs j) / s = a at q1 ⊢
      generalize (f - 1 - pQ qs j) / s = b at r1 ⊢
      generalize (f - 1 + n - pQ qs j) % s = u at q1 q2 q3
      generalize (f - 1 - pQ qs j) % s = v at r1 r2 r3
      have e : s * (a - b) = n + v - u := by rw [Int.mul_sub]; omega
      have e2 : (a - b) * M - n * k = (v - u) * k := by
        rw [hk, show (a - b) * (s * k) = s * (a - b) * k by ac_rfl, e, show ((n : Int) + v - u) = n + (v - u) by omega, Int.add_mul]
        omega
      rw [e2, Int.natAbs_mul, hk]
      have : ((v - u).natAbs : Int) ≤ s := by omega
      have := Int.mul_le_mul_of_nonneg_right this (show 0 ≤ k by omega)
      rw [Int.natCast_mul, show ((k.natAbs : Nat) : Int) = k by omega]
      exact this
    · intro en
      rw [show f - 1 + (n : Int) - pQ qs j = f - 1 - pQ qs j + s * k by rw [en, hk]; omega, Int.add_mul_ediv_left _ _ (by omega)]
      omega
  · have z : runIn (pQ qs j) (sQ qs j) (C j) f (f - 1 + n) = 0 := run_none sn n fun x a _ => not_endr en ok hj c (by omega)
    rw [if_neg c, z, Int.mul_zero, Int.zero_mul]
    exact ⟨by rw [Int.sub_zero]; show ((0 : Nat) : Int) ≤ prodS qs; omega, fun _ => rfl⟩
theorem pnt_dens (en : Ends qs C none far) (ok : ∀ q ∈ qs, q.2.2.2 ≠ 0) {f : Int} (hf : far < f) (w : Nat) : ∀ n, n ≤ qs.length →
    (pntN qs C none f (f - 1 + w) n * prodS qs - w * densS qs C n).natAbs ≤ n * prodS qs ∧ ((w : Int) = prodS qs → pntN qs C none f (f - 1 + w) n = densS qs C n)
  | 0, _ => by
    show ((0 : Int) * prodS qs - w * 0).natAbs ≤ ((0 : Nat) : Int) * prodS qs ∧ (_ → (0 : Int) = 0)
    rw [Int.zero_mul, Int.mul_zero, Int.natCast_zero, Int.zero_mul]
    exact ⟨by decide, fun _ => rfl⟩
  | n + 1, h => by
    obtain ⟨i1, i2⟩ := pnt_dens en ok hf w n (by omega)
    obtain ⟨j1, j2⟩ := one_dens en ok h hf w
    have eb : byC none (dQ qs n) (C n) = C n := rfl
    rw [pntN_snoc, densS_succ, eb]
    refine ⟨?_, fun e => by rw [i2 e, j2 e]⟩
    rw [Int.add_mul, Int.mul_add, Int.natCast_add, Int.add_mul, Int.natCast_one, Int.one_mul]
    generalize pntN qs C none f (f - 1 + w) n * prodS qs = a at *
    generalize (w : Int) * densS qs C n = b at *
    generalize runIn (pQ qs n) (sQ qs n) (C n) f (f - 1 + w) * prodS qs = c at *
    generalize (w : Int) * (if EndR qs C n then prodS qs / sQ qs n else 0) = d at *
    generalize (n : Int) * prodS qs = e at *
    omega
end
section
variable {qs : List Quad} {C : Nat → Option Int} {far : Int}
theorem dens_all (is : IsHist qs.length (dQ qs) (fSP qs) C) (ok : ∀ q ∈ qs, q.2.2.2 ≠ 0) (en : Ends qs C none far) (e : densS qs C qs.length = prodS qs) {x : Int} (hx : far < x) : PaintedBy qs C none x := by
  have M0 := prodS_pos ok
  obtain ⟨_, h⟩ := pnt_dens en ok hx (prodS qs).toNat qs.length (Nat.le_refl _)
  have e0 : (((prodS qs).toNat : Nat) : Int) = prodS qs := by omega
  have h := h e0
  have g := pnt_grow (day := none) (f := x) is ok (show x ≤ x - 1 + (((prodS qs).toNat : Nat) : Int) by omega)
  rw [h, e] at g
  have z := pnt_none (day := none) (C := C) (f := x) (x := x - 1) ok (by omega) qs.length (Nat.le_refl _)
  have st := pnt_step (day := none) (f := x) (x := x - 1) is ok (by omega)
  rw [show x - 1 + 1 = x by omega] at st
  rcases st with ⟨p, _⟩ | ⟨_, e2⟩
  · exact p
  · omega
theorem all_dens (is : IsHist qs.length (dQ qs) (fSP qs) C) (ok : ∀ q ∈ qs, q.2.2.2 ≠ 0) (en : Ends qs C none far) {b : Int} (al : ∀ x, b ≤ x → PaintedBy qs C none x) : densS qs C qs.length = prodS qs := by
  have M0 := prodS_pos ok
  obtain ⟨f, f1, f2⟩ : ∃ f, far < f ∧ b ≤ f := ⟨max b (far + 1), by omega, by omega⟩
  obtain ⟨_, h⟩ := pnt_dens en ok f1 (prodS qs).toNat qs.length (Nat.le_refl _)
  have e0 : (((prodS qs).toNat : Nat) : Int) = prodS qs := by omega
  have h := h e0
  have all : ∀ n : Nat, pntN qs C none f (f - 1 + n) qs.length = n := fun n => by
    induction n with
    | zero => rw [Int.natCast_zero, Int.add_zero]; exact pnt_none ok (by omega) _ (Nat.le_refl _)
    | succ n ih =>
      have e : f - 1 + ((n + 1 : Nat) : Int) = f - 1 + n + 1 := by omega
      rw [e]
      rcases pnt_step (day := none) (f := f) (x := f - 1 + n) is ok (by omega) with ⟨_, e2⟩ | ⟨np, _⟩
      · rw [e2, ih]; omega
      · exact absurd (al _ (by omega)) np
  rw [all] at h
  omega
end
theorem Ends.mono {Q : List Quad} {C : Nat → Option Int} {day : Option Int} {far far' : Int} (h : Ends Q C day far) (l : far ≤ far') : Ends Q C day far' := fun j hj nz => Int.le_trans (h j hj nz) l
theorem ends_big {L : List Pt} {rs : List Rw} (okq : ∀ q ∈ partsOf L, QuadOk q) (hist : HistR (partsOf L) (fSP (partsOf L)) rs) (left : Bool) : Ends (sideQ left (partsOf L)) (cntR rs) none (10 ^ 69) :=
  Ends.mono (ends_day (R := sideR left (dayRns L rs none)) (P := 0) fun r hr => ⟨r, hr, rfl⟩) (far_ub (by decide) (dayRns_far (okL_of okq) okq hist (day := none) (fun d e => by cases e)))
end Ur
/-! SE: the share of the painted posts far away (share). -/
namespace Ur
open PySem PySem.Spec PyProof.Rows L2
def sgL (left : Bool) (x : Int) : Int := if left then -x else x
/-- the share as a fraction that is not in lowest terms -/
def frQ (qs : List Quad) (C : Nat → Option Int) (left : Bool) : Nat → Nat × Nat
  | 0 => (0, 1)
  | i + 1 => if C i = none ∧ 0 < sgL left (sQ qs i) then ((frQ qs C left i).1 * (sgL left (sQ qs i)).toNat + (frQ qs C left i).2, (frQ qs C left i).2 * (sgL left (sQ qs i)).toNat) else frQ qs C left i
theorem frQ_pos {qs : List Quad} {C : Nat → Option Int} {left : Bool} : ∀ n, 0 < (frQ qs C left n).2
  | 0 => Nat.one_pos
  | n + 1 => by
    have ih := frQ_pos (qs := qs) (C := C) (left := left) n
    unfold frQ
    split
    · rename_i h
      exact Nat.mul_pos ih (by have := h.2; omega)
    · exact ih
theorem frQ_congr {qs qs' : List Quad} {C C' : Nat → Option Int} {left left' : Bool} : ∀ n, (∀ i, i < n → (C i = none ↔ C' i = none)) → (∀ i, i < n → sgL left (sQ qs i) = sgL left' (sQ qs' i)) → frQ qs C left n = frQ qs' C' left' n
  | 0, _, _ => rfl
  | n + 1, h, g => by
    have ih := frQ_congr n (fun i hi => h i (by omega)) (fun i hi => g i (by omega))
    have a := h n (Nat.lt_succ_self n)
    have b := g n (Nat.lt_succ_self n)
    unfold frQ
    rw [ih, b]
    by_cases c : C n = none ∧ 0 < sgL left' (sQ qs' n)
    · rw [if_pos c, if_pos ⟨a.mp c.1, c.2⟩]
    · rw [if_neg c, if_neg fun z => c ⟨a.mpr z.1, z.2⟩]
theorem frQ_bd {qs : List Quad} {C : Nat → Option Int} {left : Bool} (ok : ∀ q ∈ qs, QuadOk q) : ∀ n, n ≤ qs.length → (frQ qs C left n).1 ≤ n * 2 ^ (60 * n) ∧ (frQ qs C left n).2 ≤ 2 ^ (60 * n)
  | 0, _ => ⟨Nat.le_refl 0, Nat.le_refl 1⟩
  | n + 1, h => by
    have hn : n < qs.length := h
    obtain ⟨i1, i2⟩ := frQ_bd (C := C) (left := left) ok n (by omega)
    obtain ⟨_, _, _, a4⟩ := q_at (List.getElem?_eq_getElem hn)
    have k := ok _ (List.getElem_mem hn)
    have k1 := k.s0
    have k2 := k.s1
    have sb : (sgL left (sQ qs n)).toNat ≤ 2 ^ 60 := by
      rw [a4]
      unfold sgL
      split <;> omega
    have e : 2 ^ (60 * (n + 1)) = 2 ^ (60 * n) * 2 ^ 60 := by rw [Nat.mul_add, Nat.mul_one, Nat.pow_add]
    have p1 : 1 ≤ 2 ^ (60 * n) := Nat.one_le_two_pow
    have step1 : 2 ^ (60 * n) ≤ 2 ^ (60 * n) * 2 ^ 60 := Nat.le_mul_of_pos_right _ (by decide)
    unfold frQ
    rw [e]
    split
    · refine ⟨?_, Nat.mul_le_mul i2 sb⟩
      have a := Nat.mul_le_mul i1 sb
      have b : (n + 1) * (2 ^ (60 * n) * 2 ^ 60) = n * 2 ^ (60 * n) * 2 ^ 60 + 2 ^ (60 * n) * 2 ^ 60 := by rw [Nat.add_mul, Nat.one_mul, Nat.mul_assoc]
      rw [b]
      exact Nat.add_le_add a (Nat.le_trans i2 step1)
    · refine ⟨Nat.le_trans i1 ?_, Nat.le_trans i2 step1⟩
      exact Nat.mul_le_mul (by omega) step1
theorem frQ_log {qs : List Quad} {C : Nat → Option Int} {left : Bool} (ok : ∀ q ∈ qs, QuadOk q) (few : qs.length ≤ 40) {n : Nat} (hn : n ≤ qs.length) : (frQ qs C left n).1 < 2 ^ 2500 ∧ (frQ qs C left n).2 < 2 ^ 2500 := by
  obtain ⟨a, b⟩ := frQ_bd (C := C) (left := left) ok n hn
  have p : 2 ^ (60 * n) ≤ 2 ^ 2400 := Nat.pow_le_pow_right (by decide) (by omega)
  have q : n * 2 ^ (60 * n) ≤ 40 * 2 ^ 2400 := Nat.mul_le_mul (by omega) p
  have r : 40 * 2 ^ 2400 < 2 ^ 2500 := by decide +kernel
  have r2 : 2 ^ 2400 < 2 ^ 2500 := by decide +kernel
  exact ⟨Nat.lt_of_le_of_lt (Nat.le_trans a q) r, Nat.lt_of_le_of_lt (Nat.le_trans b p) r2⟩
/-- a fraction in lowest terms of another one -/
structure Red (o u N D : Nat) : Prop where
  up : 0 < u
  cp : Nat.Coprime o u
  eq : o * D = N * u
end Ur
/-! PK: full_from. -/
namespace Ur
open PySem PySem.Spec PyProof.Rows L2
def sideL (left : Bool) (L : List Pt) : List Pt := if left then L.map mirP else L
theorem rns_side {left : Bool} {L : List Pt} {rs : List Rw} {day : Option Int} : sideR left (dayRns L rs day) = dayRns (sideL left L) rs day := by
  cases left with
  | false => rfl
  | true =>
    show (dayRns L rs day).map mir = dayRns (L.map mirP) rs day
    unfold dayRns
    rw [rns_mir, bys_mir, List.length_map]
theorem RnOk.mir {r : Rn} (h : RnOk r) : RnOk (mir r) := by
  obtain ⟨a, b, c, d, e⟩ := h
  exact ⟨by show -r.s ≠ 0; omega, by show (-r.s).natAbs ≤ _; rw [Int.natAbs_neg]; exact b, by show (-r.p).natAbs ≤ _; rw [Int.natAbs_neg]; exact c, d, fun k hk => ⟨(e k hk).1, by show ((k - 1) * -r.s).natAbs ≤ _; rw [Int.mul_neg, Int.natAbs_neg]; exact (e k hk).2⟩⟩
/-- what full_from finds: nothing, all posts, or the first of the posts that are all painted -/
def FulW (left : Bool) (L : List Pt) (rs : List Rw) (z : Option (Option Int)) : Prop := ∃ (far : Int) (o1 : Option Int), RawF false (sideL left L) rs none far 0 o1 ∧ 0 ≤ far ∧ far ≤ 10 ^ 69 ∧ (∀ r ∈ dayRns (sideL left L) rs none, farV r ≤ far) ∧
  (((∃ x, o1 = some x) ∧ z = none) ∨ (o1 = none ∧ ∃ o2, RawF true (sideL left L) rs none far 0 o2 ∧ z = some (o2.map fun h => if left then -h - 1 else h + 1)))
/-- the value that tells it -/
def FulV (H : Hp) (v : V) : Option (Option Int) → Prop
  | none => v = .non
  | some none => ∃ u, v = .ref u ∧ H u = some (.tup [.str "all"])
  | some (some n) => ∃ u, v = .ref u ∧ H u = some (.tup [.str "post", .int n])
abbrev s_full_from : Stmt := (topS 57)
abbrev N_sc_full_from : List Str := ["fence", "left", "runs", "far", "hole"]
abbrev P_full_from : List Str := ["fence", "left"]
theorem sc_full_from : FnScope N_sc_full_from P_full_from (defScope s_full_from) := ⟨rfl, rfl, rfl, by decide +kernel, rfl, by decide +kernel, by decide +kernel⟩
def spFul (T : List (Addr × Str)) (C CF : Addr) : Sp := fun vs H Q _ => ∃ (g : Addr) (L : List Pt) (left : Bool), vs = [.ref g, .bl left] ∧ FcAt C CF H g L ∧ LamX.Tabs T H ∧
  ∀ rs z v H', HistR (partsOf L) (fSP (partsOf L)) rs → FulW left L rs z → FulV H' v z → LamX.ExtN H H' → LamX.Tabs T H' → Q v H'
def FulK (K : PySem.W.Frag) (f : Addr) (fd : FuncData) : Prop := FunD K "full_from" "full_from" (defArgs s_full_from) (defBody s_full_from) (defScope s_full_from) [] [("left", .bl false)] f fd
section
variable {P : Program} {w : World} {K : PySem.W.Frag} {mg : Str → Option Value} {base : Heap} {C CF CH : Addr}
theorem ok_ful {Tt : List (Addr × Str)} {f : Addr} {fd : FuncData} (F : FulK K f fd) (CPR : Cal P w K mg base 17 "painted_runs" P_painted_runs (spPRu Tt C CF)) (CMi : Cal P w K mg base 1 "mirrored" P_mirrored (spMi K)) (CFar : Cal P w K mg base 1 "far_post" P_far_post (spFarP K)) (COu : Cal P w K mg base 2 "without" P_without (spOut K)) (CPA : Cal P w K mg base 5 "post_at" P_post_at (spPostAt K)) : FnOk P w K mg base CX0 18 f fd P_full_from (spFul Tt C CF) := by
  refine FunD.ok F sc_full_from (fun vs H Q E h => ?_) (fun cdv A outer s H vs Q E hr h => ?_)
  · obtain ⟨g, L, left, rfl, _⟩ := h
    rfl
  obtain ⟨g, L, left, rfl, hf, tb, q⟩ := h
  refine ⟨_, (pss_cons (ps_set (i := 2) sc_full_from.nd rfl (Or.inl rfl) (pe_cal CPR (hr.mono (by decide)) (pa_cons (pv 0) (pa_cons pe_non pa_nil)))) (C8.pss_cut (ps_if (pt_val (pv 1)) (pss_one (ps_set (i := 2) sc_full_from.nd rfl (Or.inl rfl) (pe_cal CMi (hr.mono (by decide)) (pa_cons (pv 2) pa_nil)))) pss_nil) (pss_cons (ps_set (i := 3) sc_full_from.nd rfl (Or.inl rfl) (pe_cal CFar (hr.mono (by decide)) (pa_cons (pv 2) (pa_cons pe_int pa_nil)))) (pss_cons (ps_if (pt_cmpR op_notN (pe_cal CPA (hr.mono (by decide)) (pa_cons (pe_cal COu (hr.mono (by decide)) (pa_cons (pv 2) (pa_cons (pv 3) (pa_cons pe_bl pa_nil)))) (pa_cons (pv 3) (pa_cons pe_int (pa_cons pe_bl pa_nil))))) pe_non (nomark _)) (pss_one (ps_ret pe_non)) pss_nil) (pss_cons (ps_set (i := 4) sc_full_from.nd rfl (Or.inl rfl) (pe_cal CPA (hr.mono (by decide)) (pa_cons (pe_cal COu (hr.mono (by decide)) (pa_cons (pv 2) (pa_cons (pv 3) (pa_cons pe_bl pa_nil)))) (pa_cons (pv 3) (pa_cons pe_int (pa_cons pe_bl pa_nil)))))) (pss_cons (ps_if (pt_cmpR op_isN (pv 4) pe_non (nomark _)) (pss_one (ps_ret (pe_tup (pa_cons pe_str pa_nil)))) pss_nil) (pss_one (ps_ret (pe_tup (pa_cons pe_str (pa_cons (pe_ifExp (pt_val (pv 1)) (pe_op op_sub (pe_un un_neg (pv 4)) pe_int) (pe_op op_add (pv 4) pe_int)) pa_nil))))))))))), ?_⟩
  refine ⟨_, rfl, g, L, none, rfl, hf, tb, fun rs R ds H1 hist hR rns e1 tb1 => ?_⟩
  have few := hf.crew.few
  have okr := dayRns_ok hf.crew (crew_quads hf.crew) hist (day := none) (fun d e => by cases e)
  have farb := dayRns_far (left := left) (fun x hx => (hf.crew.at_ x hx).2) (crew_quads hf.crew) hist (day := none) (fun d e => by cases e)
  have len : (dayRns L rs none).length ≤ 40 := Nat.le_trans (rns_len _ _ _) few
  have lenS : (dayRns (sideL left L) rs none).length ≤ 40 := by
    rw [← rns_side]
    cases left
    · exact len
    · show ((dayRns L rs none).map mir).length ≤ 40
      rw [List.length_map]
      exact len
  have okS : ∀ r ∈ dayRns (sideL left L) rs none, RnOk r ∧ r.w = 1 := fun r hr => by
    rw [← rns_side] at hr
    cases left
    · exact okr r hr
    · obtain ⟨x, hx, rfl⟩ := List.mem_map.mp hr
      exact ⟨(okr x hx).1.mir, (okr x hx).2⟩
  rw [rns_side] at farb
  refine ⟨fun σ' H' => ∃ (R : Addr) (ds : List Addr), σ' = [some (.ref g), some (.bl left), some (.ref R), none, none] ∧ H' R = some (.lst (ds.map V.ref)) ∧ RnsAt H' ds (dayRns (sideL left L) rs none) ∧ LamX.ExtN H H' ∧ LamX.Tabs Tt H', ?_, ?_⟩
  · cases left with
    | false => exact ⟨_, rfl, false, rfl, iteF ⟨R, ds, rfl, hR, rns, e1, tb1⟩⟩
    | true => exact ⟨_, rfl, true, rfl, iteT ⟨_, rfl, R, ds, _, rfl, hR, rns, Nat.le_trans len (by decide), fun R2 ds2 H2 hR2 rns2 s2 => ⟨R2, ds2, rfl, hR2, by rw [← rns_side]; exact rns2, e1.trans (LamX.ExtN.of s2), tabs_same s2 tb1⟩⟩⟩
  rintro σ' H2 ⟨R2, ds2, rfl, hR2, rns2, e2, tb2⟩
  have fb : farR 0 (dayRns (sideL left L) rs none) ≤ 10 ^ 69 := far_ub (by decide) farb
  have f0 : 0 ≤ farR 0 (dayRns (sideL left L) rs none) := far_le _ _ List.mem_cons_self
  have fr : ∀ r ∈ dayRns (sideL left L) rs none, farV r ≤ farR 0 (dayRns (sideL left L) rs none) := fun r hr => far_le _ _ (List.mem_cons_of_mem _ (List.mem_map_of_mem hr))
  refine ⟨_, rfl, R2, ds2, _, 0, rfl, hR2, rns2, (fun r hr => (okS r hr).1), by omega, fun H3 s3 => ?_⟩
  obtain ⟨far, efar⟩ : ∃ far, farR 0 (dayRns (sideL left L) rs none) = far := ⟨_, rfl⟩
  rw [efar] at fb f0 fr ⊢
  have outl : ∀ b : Bool, (outR (dayRns (sideL left L) rs none) far b).length ≤ 4000 := fun b => by
    show (_ :: (dayRns (sideL left L) rs none).map (wgt (-1))).length ≤ 4000
    rw [List.length_cons, List.length_map]
    omega
  have rns3 : RnsAt H3 ds2 (dayRns (sideL left L) rs none) := Paired.mapP rns2 fun _ _ h => s3 _ _ h
  refine ⟨_, rfl, _, rfl, R2, ds2, _, far, false, rfl, s3 _ _ hR2, rns3, (fun r hr => (okS r hr).1.wb), by omega, fun R4 ds4 H4 hR4 rns4 s4 => ?_⟩
  refine ⟨_, rfl, R4, ds4, _, far, 0, false, rfl, hR4, rns4, outR_ok (by omega) okS, outl false, by omega, by decide, by decide, fun o1 H5 nth1 s5 => ?_⟩
  have raw1 : RawF false (sideL left L) rs none far 0 (o1.map (sgn false)) := ⟨o1, rfl, nth1⟩
  have s25 := (s3.trans s4).trans s5
  have e5 := e2.trans (LamX.ExtN.of s25)
  have tb5 := tabs_same s25 tb2
  refine ⟨rfl, _, rfl, ?_⟩
  cases o1 with
  | some x =>
    refine iteNN (fun z => by cases z) ?_
    exact q rs none _ H5 hist ⟨far, _, raw1, f0, fb, fr, .inl ⟨⟨_, rfl⟩, rfl⟩⟩ rfl e5 tb5
  | none =>
    refine iteNS rfl ?_
    have rns5 : RnsAt H5 ds2 (dayRns (sideL left L) rs none) := Paired.mapP rns2 fun _ _ h => s25 _ _ h
    refine ⟨_, rfl, _, rfl, R2, ds2, _, far, true, rfl, s25 _ _ hR2, rns5, (fun r hr => (okS r hr).1.wb), by omega, fun R6 ds6 H6 hR6 rns6 s6 => ?_⟩
    refine ⟨_, rfl, R6, ds6, _, far, 0, true, rfl, hR6, rns6, outR_ok (by omega) okS, outl true, by omega, by decide, by decide, fun o2 H7 nth2 s7 => ?_⟩
    have raw2 : RawF true (sideL left L) rs none far 0 (o2.map (sgn true)) := ⟨o2, rfl, nth2⟩
    have e7 := e5.trans (LamX.ExtN.of (s6.trans s7))
    have tb7 := tabs_same (s6.trans s7) tb5
    have fin : ∀ (z : Option (Option Int)) (xs : List V) (u : Addr), H7 u = none → FulW left L rs z → FulV (upd H7 u (.tup xs)) (.ref u) z → Q (.ref u) (upd H7 u (.tup xs)) := fun z xs u nu w v => q rs z _ _ hist w v (e7.trans (LamX.ExtN.of (same_new nu _))) (tabs_same (same_new nu _) tb7)
    refine ⟨_, rfl, rfl, _, rfl, ?_⟩
    cases o2 with
    | none => exact iteDT rfl ⟨by show 1 ≤ sizeLine; decide, fun u nu => fin (some none) _ u nu ⟨far, _, raw1, f0, fb, fr, .inr ⟨rfl, _, raw2, rfl⟩⟩ ⟨u, rfl, upd_same⟩⟩
    | some x =>
      refine iteDF (fun z => by cases z) ?_
      cases left with
      | false => exact ⟨_, rfl, false, rfl, iteF ⟨_, rfl, _, _, rfl, rfl, by show 2 ≤ sizeLine; decide, fun u nu => fin (some (some (sgn true x + 1))) _ u nu ⟨far, _, raw1, f0, fb, fr, .inr ⟨rfl, _, raw2, rfl⟩⟩ ⟨u, rfl, upd_same⟩⟩⟩
      | true => exact ⟨_, rfl, true, rfl, iteT ⟨_, rfl, _, rfl, _, _, rfl, rfl, by show 2 ≤ sizeLine; decide, fun u nu => fin (some (some (-sgn true x - 1))) _ u nu ⟨far, _, raw1, f0, fb, fr, .inr ⟨rfl, _, raw2, rfl⟩⟩ ⟨u, rfl, upd_same⟩⟩⟩
end
end Ur
/-! CF: what full_from says of the posts. -/
namespace Ur
open PySem PySem.Spec PyProof.Rows L2
theorem side_parts (left : Bool) (L : List Pt) : partsOf (sideL left L) = sideQ left (partsOf L) := by
  cases left with
  | false => rfl
  | true => exact parts_mir L
theorem sideL_len (left : Bool) (L : List Pt) : (sideL left L).length = L.length := by
  cases left with
  | false => rfl
  | true => exact List.length_map ..
theorem side_hist (left : Bool) {L : List Pt} {rs : List Rw} (h : HistR (partsOf L) (fSP (partsOf L)) rs) : ∃ rs', HistR (partsOf (sideL left L)) (fSP (partsOf (sideL left L))) rs' ∧ cntR rs' = cntR rs := by
  cases left with
  | false => exact ⟨rs, h, rfl⟩
  | true =>
    refine ⟨rs.map (sentR (-1) 0 0), ?_, funext fun i => cntR_mv⟩
    show HistR (partsOf (L.map mirP)) (fSP (partsOf (L.map mirP))) _
    rw [parts_mir]
    exact histR_mv (by decide) h
/-- what full_from says of the posts, seen from the side it looks to -/
theorem ful_says {left : Bool} {L : List Pt} {rs : List Rw} {z : Option (Option Int)} (okq : ∀ q ∈ partsOf L, QuadOk q) (hist : HistR (partsOf L) (fSP (partsOf L)) rs) (few : L.length ≤ 30) (w : FulW left L rs z) :
    ∃ far : Int, 0 ≤ far ∧ far ≤ 10 ^ 69 ∧ (∀ j, j < (partsOf L).length → cntR rs j = none → pQ (sideQ left (partsOf L)) j ≤ far) ∧
    ((z = none ∧ ∃ x, far ≤ x ∧ ¬ PaintedBy (sideQ left (partsOf L)) (cntR rs) none x) ∨
     (z = some none ∧ ∀ x, PaintedBy (sideQ left (partsOf L)) (cntR rs) none x) ∨
     ∃ h, z = some (some (if left then -(h + 1) else h + 1)) ∧ h ≤ far ∧ ¬ PaintedBy (sideQ left (partsOf L)) (cntR rs) none h ∧ ∀ x, h < x → PaintedBy (sideQ left (partsOf L)) (cntR rs) none x) := by
  obtain ⟨far, o1, r1, f0, fb, fr, hz⟩ := w
  obtain ⟨rs', hist', ec⟩ := side_hist left hist
  have okS : ∀ q ∈ partsOf (sideL left L), QuadOk q := by rw [side_parts]; exact side_quad left okq
  have fewS : (sideL left L).length ≤ 30 := by rw [sideL_len]; exact few
  have s1 := raw_says okS hist' (okL_of okS) (fun d e => by cases e) fewS (rawF_cnt ec r1)
  rw [side_parts, ec] at s1
  refine ⟨far, f0, fb, fun j hj hn => ?_, ?_⟩
  · have hjL : j < (sideL left L).length := by rw [sideL_len]; rw [parts_len] at hj; exact hj
    obtain ⟨x, hx⟩ : ∃ x, (sideL left L)[j]? = some x := ⟨_, List.getElem?_eq_getElem hjL⟩
    obtain ⟨_, _, a3, a4⟩ := q_at (parts_at hx)
    rw [side_parts] at a3 a4
    have mem : (⟨1, x.p, x.s, none⟩ : Rn) ∈ dayRns (sideL left L) rs none := by
      refine rns_has (i := j) hjL hx ?_ (by intro z; cases z)
      unfold bysC
      rw [List.getElem?_zipWith, hx, List.getElem?_map, List.getElem?_range hjL]
      show some (byC none x.d (cntR rs j)) = _
      rw [hn]
      rfl
    have := fr _ mem
    rw [a3]
    exact this
  · rcases hz with ⟨⟨x, rfl⟩, rfl⟩ | ⟨rfl, o2, r2, rfl⟩
    · exact .inl ⟨rfl, x, s1.1, s1.2.1⟩
    · have s1 : ∀ x, far ≤ x → PaintedBy (sideQ left (partsOf L)) (cntR rs) none x := s1
      have s2 := raw_says okS hist' (okL_of okS) (fun d e => by cases e) fewS (rawF_cnt ec r2)
      rw [side_parts, ec] at s2
      cases o2 with
      | none =>
        refine .inr (.inl ⟨rfl, fun x => ?_⟩)
        rcases Int.le_total far x with g | g
        · exact s1 x g
        · exact s2 x (by show -far ≤ -x; omega)
      | some h =>
        obtain ⟨a, b, c⟩ := s2
        have a : -far ≤ -h := a
        refine .inr (.inr ⟨h, ?_, by omega, b, fun x hx => ?_⟩)
        · cases left with
          | false => rfl
          | true => show some (some (-h - 1)) = some (some (-(h + 1))); rw [show -h - 1 = -(h + 1) by omega]
        · rcases Int.le_total far x with g | g
          · exact s1 x g
          · exact c x (by show -far ≤ -x; omega) (by show -x < -h; omega)
end Ur
/-! SX: share and full_from, called with and without a side; what they tell, shown. -/
namespace Ur
open PySem PySem.Spec PyProof.Rows L2
/-- full_from, likewise -/
def FulC (P : Program) (w : World) (K : PySem.W.Frag) (mg : Str → Option Value) (base : Heap) (T : List (Addr × Str)) (C CF : Addr) : Prop := ∃ (f : Addr) (fd : FuncData), FnOk P w K mg base CX0 18 f fd P_full_from (spFul T C CF) ∧ PySem.W.keepIn K (.ref f) = true ∧ mg "full_from" = some (.ref f) ∧
  (∃ ds, Vals [.bl false] ds ∧ Binds K fd P_full_from ds) ∧ ∃ g, KBn K fd P_full_from 1 ["left"] g (fun vs zs => vs ++ ([] ++ zs))
theorem FulC.of {P : Program} {w : World} {K : PySem.W.Frag} {mg : Str → Option Value} {base : Heap} {T : List (Addr × Str)} {C CF : Addr} {f : Addr} {fd : FuncData} (F : FulK K f fd) (h : FnOk P w K mg base CX0 18 f fd P_full_from (spFul T C CF)) (m : mg "full_from" = some (.ref f)) : FulC P w K mg base T C CF := by
  refine ⟨f, fd, h, F.kp, m, ?_, ?_⟩
  · exact FunD.binds0 F 1 (by simp) rfl fun D doc pm an cdv ct us ks h1 h2 => match us, ks, h1, h2 with | [_], [_], _, _ => ⟨_, _, _, _, _, _, rfl, rfl, rfl⟩
  · obtain ⟨mv, h⟩ := FunD.kbinds0 F (ps := P_full_from) 1 ["left"] [] (fun us mv ws => us ++ (mv ++ ws)) (by simp) (fun q hq => by cases hq) (fun r1 r2 r3 => r1.append (r2.append r3)) fun D doc pm an cdv ct us mv ws h1 h2 h3 => match us, mv, ws, h1, h2, h3 with | [_], [], [_], _, _, _ => rfl
    exact ⟨_, h⟩
section
variable {X : Cx} {T : List (Addr × Str)} {C CF : Addr} {e : Expr} {es : List Expr} {kws : List Keyword} {t tk : TA} {p pos : Pos}
theorem pe_ful0 (c : FulC X.prog X.w X.K X.mg X.base T C CF) (hr : Room 18 X.A) (ha : PA X (e :: es) t) (hg : Gl X "full_from" := by rfl)
    (he : starEach (e :: es) X.env = (false, eval e X.env) :: starEach es X.env := by rfl) (hpl : (backTo pos (starEach es X.env)).any (·.1) = false := by rfl) :
    PE X (.Call (.Name "full_from" p) (e :: es) [] pos) (tCall (spFul T C CF) [.bl false] E0 t) := by
  obtain ⟨f, fd, F, kp, m, ⟨ds, hd, b⟩, _⟩ := c
  exact pe_call F hr hg m kp b hd pass0 ha (he := he) (hpl := hpl)
theorem pe_fulL (c : FulC X.prog X.w X.K X.mg X.base T C CF) (hr : Room 18 X.A) (ha : PA X (e :: es) t) (hkw : PK X kws tk) (hg : Gl X "full_from" := by rfl)
    (hall : (backToKw pos (keywordEach kws X.env)).all (·.1.isSome) = true := by rfl) (hks : (backToKw pos (keywordEach kws X.env)).filterMap (·.1) = (["left"] : List Str) := by rfl)
    (he : starEach (e :: es) X.env = (false, eval e X.env) :: starEach es X.env := by rfl)
    (hpl : ((backTo pos (starEach (e :: es) X.env)).any (·.1) || (backToKw pos (keywordEach kws X.env)).any (·.1.isNone)) = false := by rfl) :
    PE X (.Call (.Name "full_from" p) (e :: es) kws pos) (tCallN 1 1 (spFul T C CF) (fun vs zs => vs ++ ([] ++ zs)) E0 t tk) := by
  obtain ⟨f, fd, F, kp, m, _, ⟨g, b⟩⟩ := c
  exact pe_callN F hr hg m kp b pass0 ha hkw hall hks (he := he) (hpl := hpl)
end
/-- a row of two numbers -/
def nnD (a b : Nat) : PyData := .tuple [.int (a : Int), .int (b : Int)]
theorem nn_dp {K : PySem.W.Frag} {H : Hp} {u : Addr} {a b : Nat} (h : H u = some (.tup [.int (a : Int), .int (b : Int)])) : Dp K H (.ref u) (nnD a b) := Dp.tup (SqT.of h) (.cons (.int _) (.cons (.int _) .nil))
theorem nn_eq {a b c d : Nat} : PyData.eqv (nnD a b) (nnD c d) = (decide (a = c) && decide (b = d)) := by
  simp [nnD, PyData.eqv, PyData.eqvAll]
  by_cases h1 : a = c <;> by_cases h2 : b = d <;> simp [h1, h2] <;> omega
theorem nn_sh {a b : Nat} : SeqAt.shaped (nnD a b) = true := rfl
theorem ite_nb {b : Bool} {A B : Prop} (hb : b = true) (h : B) : if (!b) = true then A else B := by
  subst hb
  exact h
theorem team_cut {H : Hp} {ts : List Addr} {qs : List Quad} (tm : Team H ts qs) (j : Nat) : Team H (ts.take j ++ ts.drop (j + 1)) (qs.take j ++ qs.drop (j + 1)) := by
  have tl := tm.len
  have sub : (qs.take j ++ qs.drop (j + 1)).Sublist qs := by
    have h := (List.Sublist.refl (qs.take j)).append (List.drop_sublist_drop_left qs (show j ≤ j + 1 by omega))
    rw [List.take_append_drop] at h
    exact h
  refine ⟨by rw [List.length_append, List.length_append, List.length_take, List.length_take, List.length_drop, List.length_drop, tl], fun k t q a b => ?_, fun q hq => tm.ok q (sub.subset hq), tm.nd.sublist (sub.map _), Nat.le_trans sub.length_le tm.few⟩
  by_cases c : k < (ts.take j).length
  · have c2 : k < (qs.take j).length := by rw [List.length_take] at c ⊢; omega
    have kj : k < j := by rw [List.length_take] at c; omega
    rw [List.getElem?_append_left c, List.getElem?_take_of_lt kj] at a
    rw [List.getElem?_append_left c2, List.getElem?_take_of_lt kj] at b
    exact tm.at_ k t q a b
  · have e : (qs.take j).length = (ts.take j).length := by rw [List.length_take, List.length_take, tl]
    rw [List.getElem?_append_right (by omega), List.getElem?_drop] at a
    rw [List.getElem?_append_right (by omega), List.getElem?_drop, e] at b
    exact tm.at_ _ t q a b
end Ur
/-! EX: full_from and the density. -/
namespace Ur
open PySem PySem.Spec PyProof.Rows L2
section
variable {qs : List Quad} {C : Nat → Option Int}
theorem fr_dens (ok : ∀ q ∈ qs, q.2.2.2 ≠ 0) : ∀ n, n ≤ qs.length → prodS qs * ((frQ qs C false n).1 : Int) = ((frQ qs C false n).2 : Int) * densS qs C n
  | 0, _ => by
    show prodS qs * ((0 : Nat) : Int) = ((1 : Nat) : Int) * 0
    rw [Int.mul_zero]
    exact Int.mul_zero _
  | n + 1, h => by
    have ih := fr_dens ok n (by omega)
    rw [densS_succ]
    by_cases c : EndR qs C n
    · have st : frQ qs C false (n + 1) = ((frQ qs C false n).1 * (sQ qs n).toNat + (frQ qs C false n).2, (frQ qs C false n).2 * (sQ qs n).toNat) := by
        show (if _ then _ else _) = _
        rw [if_pos ⟨c.1, c.2⟩]
        rfl
      obtain ⟨k, hk⟩ := endr_dvd h c
      have c2 := c.2
      have ek : prodS qs / sQ qs n = k := by rw [hk, Int.mul_ediv_cancel_left _ (by omega)]
      have es : (((sQ qs n).toNat : Nat) : Int) = sQ qs n := by omega
      rw [st, if_pos c, ek, Int.natCast_add, Int.natCast_mul, Int.natCast_mul, es, Int.mul_add, ← Int.mul_assoc, ih, Int.mul_add]
      generalize densS qs C n = S
      generalize ((frQ qs C false n).2 : Int) = D at ih ⊢
      rw [show prodS qs * D = D * sQ qs n * k by rw [Int.mul_assoc, ← hk, Int.mul_comm]]
      rw [show D * S * sQ qs n = D * sQ qs n * S by ac_rfl]
    · have st : frQ qs C false (n + 1) = frQ qs C false n := by
        show (if _ then _ else _) = _
        rw [if_neg fun z => c ⟨z.1, z.2⟩]
      rw [st, if_neg c, Int.add_zero, ih]
end
theorem raw_bd {L : List Pt} {rs : List Rw} {day : Option Int} {post : Int} {left : Bool} {h : Int} (okq : ∀ q ∈ partsOf L, QuadOk q) (hist : HistR (partsOf L) (fSP (partsOf L)) rs) (dd : ∀ d, day = some d → 0 ≤ d ∧ d ≤ 10 ^ 40) (few : L.length ≤ 30) (r : RawF left L rs day post 0 (some h)) : sgn left h ≤ max (sgn left post) (10 ^ 69) + 10 ^ 36 := by
  obtain ⟨o', e, _, b⟩ := semF_of okq hist (okL_of okq) dd few (Int.le_refl 0) r
  cases o' with
  | none => cases e
  | some y =>
    obtain rfl : h = sgn left y := Option.some.inj e
    rw [sgn_sgn]
    have := b y rfl
    omega
section
variable {qs : List Quad} {C : Nat → Option Int} {far : Int}
/-- as dens_all, at far itself as well -/
theorem dens_ge (is : IsHist qs.length (dQ qs) (fSP qs) C) (ok : ∀ q ∈ qs, q.2.2.2 ≠ 0) (en : Ends qs C none far) (e : densS qs C qs.length = prodS qs) {x : Int} (hx : far ≤ x) : PaintedBy qs C none x := by
  have M0 := prodS_pos ok
  have p := dens_all is ok en e (show far < x + prodS qs by omega)
  obtain ⟨j, hj, hc, hs, k, hk⟩ := (far_iff ok en (show far < x + prodS qs by omega)).mp p
  have hc : C j = none := hc
  obtain ⟨k2, hk2⟩ := endr_dvd hj ⟨hc, hs⟩
  have l := en j hj (by show C j ≠ _; rw [hc]; intro z; cases z)
  have l : farV ⟨1, pQ qs j, sQ qs j, C j⟩ ≤ far := l
  rw [hc] at l
  have l : pQ qs j ≤ far := l
  have e2 : x - pQ qs j = sQ qs j * (k - k2) := by rw [Int.mul_sub, ← hk, ← hk2]; omega
  refine ⟨j, hj, k - k2, ?_, fun z ez => ?_, by rw [Int.mul_comm, ← e2]; omega⟩
  · rcases Int.lt_or_le (k - k2) 0 with g | g
    · have := Int.mul_le_mul_of_nonneg_left (show k - k2 ≤ -1 by omega) (show 0 ≤ sQ qs j by omega)
      rw [Int.mul_neg, Int.mul_one] at this
      omega
    · exact g
  · have ez : C j = some z := ez
    rw [hc] at ez
    cases ez
end
/-- what full_from says, with the density -/
theorem ful_dens {left : Bool} {L : List Pt} {rs : List Rw} {z : Option (Option Int)} (okq : ∀ q ∈ partsOf L, QuadOk q) (hist : HistR (partsOf L) (fSP (partsOf L)) rs) (few : L.length ≤ 30) (w : FulW left L rs z) :
    (z = none ∧ densS (sideQ left (partsOf L)) (cntR rs) (partsOf L).length ≠ prodS (sideQ left (partsOf L))) ∨
    (densS (sideQ left (partsOf L)) (cntR rs) (partsOf L).length = prodS (sideQ left (partsOf L)) ∧
      ((z = some none ∧ ∀ x, PaintedBy (sideQ left (partsOf L)) (cntR rs) none x) ∨
       ∃ h, z = some (some (if left then -(h + 1) else h + 1)) ∧ -(2 * 10 ^ 69) ≤ h ∧ h ≤ 10 ^ 69 ∧ ¬ PaintedBy (sideQ left (partsOf L)) (cntR rs) none h ∧ ∀ x, h < x → PaintedBy (sideQ left (partsOf L)) (cntR rs) none x)) := by
  have sq := side_quad left okq
  have is := side_is left hist
  have sn : ∀ q ∈ sideQ left (partsOf L), q.2.2.2 ≠ 0 := fun q hq => (sq q hq).sn
  have sl : (sideQ left (partsOf L)).length = (partsOf L).length := side_len left
  have eb := ends_big okq hist left
  obtain ⟨far, o1, r1, f0, fb, fr, hz⟩ := id w
  obtain ⟨rs', hist', ec⟩ := side_hist left hist
  have en : Ends (sideQ left (partsOf L)) (cntR rs) none far := by
    have a := ends_day (L := sideL left L) (rs := rs') (day := none) (left := false) (R := dayRns (sideL left L) rs' none) (P := 0) fun r hr => ⟨r, hr, rfl⟩
    have b : Ends (sideQ left (partsOf L)) (cntR rs) none (farR 0 (dayRns (sideL left L) rs' none)) := by
      rw [show sideQ false (partsOf (sideL left L)) = sideQ left (partsOf L) from side_parts left L, ec] at a
      exact a
    refine b.mono (far_ub f0 fun r hr => fr r ?_)
    unfold dayRns at hr ⊢
    rw [ec] at hr
    exact hr
  have all2 : (∃ b, ∀ x, b ≤ x → PaintedBy (sideQ left (partsOf L)) (cntR rs) none x) → densS (sideQ left (partsOf L)) (cntR rs) (partsOf L).length = prodS (sideQ left (partsOf L)) := fun ⟨b, al⟩ => by
    rw [← sl]
    exact all_dens is sn eb al
  have okS : ∀ q ∈ partsOf (sideL left L), QuadOk q := by rw [side_parts]; exact sq
  have fewS : (sideL left L).length ≤ 30 := by rw [sideL_len]; exact few
  obtain ⟨far', _, _, _, h⟩ := ful_says okq hist few w
  rcases hz with ⟨⟨x, rfl⟩, rfl⟩ | ⟨rfl, o2, r2, rfl⟩
  · refine .inl ⟨rfl, fun e => ?_⟩
    have s1 := raw_says okS hist' (okL_of okS) (fun d e => by cases e) fewS (rawF_cnt ec r1)
    rw [side_parts, ec] at s1
    rw [← sl] at e
    exact s1.2.1 (dens_ge is sn en e s1.1)
  · rcases h with ⟨ez, _⟩ | ⟨ez, al⟩ | ⟨h, ez, hf, nh, ah⟩
    · cases ez
    · exact .inr ⟨all2 ⟨0, fun x _ => al x⟩, .inl ⟨ez, al⟩⟩
    · refine .inr ⟨all2 ⟨h + 1, fun x hx => ah x (by omega)⟩, .inr ⟨h, ez, ?_, ?_, nh, ah⟩⟩
      · cases o2 with
        | none => cases ez
        | some h2 =>
          have e2 : h2 = h := by
            have e := Option.some.inj (Option.some.inj ez)
            cases left
            · have e : h2 + 1 = h + 1 := e
              omega
            · have e : -h2 - 1 = -(h + 1) := e
              omega
          subst e2
          have b := raw_bd okS hist' (fun d e => by cases e) fewS (rawF_cnt ec r2)
          have b : -h2 ≤ max (-far) (10 ^ 69) + 10 ^ 36 := b
          omega
      · rcases Int.lt_or_le (10 ^ 69) h with g | g
        · exact absurd (dens_all is sn eb (by rw [sl]; exact all2 ⟨h + 1, fun x hx => ah x (by omega)⟩) g) nh
        · exact g
end Ur
/-! SFr: the laws' own shares (_law_shares, _law_due) and mirrored painters (_law_opposite). -/
namespace Ur
open PySem PySem.Spec PyProof.Rows L2
abbrev s__law_shares : Stmt := (topS 82)
abbrev N_sc__law_shares : List Str := ["_law_painters", "_law_counts", "_law_n", "_law_d", "_law_place", "_law_name", "_law_start", "_law_begin", "_law_stride", "_law_part"]
abbrev P__law_shares : List Str := ["_law_painters", "_law_counts"]
theorem sc__law_shares : FnScope N_sc__law_shares P__law_shares (defScope s__law_shares) := ⟨rfl, rfl, rfl, by decide +kernel, rfl, by decide +kernel, by decide +kernel⟩
def spShr (K : PySem.W.Frag) : Sp := fun vs H Q _ => ∃ (F Ca : Addr) (ts : List Addr) (qs : List Quad) (cs : List (Option Int)), vs = [.ref F, .ref Ca] ∧ SqL K H F (ts.map V.ref) ∧ Team H ts qs ∧ H Ca = some (.lst (cs.map optV)) ∧ cs.length = qs.length ∧
  ∀ z H', H' z = some (.tup [.int (((frQ qs (cnL cs) false qs.length).1 / Nat.gcd (frQ qs (cnL cs) false qs.length).1 (frQ qs (cnL cs) false qs.length).2 : Nat) : Int), .int (((frQ qs (cnL cs) false qs.length).2 / Nat.gcd (frQ qs (cnL cs) false qs.length).1 (frQ qs (cnL cs) false qs.length).2 : Nat) : Int)]) → Same H H' → Q (.ref z) H'
section
variable {P : Program} {w : World} {K : PySem.W.Frag} {mg : Str → Option Value} {base : Heap}
set_option maxHeartbeats 16000000 in
theorem ok_shr (D : Dfn K mg "_law_shares" s__law_shares P__law_shares) (hEn : mg "enumerate" = none) (CGd : Cal P w K mg base 1 "_law_gcd" P__law_gcd spGcd) : Cal P w K mg base 2 "_law_shares" P__law_shares (spShr K) := by
  refine D.cal sc__law_shares (fun vs H Q E h => ?_) fun fn cdv A outer s H vs Q E hr h => ?_
  · obtain ⟨F, Ca, _, _, _, rfl, _⟩ := h
    rfl
  obtain ⟨F, Ca, ts, qs, cs, rfl, hF, tm, hC, cl, q⟩ := h
  refine ⟨_, (pss_cons (ps_asg (pe_tup (pa_cons pe_int (pa_cons pe_int pa_nil))) (pg_tup rfl (pgs_cons (pg_name (i := 2) sc__law_shares.nd rfl (Or.inl rfl)) (pgs_cons (pg_name (i := 3) sc__law_shares.nd rfl (Or.inl rfl)) pgs_nil)))) (pss_cons (ps_for PassesOwn.never rfl (pi_enum rfl hEn (pa_cons (pv 0) pa_nil)) (pg_tup rfl (pgs_cons (pg_name (i := 4) sc__law_shares.nd rfl (Or.inl rfl)) (pgs_cons (pg_tup rfl (pgs_cons (pg_name (i := 5) sc__law_shares.nd rfl (Or.inl rfl)) (pgs_cons (pg_name (i := 6) sc__law_shares.nd rfl (Or.inl rfl)) (pgs_cons (pg_name (i := 7) sc__law_shares.nd rfl (Or.inl rfl)) (pgs_cons (pg_name (i := 8) sc__law_shares.nd rfl (Or.inl rfl)) pgs_nil))))) pgs_nil))) (pss_one (ps_if (PW.pt (pw_and (pt_cmpR op_isN (pe_ix ix_list (pv 1) (pv 4) (fun _ _ => rfl)) pe_non (nomark _)) (pw_and1 (pt_cmpR op_gt (pv 8) pe_int (nomark _))))) (pss_one (ps_par (i := 2) (j := 3) rfl sc__law_shares.nd rfl rfl (by decide) rfl rfl (pa_cons (pe_op op_add (pe_op op_mulW (pv 2) (pv 8)) (pv 3)) (pa_cons (pe_op op_mulW (pv 3) (pv 8)) pa_nil)) (by rfl))) pss_nil))) (pss_cons (ps_set (i := 9) sc__law_shares.nd rfl (Or.inl rfl) (pe_cal CGd (hr.mono (by decide)) (pa_cons (pv 2) (pa_cons (pv 3) pa_nil)))) (pss_one (ps_ret (pe_tup (pa_cons (pe_op op_fdivW (pv 2) (pv 9)) (pa_cons (pe_op op_fdivW (pv 3) (pv 9)) pa_nil)))))))), ?_⟩
  have tl := tm.len
  have okq := tm.ok
  have few := tm.few
  refine ⟨by show 2 ≤ sizeLine; decide, fun t0 n0 => ⟨t0, _, rfl, SqT.of upd_same, rfl, _, _, rfl, _, _, rfl, rfl, ?_⟩⟩
  have s0 := same_new n0 (.tup [.int 0, .int 1])
  refine ⟨_, rfl, F, ts.map V.ref, rfl, same_sql s0 hF, ?_⟩
  refine for_it walk_enum (fun i σ H3 => ∃ (o4 o5 o6 o7 o8 o9 : Option V), σ = [some (.ref F), some (.ref Ca), some (.int ((frQ qs (cnL cs) false i).1 : Int)), some (.int ((frQ qs (cnL cs) false i).2 : Int)), o4, o5, o6, o7, o8, o9] ∧ Same H H3)
    ⟨_, _, _, _, _, _, rfl, s0⟩ (fun i σ H3 _ h => by obtain ⟨_, _, _, _, _, _, _, h⟩ := h; exact same_sql h hF) ?_ ?_
  · rintro i v σ H3 H4 hi ⟨o4, o5, o6, o7, o8, o9, rfl, s3⟩ ⟨T0, y1, y2, rfl, hT, rfl, e1, e2⟩
    obtain rfl := Option.some.inj e1
    obtain ⟨t, qd, rfl, et, eq, ht, ok⟩ := tm.get e2
    have sT := same_new hT (.tup [V.int (i : Int), V.ref t])
    have s4 := s3.trans sT
    have hiq : i < qs.length := (List.getElem?_eq_some_iff.mp eq).1
    obtain ⟨nm, d, p, st⟩ := qd
    obtain ⟨qn, qdy, qp, qst⟩ := q_at eq
    have okd : PartOk nm d p st := ok
    have b0 := okd.s0
    have b1 := okd.s1
    obtain ⟨c, hc⟩ : ∃ c, cs[i]? = some c := ⟨_, List.getElem?_eq_getElem (by omega)⟩
    have ec := cnL_at hc
    have ecv : (cs.map optV)[i]? = some (optV c) := by rw [List.getElem?_map, hc]; rfl
    have lg := frQ_log (C := cnL cs) (left := false) okq few (n := i) (by omega)
    have hCs := s4 _ _ hC
    refine ⟨T0, _, rfl, SqT.of upd_same, rfl, _, _, rfl, _, _, rfl, t, _, rfl, SqT.of (s4 _ _ ht), rfl, _, _, rfl, _, _, rfl, _, _, rfl, _, _, rfl, rfl, rfl, ?_⟩
    refine ⟨_, rfl, _, rfl, Ca, _, _, _, rfl, rfl, SqL.of hCs, atI_nat ecv, rfl, _, rfl, ?_⟩
    have no : ¬ (cnL cs i = none ∧ 0 < sgL false (sQ qs i)) → frQ qs (cnL cs) false (i + 1) = frQ qs (cnL cs) false i := fun z => by
      show (if _ then _ else _) = _
      rw [if_neg z]
    cases c with
    | some k =>
      refine iteDF (fun z => by cases z) (iteF ?_)
      refine ⟨some (.int (i : Int)), some (.str nm), some (.int d), some (.int p), some (.int st), o9, ?_, s4⟩
      rw [no fun z => by rw [ec] at z; cases z.1]
      rfl
    | none =>
      refine iteDT rfl ⟨_, rfl, _, _, rfl, rfl, _, rfl, ?_⟩
      refine ite2 (fun c => ?_) (fun c => ?_)
      · have c : 0 < st := of_decide_eq_true c
        have yes : frQ qs (cnL cs) false (i + 1) = ((frQ qs (cnL cs) false i).1 * st.toNat + (frQ qs (cnL cs) false i).2, (frQ qs (cnL cs) false i).2 * st.toNat) := by
          show (if _ then _ else _) = _
          rw [if_pos ⟨ec, by rw [qst]; exact c⟩, qst]
          rfl
        refine ⟨_, rfl, _, rfl, _, _, rfl, rfl, wide_mul (a := 2501) (b := 64) (by show ((frQ qs (cnL cs) false i).1 : Int).natAbs < _; rw [Int.natAbs_natCast]; exact Nat.lt_of_lt_of_le lg.1 (Nat.pow_le_pow_right (by decide) (by decide))) (by show st.natAbs < _; omega) (by decide) (by decide) (by decide), _, rfl, _, _, rfl, rfl, _, rfl, _, rfl, _, _, rfl, rfl, wide_mul (a := 2501) (b := 64) (by show ((frQ qs (cnL cs) false i).2 : Int).natAbs < _; rw [Int.natAbs_natCast]; exact Nat.lt_of_lt_of_le lg.2 (Nat.pow_le_pow_right (by decide) (by decide))) (by show st.natAbs < _; omega) (by decide) (by decide) (by decide), _, _, rfl, ?_⟩
        refine ⟨some (.int (i : Int)), some (.str nm), some (.int d), some (.int p), some (.int st), o9, ?_, s4⟩
        rw [yes]
        have es : st = (st.toNat : Int) := by omega
        have f1 : (((frQ qs (cnL cs) false i).1 * st.toNat + (frQ qs (cnL cs) false i).2 : Nat) : Int) = ((frQ qs (cnL cs) false i).1 : Int) * st + ((frQ qs (cnL cs) false i).2 : Int) := by
          rw [Int.natCast_add, Int.natCast_mul, ← es]
        have f2 : (((frQ qs (cnL cs) false i).2 * st.toNat : Nat) : Int) = ((frQ qs (cnL cs) false i).2 : Int) * st := by
          rw [Int.natCast_mul, ← es]
        show _ = [some (V.ref F), some (.ref Ca), some (.int (((frQ qs (cnL cs) false i).1 * st.toNat + (frQ qs (cnL cs) false i).2 : Nat) : Int)), some (.int (((frQ qs (cnL cs) false i).2 * st.toNat : Nat) : Int)), some (.int (i : Int)), some (.str nm), some (.int d), some (.int p), some (.int st), o9]
        rw [f1, f2]
        rfl
      · have c : ¬ 0 < st := fun z => c (decide_eq_true z)
        refine ⟨some (.int (i : Int)), some (.str nm), some (.int d), some (.int p), some (.int st), o9, ?_, s4⟩
        rw [no fun z => c (by have := z.2; rw [qst] at this; exact this)]
        rfl
  · rintro σ H3 ⟨o4, o5, o6, o7, o8, o9, rfl, s3⟩
    rw [List.length_map, tl]
    have lg := frQ_log (C := cnL cs) (left := false) okq few (n := qs.length) (Nat.le_refl _)
    have dp := frQ_pos (qs := qs) (C := cnL cs) (left := false) qs.length
    obtain ⟨N, eN⟩ : ∃ N, (frQ qs (cnL cs) false qs.length).1 = N := ⟨_, rfl⟩
    obtain ⟨D', eD⟩ : ∃ D', (frQ qs (cnL cs) false qs.length).2 = D' := ⟨_, rfl⟩
    rw [eN, eD] at q
    rw [eN, eD] at lg ⊢
    rw [eD] at dp
    have g0 : 0 < Nat.gcd N D' := Nat.gcd_pos_of_pos_right _ dp
    have gl : Nat.gcd N D' ≤ D' := Nat.gcd_le_right _ dp
    have eg : (Int.gcd (N : Int) (D' : Int) : Int) = ((Nat.gcd N D' : Nat) : Int) := rfl
    have wd : ∀ x : Int, CDivW x ((Nat.gcd N D' : Nat) : Int) := fun x => wide_div (b := 2500) (by omega) (by rw [Int.natAbs_natCast]; exact Nat.lt_of_le_of_lt gl lg.2) (by decide) (by decide)
    refine ⟨_, rfl, _, rfl, _, _, rfl, ?_⟩
    refine ⟨_, rfl, _, rfl, _, _, rfl, rfl, wd _, _, rfl, _, rfl, _, _, rfl, rfl, wd _, by show 2 ≤ sizeLine; decide, fun z nz => ?_⟩
    refine q z _ ?_ (s3.trans (same_new nz _))
    rw [upd_same]
    rfl
end
abbrev s__law_opposite : Stmt := (topS 83)
abbrev N_sc__law_opposite : List Str := ["_law_painters", "_law_name", "_law_start", "_law_post", "_law_stride"]
abbrev P__law_opposite : List Str := ["_law_painters"]
theorem sc__law_opposite : FnScope N_sc__law_opposite P__law_opposite (defScope s__law_opposite) := ⟨rfl, rfl, rfl, by decide +kernel, rfl, by decide +kernel, by decide +kernel⟩
def spOpp (K : PySem.W.Frag) : Sp := fun vs H Q _ => ∃ (F : Addr) (ts : List Addr) (qs : List Quad), vs = [.ref F] ∧ SqL K H F (ts.map V.ref) ∧ Team H ts qs ∧
  ∀ F' ts' H', H' F' = some (.lst (ts'.map V.ref)) → Team H' ts' (qs.map (mvQ (-1) 0 0)) → Same H H' → Q (.ref F') H'
section
variable {P : Program} {w : World} {K : PySem.W.Frag} {mg : Str → Option Value} {base : Heap}
theorem ok_opp (D : Dfn K mg "_law_opposite" s__law_opposite P__law_opposite) : Cal P w K mg base 1 "_law_opposite" P__law_opposite (spOpp K) := by
  refine D.cal sc__law_opposite (fun vs H Q E h => ?_) fun fn cdv A outer s H vs Q E hr h => ?_
  · obtain ⟨F, _, _, rfl, _⟩ := h
    rfl
  obtain ⟨F, ts, qs, rfl, hF, tm, q⟩ := h
  refine ⟨_, (pss_one (ps_ret (pe_lc (own := [("_law_name", 1), ("_law_start", 2), ("_law_post", 3), ("_law_stride", 4)]) (g := gTup K 4 (gCons (gName 1) (gCons (gName 2) (gCons (gName 3) (gCons (gName 4) gNil))))) (tt := tYes) rfl sc__law_opposite.nd (pi_list (pv 0)) (blkOk_by (N := N_sc__law_opposite) (sc := defScope s__law_opposite) (by decide +kernel)) (fun _ _ _ _ _ => pg_tup rfl (pgs_cons (pg_name (i := 1) sc__law_opposite.nd rfl (Or.inl rfl)) (pgs_cons (pg_name (i := 2) sc__law_opposite.nd rfl (Or.inl rfl)) (pgs_cons (pg_name (i := 3) sc__law_opposite.nd rfl (Or.inl rfl)) (pgs_cons (pg_name (i := 4) sc__law_opposite.nd rfl (Or.inl rfl)) pgs_nil))))) (fun _ _ _ _ _ => pts_nil) (fun _ _ _ _ _ => (pe_tup (pa_cons (pv 1) (pa_cons (pv 2) (pa_cons (pe_op op_sub pe_int (pv 3)) (pa_cons (pe_op op_sub pe_int (pv 4)) pa_nil))))))))), ?_⟩
  have tl := tm.len
  have few := tm.few
  refine ⟨_, rfl, F, rfl, ⟨_, hF⟩, fun M nM => ?_⟩
  refine lc_list (K := K) (a := F) (xs := ts.map V.ref) (fun i H' => ∃ us : List Addr, H' M = some (.lst (us.map V.ref)) ∧ us.length = i ∧ (∀ (j : Nat) (u : Addr) (x : Quad), j < i → us[j]? = some u → qs[j]? = some x → H' u = some (.tup (quadV (mvQ (-1) 0 0 x)))) ∧ Same H H') ⟨[], upd_same, rfl, (fun j u x h => absurd h (Nat.not_lt_zero j)), same_new nM _⟩ (fun i H' _ h => by obtain ⟨_, _, _, _, h⟩ := h; exact same_sql h hF) ?_ ?_
  · rintro i v H' ev ⟨us, hM, ul, at1, s1⟩
    obtain ⟨t, qd, rfl, et, eq, ht, ok⟩ := tm.get ev
    obtain ⟨nm, d, p, st⟩ := qd
    have hi := (List.getElem?_eq_some_iff.mp eq).1
    refine ⟨t, _, rfl, SqT.of (s1 _ _ ht), rfl, _, _, rfl, _, _, rfl, _, _, rfl, _, _, rfl, rfl, ?_⟩
    refine ⟨rfl, _, rfl, _, rfl, _, rfl, _, _, rfl, rfl, _, rfl, _, _, rfl, rfl, by show 4 ≤ sizeLine; decide, fun u nu => ?_⟩
    have su := same_new nu (.tup [.str nm, .int d, .int (0 - p), .int (0 - st)])
    have hMu := su _ _ hM
    have kp : ∀ (b : Addr) xs, upd H' u (.tup [.str nm, .int d, .int (0 - p), .int (0 - st)]) b = some (.tup xs) → upd (upd H' u (.tup [.str nm, .int d, .int (0 - p), .int (0 - st)])) M (.lst (us.map V.ref ++ [.ref u])) b = some (.tup xs) := fun b xs e => by rw [upd_ne (ne_of e hMu (by intro z; cases z))]; exact e
    refine ⟨_, hMu, ?_, us ++ [u], by rw [upd_same, List.map_append]; rfl, by rw [List.length_append, ul]; rfl, fun j b x hj e1 e2 => ?_, sameAt (s1.trans su) nM⟩
    · rw [List.length_map, ul]
      exact Nat.lt_of_le_of_lt (show i ≤ 40 by omega) (by decide)
    · by_cases c : j < i
      · rw [List.getElem?_append_left (by omega)] at e1
        exact kp _ _ (su _ _ (at1 j b x c e1 e2))
      · obtain rfl : j = i := by omega
        rw [List.getElem?_append_right (by omega), ul, Nat.sub_self] at e1
        obtain rfl := Option.some.inj e1
        rw [eq] at e2
        obtain rfl := Option.some.inj e2
        refine kp _ _ ?_
        rw [upd_same]
        show some (HO.tup [V.str nm, .int d, .int (0 - p), .int (0 - st)]) = some (HO.tup [V.str nm, .int (d + 0), .int (-1 * p + 0), .int (-1 * st)])
        rw [show d + 0 = d by omega, show -1 * p + 0 = 0 - p by omega, show -1 * st = 0 - st by omega]
  · rintro H' ⟨us, hM, ul, at1, s1⟩
    rw [List.length_map, tl] at ul
    refine q M us H' hM ⟨by rw [List.length_map]; exact ul, fun j u x e1 e2 => ?_, fun y hy => ?_, ?_, by rw [List.length_map]; exact few⟩ s1
    · rw [List.getElem?_map] at e2
      cases e3 : qs[j]? with
      | none => rw [e3] at e2; cases e2
      | some y =>
        rw [e3] at e2
        obtain rfl := Option.some.inj e2
        exact at1 j u y (by have := (List.getElem?_eq_some_iff.mp e3).1; rw [List.length_map, tl]; exact this) e1 e3
    · obtain ⟨x, hx, rfl⟩ := List.mem_map.mp hy
      have k := tm.ok x hx
      have k1 := k.d0
      have k2 := k.d1
      have k3 := k.p0
      have k4 := k.p1
      have k5 := k.s0
      have k6 := k.s1
      have k7 := k.sn
      exact ⟨k.nm, by show 0 ≤ x.2.1 + 0; omega, by show x.2.1 + 0 ≤ _; omega, by show _ ≤ -1 * x.2.2.1 + 0; omega, by show -1 * x.2.2.1 + 0 ≤ _; omega, by show _ ≤ -1 * x.2.2.2; omega, by show -1 * x.2.2.2 ≤ _; omega, by show -1 * x.2.2.2 ≠ 0; omega⟩
    · rw [List.map_map]
      exact tm.nd
end
end Ur
/-! QB: the law's own number of painted posts (_law_number). -/
namespace Ur
open PySem PySem.Spec PyProof.Rows L2
def nLo (p s f l : Int) : Int := if 0 < s then f - p else p - l
def nHi (p s f l : Int) : Int := if 0 < s then l - p else p - f
def capD (day : Option Int) (d x : Int) : Int := match day with
  | none => x
  | some t => min x (t - d)
def capC (c : Option Int) (x : Int) : Int := match c with
  | none => x
  | some k => min x (k - 1)
theorem num_one {p s f l d : Int} {day c : Option Int} (sn : s ≠ 0) : max 0 (capC c (capD day d (nHi p s f l / (s.natAbs : Int))) - max 0 (0 - (0 - nLo p s f l) / (s.natAbs : Int)) + 1) = runIn p s (byC day d c) f l := by
  have key : ∀ {X Y : Int}, max 0 (capC c (capD day d Y) - max 0 (0 - X) + 1) = max 0 ((match byC day d c with | none => Y | some m => min Y (m - 1)) - max 0 (-X) + 1) := fun {X Y} => by
    unfold byC capC capD
    cases day with
    | none =>
      cases c with
      | none => show max 0 (Y - max 0 (0 - X) + 1) = max 0 (Y - max 0 (-X) + 1); omega
      | some k => show max 0 (min Y (k - 1) - max 0 (0 - X) + 1) = max 0 (min Y (k - 1) - max 0 (-X) + 1); omega
    | some t =>
      cases c with
      | none => show max 0 (min Y (t - d) - max 0 (0 - X) + 1) = max 0 (min Y (max 0 (t - d + 1) - 1) - max 0 (-X) + 1); omega
      | some k => show max 0 (min (min Y (t - d)) (k - 1) - max 0 (0 - X) + 1) = max 0 (min Y (min (max 0 (t - d + 1)) k - 1) - max 0 (-X) + 1); omega
  have nb : ∀ {p s l : Int} {m : Option Int}, nbM p s l m = (match m with | none => (l - p) / s | some m => min ((l - p) / s) (m - 1)) := fun {p s l m} => by
    cases m <;> rfl
  rw [key]
  unfold runIn nHi nLo
  by_cases h : s < 0
  · rw [if_pos h, if_neg (show ¬ 0 < s by omega), if_neg (show ¬ 0 < s by omega), show ((s.natAbs : Nat) : Int) = -s by omega, nb]
    unfold nbL
    rw [show -f - -p = p - f by omega, show -p - -l = 0 - (p - l) by omega]
  · rw [if_neg h, if_pos (show 0 < s by omega), if_pos (show 0 < s by omega), show ((s.natAbs : Nat) : Int) = s by omega, nb]
    unfold nbL
    rw [show 0 - (f - p) = p - f by omega]
theorem max_if {x : Int} : (if x > 0 then x else 0) = max 0 x := by split <;> omega
/-- how many posts from f to l are painted by a day, by the numbers of posts -/
def numN (qs : List Quad) (Cn : Nat → Option Int) (day : Option Int) (f l : Int) (n : Nat) : Int := ((List.range n).map fun j => runIn (pQ qs j) (sQ qs j) (byC day (dQ qs j) (Cn j)) f l).sum
theorem numN_snoc {qs : List Quad} {Cn : Nat → Option Int} {day : Option Int} {f l : Int} {n : Nat} : numN qs Cn day f l (n + 1) = numN qs Cn day f l n + runIn (pQ qs n) (sQ qs n) (byC day (dQ qs n) (Cn n)) f l := by
  unfold numN
  rw [List.range_succ, List.map_append, List.sum_append]
  simp only [List.map_cons, List.map_nil, List.sum_cons, List.sum_nil]
  omega
abbrev s__law_number : Stmt := (topS 81)
abbrev N_sc__law_number : List Str := ["_law_painters", "_law_counts", "_law_low_post", "_law_high_post", "_law_until", "_law_total", "_law_place", "_law_name", "_law_start", "_law_begin", "_law_stride", "_law_low", "_law_high"]
abbrev P__law_number : List Str := ["_law_painters", "_law_counts", "_law_low_post", "_law_high_post", "_law_until"]
theorem sc__law_number : FnScope N_sc__law_number P__law_number (defScope s__law_number) := ⟨rfl, rfl, rfl, by decide +kernel, rfl, by decide +kernel, by decide +kernel⟩
def spNum (K : PySem.W.Frag) : Sp := fun vs H Q _ => ∃ (F Ca : Addr) (ts : List Addr) (qs : List Quad) (cs : List (Option Int)) (f l : Int) (day : Option Int), vs = [.ref F, .ref Ca, .int f, .int l, optV day] ∧ SqL K H F (ts.map V.ref) ∧ Team H ts qs ∧ H Ca = some (.lst (cs.map optV)) ∧ cs.length = qs.length ∧ -(10 ^ 80) ≤ f ∧ f ≤ 10 ^ 80 ∧ -(10 ^ 80) ≤ l ∧ l ≤ 10 ^ 80 ∧
  ∀ H', Same H H' → Q (.int (numN qs (cnL cs) day f l qs.length)) H'
section
variable {P : Program} {w : World} {K : PySem.W.Frag} {mg : Str → Option Value} {base : Heap}
set_option maxHeartbeats 16000000 in
theorem ok_number (D : Dfn K mg "_law_number" s__law_number P__law_number) (B : Blt mg) (hEn : mg "enumerate" = none) : Cal P w K mg base 1 "_law_number" P__law_number (spNum K) := by
  refine D.cal sc__law_number (fun vs H Q E h => ?_) fun fn cdv A outer s H vs Q E hr h => ?_
  · obtain ⟨F, Ca, _, _, _, _, _, _, rfl, _⟩ := h
    rfl
  obtain ⟨F, Ca, ts, qs, cs, f, l, day, rfl, hF, tm, hC, cl, f0, f1, l0, l1, q⟩ := h
  refine ⟨_, (pss_cons (ps_set (i := 5) sc__law_number.nd rfl (Or.inl rfl) pe_int) (pss_cons (ps_for PassesOwn.never rfl (pi_enum rfl hEn (pa_cons (pv 0) pa_nil)) (pg_tup rfl (pgs_cons (pg_name (i := 6) sc__law_number.nd rfl (Or.inl rfl)) (pgs_cons (pg_tup rfl (pgs_cons (pg_name (i := 7) sc__law_number.nd rfl (Or.inl rfl)) (pgs_cons (pg_name (i := 8) sc__law_number.nd rfl (Or.inl rfl)) (pgs_cons (pg_name (i := 9) sc__law_number.nd rfl (Or.inl rfl)) (pgs_cons (pg_name (i := 10) sc__law_number.nd rfl (Or.inl rfl)) pgs_nil))))) pgs_nil))) (C8.pss_cut (ps_asg (pe_ifExp (pt_cmpR op_gt (pv 10) pe_int (nomark _)) (pe_tup (pa_cons (pe_op op_sub (pv 2) (pv 9)) (pa_cons (pe_op op_sub (pv 3) (pv 9)) pa_nil))) (pe_tup (pa_cons (pe_op op_sub (pv 9) (pv 3)) (pa_cons (pe_op op_sub (pv 9) (pv 2)) pa_nil)))) (pg_tup rfl (pgs_cons (pg_name (i := 11) sc__law_number.nd rfl (Or.inl rfl)) (pgs_cons (pg_name (i := 12) sc__law_number.nd rfl (Or.inl rfl)) pgs_nil)))) (C8.pss_cut (ps_par (i := 11) (j := 12) rfl sc__law_number.nd rfl rfl (by decide) rfl rfl (pa_cons (pe_callB (call_max2 rfl) rfl B.max_ (by decide +kernel) (pa_cons pe_int (pa_cons (pe_op op_sub pe_int (pe_op op_fdivW (pe_op op_sub pe_int (pv 11)) (pe_callB call_abs rfl B.abs_ (by decide +kernel) (pa_cons (pv 10) pa_nil)))) pa_nil))) (pa_cons (pe_op op_fdivW (pv 12) (pe_callB call_abs rfl B.abs_ (by decide +kernel) (pa_cons (pv 10) pa_nil))) pa_nil)) (by rfl)) (C8.pss_cut (ps_if (pt_cmpR op_notN (pv 4) pe_non (nomark _)) (pss_one (ps_set (i := 12) sc__law_number.nd rfl (Or.inl rfl) (pe_callB (call_min2 rfl) rfl B.min_ (by decide +kernel) (pa_cons (pv 12) (pa_cons (pe_op op_sub (pv 4) (pv 8)) pa_nil))))) pss_nil) (C8.pss_cut (ps_if (pt_cmpR op_notN (pe_ix ix_list (pv 1) (pv 6) (fun _ _ => rfl)) pe_non (nomark _)) (pss_one (ps_set (i := 12) sc__law_number.nd rfl (Or.inl rfl) (pe_callB (call_min2 rfl) rfl B.min_ (by decide +kernel) (pa_cons (pv 12) (pa_cons (pe_op op_sub (pe_ix ix_list (pv 1) (pv 6) (fun _ _ => rfl)) pe_int) pa_nil))))) pss_nil) (pss_one (ps_set (i := 5) sc__law_number.nd rfl (Or.inl rfl) (pe_op op_add (pv 5) (pe_callB (call_max2 rfl) rfl B.max_ (by decide +kernel) (pa_cons pe_int (pa_cons (pe_op op_add (pe_op op_sub (pv 12) (pv 11)) pe_int) pa_nil))))))))))) (pss_one (ps_ret (pv 5))))), ?_⟩
  have tl := tm.len
  refine ⟨_, rfl, F, ts.map V.ref, rfl, hF, ?_⟩
  refine for_it walk_enum (fun i σ H3 => ∃ (o6 o7 o8 o9 o10 o11 o12 : Option V), σ = [some (.ref F), some (.ref Ca), some (.int f), some (.int l), some (optV day), some (.int (numN qs (cnL cs) day f l i)), o6, o7, o8, o9, o10, o11, o12] ∧ Same H H3)
    ⟨_, _, _, _, _, _, _, rfl, Same.refl _⟩ (fun i σ H3 _ h => by obtain ⟨_, _, _, _, _, _, _, _, h⟩ := h; exact same_sql h hF) ?_ ?_
  · rintro i v σ H3 H4 hi ⟨o6, o7, o8, o9, o10, o11, o12, rfl, s3⟩ ⟨T0, y1, y2, rfl, hT, rfl, e1, e2⟩
    obtain rfl := Option.some.inj e1
    obtain ⟨t, qd, rfl, et, eq, ht, ok⟩ := tm.get e2
    have sT := same_new hT (.tup [V.int (i : Int), V.ref t])
    have s4 := s3.trans sT
    have hiq : i < qs.length := (List.getElem?_eq_some_iff.mp eq).1
    obtain ⟨nm, d, p, st⟩ := qd
    obtain ⟨qn, qdy, qp, qst⟩ := q_at eq
    have okd : PartOk nm d p st := ok
    have b0 := okd.s0
    have b1 := okd.s1
    have b2 := okd.p0
    have b3 := okd.p1
    have sn := okd.sn
    obtain ⟨c, hc⟩ : ∃ c, cs[i]? = some c := ⟨_, List.getElem?_eq_getElem (by omega)⟩
    have ec := cnL_at hc
    have ea : (if st < 0 then -st else st) = (st.natAbs : Int) := by split <;> omega
    have ap : (0 : Int) < (st.natAbs : Int) := by omega
    have wd : ∀ x : Int, CDivW x (st.natAbs : Int) := fun x => wide_div (b := 200) ap (by omega) (by decide) (by decide)
    refine ⟨T0, _, rfl, SqT.of upd_same, rfl, _, _, rfl, _, _, rfl, t, _, rfl, SqT.of (s4 _ _ ht), rfl, _, _, rfl, _, _, rfl, _, _, rfl, _, _, rfl, rfl, rfl, ?_⟩
    refine ⟨fun σ' H' => σ' = [some (.ref F), some (.ref Ca), some (.int f), some (.int l), some (optV day), some (.int (numN qs (cnL cs) day f l i)), some (.int (i : Int)), some (.str nm), some (.int d), some (.int p), some (.int st), some (.int (nLo p st f l)), some (.int (nHi p st f l))] ∧ Same H H', ?_, ?_⟩
    · refine ⟨_, rfl, _, _, rfl, rfl, _, rfl, ?_⟩
      refine ite2 (fun c => ?_) (fun c => ?_)
      · have c : 0 < st := of_decide_eq_true c
        refine ⟨_, rfl, _, rfl, _, _, rfl, rfl, _, rfl, _, rfl, _, _, rfl, rfl, by show 2 ≤ sizeLine; decide, fun u nu => ⟨u, _, rfl, SqT.of upd_same, rfl, _, _, rfl, _, _, rfl, rfl, ?_⟩⟩
        refine ⟨?_, s4.trans (same_new nu _)⟩
        unfold nLo nHi
        rw [if_pos c, if_pos c]
        rfl
      · have c : ¬ 0 < st := fun z => c (decide_eq_true z)
        refine ⟨_, rfl, _, rfl, _, _, rfl, rfl, _, rfl, _, rfl, _, _, rfl, rfl, by show 2 ≤ sizeLine; decide, fun u nu => ⟨u, _, rfl, SqT.of upd_same, rfl, _, _, rfl, _, _, rfl, rfl, ?_⟩⟩
        refine ⟨?_, s4.trans (same_new nu _)⟩
        unfold nLo nHi
        rw [if_neg c, if_neg c]
        rfl
    rintro σ' H5 ⟨rfl, s5⟩
    refine ⟨fun σ' H' => σ' = [some (.ref F), some (.ref Ca), some (.int f), some (.int l), some (optV day), some (.int (numN qs (cnL cs) day f l i)), some (.int (i : Int)), some (.str nm), some (.int d), some (.int p), some (.int st), some (.int (max 0 (0 - (0 - nLo p st f l) / (st.natAbs : Int)))), some (.int (nHi p st f l / (st.natAbs : Int)))] ∧ H' = H5, ?_, ?_⟩
    · refine ⟨_, rfl, _, _, rfl, rfl, _, rfl, _, rfl, ?_⟩
      rw [ea]
      refine ⟨_, _, rfl, rfl, wd _, _, _, rfl, rfl, _, _, rfl, _, rfl, _, rfl, _, rfl, ?_⟩
      rw [ea]
      refine ⟨_, _, rfl, rfl, wd _, _, _, rfl, ?_⟩
      refine ⟨?_, rfl⟩
      rw [← max_if]
      rfl
    rintro σ' H6 ⟨rfl, rfl⟩
    refine ⟨fun σ' H' => σ' = [some (.ref F), some (.ref Ca), some (.int f), some (.int l), some (optV day), some (.int (numN qs (cnL cs) day f l i)), some (.int (i : Int)), some (.str nm), some (.int d), some (.int p), some (.int st), some (.int (max 0 (0 - (0 - nLo p st f l) / (st.natAbs : Int)))), some (.int (capD day d (nHi p st f l / (st.natAbs : Int))))] ∧ H' = H6, ?_, ?_⟩
    · refine ⟨_, rfl, rfl, _, rfl, ?_⟩
      cases day with
      | none => exact iteNS rfl ⟨rfl, rfl⟩
      | some tt =>
        refine iteNN (fun z => by cases z) ?_
        refine ⟨_, rfl, _, rfl, _, rfl, _, _, rfl, rfl, _, _, rfl, ?_⟩
        refine ⟨?_, rfl⟩
        have e : (if tt - d < nHi p st f l / (st.natAbs : Int) then tt - d else nHi p st f l / (st.natAbs : Int)) = capD (some tt) d (nHi p st f l / (st.natAbs : Int)) := by
          show _ = min (nHi p st f l / (st.natAbs : Int)) (tt - d)
          split <;> omega
        rw [← e]
        rfl
    rintro σ' H7 ⟨rfl, rfl⟩
    have ecv : (cs.map optV)[i]? = some (optV c) := by rw [List.getElem?_map, hc]; rfl
    refine ⟨fun σ' H' => σ' = [some (.ref F), some (.ref Ca), some (.int f), some (.int l), some (optV day), some (.int (numN qs (cnL cs) day f l i)), some (.int (i : Int)), some (.str nm), some (.int d), some (.int p), some (.int st), some (.int (max 0 (0 - (0 - nLo p st f l) / (st.natAbs : Int)))), some (.int (capC c (capD day d (nHi p st f l / (st.natAbs : Int)))))] ∧ H' = H7, ?_, ?_⟩
    · refine ⟨_, rfl, _, rfl, Ca, _, _, _, rfl, rfl, SqL.of (s5 _ _ hC), atI_nat ecv, rfl, _, rfl, ?_⟩
      cases c with
      | none => exact iteNS rfl ⟨rfl, rfl⟩
      | some k =>
        refine iteNN (fun z => by cases z) ?_
        refine ⟨_, rfl, _, rfl, _, rfl, Ca, _, _, _, rfl, rfl, SqL.of (s5 _ _ hC), atI_nat ecv, _, _, rfl, rfl, _, _, rfl, ?_⟩
        refine ⟨?_, rfl⟩
        have e : (if k - 1 < capD day d (nHi p st f l / (st.natAbs : Int)) then k - 1 else capD day d (nHi p st f l / (st.natAbs : Int))) = capC (some k) (capD day d (nHi p st f l / (st.natAbs : Int))) := by
          show _ = min (capD day d (nHi p st f l / (st.natAbs : Int))) (k - 1)
          split <;> omega
        rw [← e]
        rfl
    rintro σ' H8 ⟨rfl, rfl⟩
    refine ⟨_, rfl, _, rfl, _, rfl, _, _, rfl, rfl, _, _, rfl, rfl, _, _, rfl, _, _, rfl, rfl, ?_⟩
    have r1 := num_one (p := p) (f := f) (l := l) (d := d) (day := day) (c := c) sn
    rw [numN_snoc, qp, qst, qdy, ec]
    rw [← r1]
    refine ⟨some (.int (i : Int)), some (.str nm), some (.int d), some (.int p), some (.int st), some (.int (max 0 (0 - (0 - nLo p st f l) / (st.natAbs : Int)))), some (.int (capC c (capD day d (nHi p st f l / (st.natAbs : Int))))), ?_, s5⟩
    rw [← max_if (x := capC c (capD day d (nHi p st f l / (st.natAbs : Int))) - max 0 (0 - (0 - nLo p st f l) / (st.natAbs : Int)) + 1)]
    rfl
  · rintro σ H3 ⟨o6, o7, o8, o9, o10, o11, o12, rfl, s3⟩
    rw [List.length_map, tl]
    exact ⟨_, rfl, q H3 s3⟩
end
end Ur
/-! TA: painted at all, by the law itself (_law_is_painted). -/
namespace Ur
open PySem PySem.Spec PyProof.Rows L2
theorem onrun_iff {p s d x : Int} {day c : Option Int} (sn : s ≠ 0) : OnRun p s (byC day d c) x ↔ (x - p).fmod s = 0 ∧ 0 ≤ (x - p).fdiv s ∧ (∀ t, day = some t → d + (x - p).fdiv s ≤ t) ∧ ∀ k, c = some k → (x - p).fdiv s < k := by
  have h1 : s * (x - p).fdiv s + (x - p).fmod s = x - p := Int.mul_fdiv_add_fmod _ _
  have dayc : ∀ n : Int, 0 ≤ n → ((∀ k, byC day d c = some k → n < k) ↔ (∀ t, day = some t → d + n ≤ t) ∧ ∀ k, c = some k → n < k) := fun n n0 => by
    cases day with
    | none => exact ⟨fun h => ⟨fun t z => (by cases z), fun k e => h k e⟩, fun h k e => h.2 k e⟩
    | some t =>
      cases c with
      | none =>
        constructor
        · intro h
          have := h (max 0 (t - d + 1)) rfl
          exact ⟨fun t' e => by obtain rfl := Option.some.inj e; omega, fun k e => (by cases e)⟩
        · rintro ⟨h, _⟩ k e
          have := h t rfl
          have e : some (max 0 (t - d + 1)) = some k := e
          obtain rfl := Option.some.inj e
          omega
      | some c =>
        constructor
        · intro h
          have := h (min (max 0 (t - d + 1)) c) rfl
          exact ⟨fun t' e => by obtain rfl := Option.some.inj e; omega, fun k e => by obtain rfl := Option.some.inj e; omega⟩
        · rintro ⟨h, h2⟩ k e
          have := h t rfl
          have := h2 c rfl
          have e : some (min (max 0 (t - d + 1)) c) = some k := e
          obtain rfl := Option.some.inj e
          omega
  constructor
  · rintro ⟨n, n0, nk, e⟩
    have e2 : x - p = n * s := by omega
    have q1 : (x - p).fdiv s = n := by rw [e2]; exact Int.mul_fdiv_cancel n sn
    have q2 : (x - p).fmod s = 0 := by rw [e2]; exact Int.mul_fmod_left n s
    rw [q1]
    exact ⟨q2, n0, (dayc n n0).mp nk⟩
  · rintro ⟨m0, n0, h⟩
    exact ⟨(x - p).fdiv s, n0, (dayc _ n0).mpr h, by rw [m0, Int.mul_comm] at h1; omega⟩
/-- one of the first painters paints the post by the day -/
def PbI (qs : List Quad) (C : Nat → Option Int) (day : Option Int) (x : Int) (n : Nat) : Prop := ∃ j, j < n ∧ OnRun (pQ qs j) (sQ qs j) (byC day (dQ qs j) (C j)) x
theorem pbi_next {qs : List Quad} {C : Nat → Option Int} {day : Option Int} {x : Int} {n : Nat} (h : ¬ PbI qs C day x n) (h1 : ¬ OnRun (pQ qs n) (sQ qs n) (byC day (dQ qs n) (C n)) x) : ¬ PbI qs C day x (n + 1) := fun ⟨j, hj, o⟩ => by
  by_cases c : j = n
  · exact h1 (c ▸ o)
  · exact h ⟨j, by omega, o⟩
abbrev s__law_is_painted : Stmt := (topS 80)
abbrev N_sc__law_is_painted : List Str := ["_law_painters", "_law_counts", "_law_post", "_law_until", "_law_place", "_law_name", "_law_start", "_law_begin", "_law_stride", "_law_steps"]
abbrev P__law_is_painted : List Str := ["_law_painters", "_law_counts", "_law_post", "_law_until"]
theorem sc__law_is_painted : FnScope N_sc__law_is_painted P__law_is_painted (defScope s__law_is_painted) := ⟨rfl, rfl, rfl, by decide +kernel, rfl, by decide +kernel, by decide +kernel⟩
def spIsP (K : PySem.W.Frag) : Sp := fun vs H Q _ => ∃ (F Ca : Addr) (ts : List Addr) (qs : List Quad) (cs : List (Option Int)) (x : Int) (day : Option Int) (b : Bool), vs = [.ref F, .ref Ca, .int x, optV day] ∧ SqL K H F (ts.map V.ref) ∧ Team H ts qs ∧ H Ca = some (.lst (cs.map optV)) ∧ cs.length = qs.length ∧ (b = true ↔ PaintedBy qs (cnL cs) day x) ∧
  ∀ H', Same H H' → Q (.bl b) H'
section
variable {P : Program} {w : World} {K : PySem.W.Frag} {mg : Str → Option Value} {base : Heap}
set_option maxHeartbeats 16000000 in
theorem ok_ispaint (D : Dfn K mg "_law_is_painted" s__law_is_painted P__law_is_painted) (B : Blt mg) (hEn : mg "enumerate" = none) : Cal P w K mg base 1 "_law_is_painted" P__law_is_painted (spIsP K) := by
  refine D.cal sc__law_is_painted (fun vs H Q E h => ?_) fun fn cdv A outer s H vs Q E hr h => ?_
  · obtain ⟨F, Ca, _, _, _, _, _, _, rfl, _⟩ := h
    rfl
  obtain ⟨F, Ca, ts, qs, cs, x, day, b, rfl, hF, tm, hC, cl, hb, q⟩ := h
  refine ⟨_, (pss_cons (ps_for PassesOwn.never rfl (pi_enum rfl hEn (pa_cons (pv 0) pa_nil)) (pg_tup rfl (pgs_cons (pg_name (i := 4) sc__law_is_painted.nd rfl (Or.inl rfl)) (pgs_cons (pg_tup rfl (pgs_cons (pg_name (i := 5) sc__law_is_painted.nd rfl (Or.inl rfl)) (pgs_cons (pg_name (i := 6) sc__law_is_painted.nd rfl (Or.inl rfl)) (pgs_cons (pg_name (i := 7) sc__law_is_painted.nd rfl (Or.inl rfl)) (pgs_cons (pg_name (i := 8) sc__law_is_painted.nd rfl (Or.inl rfl)) pgs_nil))))) pgs_nil))) (C8.pss_cut (ps_set (i := 9) sc__law_is_painted.nd rfl (Or.inl rfl) (pe_op op_fdivX (pe_op op_sub (pv 2) (pv 7)) (pv 8))) (pss_one (ps_if (PW.pt (pw_and (pt_cmpR op_eq (pe_op op_modN (pe_callTy call_int1 rfl B.int_ (by decide +kernel) (pa_cons (pe_op op_sub (pv 2) (pv 7)) pa_nil)) (pv 8)) pe_int (nomark _)) (pw_and (pt_cmpR op_ge (pv 9) pe_int (nomark _)) (pw_and1 (PW.pt (pw_or (pt_cmpR op_isN (pv 3) pe_non (nomark _)) (pw_or1 (pt_cmpR op_le (pe_op op_add (pv 6) (pv 9)) (pv 3) (nomark _))))))))) (pss_one (ps_if (PW.pt (pw_or (pt_cmpR op_isN (pe_ix ix_list (pv 1) (pv 4) (fun _ _ => rfl)) pe_non (nomark _)) (pw_or1 (pt_cmpR op_lt (pv 9) (pe_ix ix_list (pv 1) (pv 4) (fun _ _ => rfl)) (nomark _))))) (pss_one (ps_ret pe_bl)) pss_nil)) pss_nil)))) (pss_one (ps_ret pe_bl))), ?_⟩
  have tl := tm.len
  refine ⟨_, rfl, F, ts.map V.ref, rfl, hF, ?_⟩
  refine for_it walk_enum (fun i σ H3 => ∃ (o4 o5 o6 o7 o8 o9 : Option V), σ = [some (.ref F), some (.ref Ca), some (.int x), some (optV day), o4, o5, o6, o7, o8, o9] ∧ ¬ PbI qs (cnL cs) day x i ∧ Same H H3)
    ⟨_, _, _, _, _, _, rfl, fun ⟨j, h, _⟩ => absurd h (Nat.not_lt_zero j), Same.refl _⟩ (fun i σ H3 _ h => by obtain ⟨_, _, _, _, _, _, _, _, h⟩ := h; exact same_sql h hF) ?_ ?_
  · rintro i v σ H3 H4 hi ⟨o4, o5, o6, o7, o8, o9, rfl, np, s3⟩ ⟨T0, y1, y2, rfl, hT, rfl, e1, e2⟩
    obtain rfl := Option.some.inj e1
    obtain ⟨t, qd, rfl, et, eq, ht, ok⟩ := tm.get e2
    have sT := same_new hT (.tup [V.int (i : Int), V.ref t])
    have s4 := s3.trans sT
    have hiq : i < qs.length := (List.getElem?_eq_some_iff.mp eq).1
    obtain ⟨nm, d, p, st⟩ := qd
    obtain ⟨qn, qdy, qp, qst⟩ := q_at eq
    have okd : PartOk nm d p st := ok
    have b0 := okd.s0
    have b1 := okd.s1
    have sn := okd.sn
    obtain ⟨c, hc⟩ : ∃ c, cs[i]? = some c := ⟨_, List.getElem?_eq_getElem (by omega)⟩
    have ec := cnL_at hc
    have ecv : (cs.map optV)[i]? = some (optV c) := by rw [List.getElem?_map, hc]; rfl
    have iff1 := onrun_iff (p := p) (s := st) (d := d) (x := x) (day := day) (c := c) sn
    have dv : CDivX (x - p) st := ⟨sn, Nat.lt_of_lt_of_le (PySem.Flt.log2_lt_of (by decide) (show st.natAbs < 2 ^ 200 by omega)) (by decide)⟩
    obtain ⟨n, hn⟩ : ∃ n, (x - p).fdiv st = n := ⟨_, rfl⟩
    obtain ⟨rm, hrm⟩ : ∃ rm, (x - p).fmod st = rm := ⟨_, rfl⟩
    rw [hn, hrm] at iff1
    have here : OnRun (pQ qs i) (sQ qs i) (byC day (dQ qs i) (cnL cs i)) x ↔ OnRun p st (byC day d c) x := by rw [qp, qst, qdy, ec]
    refine ⟨T0, _, rfl, SqT.of upd_same, rfl, _, _, rfl, _, _, rfl, t, _, rfl, SqT.of (s4 _ _ ht), rfl, _, _, rfl, _, _, rfl, _, _, rfl, _, _, rfl, rfl, rfl, ?_⟩
    have go : ¬ OnRun p st (byC day d c) x → ∃ (o4 o5 o6 o7 o8 o9 : Option V), [some (.ref F), some (.ref Ca), some (.int x), some (optV day), some (.int (i : Int)), some (.str nm), some (.int d), some (.int p), some (.int st), some (V.int n)] = [some (.ref F), some (.ref Ca), some (.int x), some (optV day), o4, o5, o6, o7, o8, o9] ∧ ¬ PbI qs (cnL cs) day x (i + 1) ∧ Same H (upd H3 T0 (.tup [V.int (i : Int), V.ref t])) := fun z => ⟨_, _, _, _, _, _, rfl, pbi_next np fun h => z (here.mp h), s4⟩
    have hret : OnRun p st (byC day d c) x → Q (.bl true) (upd H3 T0 (.tup [V.int (i : Int), V.ref t])) := fun o => by
      obtain rfl : b = true := hb.mpr ⟨i, hiq, here.mpr o⟩
      exact q _ s4
    refine ⟨fun σ' H' => H' = upd H3 T0 (.tup [V.int (i : Int), V.ref t]) ∧ σ' = [some (.ref F), some (.ref Ca), some (.int x), some (optV day), some (.int (i : Int)), some (.str nm), some (.int d), some (.int p), some (.int st), some (V.int n)], ?_, ?_⟩
    · exact ⟨_, rfl, _, rfl, _, _, rfl, rfl, _, rfl, _, _, rfl, rfl, dv, rfl, by rw [← hn]; rfl⟩
    rintro σ' H' ⟨rfl, rfl⟩
    refine ⟨_, rfl, _, rfl, _, _, rfl, rfl, .inl ⟨_, rfl, _, rfl, _, _, rfl, rfl, sn, rfl, _, rfl, ?_⟩⟩
    by_cases c1 : rm = 0
    · refine iteDT (congrArg V.int (hrm.trans c1)) ⟨_, rfl, _, _, rfl, rfl, _, rfl, ?_⟩
      refine ite2 (fun c2 => ?_) (fun c2 => ?_)
      · have c2 : 0 ≤ n := of_decide_eq_true c2
        refine ⟨_, rfl, rfl, _, rfl, ?_⟩
        cases day with
        | none =>
          refine iteDT rfl (iteT ?_)
          have hday : ∀ t, (none : Option Int) = some t → d + n ≤ t := fun t z => by cases z
          have ret := fun hc => hret (iff1.mpr ⟨c1, c2, hday, hc⟩)
          refine ⟨_, rfl, _, rfl, Ca, _, _, _, rfl, rfl, SqL.of (s4 _ _ hC), atI_nat ecv, rfl, _, rfl, ?_⟩
          cases c with
          | none => exact iteDT rfl (iteT (ret fun k z => (by cases z)))
          | some k =>
            refine iteDF (fun z => by cases z) ⟨_, rfl, _, rfl, _, rfl, Ca, _, _, _, rfl, rfl, SqL.of (s4 _ _ hC), atI_nat ecv, _, _, rfl, rfl, _, rfl, ?_⟩
            refine ite2 (fun c3 => ?_) (fun c3 => ?_)
            · exact ret fun k' z => by obtain rfl := Option.some.inj z; exact of_decide_eq_true c3
            · exact go fun o => c3 (decide_eq_true ((iff1.mp o).2.2.2 k rfl))
        | some dy =>
          refine iteDF (fun z => by cases z) ⟨_, rfl, _, rfl, _, _, rfl, rfl, _, rfl, _, _, rfl, rfl, _, rfl, ?_⟩
          refine ite2 (fun cd => ?_) (fun cd => ?_)
          · have cd : d + n ≤ dy := of_decide_eq_true cd
            have hday : ∀ t, some dy = some t → d + n ≤ t := fun t z => by obtain rfl := Option.some.inj z; exact cd
            have ret := fun hc => hret (iff1.mpr ⟨c1, c2, hday, hc⟩)
            refine ⟨_, rfl, _, rfl, Ca, _, _, _, rfl, rfl, SqL.of (s4 _ _ hC), atI_nat ecv, rfl, _, rfl, ?_⟩
            cases c with
            | none => exact iteDT rfl (iteT (ret fun k z => (by cases z)))
            | some k =>
              refine iteDF (fun z => by cases z) ⟨_, rfl, _, rfl, _, rfl, Ca, _, _, _, rfl, rfl, SqL.of (s4 _ _ hC), atI_nat ecv, _, _, rfl, rfl, _, rfl, ?_⟩
              refine ite2 (fun c3 => ?_) (fun c3 => ?_)
              · exact ret fun k' z => by obtain rfl := Option.some.inj z; exact of_decide_eq_true c3
              · exact go fun o => c3 (decide_eq_true ((iff1.mp o).2.2.2 k rfl))
          · exact go fun o => cd (decide_eq_true ((iff1.mp o).2.2.1 dy rfl))
      · have c2 : ¬ 0 ≤ n := of_decide_eq_false (Bool.eq_false_iff.mpr c2)
        exact go fun o => c2 (iff1.mp o).2.1
    · exact iteDF (fun z => c1 (hrm.symm.trans (V.int.inj z))) (go fun o => c1 (iff1.mp o).1)
  · rintro σ H3 ⟨o4, o5, o6, o7, o8, o9, rfl, np, s3⟩
    rw [List.length_map, tl] at np
    have bf : b = false := by
      cases b with
      | false => rfl
      | true =>
        obtain ⟨j, hj, o⟩ := hb.mp rfl
        exact absurd ⟨j, hj, o⟩ np
    subst bf
    exact q H3 s3
end
end Ur
/-! IR: what full_from tells, held against the painters by the law itself (_law_is_right). -/
namespace Ur
open PySem PySem.Spec PyProof.Rows L2
section
variable {qs : List Quad} {C : Nat → Option Int} {far : Int}
theorem num_full {f : Int} (is : IsHist qs.length (dQ qs) (fSP qs) C) (ok : ∀ q ∈ qs, q.2.2.2 ≠ 0) (al : ∀ x, f ≤ x → PaintedBy qs C none x) : ∀ n : Nat, pntN qs C none f (f - 1 + n) qs.length = n
  | 0 => by rw [Int.natCast_zero, Int.add_zero]; exact pnt_none ok (show f - 1 < f by omega) _ (Nat.le_refl _)
  | n + 1 => by
    have ih := num_full is ok al n
    rw [show f - 1 + ((n + 1 : Nat) : Int) = f - 1 + n + 1 by omega]
    rcases pnt_step (day := none) (f := f) (x := f - 1 + n) is ok (by omega) with ⟨_, e2⟩ | ⟨np, _⟩
    · rw [e2, ih]; omega
    · exact absurd (al _ (by omega)) np
theorem num_to {f l : Int} (is : IsHist qs.length (dQ qs) (fSP qs) C) (ok : ∀ q ∈ qs, q.2.2.2 ≠ 0) (al : ∀ x, f ≤ x → PaintedBy qs C none x) (h : f ≤ l + 1) : numN qs C none f l qs.length = l - f + 1 := by
  have e := num_full is ok al (l - f + 1).toNat
  rw [show f - 1 + (((l - f + 1).toNat : Nat) : Int) = l by omega] at e
  have e : numN qs C none f l qs.length = (((l - f + 1).toNat : Nat) : Int) := e
  rw [e]
  omega
theorem num_congr {C D : Nat → Option Int} {day : Option Int} {f l : Int} : ∀ n, (∀ j, j < n → C j = D j) → numN qs C day f l n = numN qs D day f l n
  | 0, _ => rfl
  | n + 1, h => by
    rw [numN_snoc, numN_snoc, num_congr n (fun j hj => h j (by omega)), h n (Nat.lt_succ_self n)]
theorem paint_congr {C D : Nat → Option Int} {day : Option Int} {x : Int} (h : ∀ j, j < qs.length → C j = D j) : PaintedBy qs C day x ↔ PaintedBy qs D day x := by
  constructor
  · rintro ⟨j, hj, o⟩
    exact ⟨j, hj, by rw [← h j hj]; exact o⟩
  · rintro ⟨j, hj, o⟩
    exact ⟨j, hj, by rw [h j hj]; exact o⟩
theorem dens_some : ∀ n, 0 < densS qs C n → ∃ j, j < n ∧ EndR qs C j
  | 0, h => absurd (show (0 : Int) < 0 from h) (Int.lt_irrefl 0)
  | n + 1, h => by
    by_cases c : EndR qs C n
    · exact ⟨n, Nat.lt_succ_self n, c⟩
    · rw [densS_succ, if_neg c, Int.add_zero] at h
      obtain ⟨j, hj, e⟩ := dens_some n h
      exact ⟨j, by omega, e⟩
/-- a post that is not painted lies ahead of some endless painter's start, where the posts far away are all painted -/
theorem hole_ahead (is : IsHist qs.length (dQ qs) (fSP qs) C) (ok : ∀ q ∈ qs, q.2.2.2 ≠ 0) (en : Ends qs C none far) (e : densS qs C qs.length = prodS qs) {h : Int} (nh : ¬ PaintedBy qs C none h) : ∃ j, j < qs.length ∧ C j = none ∧ h < pQ qs j := by
  have M0 := prodS_pos ok
  obtain ⟨k, k0, hk⟩ : ∃ k : Int, 0 ≤ k ∧ far < h + k * prodS qs := by
    refine ⟨max 0 (far - h + 1), by omega, ?_⟩
    have := Int.mul_le_mul_of_nonneg_left (show 1 ≤ prodS qs by omega) (show 0 ≤ max 0 (far - h + 1) by omega)
    omega
  obtain ⟨j, hj, o⟩ := dens_all is ok en e hk
  have o : OnRun (pQ qs j) (sQ qs j) (C j) (h + k * prodS qs) := o
  have ej : EndR qs C j := Classical.byContradiction fun z => not_endr en ok hj z hk o
  refine ⟨j, hj, ej.1, ?_⟩
  rcases Int.lt_or_le h (pQ qs j) with g | g
  · exact g
  · exfalso
    obtain ⟨c, ec⟩ := endr_dvd hj ej
    obtain ⟨n, n0, _, en'⟩ := o
    have s0 := ej.2
    have e3 : (n - k * c) * sQ qs j = h - pQ qs j := by
      rw [Int.sub_mul, Int.mul_assoc, Int.mul_comm c, ← ec]
      omega
    have n1 : 0 ≤ n - k * c := by
      rcases Int.lt_or_le (n - k * c) 0 with z | z
      · have := Int.mul_neg_of_neg_of_pos z s0
        omega
      · exact z
    exact nh ⟨j, hj, n - k * c, n1, (fun z ez => by have ez : C j = some z := ez; rw [ej.1] at ez; cases ez), by omega⟩
theorem fr_full (ok : ∀ q ∈ qs, q.2.2.2 ≠ 0) : densS qs C qs.length = prodS qs ↔ (frQ qs C false qs.length).1 = (frQ qs C false qs.length).2 := by
  have h := fr_dens (C := C) ok qs.length (Nat.le_refl _)
  have M0 := prodS_pos ok
  have D0 := frQ_pos (qs := qs) (C := C) (left := false) qs.length
  constructor
  · intro e
    rw [e, Int.mul_comm] at h
    have := Int.eq_of_mul_eq_mul_right (by omega) h
    omega
  · intro e
    rw [e, Int.mul_comm] at h
    exact (Int.eq_of_mul_eq_mul_left (by omega) h).symm
end
theorem gcd_one {N D : Nat} (hD : 0 < D) : (N / Nat.gcd N D = 1 ∧ D / Nat.gcd N D = 1) ↔ N = D := by
  have g0 : 0 < Nat.gcd N D := Nat.gcd_pos_of_pos_right _ hD
  constructor
  · rintro ⟨a, b⟩
    have e1 := Nat.div_mul_cancel (Nat.gcd_dvd_left N D)
    have e2 := Nat.div_mul_cancel (Nat.gcd_dvd_right N D)
    rw [a] at e1
    rw [b] at e2
    omega
  · rintro rfl
    rw [Nat.gcd_self]
    exact ⟨Nat.div_self hD, Nat.div_self hD⟩
end Ur
/-! UrDi: min of a list of whole numbers. -/
namespace Ur
open PySem PySem.Spec PyProof.Rows L2
section
variable {X : Cx}
def rMinI (K : PySem.W.Frag) : List V → Hp → VK → Prop := fun vs H Q => ∃ (a : Addr) (ns : List Int), vs = [V.ref a] ∧ SqL K H a (ns.map V.int) ∧ ns ≠ [] ∧ ∀ m, m ∈ ns → (∀ z ∈ ns, m ≤ z) → Q (.int m) H
theorem min_first (y : Int) : ∀ ys : List Int, PySem.W.minOf y ys ∈ y :: ys ∧ ∀ z ∈ y :: ys, PySem.W.minOf y ys ≤ z := by
  intro ys
  induction ys generalizing y with
  | nil =>
    refine ⟨List.mem_cons_self, fun z hz => ?_⟩
    obtain rfl := List.mem_singleton.mp hz
    exact Int.le_refl _
  | cons z ys ih =>
    have step : PySem.W.minOf y (z :: ys) = PySem.W.minOf (if decide (z < y) = true then z else y) ys := rfl
    rw [step]
    by_cases c : z < y
    · rw [if_pos (decide_eq_true c)]
      obtain ⟨h1, h2⟩ := ih z
      refine ⟨List.mem_cons_of_mem _ h1, fun x hx => ?_⟩
      rcases List.mem_cons.mp hx with rfl | hx
      · have := h2 z List.mem_cons_self
        omega
      · exact h2 x hx
    · rw [if_neg (by simpa using c)]
      obtain ⟨h1, h2⟩ := ih y
      refine ⟨?_, fun x hx => ?_⟩
      · rcases List.mem_cons.mp h1 with e | h1
        · rw [e]
          exact List.mem_cons_self
        · exact List.mem_cons_of_mem _ (List.mem_cons_of_mem _ h1)
      · rcases List.mem_cons.mp hx with rfl | hx
        · exact h2 x List.mem_cons_self
        · rcases List.mem_cons.mp hx with rfl | hx
          · have := h2 y List.mem_cons_self
            omega
          · exact h2 x (List.mem_cons_of_mem _ hx)
theorem cr_minI (hc : X.calm = true) (hu : X.A.units + 64 < cLine) : CallR X (.builtin "min") (rMinI X.K) := by
  intro pins s σ H vs us Q I r h
  obtain ⟨a, ns, rfl, hs, ne, q⟩ := h
  obtain ⟨its, rv, hl, _⟩ := I.list hs
  obtain rfl := Vals.ref1 r
  have HA : PySem.W.HoldAll s.heap its ns := hold_ints rv
  cases ns with
  | nil => exact absurd rfl ne
  | cons k0 ks0 =>
    refine PySem.W.min_list_datum (x := k0) (xs := ks0) (I.ok.hd hc) hl.isList (by rw [List.toList_toArray]; exact HA) (by show X.A.units + 1 + 0 < cLine; omega) fun i v h' tk hi hy hk => ?_
    have hi' : its[i]? = some v := by simpa using hi
    obtain ⟨z, hz, hvz⟩ := HA.at hi'
    have em := holds_uniq (hvz.keeps hk) hy
    have hl : i < ((k0 :: ks0).map V.int).length := by rw [rv.length]; exact (List.getElem?_eq_some_iff.mp hi').1
    obtain ⟨u, hu1, hu2⟩ := rv.get (List.getElem?_eq_getElem hl)
    rw [hi'] at hu1
    cases hu1
    have e3 : ((k0 :: ks0).map V.int)[i]? = some (V.int z) := by rw [List.getElem?_map, hz]; rfl
    rw [List.getElem?_eq_getElem hl] at e3
    rw [Option.some.inj e3] at hu2
    have sp := min_first k0 ks0
    rw [← em] at sp
    exact ⟨.int z, H, I.kept hk, hu2, q z sp.1 sp.2⟩
end
end Ur
/-! IP: the law's own word on what full_from tells (_law_is_right). -/
namespace Ur
open PySem PySem.Spec PyProof.Rows L2

abbrev s__law_is_whole : Stmt := (topS 84)
abbrev N_sc__law_is_whole : List Str := ["_law_thing"]
abbrev P__law_is_whole : List Str := ["_law_thing"]
theorem sc__law_is_whole : FnScope N_sc__law_is_whole P__law_is_whole (defScope s__law_is_whole) := ⟨rfl, rfl, rfl, by decide +kernel, rfl, by decide +kernel, by decide +kernel⟩
abbrev s__law_is_right : Stmt := (topS 88)
abbrev N_sc__law_is_right : List Str := ["_law_painters", "_law_counts", "_law_told", "_law_mirrored", "_law_ends", "_law_place", "_law_painter", "_law_low", "_law_high", "_law_is_full", "_law_word", "_law_post"]
abbrev P__law_is_right : List Str := ["_law_painters", "_law_counts", "_law_told"]
theorem sc__law_is_right : FnScope N_sc__law_is_right P__law_is_right (defScope s__law_is_right) := ⟨rfl, rfl, rfl, by decide +kernel, rfl, by decide +kernel, by decide +kernel⟩
/-- what full_from told of painters that go to the right, in words of counts -/
def RightZ (qs : List Quad) (C : Nat → Option Int) (H : Hp) (v : V) : Prop :=
  (v = .non ∧ densS qs C qs.length ≠ prodS qs) ∨
  (densS qs C qs.length = prodS qs ∧ ((∃ u, v = .ref u ∧ H u = some (.tup [.str "all"]) ∧ ∀ x, PaintedBy qs C none x) ∨
    ∃ u h, v = .ref u ∧ H u = some (.tup [.str "post", .int (h + 1)]) ∧ -(2 * 10 ^ 69) ≤ h ∧ h ≤ 10 ^ 69 ∧ ¬ PaintedBy qs C none h ∧ ∀ x, h < x → PaintedBy qs C none x))
def spRigF (K : PySem.W.Frag) : Sp := fun vs H Q _ => ∃ (F Ca : Addr) (ts : List Addr) (qs : List Quad) (cs : List (Option Int)) (C : Nat → Option Int) (far : Int) (v : V), vs = [.ref F, .ref Ca, v] ∧ SqL K H F (ts.map V.ref) ∧ Team H ts qs ∧ H Ca = some (.lst (cs.map optV)) ∧ cs.length = qs.length ∧ (∀ j, j < qs.length → C j = cnL cs j) ∧
  IsHist qs.length (dQ qs) (fSP qs) C ∧ Ends qs C none far ∧ IsHist (qs.map (mvQ (-1) 0 0)).length (dQ (qs.map (mvQ (-1) 0 0))) (fSP (qs.map (mvQ (-1) 0 0))) C ∧ Ends (qs.map (mvQ (-1) 0 0)) C none far ∧ RightZ qs C H v ∧
  ∀ H', Same H H' → Q (.bl true) H'
/-- where the endless painters start -/
def endsP (qs : List Quad) (C : Nat → Option Int) (n : Nat) : List Int := ((List.range n).filter fun j => (C j).isNone).map (pQ qs)
theorem endsP_succ {qs : List Quad} {C : Nat → Option Int} {n : Nat} : endsP qs C (n + 1) = endsP qs C n ++ if (C n).isNone = true then [pQ qs n] else [] := by
  unfold endsP
  rw [List.range_succ, List.filter_append, List.map_append, List.filter_cons, List.filter_nil]
  split <;> rfl
theorem endsP_mem {qs : List Quad} {C : Nat → Option Int} {n j : Nat} (hj : j < n) (e : C j = none) : pQ qs j ∈ endsP qs C n :=
  List.mem_map_of_mem (List.mem_filter.mpr ⟨List.mem_range.mpr hj, by rw [e]; rfl⟩)
theorem endsP_of {qs : List Quad} {C : Nat → Option Int} {n : Nat} {x : Int} (h : x ∈ endsP qs C n) : ∃ j, j < n ∧ C j = none ∧ pQ qs j = x := by
  obtain ⟨j, hj, e⟩ := List.mem_map.mp h
  obtain ⟨a, b⟩ := List.mem_filter.mp hj
  exact ⟨j, List.mem_range.mp a, Option.isNone_iff_eq_none.mp b, e⟩
theorem endsP_len {qs : List Quad} {C : Nat → Option Int} {n : Nat} : (endsP qs C n).length ≤ n := by
  unfold endsP
  rw [List.length_map]
  exact Nat.le_trans (List.length_filter_le _ _) (by rw [List.length_range]; exact Nat.le_refl _)
theorem ite_nf {b : Bool} {A B : Prop} (hb : b = false) (h : A) : if (!b) = true then A else B := by
  subst hb
  exact h
section
variable {P : Program} {w : World} {K : PySem.W.Frag} {mg : Str → Option Value} {base : Heap}
theorem ok_is_whole (D : Dfn K mg "_law_is_whole" s__law_is_whole P__law_is_whole) (B : Blt mg) : Cal P w K mg base 1 "_law_is_whole" P__law_is_whole spIsInt := by
  refine D.cal sc__law_is_whole (fun vs H Q E h => ?_) fun f cdv A outer s H vs Q E hr h => ?_
  · obtain ⟨i, rfl, _⟩ := h
    rfl
  obtain ⟨i, rfl, q⟩ := h
  refine ⟨_, (pss_one (ps_ret (pe_and (pe_callB call_isi rfl B.isinstance_ (by decide +kernel) (pa_cons (pv 0) (pa_cons (pe_bltn (v := .ty "int") rfl B.int_ (by decide +kernel) rfl) pa_nil))) (pe_one (pe_not (pe_callB call_isi rfl B.isinstance_ (by decide +kernel) (pa_cons (pv 0) (pa_cons (pe_bltn (v := .ty "bool") rfl B.bool_ (by decide +kernel) rfl) pa_nil)))))))), ?_⟩
  refine ⟨_, rfl, _, _, _, _, true, rfl, ClsV.ty "int", (TyX.base (TyOf.int i)), kit_ty (by decide +kernel), true, rfl, ?_⟩
  exact ⟨_, rfl, _, _, _, _, false, rfl, ClsV.ty "bool", (TyX.base (TyOf.int i)), kit_ty (by decide +kernel), false, rfl, q⟩
set_option maxHeartbeats 16000000 in
theorem ok_rigF (D : Dfn K mg "_law_is_right" s__law_is_right P__law_is_right) (B : Blt mg) (hEn : mg "enumerate" = none) (hTup : mg "tuple" = none) (COp : Cal P w K mg base 1 "_law_opposite" P__law_opposite (spOpp K)) (CSh : Cal P w K mg base 2 "_law_shares" P__law_shares (spShr K)) (CNu : Cal P w K mg base 1 "_law_number" P__law_number (spNum K)) (CIw : Cal P w K mg base 1 "_law_is_whole" P__law_is_whole spIsInt) (CIp : Cal P w K mg base 1 "_law_is_painted" P__law_is_painted (spIsP K)) : Cal P w K mg base 3 "_law_is_right" P__law_is_right (spRigF K) := by
  refine D.cal sc__law_is_right (fun vs H Q E h => ?_) fun fn cdv A outer s H vs Q E hr h => ?_
  · obtain ⟨F, Ca, _, _, _, _, _, v, rfl, _⟩ := h
    rfl
  obtain ⟨F, Ca, ts, qs, cs, C, far, v, rfl, hF, tm, hC, cl, cag, is, en, isM, enM, rz, q⟩ := h
  refine ⟨_, (pss_cons (ps_set (i := 3) sc__law_is_right.nd rfl (Or.inl rfl) (pe_cal COp (hr.mono (by decide)) (pa_cons (pv 0) pa_nil))) (pss_cons (ps_if (pt_cmpR (op_neD hr.units) (pe_cal CSh (hr.mono (by decide)) (pa_cons (pv 0) (pa_cons (pv 1) pa_nil))) (pe_tup (pa_cons pe_int (pa_cons pe_int pa_nil))) (nomark _)) (pss_one (ps_ret (pe_cmpR op_isN (pv 2) pe_non (nomark _)))) pss_nil) (C8.pss_cut (ps_setLc (i := 4) (own := [("_law_place", 5), ("_law_painter", 6)]) (g := gTup K 2 (gCons (gName 5) (gCons (gName 6) gNil))) rfl sc__law_is_right.nd rfl rfl (sw_true rfl rfl rfl (by decide +kernel)) (pi_enum rfl hEn (pa_cons (pv 0) pa_nil)) (blkOk_by (N := N_sc__law_is_right) (sc := defScope s__law_is_right) (by decide +kernel)) (fun _ _ _ _ _ => pg_tup rfl (pgs_cons (pg_name (i := 5) sc__law_is_right.nd rfl (Or.inl rfl)) (pgs_cons (pg_name (i := 6) sc__law_is_right.nd rfl (Or.inl rfl)) pgs_nil))) (fun _ _ _ _ _ => pts_one (pt_cmpR op_isN (pe_ix (show IxR _ (rIxL K) from ix_list) (pv 1) (pv 5) (fun _ _ => rfl)) pe_non (nomark _))) (fun _ _ _ _ _ => (pe_ix (show IxR _ (rIxT K) from ix_tup) (pv 6) pe_int (fun _ _ => rfl)))) (pss_cons (ps_par (i := 7) (j := 8) rfl sc__law_is_right.nd rfl rfl (by decide) rfl rfl (pa_cons (pe_callB (cr_minI rfl hr.units) rfl B.min_ (by decide +kernel) (pa_cons (pv 4) pa_nil)) (pa_cons (pe_callB (cr_maxI rfl hr.units) rfl B.max_ (by decide +kernel) (pa_cons (pv 4) pa_nil)) pa_nil)) (by rfl)) (pss_cons (ps_if (PW.pt (pw_or (pt_not (pt_val (pe_callB call_isi rfl B.isinstance_ (by decide +kernel) (pa_cons (pv 2) (pa_cons (pe_bltn (v := .ty "tuple") rfl hTup (by decide +kernel) rfl) pa_nil))))) (pw_or1 (pt_cmpR (show OpR _ _ (rIn K true) from op_notIn_seq) (pe_callB call_len_seq rfl B.len_ PySem.boot_len (pa_cons (pv 2) pa_nil)) (pe_tup (pa_cons pe_int (pa_cons pe_int pa_nil))) (by rfl))))) (pss_one (ps_ret pe_bl)) pss_nil) (pss_cons (ps_if (pt_cmpR op_eq (pe_callB call_len_seq rfl B.len_ PySem.boot_len (pa_cons (pv 2) pa_nil)) pe_int (nomark _)) (pss_cons (ps_set (i := 9) sc__law_is_right.nd rfl (Or.inl rfl) (pe_cmpR op_eq (pe_cal CNu (hr.mono (by decide)) (pa_cons (pv 0) (pa_cons (pv 1) (pa_cons (pv 7) (pa_cons (pv 8) (pa_cons pe_non pa_nil)))))) (pe_op op_add (pe_op op_sub (pv 8) (pv 7)) pe_int) (nomark _))) (pss_one (ps_ret (pe_and (pe_cmpR (op_eqD hr.units) (pv 2) (pe_tup (pa_cons pe_str pa_nil)) (nomark _)) (pe_and (pv 9) (pe_one (pe_cmpR (op_eqD hr.units) (pe_cal CSh (hr.mono (by decide)) (pa_cons (pv 3) (pa_cons (pv 1) pa_nil))) (pe_tup (pa_cons pe_int (pa_cons pe_int pa_nil))) (nomark _)))))))) pss_nil) (pss_cons (ps_asg (pv 2) (pg_tup rfl (pgs_cons (pg_name (i := 10) sc__law_is_right.nd rfl (Or.inl rfl)) (pgs_cons (pg_name (i := 11) sc__law_is_right.nd rfl (Or.inl rfl)) pgs_nil)))) (pss_cons (ps_if (PW.pt (pw_or (pt_cmpR op_ne (pv 10) pe_str (nomark _)) (pw_or (pt_not (pt_val (pe_cal CIw (hr.mono (by decide)) (pa_cons (pv 11) pa_nil)))) (pw_or1 (pt_val (pe_cal CIp (hr.mono (by decide)) (pa_cons (pv 0) (pa_cons (pv 1) (pa_cons (pe_op op_sub (pv 11) pe_int) (pa_cons pe_non pa_nil)))))))))) (pss_one (ps_ret pe_bl)) pss_nil) (pss_one (ps_ret (pe_and (pe_cmpR op_le (pv 11) (pv 8) (nomark _)) (pe_one (pe_cmpR op_eq (pe_cal CNu (hr.mono (by decide)) (pa_cons (pv 0) (pa_cons (pv 1) (pa_cons (pv 11) (pa_cons (pv 8) (pa_cons pe_non pa_nil)))))) (pe_op op_add (pe_op op_sub (pv 8) (pv 11)) pe_int) (nomark _)))))))))))))), ?_⟩
  have tl := tm.len
  have few := tm.few
  have okq := tm.ok
  have sn : ∀ q ∈ qs, q.2.2.2 ≠ 0 := fun q hq => (okq q hq).sn
  have D0 := frQ_pos (qs := qs) (C := C) (left := false) qs.length
  have ec : frQ qs (cnL cs) false qs.length = frQ qs C false qs.length := frQ_congr _ (fun j hj => by rw [cag j hj]) (fun _ _ => rfl)
  refine ⟨_, rfl, F, ts, qs, rfl, hF, tm, fun M us H1 hM tmM s1 => ?_⟩
  refine ⟨_, rfl, _, rfl, F, Ca, ts, qs, cs, rfl, same_sql s1 hF, tm.same s1, s1 _ _ hC, cl, fun z H2 hz s2 => ?_⟩
  rw [ec] at hz
  have s12 := s1.trans s2
  refine ⟨by show 2 ≤ sizeLine; decide, fun t2 nt2 => ?_⟩
  have w2 := same_new nt2 (.tup [.int 1, .int 1])
  have s3 := s12.trans w2
  refine ⟨_, _, nn_dp (w2 _ _ hz), nn_dp (a := 1) (b := 1) upd_same, nn_sh, nn_sh, _, rfl, ?_⟩
  rw [nn_eq]
  generalize eo : (frQ qs C false qs.length).1 / Nat.gcd (frQ qs C false qs.length).1 (frQ qs C false qs.length).2 = oo
  generalize eu : (frQ qs C false qs.length).2 / Nat.gcd (frQ qs C false qs.length).1 (frQ qs C false qs.length).2 = uu
  have gone : (oo = 1 ∧ uu = 1) ↔ densS qs C qs.length = prodS qs := by
    rw [← eo, ← eu, gcd_one D0]
    exact (fr_full sn).symm
  rcases rz with ⟨rfl, nd⟩ | ⟨de, rz⟩
  · refine ite_nf (by
      by_cases c1 : oo = 1
      · by_cases c2 : uu = 1
        · exact absurd (gone.mp ⟨c1, c2⟩) nd
        · rw [decide_eq_false c2, Bool.and_false]
      · rw [decide_eq_false c1, Bool.false_and]) ?_
    have z := q _ s3
    rw [← decide_eq_true (rfl : V.non = V.non)] at z
    exact ⟨_, rfl, rfl, z⟩
  refine ite_nb (by rw [decide_eq_true (gone.mpr de).1, decide_eq_true (gone.mpr de).2]; rfl) ?_
  have hF3 := same_sql s3 hF
  have tm3 := tm.same s3
  have hC3 := s3 _ _ hC
  have hM3 := w2 _ _ (s2 _ _ hM)
  have tmM3 := (tmM.same s2).same w2
  generalize upd H2 t2 (.tup [.int 1, .int 1]) = H3 at s3 hF3 tm3 hC3 hM3 tmM3 ⊢
  refine ⟨fun σ' H' => ∃ E : Addr, σ' = [some (.ref F), some (.ref Ca), some v, some (.ref M), some (.ref E), none, none, none, none, none, none, none] ∧ H' E = some (.lst ((endsP qs C qs.length).map V.int)) ∧ Same H3 H', ?_, ?_⟩
  · refine ⟨_, rfl, F, ts.map V.ref, rfl, hF3, fun E nE => ?_⟩
    refine lc_it walk_enum (fun i H' => H' E = some (.lst ((endsP qs C i).map V.int)) ∧ Same H3 H') ⟨upd_same, same_new nE _⟩ (fun i H' _ h => same_sql h.2 hF3) ?_ ?_
    · rintro i x H4 H5 hi ⟨hE, sE⟩ ⟨T0, y1, y2, rfl, hT, rfl, e1, e2⟩
      obtain rfl := Option.some.inj e1
      obtain ⟨t, qd, rfl, et, eq, ht, ok⟩ := tm3.get e2
      have sT := same_new hT (.tup [V.int (i : Int), V.ref t])
      have sE' := sE.trans sT
      have hE' := sT _ _ hE
      have hiq : i < qs.length := (List.getElem?_eq_some_iff.mp eq).1
      obtain ⟨nm, d, po, st⟩ := qd
      obtain ⟨_, _, qp, _⟩ := q_at eq
      obtain ⟨c, hc⟩ : ∃ c, cs[i]? = some c := ⟨_, List.getElem?_eq_getElem (by omega)⟩
      have ecv : (cs.map optV)[i]? = some (optV c) := by rw [List.getElem?_map, hc]; rfl
      have eci : C i = c := (cag i hiq).trans (cnL_at hc)
      refine ⟨T0, _, rfl, SqT.of upd_same, rfl, _, _, rfl, _, _, rfl, rfl, rfl, ?_⟩
      refine ⟨_, rfl, _, rfl, Ca, _, _, _, rfl, rfl, SqL.of (sE' _ _ hC3), atI_nat ecv, rfl, _, rfl, ?_⟩
      cases c with
      | none =>
        refine iteDT rfl ⟨_, rfl, t, _, _, _, rfl, rfl, SqT.of (sE' _ _ ht), atI_nat (j := 2) rfl, _, hE', ?_, ?_, sameAt sE' nE⟩
        · rw [List.length_map]
          exact Nat.lt_of_le_of_lt (Nat.le_trans endsP_len (show i ≤ 40 by omega)) (by decide)
        · rw [upd_same, endsP_succ, eci, List.map_append, qp]
          rfl
      | some k =>
        refine iteDF (fun z => by cases z) ⟨?_, sE'⟩
        rw [endsP_succ, eci, hE']
        show _ = some (HO.lst (List.map V.int (endsP qs C i ++ [])))
        rw [List.append_nil]
    · rintro H' ⟨hE, sE⟩
      rw [List.length_map, tl] at hE
      exact ⟨E, rfl, hE, sE⟩
  rintro σ' H4 ⟨E, rfl, hE, s4⟩
  have hF4 := same_sql s4 hF3
  have tm4 := tm3.same s4
  have hC4 := s4 _ _ hC3
  have hM4 := s4 _ _ hM3
  have tmM4 := tmM3.same s4
  obtain ⟨j0, hj0, e0⟩ := dens_some (C := C) qs.length (by rw [de]; exact prodS_pos sn)
  have ne : endsP qs C qs.length ≠ [] := fun z => by
    have m := endsP_mem (qs := qs) hj0 e0.1
    rw [z] at m
    cases m
  have bd : ∀ x ∈ endsP qs C qs.length, -(10 ^ 30) ≤ x ∧ x ≤ 10 ^ 30 := fun x hx => by
    obtain ⟨j, hj, _, e⟩ := endsP_of hx
    obtain ⟨_, _, a3, _⟩ := q_at (List.getElem?_eq_getElem hj)
    have k := okq _ (List.getElem_mem hj)
    have k0 := k.p0
    have k1 := k.p1
    rw [a3] at e
    omega
  refine ⟨_, rfl, E, _, rfl, SqL.of hE, ne, fun lo hlo lol => ⟨_, rfl, E, _, rfl, SqL.of hE, ne, fun hi_ hhi hih => ⟨_, _, rfl, ?_⟩⟩⟩
  have blo := bd _ hlo
  have bhi := bd _ hhi
  have lohi := lol _ hhi
  have s04 := s3.trans s4
  rcases rz with ⟨u, rfl, hu, al⟩ | ⟨u, h, rfl, hu, h0, h1, nh, ah⟩
  · have hu4 := s04 _ _ hu
    refine ⟨_, rfl, _, _, _, _, true, rfl, ClsV.ty "tuple", (TyX.base (TyOf.tup hu4)), kit_ty (by decide +kernel), true, rfl, iteF ?_⟩
    refine ⟨_, rfl, u, _, rfl, .inr (SqT.of hu4), by show 2 ≤ sizeLine; decide, fun t5 n5 => ⟨t5, [.int 1, .int 2], rfl, .inr (SqT.of upd_same), rfl, rfl, _, rfl, iteF ?_⟩⟩
    have s5 := same_new n5 (.tup [.int 1, .int 2])
    refine ⟨_, rfl, u, _, rfl, .inr (SqT.of (s5 _ _ hu4)), rfl, _, rfl, iteDT rfl ?_⟩
    have en1 : numN qs (cnL cs) none lo hi_ qs.length = hi_ - lo + 1 := by
      rw [← num_congr _ cag]
      exact num_to is sn (fun x _ => al x) (by omega)
    refine ⟨_, rfl, _, rfl, _, rfl, _, rfl, F, Ca, ts, qs, cs, lo, hi_, none, rfl, same_sql s5 hF4, tm4.same s5, s5 _ _ hC4, cl, by omega, by omega, by omega, by omega, fun H6 s6 => ?_⟩
    rw [en1]
    refine ⟨_, rfl, _, rfl, _, _, rfl, rfl, _, _, rfl, rfl, rfl, ?_⟩
    have s56 := s5.trans s6
    refine ⟨_, rfl, by show 1 ≤ sizeLine; decide, fun t7 n7 => ⟨.tuple [.str "all"], .tuple [.str "all"], ?_, ?_, (by decide +kernel), (by decide +kernel), true, congrArg V.bl (by decide +kernel), ?_⟩⟩
    · exact Dp.tup (SqT.of (same_new n7 (.tup [.str "all"]) _ _ (s56 _ _ hu4))) (.cons (.str _) .nil)
    · exact Dp.tup (SqT.of upd_same) (.cons (.str _) .nil)
    have s7 := s56.trans (same_new n7 (.tup [.str "all"]))
    refine ⟨_, rfl, true, congrArg V.bl (decide_eq_true rfl), ?_⟩
    have lm : (qs.map (mvQ (-1) 0 0)).length = qs.length := List.length_map ..
    have snM : ∀ q ∈ qs.map (mvQ (-1) 0 0), q.2.2.2 ≠ 0 := fun q hq => (side_quad true okq q hq).sn
    have deM := all_dens (b := 0) isM snM enM fun x _ => (painted_side (qs := qs) true x).mpr (al _)
    have oneM := (fr_full snM).mp deM
    have ecM : frQ (qs.map (mvQ (-1) 0 0)) (cnL cs) false (qs.map (mvQ (-1) 0 0)).length = frQ (qs.map (mvQ (-1) 0 0)) C false (qs.map (mvQ (-1) 0 0)).length := frQ_congr _ (fun j hj => by rw [cag j (by rw [lm] at hj; exact hj)]) (fun _ _ => rfl)
    have DM := frQ_pos (qs := qs.map (mvQ (-1) 0 0)) (C := C) (left := false) (qs.map (mvQ (-1) 0 0)).length
    obtain ⟨g1, g2⟩ := (gcd_one DM).mpr oneM
    refine ⟨_, rfl, _, rfl, M, Ca, us, qs.map (mvQ (-1) 0 0), cs, rfl, SqL.of (s7 _ _ hM4), tmM4.same s7, s7 _ _ hC4, cl.trans lm.symm, fun z8 H8 hz8 s8 => ⟨by show 2 ≤ sizeLine; decide, fun t9 n9 => ?_⟩⟩
    rw [ecM, g1, g2] at hz8
    have w9 := same_new n9 (.tup [.int 1, .int 1])
    refine ⟨_, _, nn_dp (a := 1) (b := 1) (w9 _ _ hz8), nn_dp (a := 1) (b := 1) upd_same, nn_sh, nn_sh, ?_⟩
    rw [nn_eq]
    exact q _ ((s04.trans s7).trans (s8.trans w9))
  · have hu4 := s04 _ _ hu
    refine ⟨_, rfl, _, _, _, _, true, rfl, ClsV.ty "tuple", (TyX.base (TyOf.tup hu4)), kit_ty (by decide +kernel), true, rfl, iteF ?_⟩
    refine ⟨_, rfl, u, _, rfl, .inr (SqT.of hu4), by show 2 ≤ sizeLine; decide, fun t5 n5 => ⟨t5, [.int 1, .int 2], rfl, .inr (SqT.of upd_same), rfl, rfl, _, rfl, iteF ?_⟩⟩
    have s5 := same_new n5 (.tup [.int 1, .int 2])
    have hu5 := s5 _ _ hu4
    refine ⟨_, rfl, u, _, rfl, .inr (SqT.of hu5), rfl, _, rfl, iteDF (fun z => by cases z) ?_⟩
    obtain ⟨j1, hj1, c1, lt1⟩ := hole_ahead is sn en de nh
    have up := hih _ (endsP_mem (qs := qs) hj1 c1)
    have en1 : numN qs (cnL cs) none (h + 1) hi_ qs.length = hi_ - (h + 1) + 1 := by
      rw [← num_congr _ cag]
      exact num_to is sn (fun x hx => ah x (by omega)) (by omega)
    refine ⟨_, rfl, u, _, rfl, SqT.of hu5, rfl, _, _, rfl, _, _, rfl, rfl, ?_⟩
    refine ⟨_, rfl, rfl, _, rfl, ite_nb (decide_eq_true rfl) ?_⟩
    refine ⟨_, rfl, h + 1, rfl, true, rfl, iteF ?_⟩
    refine ⟨_, rfl, _, rfl, _, rfl, _, _, rfl, rfl, F, Ca, ts, qs, cs, h + 1 - 1, none, false, rfl, same_sql s5 hF4, tm4.same s5, s5 _ _ hC4, cl, ⟨(fun z => by cases z), fun z => ?_⟩, fun H6 s6 => ⟨false, rfl, iteF ?_⟩⟩
    · rw [show h + 1 - 1 = h by omega, ← paint_congr cag] at z
      exact absurd z nh
    have s56 := s5.trans s6
    refine ⟨_, rfl, _, rfl, _, _, rfl, rfl, true, congrArg V.bl (decide_eq_true (by omega)), ?_⟩
    refine ⟨_, rfl, _, rfl, _, rfl, _, rfl, F, Ca, ts, qs, cs, h + 1, hi_, none, rfl, same_sql s56 hF4, tm4.same s56, s56 _ _ hC4, cl, by omega, by omega, by omega, by omega, fun H7 s7 => ?_⟩
    rw [en1]
    refine ⟨_, rfl, _, rfl, _, _, rfl, rfl, _, _, rfl, rfl, rfl, ?_⟩
    have z := q H7 ((s04.trans s56).trans s7)
    rw [← decide_eq_true (rfl : V.int (hi_ - (h + 1) + 1) = V.int (hi_ - (h + 1) + 1))] at z
    exact z
end
end Ur
/-! UN: unpainted_from without a day and a side. -/
namespace Ur
open PySem PySem.Spec PyProof.Rows L2
def PosN (nm : Str) (ps : List Str) (sp : Sp) (P : Program) (w : World) (K : PySem.W.Frag) (mg : Str → Option Value) (base : Heap) : Prop := ∃ (f : Addr) (fd : FuncData), FnOk P w K mg base CX0 18 f fd ps sp ∧ PySem.W.keepIn K (.ref f) = true ∧ mg nm = some (.ref f) ∧ ∃ ds, Vals [.non, .bl false] ds ∧ Binds K fd ps ds
theorem unp_ofN {P : Program} {w : World} {K : PySem.W.Frag} {mg : Str → Option Value} {base : Heap} {sp : Sp} {f : Addr} {fd : FuncData} (F : UnpK K f fd) (h : FnOk P w K mg base CX0 18 f fd P_unpainted_from sp) (m : mg "unpainted_from" = some (.ref f)) : PosN "unpainted_from" P_unpainted_from sp P w K mg base :=
  ⟨f, fd, h, F.kp, m, FunD.binds0 F 3 (by simp) rfl fun D doc pm an cdv ct us ks h1 h2 => match us, ks, h1, h2 with | [_, _, _], [_, _], _, _ => ⟨_, _, _, _, _, _, rfl, rfl, ⟨_, _, _, _, _, _, rfl, rfl, rfl⟩⟩⟩
section
variable {X : Cx} {nm : Str} {ps : List Str} {sp : Sp} {e : Expr} {es : List Expr} {t : TA} {p pos : Pos}
theorem pe_posN (c : PosN nm ps sp X.prog X.w X.K X.mg X.base) (hr : Room 18 X.A) (ha : PA X (e :: es) t) (hg : Gl X nm := by rfl) (hdb : (nm == ("__debug__" : Str)) = false := by decide)
    (he : starEach (e :: es) X.env = (false, eval e X.env) :: starEach es X.env := by rfl) (hpl : (backTo pos (starEach es X.env)).any (·.1) = false := by rfl) :
    PE X (.Call (.Name nm p) (e :: es) [] pos) (tCall sp [.non, .bl false] E0 t) := by
  obtain ⟨f, fd, F, kp, m, ⟨ds, hd, b⟩⟩ := c
  exact pe_call F hr hg m kp b hd pass0 ha (he := he) (hpl := hpl) (hdb := hdb)
end
end Ur
/-! L50: the law: full, by shares. -/
namespace Ur
open PySem PySem.Spec PyProof.Rows L2
abbrev s_law : Stmt := (topS 89)
abbrev N_sc_law : List Str := ["_law_script", "_law_pen_here", "_law_turn", "_law_names_here", "_law_base", "_law_gaps", "_law_road", "_law_right", "_law_other", "_law_painters", "_law_name", "_law_stride", "_law_fence_here", "_law_counts", "_law_told", "_law_beyond"]
abbrev P_law : List Str := ["_law_script"]
theorem sc_law : FnScope N_sc_law P_law (defScope s_law) := ⟨rfl, rfl, rfl, by decide +kernel, rfl, by decide +kernel, by decide +kernel⟩
theorem len_turns4c {n : Nat} : 0 ≤ 1 + (if (n : Int) < 4 then (n : Int) else 4) ∧ 1 + (if (n : Int) < 4 then (n : Int) else 4) ≤ 5 := by split <;> omega
theorem cnt_histI {qs : List Quad} {rs : List Rw} {Cn : Nat → Option Int} {Bn : Nat → Nat} (d0 : ∀ i, i < qs.length → 0 ≤ dQ qs i) (h : HistR qs (fSP qs) rs) (hc : HistC qs.length (dQ qs) (fSP qs) Cn Bn) : ∀ j, j < qs.length → cntR rs j = Cn j := fun j hj => by
  obtain ⟨Cn', Bn', hc', rfl⟩ := h
  rw [← hist_uniq d0 hc'.is hc.is hj]
  unfold cntR
  rw [List.getElem?_map, List.getElem?_range hj]
  rfl
theorem cut_mid {xs : List V} {j k : Nat} (h : j ≤ xs.length) (g : k ≤ xs.length) : cutV xs (some (j : Int)) (some (k : Int)) = (xs.drop j).take (k - j) := by
  unfold cutV
  rw [HT.sIx_nat, HT.sIx_nat, Nat.min_eq_left h, Nat.min_eq_left g]
theorem team_app {H : Hp} {ts us : List Addr} {qs rs : List Quad} (a : Team H ts qs) (b : Team H us rs) (nd : ((qs ++ rs).map (·.1)).Nodup) (few : qs.length + rs.length ≤ 40) : Team H (ts ++ us) (qs ++ rs) where
  len := by rw [List.length_append, List.length_append, a.len, b.len]
  at_ := fun j t q e1 e2 => by
    by_cases c : j < ts.length
    · rw [List.getElem?_append_left c] at e1
      rw [List.getElem?_append_left (by rw [← a.len]; exact c)] at e2
      exact a.at_ j t q e1 e2
    · rw [List.getElem?_append_right (by omega)] at e1
      rw [List.getElem?_append_right (by have := a.len; omega), ← a.len] at e2
      exact b.at_ _ t q e1 e2
  ok := fun q hq => (List.mem_append.mp hq).elim (a.ok q) (b.ok q)
  nd := nd
  few := by rw [List.length_append]; exact few
theorem rz_ext {qs : List Quad} {C : Nat → Option Int} {H H' : Hp} {v : V} (h : RightZ qs C H v) (e : LamX.ExtN H H') : RightZ qs C H' v := by
  rcases h with h | ⟨de, ⟨u, rfl, hu, al⟩ | ⟨u, k, rfl, hu, r⟩⟩
  · exact .inl h
  · exact .inr ⟨de, .inl ⟨u, rfl, e _ _ hu nt_tup, al⟩⟩
  · exact .inr ⟨de, .inr ⟨u, k, rfl, e _ _ hu nt_tup, r⟩⟩
theorem rz_val {qs : List Quad} {C : Nat → Option Int} {H : Hp} {v : V} (h : RightZ qs C H v) : v = .non ∨ ∃ u, v = .ref u := by
  rcases h with h | ⟨de, ⟨u, rfl, hu, al⟩ | ⟨u, k, rfl, hu, r⟩⟩
  · exact .inl h.1
  · exact .inr ⟨u, rfl⟩
  · exact .inr ⟨u, rfl⟩
theorem team_one {H : Hp} {t : Addr} {q : Quad} (h : H t = some (.tup (quadV q))) (ok : QuadOk q) : Team H [t] [q] where
  len := rfl
  at_ := fun j u x e1 e2 => by
    cases j with
    | zero => rw [← Option.some.inj e1, ← Option.some.inj e2]; exact h
    | succ j => cases e1
  ok := fun x hx => by rw [List.mem_singleton.mp hx]; exact ok
  nd := List.pairwise_singleton _ _
  few := by show 1 ≤ 40; decide
section
variable {P : Program} {w : World} {K : PySem.W.Frag} {mg : Str → Option Value} {base : Heap} {C CF CH : Addr}
set_option maxHeartbeats 16000000 in
theorem ok_law {T : List (Addr × Str)} {f : Addr} {fd : FuncData} (F : Fun K "law" "law" s_law f fd) (B : Blt mg) (CPen : Cal P w K mg base 1 "_law_pen" P__law_pen (spPen K)) (CD : Cal P w K mg base 12 "_law_draw" P__law_draw spDr) (CPL : Cal P w K mg base 13 "_law_pick" P__law_pick (spPickL K)) (CI : Cal P w K mg base 13 "_law_pick" P__law_pick (spPickI K)) (CG : Cal P w K mg base 14 "_law_great" P__law_great spGreat) (CA : Cal P w K mg base 13 "_law_around" P__law_around spAround)
    (CN : Cal P w K mg base 14 "_law_names" P__law_names spNamesN) (CCo : Cal P w K mg base 13 "_law_cover" P__law_cover (spCov K)) (CSh : Cal P w K mg base 13 "_law_shuffled" P__law_shuffled (spShuf K)) (CCv : Cal P w K mg base 15 "_law_covering" P__law_covering (spCvr K)) (CFe : Cal P w K mg base 6 "_law_fence" P__law_fence (spFence K C CF)) (CLh : Cal P w K mg base 4 "_law_history" P__law_history (spLCnt K)) (COp : Cal P w K mg base 1 "_law_opposite" P__law_opposite (spOpp K)) (CRi : Cal P w K mg base 3 "_law_is_right" P__law_is_right (spRigF K))
    (CFu : FulC P w K mg base T C CF) (CUn : PosN "unpainted_from" P_unpainted_from (spUnp T C CF) P w K mg base) : FnG P w K mg base 40 f fd P_law (spLaw K T) := by
  refine runG F sc_law (fun vs H Q E h => ?_) (fun cdv A outer s H vs Q E hs hr h => ?_)
  · obtain ⟨a, ns, rfl, _⟩ := h
    rfl
  obtain ⟨a, ns, rfl, hS, hlen, tb, q⟩ := h
  have hu := hu_of hr
  refine ⟨_, (pss_cons (ps_set (i := 1) sc_law.nd rfl (Or.inl rfl) (pe_cal CPen (hr.mono (by decide)) (pa_cons (pv 0) pa_nil))) (pss_cons (ps_for PassesOwn.never rfl (pi_range1 rfl B.range_ (pa_cons (pe_op op_add pe_int (pe_callB (call_min2 rfl) rfl B.min_ (by decide +kernel) (pa_cons pe_int (pa_cons (pe_callB call_len_seq rfl B.len_ PySem.boot_len (pa_cons (pv 0) pa_nil)) pa_nil)))) pa_nil)) (pg_name (i := 2) sc_law.nd rfl (Or.inl rfl)) (C8.pss_cut (ps_par (i := 3) (j := 4) rfl sc_law.nd rfl rfl (by decide) rfl rfl (pa_cons (pe_cal CN (hr.mono (by decide)) (pa_cons (pv 1) (pa_cons pe_int pa_nil))) (pa_cons (pe_op op_mul (pe_cal CG (hr.mono (by decide)) (pa_cons (pv 1) (pa_cons pe_int pa_nil))) (pe_cal CI (hr.mono (by decide)) (pa_cons (pv 1) (pa_cons (pe_lst (pa_cons pe_int (pa_cons (pe_un un_neg pe_int) pa_nil))) pa_nil)))) pa_nil)) (by rfl)) (C8.pss_cut (ps_par (i := 5) (j := 6) rfl sc_law.nd rfl rfl (by decide) rfl rfl (pa_cons (pe_cal CPL (hr.mono (by decide)) (pa_cons (pv 1) (pa_cons (pe_lst (pa_cons (pe_lst (pa_cons pe_int pa_nil)) (pa_cons (pe_lst (pa_cons pe_int pa_nil)) (pa_cons (pe_lst (pa_cons pe_int (pa_cons pe_int (pa_cons pe_int pa_nil)))) (pa_cons (pe_lst (pa_cons pe_int (pa_cons (pe_cal CD (hr.mono (by decide)) (pa_cons (pv 1) (pa_cons pe_int pa_nil))) pa_nil))) pa_nil))))) pa_nil))) (pa_cons (pe_cal CD (hr.mono (by decide)) (pa_cons (pv 1) (pa_cons pe_int pa_nil))) pa_nil)) (by rfl)) (C8.pss_cut (ps_set (i := 7) sc_law.nd rfl (Or.inl rfl) (pe_cal CCv (hr.mono (by decide)) (pa_cons (pv 1) (pa_cons (pe_slice sl_list (pv 3) po_none (po_some pe_int)) (pa_cons (pe_cal CCo (hr.mono (by decide)) (pa_cons (pv 1) (pa_cons pe_int pa_nil))) (pa_cons (pv 4) (pa_cons (pv 5) pa_nil))))))) (C8.pss_cut (ps_set (i := 8) sc_law.nd rfl (Or.inl rfl) (pe_cal COp (hr.mono (by decide)) (pa_cons (pe_cal CCv (hr.mono (by decide)) (pa_cons (pv 1) (pa_cons (pe_slice sl_list (pv 3) (po_some pe_int) (po_some pe_int)) (pa_cons (pe_cal CCo (hr.mono (by decide)) (pa_cons (pv 1) (pa_cons pe_int pa_nil))) (pa_cons (pe_op op_sub pe_int (pv 4)) (pa_cons (pv 5) pa_nil)))))) pa_nil))) (C8.pss_cut (ps_set (i := 9) sc_law.nd rfl (Or.inl rfl) (pe_op op_cat (pv 7) (pe_slice sl_list (pv 8) (po_some (pe_callTy call_int1 rfl B.int_ (by decide +kernel) (pa_cons (pe_cmpR op_eq (pv 6) pe_int (nomark _)) pa_nil))) po_none))) (C8.pss_cut (ps_for PassesOwn.never rfl (pi_list (pe_slice sl_list (pv 3) (po_some pe_int) po_none)) (pg_name (i := 10) sc_law.nd rfl (Or.inl rfl)) (pss_one (ps_if (pt_cmpR op_eq (pe_cal CD (hr.mono (by decide)) (pa_cons (pv 1) (pa_cons pe_int pa_nil))) pe_int (nomark _)) (pss_cons (ps_set (i := 11) sc_law.nd rfl (Or.inl rfl) (pe_op op_mul (pe_op op_add pe_int (pe_cal CD (hr.mono (by decide)) (pa_cons (pv 1) (pa_cons pe_int pa_nil)))) (pe_cal CI (hr.mono (by decide)) (pa_cons (pv 1) (pa_cons (pe_lst (pa_cons pe_int (pa_cons (pe_un un_neg pe_int) pa_nil))) pa_nil))))) (pss_one (ps_set (i := 9) sc_law.nd rfl (Or.inl rfl) (pe_op op_cat (pv 9) (pe_lst (pa_cons (pe_tup (pa_cons (pv 10) (pa_cons (pe_op op_add (pe_op op_pow pe_int pe_int) (pe_cal CG (hr.mono (by decide)) (pa_cons (pv 1) (pa_cons pe_int pa_nil)))) (pa_cons (pe_op op_add (pv 4) (pe_cal CA (hr.mono (by decide)) (pa_cons (pv 1) (pa_cons pe_int pa_nil)))) (pa_cons (pv 11) pa_nil))))) pa_nil)))))) pss_nil))) (pss_cons (ps_set (i := 9) sc_law.nd rfl (Or.inl rfl) (pe_cal CSh (hr.mono (by decide)) (pa_cons (pv 1) (pa_cons (pv 9) pa_nil)))) (pss_cons (ps_par (i := 12) (j := 13) rfl sc_law.nd rfl rfl (by decide) rfl rfl (pa_cons (pe_cal CFe (hr.mono (by decide)) (pa_cons (pv 9) pa_nil)) (pa_cons (pe_cal CLh (hr.mono (by decide)) (pa_cons (pv 9) pa_nil)) pa_nil)) (by rfl)) (pss_cons (ps_set (i := 14) sc_law.nd rfl (Or.inl rfl) (pe_ful0 CFu (hr.mono (by decide)) (pa_cons (pv 12) pa_nil))) (pss_cons (ps_if (pt_not (pt_val (pe_cal CRi (hr.mono (by decide)) (pa_cons (pv 9) (pa_cons (pv 13) (pa_cons (pv 14) pa_nil)))))) (pss_one (ps_ret pe_bl)) pss_nil) (C8.pss_cut (ps_set (i := 15) sc_law.nd rfl (Or.inl rfl) (pe_ifExp (PW.pt (pw_or (pt_cmpR op_isN (pv 14) pe_non (nomark _)) (pw_or1 (pt_cmpR op_eq (pe_callB call_len_seq rfl B.len_ PySem.boot_len (pa_cons (pv 14) pa_nil)) pe_int (nomark _))))) (pv 4) (pe_ix ix_tup (pv 14) pe_int (fun _ _ => rfl)))) (C8.pss_cut (ps_if (PW.pt (pw_and (pt_cmpR op_notN (pv 14) pe_non (nomark _)) (pw_and1 (pt_cmpR op_notN (pe_posN CUn (hr.mono (by decide)) (pa_cons (pv 12) (pa_cons (pv 15) (pa_cons pe_int pa_nil)))) pe_non (nomark _))))) (pss_one (ps_ret pe_bl)) pss_nil) (pss_cons (ps_set (i := 14) sc_law.nd rfl (Or.inl rfl) (pe_fulL CFu (hr.mono (by decide)) (pa_cons (pv 12) pa_nil) (pk_cons pe_bl pk_nil))) (C8.pss_cut (ps_if (PW.pt (pw_and (pt_cmpR op_notN (pv 14) pe_non (nomark _)) (pw_and1 (pt_cmpR op_eq (pe_callB call_len_seq rfl B.len_ PySem.boot_len (pa_cons (pv 14) pa_nil)) pe_int (nomark _))))) (pss_one (ps_set (i := 14) sc_law.nd rfl (Or.inl rfl) (pe_tup (pa_cons (pe_ix ix_tup (pv 14) pe_int (fun _ _ => rfl)) (pa_cons (pe_op op_sub pe_int (pe_ix ix_tup (pv 14) pe_int (fun _ _ => rfl))) pa_nil))))) pss_nil) (pss_one (ps_if (pt_not (pt_val (pe_cal CRi (hr.mono (by decide)) (pa_cons (pe_cal COp (hr.mono (by decide)) (pa_cons (pv 9) pa_nil)) (pa_cons (pv 13) (pa_cons (pv 14) pa_nil)))))) (pss_one (ps_ret pe_bl)) pss_nil))))))))))))))))) (pss_one (ps_ret pe_bl)))), ?_⟩
  refine ⟨_, rfl, a, ns, rfl, hS, hlen, fun p l H1 P1 hp0 hl0 s1 => ?_⟩
  have hk := @len_turns4c (ns.map V.int).length
  refine ⟨_, rfl, a, _, rfl, .inl (same_sql s1 hS), _, _, rfl, _, _, rfl, rfl, _, rfl, by omega, by omega, ?_⟩
  refine for_range (lo := 0) (fun i σ' H' => ∃ (o2 o3 o4 o5 o6 o7 o8 o9 o10 o11 o12 o13 o14 o15 : Option V), σ' = [some (.ref a), some (.ref p), o2, o3, o4, o5, o6, o7, o8, o9, o10, o11, o12, o13, o14, o15] ∧ Pen H' p l (20000 * i) ∧ LamX.Tabs T H') ⟨none, none, none, none, none, none, none, none, none, none, none, none, none, none, rfl, P1, tabs_same s1 tb⟩ ?_ ?_
  · rintro i σ' H2 hi ⟨o2, o3, o4, o5, o6, o7, o8, o9, o10, o11, o12, o13, o14, o15, rfl, P2, tb2⟩
    have hi5 : i < 5 := by omega
    obtain ⟨kv2, hp2⟩ := P2.dk
    -- the names and the middle
    refine ⟨fun σ' H' => ∃ (N : Addr) (ss : List Str) (b : Int), σ' = [some (.ref a), some (.ref p), some (.int (0 + (i : Int))), some (.ref N), some (.int b), o5, o6, o7, o8, o9, o10, o11, o12, o13, o14, o15] ∧ H' N = some (.lst (ss.map V.str)) ∧ ss.length = 14 ∧ (∀ z ∈ ss, NameOk z) ∧ ss.Nodup ∧ -(10 ^ 29) < b ∧ b < 10 ^ 29 ∧ Pen H' p l (20000 * i + 1000) ∧ LamX.Tabs T H', ?_, ?_⟩
    · refine ⟨_, rfl, p, l, 14, _, rfl, P2, by omega, by decide, fun N ss H3 hN nl nok nnd nN P3 k3 => ?_⟩
      obtain ⟨kv3, hp3⟩ := P3.dk
      have tb3 := tabs_keep k3 hp2 tb2
      refine ⟨_, rfl, p, l, 29, _, rfl, P3, by omega, by decide, by decide, fun b1 H4 b10 b11 P4 k4 => ?_⟩
      obtain ⟨kv4, hp4⟩ := P4.dk
      have tb4 := tabs_keep k4 hp3 tb3
      have hN4 := k4 _ _ hN (ne_of hN hp3 (by intro z; cases z))
      refine ⟨_, rfl, _, rfl, by show 2 ≤ sizeLine; decide, fun y ny => ⟨p, l, y, [1, -1], _, rfl, P4.new ny, by omega, SqL.of upd_same, by show 1 ≤ 2; decide, by show 2 ≤ 1000000; decide, fun sg H5 hsg P5 k5 => ?_⟩⟩
      have sy := same_new ny (.lst [.int 1, .int (-1)])
      obtain ⟨kv4', hp4'⟩ := (P4.new (o := .lst [.int 1, .int (-1)]) ny).dk
      have hN5 := k5 _ _ (sy _ _ hN4) (ne_of (sy _ _ hN4) hp4' (by intro z; cases z))
      have tb5 := tabs_keep k5 hp4' (tabs_same sy tb4)
      have hsg : sg = 1 ∨ sg = -1 := by simpa using hsg
      refine ⟨_, _, rfl, rfl, .inr (by omega), _, _, rfl, N, ss, b1 * sg, rfl, hN5, nl, nok, nnd, ?_, ?_, P5.le (by omega), tb5⟩
      · rcases hsg with rfl | rfl <;> omega
      · rcases hsg with rfl | rfl <;> omega
    rintro σ' H3 ⟨N, ss, b, rfl, hN, nl, nok, nnd, b0, b1, P3, tb3⟩
    obtain ⟨kv3, hp3⟩ := P3.dk
    -- the gaps and the road
    refine ⟨fun σ' H' => ∃ (G : Addr) (gs : List Int) (rd : Int), σ' = [some (.ref a), some (.ref p), some (.int (0 + (i : Int))), some (.ref N), some (.int b), some (.ref G), some (.int rd), o7, o8, o9, o10, o11, o12, o13, o14, o15] ∧ H' N = some (.lst (ss.map V.str)) ∧ H' G = some (.lst (gs.map V.int)) ∧ (∀ g ∈ gs, 0 ≤ g ∧ g ≤ 10 ^ 20) ∧ 1 ≤ gs.length ∧ gs.length ≤ 3 ∧ Pen H' p l (20000 * i + 2000) ∧ LamX.Tabs T H', ?_, ?_⟩
    · refine ⟨_, rfl, by show 1 ≤ sizeLine; decide, fun g1 n1 => ⟨by show 1 ≤ sizeLine; decide, fun g2 n2 => ⟨by show 3 ≤ sizeLine; decide, fun g3 n3 => ?_⟩⟩⟩
      have w1 := same_new n1 (.lst [.int 0])
      have w2 := same_new n2 (.lst [.int 0])
      have w3 := same_new n3 (.lst [.int 0, .int 0, .int 1])
      have w13 := (w1.trans w2).trans w3
      have hg1 := w3 _ _ (w2 _ _ (upd_same (H := H3) (a := g1) (o := .lst [.int 0])))
      have hg2 := w3 _ _ (upd_same (H := upd H3 g1 (.lst [.int 0])) (a := g2) (o := .lst [.int 0]))
      have hg3 := upd_same (H := upd (upd H3 g1 (.lst [.int 0])) g2 (.lst [.int 0])) (a := g3) (o := .lst [.int 0, .int 0, .int 1])
      have P4 := P3.same w13
      have tb4 := tabs_same w13 tb3
      have hN4 := w13 _ _ hN
      generalize upd (upd (upd H3 g1 (.lst [.int 0])) g2 (.lst [.int 0])) g3 (.lst [.int 0, .int 0, .int 1]) = H4 at hg1 hg2 hg3 P4 tb4 hN4 ⊢
      obtain ⟨kv4, hp4⟩ := P4.dk
      refine ⟨_, rfl, p, l, 9, _, rfl, P4, by omega, by omega, by omega, fun v1 H5 v10 v11 P5 k5 => ?_⟩
      have tb5 := tabs_keep k5 hp4 tb4
      have kp5 : ∀ (x : Addr) xs, H4 x = some (.lst xs) → H5 x = some (.lst xs) := fun x xs e => k5 _ _ e (ne_of e hp4 (by intro z; cases z))
      refine ⟨by show 2 ≤ sizeLine; decide, fun g4 n4 => ⟨by show 4 ≤ sizeLine; decide, fun y ny => ?_⟩⟩
      have w4 := (same_new n4 (.lst [.int 0, .int v1])).trans (same_new ny (.lst [.ref g1, .ref g2, .ref g3, .ref g4]))
      have hg4 := same_new ny (.lst [.ref g1, .ref g2, .ref g3, .ref g4]) _ _ (upd_same (H := H5) (a := g4) (o := .lst [.int 0, .int v1]))
      have P7 := P5.same w4
      obtain ⟨kv7, hp7⟩ := P7.dk
      refine ⟨p, l, y, [.ref g1, .ref g2, .ref g3, .ref g4], _, rfl, P7, by omega, SqL.of upd_same, by show 1 ≤ 4; decide, by show 4 ≤ 1000000; decide, fun v H8 hv P8 k8 => ?_⟩
      have kp : ∀ (x : Addr) xs, H4 x = some (.lst xs) → H8 x = some (.lst xs) := fun x xs e => k8 _ _ (w4 _ _ (kp5 _ _ e)) (ne_of (w4 _ _ (kp5 _ _ e)) hp7 (by intro z; cases z))
      have tb8 := tabs_keep k8 hp7 (tabs_same w4 tb5)
      obtain ⟨kv8, hp8⟩ := P8.dk
      refine ⟨_, rfl, p, l, 5, _, rfl, P8, by omega, by decide, by decide, fun rd H9 rd0 rd1 P9 k9 => ⟨_, _, rfl, ?_⟩⟩
      have tb9 := tabs_keep k9 hp8 tb8
      have kq : ∀ (x : Addr) xs, H8 x = some (.lst xs) → H9 x = some (.lst xs) := fun x xs e => k9 _ _ e (ne_of e hp8 (by intro z; cases z))
      simp only [List.mem_cons, List.not_mem_nil, or_false] at hv
      rcases hv with rfl | rfl | rfl | rfl
      · exact ⟨g1, [0], rd, rfl, kq _ _ (kp _ _ hN4), kq _ _ (kp _ _ hg1), (fun g hg => by rw [List.mem_singleton.mp hg]; decide), by decide, by decide, P9.le (by omega), tb9⟩
      · exact ⟨g2, [0], rd, rfl, kq _ _ (kp _ _ hN4), kq _ _ (kp _ _ hg2), (fun g hg => by rw [List.mem_singleton.mp hg]; decide), by decide, by decide, P9.le (by omega), tb9⟩
      · exact ⟨g3, [0, 0, 1], rd, rfl, kq _ _ (kp _ _ hN4), kq _ _ (kp _ _ hg3), (fun g hg => by simp only [List.mem_cons, List.not_mem_nil, or_false] at hg; omega), by decide, by decide, P9.le (by omega), tb9⟩
      · exact ⟨g4, [0, v1], rd, rfl, kq _ _ (kp _ _ hN4), kq _ _ (k8 _ _ hg4 (ne_of hg4 hp7 (by intro z; cases z))), (fun g hg => by simp only [List.mem_cons, List.not_mem_nil, or_false] at hg; omega), by show 1 ≤ 2; decide, by show 2 ≤ 3; decide, P9.le (by omega), tb9⟩
    rintro σ' H4 ⟨G, gs, rd, rfl, hN4, hG4, gok, g1, g2, P4, tb4⟩
    obtain ⟨kv4, hp4⟩ := P4.dk
    -- the painters to the right
    refine ⟨fun σ' H' => ∃ (F1 : Addr) (ts1 : List Addr) (qs1 : List Quad), σ' = [some (.ref a), some (.ref p), some (.int (0 + (i : Int))), some (.ref N), some (.int b), some (.ref G), some (.int rd), some (.ref F1), o8, o9, o10, o11, o12, o13, o14, o15] ∧ H' N = some (.lst (ss.map V.str)) ∧ H' G = some (.lst (gs.map V.int)) ∧ H' F1 = some (.lst (ts1.map V.ref)) ∧ Team H' ts1 qs1 ∧ (qs1.map (·.1)).Sublist (ss.take 6) ∧ 1 ≤ qs1.length ∧ qs1.length ≤ 6 ∧ Pen H' p l (20000 * i + 8000) ∧ LamX.Tabs T H', ?_, ?_⟩
    · refine ⟨_, rfl, _, rfl, ((6 : Nat) : Int), rfl, N, _, rfl, SqL.of hN4, fun X nX => ?_⟩
      rw [cut_to (by rw [List.length_map]; omega), ← List.map_take]
      have wX := same_new nX (.lst ((ss.take 6).map V.str))
      have PX := P4.same wX
      obtain ⟨kvX, hpX⟩ := PX.dk
      refine ⟨_, rfl, p, l, 6, _, rfl, PX, by omega, by decide, by decide, fun R us cs H5 hR hc cv c1 c2 nR P5 k5 => ?_⟩
      obtain ⟨kv5, hp5⟩ := P5.dk
      have kL : ∀ (x : Addr) xs, H4 x = some (.lst xs) → H5 x = some (.lst xs) := fun x xs e => k5 _ _ (wX _ _ e) (ne_of (wX _ _ e) hpX (by intro z; cases z))
      have hX5 := k5 _ _ (upd_same (H := H4) (a := X) (o := .lst ((ss.take 6).map V.str))) (ne_of upd_same hpX (by intro z; cases z))
      have l6 : (ss.take 6).length = 6 := by rw [List.length_take, nl]; rfl
      refine ⟨_, rfl, _, rfl, p, l, X, R, G, ss.take 6, us, cs, b, gs, _, rfl, P5, by omega, hX5, (fun z hz => nok z (List.mem_of_mem_take hz)), (List.take_sublist _ _).nodup nnd, hR, hc, by omega, by omega, (fun c hc => ⟨(cv.pos c hc).1, (cv.pos c hc).2.1, cv.le hc⟩), by omega, by omega, kL _ _ hG4, gok, g1, by omega, fun F1 ts1 qs1 H6 hF tm ec en _ P6 k6 => ?_⟩
      have ql : qs1.length = cs.length := by rw [← ec, List.length_map]
      have kM : ∀ (x : Addr) xs, H4 x = some (.lst xs) → H6 x = some (.lst xs) := fun x xs e => k6 _ _ (kL _ _ e) (ne_of (kL _ _ e) hp5 (by intro z; cases z))
      exact ⟨F1, ts1, qs1, rfl, kM _ _ hN4, kM _ _ hG4, hF, tm, by rw [en]; exact List.take_sublist _ _, by omega, by omega, P6.le (by omega), tabs_keep k6 hp5 (tabs_keep k5 hpX (tabs_same wX tb4))⟩
    rintro σ' H5 ⟨F1, ts1, qs1, rfl, hN5, hG5, hF5, tm5, nm1, l10, l11, P5, tb5⟩
    obtain ⟨kv5, hp5⟩ := P5.dk
    -- the painters to the left
    refine ⟨fun σ' H' => ∃ (F2 : Addr) (ts2 : List Addr) (qs2 : List Quad), σ' = [some (.ref a), some (.ref p), some (.int (0 + (i : Int))), some (.ref N), some (.int b), some (.ref G), some (.int rd), some (.ref F1), some (.ref F2), o9, o10, o11, o12, o13, o14, o15] ∧ H' N = some (.lst (ss.map V.str)) ∧ H' F1 = some (.lst (ts1.map V.ref)) ∧ Team H' ts1 qs1 ∧ H' F2 = some (.lst (ts2.map V.ref)) ∧ Team H' ts2 qs2 ∧ (qs2.map (·.1)).Sublist ((ss.drop 6).take 6) ∧ 1 ≤ qs2.length ∧ qs2.length ≤ 6 ∧ Pen H' p l (20000 * i + 15000) ∧ LamX.Tabs T H', ?_, ?_⟩
    · refine ⟨_, rfl, _, rfl, ((6 : Nat) : Int), rfl, ((12 : Nat) : Int), rfl, N, _, rfl, SqL.of hN5, fun X nX => ?_⟩
      rw [cut_mid (by rw [List.length_map]; omega) (by rw [List.length_map]; omega), ← List.map_drop, ← List.map_take]
      have wX := same_new nX (.lst (((ss.drop 6).take (12 - 6)).map V.str))
      have PX := P5.same wX
      obtain ⟨kvX, hpX⟩ := PX.dk
      refine ⟨_, rfl, p, l, 6, _, rfl, PX, by omega, by decide, by decide, fun R us cs H6 hR hc cv c1 c2 nR P6 k6 => ?_⟩
      obtain ⟨kv6, hp6⟩ := P6.dk
      have kL : ∀ (x : Addr) xs, H5 x = some (.lst xs) → H6 x = some (.lst xs) := fun x xs e => k6 _ _ (wX _ _ e) (ne_of (wX _ _ e) hpX (by intro z; cases z))
      have hX6 := k6 _ _ (upd_same (H := H5) (a := X) (o := .lst (((ss.drop 6).take (12 - 6)).map V.str))) (ne_of upd_same hpX (by intro z; cases z))
      have l6 : ((ss.drop 6).take (12 - 6)).length = 6 := by rw [List.length_take, List.length_drop, nl]; rfl
      refine ⟨_, rfl, _, _, rfl, rfl, _, rfl, p, l, X, R, G, (ss.drop 6).take (12 - 6), us, cs, 1 - b, gs, _, rfl, P6, by omega, hX6, (fun z hz => nok z (List.mem_of_mem_drop (List.mem_of_mem_take hz))), ((List.take_sublist _ _).trans (List.drop_sublist _ _)).nodup nnd, hR, hc, by omega, by omega, (fun c hc => ⟨(cv.pos c hc).1, (cv.pos c hc).2.1, cv.le hc⟩), by omega, by omega, kL _ _ hG5, gok, g1, by omega, fun Fo to qo H7 hFo tmo ec en _ P7 k7 => ?_⟩
      have ql : qo.length = cs.length := by rw [← ec, List.length_map]
      have kM : ∀ (x : Addr) xs, H5 x = some (.lst xs) → H7 x = some (.lst xs) := fun x xs e => k7 _ _ (kL _ _ e) (ne_of (kL _ _ e) hp6 (by intro z; cases z))
      have tmA := ((tm5.same wX).keep k6 hpX).keep k7 hp6
      refine ⟨Fo, to, qo, rfl, SqL.of hFo, tmo, fun F2 ts2 H8 hF2 tm2 s8 => ?_⟩
      refine ⟨F2, ts2, _, rfl, s8 _ _ (kM _ _ hN5), s8 _ _ (kM _ _ hF5), tmA.same s8, hF2, tm2, ?_, by rw [List.length_map]; omega, by rw [List.length_map]; omega, (P7.same s8).le (by omega), tabs_same s8 (tabs_keep k7 hp6 (tabs_keep k6 hpX (tabs_same wX tb5)))⟩
      have e : (qo.map (mvQ (-1) 0 0)).map (·.1) = qo.map (·.1) := by rw [List.map_map]; rfl
      rw [e, en]
      exact List.take_sublist _ _
    rintro σ' H6 ⟨F2, ts2, qs2, rfl, hN6, hF6, tm6, hF2, tm2, nm2, l20, l21, P6, tb6⟩
    -- together
    refine ⟨fun σ' H' => ∃ (F : Addr) (ts : List Addr) (qs : List Quad), σ' = [some (.ref a), some (.ref p), some (.int (0 + (i : Int))), some (.ref N), some (.int b), some (.ref G), some (.int rd), some (.ref F1), some (.ref F2), some (.ref F), o10, o11, o12, o13, o14, o15] ∧ H' N = some (.lst (ss.map V.str)) ∧ H' F = some (.lst (ts.map V.ref)) ∧ Team H' ts qs ∧ (qs.map (·.1)).Sublist (ss.take 12) ∧ 1 ≤ qs.length ∧ qs.length ≤ 12 ∧ Pen H' p l (20000 * i + 15000) ∧ LamX.Tabs T H', ?_, ?_⟩
    · refine ⟨_, rfl, _, rfl, _, rfl, rfl, .inr ⟨_, rfl, ?_⟩⟩
      obtain ⟨k, ek, k1⟩ : ∃ k : Nat, (if decide (V.int rd = V.int 0) = true then (1 : Int) else 0) = (k : Int) ∧ k ≤ 1 := by
        by_cases c : decide (V.int rd = V.int 0) = true
        · exact ⟨1, by rw [if_pos c]; rfl, by decide⟩
        · exact ⟨0, by rw [if_neg c]; rfl, by decide⟩
      refine ⟨_, rfl, F2, _, rfl, SqL.of hF2, fun X nX => ?_⟩
      have t2l := tm2.len
      rw [ek, cut_from (by rw [List.length_map]; omega), ← List.map_drop]
      have wX := same_new nX (.lst ((ts2.drop k).map V.ref))
      have t1l := tm6.len
      refine ⟨F1, X, _, _, rfl, rfl, wX _ _ hF6, upd_same, by rw [List.length_map, List.length_map, List.length_drop]; exact Nat.le_trans (show ts1.length + (ts2.length - k) ≤ 100 by omega) (by decide), fun F nF => ?_⟩
      rw [← List.map_append]
      have wF := wX.trans (same_new nF (.lst ((ts1 ++ ts2.drop k).map V.ref)))
      have sb : ((qs1 ++ qs2.drop k).map (·.1)).Sublist (ss.take 12) := by
        rw [List.map_append, List.map_drop]
        have e : ss.take 12 = ss.take 6 ++ (ss.drop 6).take 6 := by rw [show (12 : Nat) = 6 + 6 from rfl, List.take_add]
        rw [e]
        exact nm1.append ((List.drop_sublist _ _).trans nm2)
      have tmd : Team H6 (ts2.drop k) (qs2.drop k) := by
        have : k = 0 ∨ k = 1 := by omega
        rcases this with rfl | rfl
        · exact tm2
        · exact team_cut tm2 0
      have dl : (qs2.drop k).length ≤ 6 := by rw [List.length_drop]; omega
      exact ⟨F, ts1 ++ ts2.drop k, qs1 ++ qs2.drop k, rfl, wF _ _ hN6, upd_same, (team_app tm6 tmd ((sb.trans (List.take_sublist _ _)).nodup nnd) (by omega)).same wF, sb, by rw [List.length_append]; omega, by rw [List.length_append]; omega, P6.same wF, tabs_same wF tb6⟩
    rintro σ' H7 ⟨F, ts, qs, rfl, hN7, hF7, tm7, nm7, l70, l71, P7, tb7⟩
    -- two more
    refine ⟨fun σ' H' => ∃ (F : Addr) (ts : List Addr) (qs : List Quad) (p10 p11 : Option V), σ' = [some (.ref a), some (.ref p), some (.int (0 + (i : Int))), some (.ref N), some (.int b), some (.ref G), some (.int rd), some (.ref F1), some (.ref F2), some (.ref F), p10, p11, o12, o13, o14, o15] ∧ H' F = some (.lst (ts.map V.ref)) ∧ Team H' ts qs ∧ 1 ≤ qs.length ∧ qs.length ≤ 14 ∧ Pen H' p l (20000 * i + 16000) ∧ LamX.Tabs T H', ?_, ?_⟩
    · refine ⟨_, rfl, ((12 : Nat) : Int), rfl, N, _, rfl, SqL.of hN7, fun X nX => ?_⟩
      rw [cut_from (by rw [List.length_map]; omega), ← List.map_drop]
      have wX := same_new nX (.lst ((ss.drop 12).map V.str))
      have l12 : (ss.drop 12).length = 2 := by rw [List.length_drop, nl]
      have PX := P7.same wX
      refine ⟨X, rfl, ⟨_, SqL.of upd_same⟩, for_list (K := K) (a := X) (xs := (ss.drop 12).map V.str) (fun m σ' H' => ∃ (F : Addr) (ts : List Addr) (qs : List Quad) (p10 p11 : Option V), σ' = [some (.ref a), some (.ref p), some (.int (0 + (i : Int))), some (.ref N), some (.int b), some (.ref G), some (.int rd), some (.ref F1), some (.ref F2), some (.ref F), p10, p11, o12, o13, o14, o15] ∧ H' X = some (.lst ((ss.drop 12).map V.str)) ∧ H' F = some (.lst (ts.map V.ref)) ∧ Team H' ts qs ∧ (qs.map (·.1)).Sublist (ss.take (12 + m)) ∧ 1 ≤ qs.length ∧ qs.length ≤ 12 + m ∧ Pen H' p l (20000 * i + 15000 + 400 * m) ∧ LamX.Tabs T H') ⟨F, ts, qs, _, _, rfl, upd_same, wX _ _ hF7, tm7.same wX, nm7, l70, l71, PX, tabs_same wX tb7⟩ (fun m σ' H' _ h => by obtain ⟨_, _, _, _, _, _, h, _⟩ := h; exact SqL.of h) ?_ ?_⟩
      · rintro m v σ' H8 ev ⟨F, ts, qs, p10, p11, rfl, hX8, hF8, tm8, nm8, l80, l81, P8, tb8⟩
        obtain ⟨kv8, hp8⟩ := P8.dk
        have hm : m < 2 := by
          have := (List.getElem?_eq_some_iff.mp ev).1
          rw [List.length_map] at this
          omega
        obtain ⟨z, ez, rfl⟩ : ∃ z, ss[12 + m]? = some z ∧ v = .str z := by
          rw [List.getElem?_map, List.getElem?_drop] at ev
          cases e : ss[12 + m]? with
          | none => rw [e] at ev; cases ev
          | some z => rw [e] at ev; exact ⟨z, rfl, (Option.some.inj ev).symm⟩
        have zok : NameOk z := nok z (List.mem_of_getElem? ez)
        have tk : ss.take (12 + (m + 1)) = ss.take (12 + m) ++ [z] := by
          rw [show 12 + (m + 1) = 12 + m + 1 by omega, List.take_add_one, ez]
          rfl
        have wid : (qs.map (·.1)).Sublist (ss.take (12 + (m + 1))) := by
          rw [tk]
          exact nm8.trans (List.sublist_append_left _ _)
        refine ⟨_, rfl, p, l, 2, _, rfl, P8, by omega, by decide, by decide, fun dv H9 d0 d1 P9 k9 => ⟨rfl, _, rfl, ?_⟩⟩
        have tb9 := tabs_keep k9 hp8 tb8
        have hX9 := k9 _ _ hX8 (ne_of hX8 hp8 (by intro z; cases z))
        have hF9 := k9 _ _ hF8 (ne_of hF8 hp8 (by intro z; cases z))
        have tm9 := tm8.keep k9 hp8
        obtain ⟨kv9, hp9⟩ := P9.dk
        refine ite2 (fun _ => ?_) (fun _ => ?_)
        · refine ⟨_, rfl, p, l, 4, _, rfl, P9, by omega, by decide, by decide, fun sv H10 sv0 sv1 P10 k10 => ?_⟩
          obtain ⟨kv10, hp10⟩ := P10.dk
          refine ⟨_, _, rfl, rfl, _, rfl, _, rfl, by show 2 ≤ sizeLine; decide, fun y ny => ⟨p, l, y, [1, -1], _, rfl, P10.new ny, by omega, SqL.of upd_same, by show 1 ≤ 2; decide, by show 2 ≤ 1000000; decide, fun sg H11 hsg P11 k11 => ?_⟩⟩
          have sy := same_new ny (.lst [.int 1, .int (-1)])
          obtain ⟨kv10', hp10'⟩ := (P10.new (o := .lst [.int 1, .int (-1)]) ny).dk
          have hsg : sg = 1 ∨ sg = -1 := by simpa using hsg
          obtain ⟨kv11, hp11⟩ := P11.dk
          have stb : -6 ≤ (1 + sv) * sg ∧ (1 + sv) * sg ≤ 6 ∧ (1 + sv) * sg ≠ 0 := by rcases hsg with rfl | rfl <;> omega
          refine ⟨_, _, rfl, rfl, .inl (by omega), ?_⟩
          have sX := same_new ny (.lst [.int 1, .int (-1)])
          have tb10 := tabs_keep k10 hp9 tb9
          have tb11 := tabs_keep k11 hp10' (tabs_same sX tb10)
          have k911 : Keep p H9 H11 := k10.trans ((Keep.refl.new ny).trans k11)
          have hX11 := k911 _ _ hX9 (ne_of hX9 hp9 (by intro z; cases z))
          have hF11 := k911 _ _ hF9 (ne_of hF9 hp9 (by intro z; cases z))
          have tm11 := tm9.keep k911 hp9
          refine ⟨_, rfl, _, rfl, _, _, rfl, rfl, ⟨by decide, by decide, by decide⟩, ?_⟩
          refine ⟨_, rfl, p, l, 20, _, rfl, P11, by omega, by decide, by decide, fun g1v H12 g10 g11 P12 k12 => ⟨_, _, rfl, rfl, ?_⟩⟩
          obtain ⟨kv12, hp12⟩ := P12.dk
          refine ⟨_, rfl, _, rfl, p, l, 9, _, rfl, P12, by omega, by decide, by decide, fun av H13 av0 av1 P13 k13 => ⟨_, _, rfl, rfl, _, rfl, ?_⟩⟩
          have tb12 := tabs_keep k12 hp11 tb11
          have tb13 := tabs_keep k13 hp12 tb12
          have kL : ∀ (x : Addr) xs, H11 x = some (.lst xs) → H13 x = some (.lst xs) := fun x xs e => by
            have e1 := k12 _ _ e (ne_of e hp11 (by intro z; cases z))
            exact k13 _ _ e1 (ne_of e1 hp12 (by intro z; cases z))
          have hX13 := kL _ _ hX11
          have hF13 := kL _ _ hF11
          have tm13 := (tm11.keep k12 hp11).keep k13 hp12
          refine ⟨by show 4 ≤ sizeLine; decide, fun t nt => ⟨by show 1 ≤ sizeLine; decide, fun Y nY => ?_⟩⟩
          have e20 : (10 : Int) ^ (20 : Int).toNat = 10 ^ 20 := rfl
          obtain ⟨q, eq⟩ : ∃ q : Quad, q = (z, 10 ^ 20 + g1v, b + av, (1 + sv) * sg) := ⟨_, rfl⟩
          have qok : QuadOk q := by
            subst eq
            exact { nm := zok, d0 := by show (0 : Int) ≤ 10 ^ 20 + g1v; omega, d1 := by show (10 : Int) ^ 20 + g1v ≤ 10 ^ 30; omega, p0 := by show -(10 ^ 30) ≤ b + av; omega, p1 := by show b + av ≤ 10 ^ 30; omega, s0 := by show -(10 ^ 18) ≤ (1 + sv) * sg; omega, s1 := by show (1 + sv) * sg ≤ 10 ^ 18; omega, sn := by show (1 + sv) * sg ≠ 0; exact stb.2.2 }
          have wt := same_new nt (.tup [.str z, .int (10 ^ (20 : Int).toNat + g1v), .int (b + av), .int ((1 + sv) * sg)])
          have wY := wt.trans (same_new nY (.lst [.ref t]))
          have ht := (same_new nY (.lst [.ref t])) _ _ (upd_same (H := H13) (a := t) (o := .tup [.str z, .int (10 ^ (20 : Int).toNat + g1v), .int (b + av), .int ((1 + sv) * sg)]))
          have t8l := tm8.len
          refine ⟨F, Y, _, _, rfl, rfl, wY _ _ hF13, upd_same, by rw [List.length_map]; exact Nat.le_trans (show ts.length + 1 ≤ 100 by omega) (by decide), fun F' nF' => ?_⟩
          have wF := wY.trans (same_new nF' (.lst (ts.map V.ref ++ [.ref t])))
          have tm1 : Team (upd (upd H13 t (.tup [.str z, .int (10 ^ (20 : Int).toNat + g1v), .int (b + av), .int ((1 + sv) * sg)])) Y (.lst [.ref t])) [t] [q] := team_one (by rw [ht, eq, e20]; rfl) qok
          have sb : ((qs ++ [q]).map (·.1)).Sublist (ss.take (12 + (m + 1))) := by
            rw [tk, List.map_append, eq]
            exact nm8.append (List.Sublist.refl _)
          refine ⟨F', ts ++ [t], qs ++ [q], _, _, rfl, wF _ _ hX13, ?_, (team_app (tm13.same wY) tm1 ((sb.trans (List.take_sublist _ _)).nodup nnd) (by rw [List.length_singleton]; omega)).same (same_new nF' _), sb, by rw [List.length_append]; omega, by rw [List.length_append, List.length_singleton]; omega, (P13.same wF).le (by omega), tabs_same wF tb13⟩
          rw [upd_same, List.map_append]
          rfl
        · exact ⟨F, ts, qs, _, _, rfl, hX9, hF9, tm9, wid, l80, by omega, P9.le (by omega), tb9⟩
      · rintro σ' H8 ⟨F, ts, qs, p10, p11, rfl, hX8, hF8, tm8, nm8, l80, l81, P8, tb8⟩
        have e2 : ((ss.drop 12).map V.str).length = 2 := by rw [List.length_map, l12]
        rw [e2] at l81 P8
        exact ⟨F, ts, qs, _, _, rfl, hF8, tm8, l80, by omega, P8.le (by omega), tb8⟩
    rintro σ' H8 ⟨F, ts, qs, p10, p11, rfl, hF8, tm8, l80, l81, P8, tb8⟩
    obtain ⟨kv8, hp8⟩ := P8.dk
    -- in another order
    refine ⟨_, rfl, _, rfl, p, l, F, ts, qs, _, rfl, P8, by omega, SqL.of hF8, tm8, fun R ts' qs' H9 hR pm tm9 P9 k9 => ?_⟩
    have tb9 := tabs_keep k9 hp8 tb8
    have ln := pm.length_eq
    have okq := tm9.ok
    have d0 := team_d0 tm9
    have tl := tm9.len
    refine ⟨_, rfl, R, ts', qs', rfl, SqL.of hR, tm9, fun g L H10 hg eL s10 => ?_⟩
    refine ⟨_, rfl, R, ts', qs', rfl, SqL.of (s10 _ _ hR), tm9.same s10, fun Ca cs Bn H11 hC cl hc nC s11 => ⟨_, _, rfl, ?_⟩⟩
    have lL : L.length = qs'.length := by rw [← eL, parts_len]
    have few : L.length ≤ 30 := by omega
    have okL : ∀ q ∈ partsOf L, QuadOk q := by rw [eL]; exact okq
    have hg11 := hg.same s11
    have hR11 := s11 _ _ (s10 _ _ hR)
    have tm11 := (tm9.same s10).same s11
    have P11 := (P9.same s10).same s11
    have tb11 := tabs_same s11 (tabs_same s10 tb9)
    refine ⟨_, rfl, g, L, false, rfl, hg11, tb11, fun rs z v H12 hist wf fv e12 tb12 => ?_⟩
    have hR12 := e12 _ _ hR11 nt_lst
    have hC12 := e12 _ _ hC nt_lst
    have tm12 := tm11.extN e12
    have hg12 := hg11.extN e12
    have P12 := P11.extN e12
    have histq := hist
    rw [eL] at histq
    have cag : ∀ j, j < qs'.length → cntR rs j = cnL cs j := cnt_histI d0 histq hc
    have is0 := side_is false histq
    have isT := side_is true histq
    have en0 := ends_big okL hist false
    have enT := ends_big okL hist true
    rw [eL] at en0 enT
    have mm : sideQ true (qs'.map (mvQ (-1) 0 0)) = qs' := mirr_twice
    have rz : RightZ qs' (cntR rs) H12 v := by
      have h := ful_dens okL hist few wf
      rw [eL] at h
      rcases h with ⟨ez, ne⟩ | ⟨de, ⟨ez, al⟩ | ⟨h, ez, h0, h1, nh, ah⟩⟩
      · subst ez
        exact .inl ⟨fv, ne⟩
      · subst ez
        obtain ⟨u, rfl, hu⟩ := fv
        exact .inr ⟨de, .inl ⟨u, rfl, hu, al⟩⟩
      · subst ez
        obtain ⟨u, rfl, hu⟩ := fv
        exact .inr ⟨de, .inr ⟨u, h, rfl, hu, h0, h1, nh, ah⟩⟩
    refine ⟨_, rfl, _, rfl, _, rfl, R, Ca, ts', qs', cs, cntR rs, 10 ^ 69, v, rfl, SqL.of hR12, tm12, hC12, cl, cag, is0, en0, isT, enT, rz, fun H13 s13 => ⟨true, rfl, iteF ?_⟩⟩
    -- from where on all is painted
    refine ⟨fun σ' H' => ∃ x : Int, σ' = [some (.ref a), some (.ref p), some (.int (0 + (i : Int))), some (.ref N), some (.int b), some (.ref G), some (.int rd), some (.ref F1), some (.ref F2), some (.ref R), p10, p11, some (.ref g), some (.ref Ca), some v, some (.int x)] ∧ -(10 ^ 80) ≤ x ∧ x ≤ 10 ^ 80 ∧ (v ≠ .non → ∀ y, x ≤ y → PaintedBy qs' (cntR rs) none y) ∧ H' = H13, ?_, ?_⟩
    · refine ⟨_, rfl, rfl, _, rfl, ?_⟩
      rcases rz with ⟨rfl, _⟩ | ⟨_, ⟨u, rfl, hu, al⟩ | ⟨u, h, rfl, hu, h0, h1, nh, ah⟩⟩
      · exact iteDT rfl (iteT ⟨_, rfl, b, rfl, by omega, by omega, (fun z => absurd rfl z), rfl⟩)
      · have hu13 := s13 _ _ hu
        refine iteDF (fun z => by cases z) ⟨_, rfl, u, _, rfl, .inr (SqT.of hu13), rfl, _, rfl, iteDT rfl ?_⟩
        exact ⟨_, rfl, b, rfl, by omega, by omega, (fun _ y _ => al y), rfl⟩
      · have hu13 := s13 _ _ hu
        refine iteDF (fun z => by cases z) ⟨_, rfl, u, _, rfl, .inr (SqT.of hu13), rfl, _, rfl, iteDF (fun z => by cases z) ?_⟩
        exact ⟨_, rfl, u, _, _, _, rfl, rfl, SqT.of hu13, atI_nat (j := 1) rfl, h + 1, rfl, by omega, by omega, (fun _ y hy => ah y (by omega)), rfl⟩
    rintro σ' H14 ⟨x, rfl, x0, x1, xp, e14⟩
    obtain rfl := e14.symm
    have s13e := LamX.ExtN.of s13
    have hg13 := hg12.same s13
    have tb13 := tabs_same s13 tb12
    have rv := rz_val rz
    -- nothing is free from there on
    refine ⟨fun σ' H' => σ' = [some (.ref a), some (.ref p), some (.int (0 + (i : Int))), some (.ref N), some (.int b), some (.ref G), some (.int rd), some (.ref F1), some (.ref F2), some (.ref R), p10, p11, some (.ref g), some (.ref Ca), some v, some (.int x)] ∧ LamX.ExtN H13 H' ∧ LamX.Tabs T H', ?_, ?_⟩
    · refine ⟨_, rfl, rfl, _, rfl, ?_⟩
      rcases rv with rfl | ⟨u, rfl⟩
      · exact ite_nb (decide_eq_true rfl) (iteF ⟨rfl, LamX.ExtN.of (Same.refl _), tb13⟩)
      · refine ite_nf (decide_eq_false (fun z => by cases z)) ?_
        refine ⟨_, rfl, _, rfl, g, L, x, 0, none, false, rfl, hg13, x0, x1, by decide, by decide, (fun d e => by cases e), tb13, fun rs2 o H15 hist2 raw e15 tb15 => ?_⟩
        have free := raw_says okL hist2 (okL_of okL) (fun d e => by cases e) few raw
        have h2 := hist2
        rw [eL] at h2 free
        obtain rfl := histR_uniq d0 (fSP_sy _) h2 histq
        cases o with
        | none => exact ⟨rfl, _, rfl, ite_nb (decide_eq_true rfl) ⟨rfl, e15, tb15⟩⟩
        | some y => exact absurd (xp (fun z => by cases z) y free.1) free.2.1
    rintro σ' H15 ⟨rfl, e15, tb15⟩
    have hg15 := hg13.extN e15
    -- to the left
    refine ⟨_, rfl, rfl, rfl, g, L, true, rfl, hg15, tb15, fun rs2 z2 v2 H16 hist2 wf2 fv2 e16 tb16 => ?_⟩
    have h2 := hist2
    rw [eL] at h2
    obtain rfl := histR_uniq d0 (fSP_sy _) h2 histq
    refine ⟨fun σ' H' => ∃ v' : V, σ' = [some (.ref a), some (.ref p), some (.int (0 + (i : Int))), some (.ref N), some (.int b), some (.ref G), some (.int rd), some (.ref F1), some (.ref F2), some (.ref R), p10, p11, some (.ref g), some (.ref Ca), some v', some (.int x)] ∧ RightZ (qs'.map (mvQ (-1) 0 0)) (cntR rs2) H' v' ∧ LamX.ExtN H16 H' ∧ LamX.Tabs T H', ?_, ?_⟩
    · have h := ful_dens okL hist2 few wf2
      rw [eL] at h
      have lm : (qs'.map (mvQ (-1) 0 0)).length = qs'.length := List.length_map ..
      refine ⟨_, rfl, rfl, _, rfl, ?_⟩
      rcases h with ⟨ez, ne⟩ | ⟨de, ⟨ez, al⟩ | ⟨h, ez, h0, h1, nh, ah⟩⟩
      · subst ez
        obtain rfl := fv2
        exact ite_nb (decide_eq_true rfl) (iteF ⟨.non, rfl, .inl ⟨rfl, by rw [lm]; exact ne⟩, LamX.ExtN.of (Same.refl _), tb16⟩)
      · subst ez
        obtain ⟨u, rfl, hu⟩ := fv2
        refine ite_nf (decide_eq_false (fun z => by cases z)) ⟨_, rfl, u, _, rfl, .inr (SqT.of hu), rfl, _, rfl, iteDF (fun z => by cases z) ?_⟩
        exact ⟨.ref u, rfl, .inr ⟨by rw [lm]; exact de, .inl ⟨u, rfl, hu, al⟩⟩, LamX.ExtN.of (Same.refl _), tb16⟩
      · subst ez
        obtain ⟨u, rfl, hu⟩ := fv2
        refine ite_nf (decide_eq_false (fun z => by cases z)) ⟨_, rfl, u, _, rfl, .inr (SqT.of hu), rfl, _, rfl, iteDT rfl ?_⟩
        refine ⟨_, rfl, u, _, _, _, rfl, rfl, SqT.of hu, atI_nat (j := 0) rfl, _, rfl, u, _, _, _, rfl, rfl, SqT.of hu, atI_nat (j := 1) rfl, _, _, rfl, rfl, by show 2 ≤ sizeLine; decide, fun t nt => ?_⟩
        have st := same_new nt (.tup [.str "post", .int (0 - (-(h + 1)))])
        have hup : upd H16 t (.tup [.str "post", .int (0 - (-(h + 1)))]) t = some (.tup [.str "post", .int (h + 1)]) := by rw [upd_same, show 0 - -(h + 1) = h + 1 by omega]
        exact ⟨.ref t, rfl, .inr ⟨by rw [lm]; exact de, .inr ⟨t, h, rfl, hup, h0, h1, nh, ah⟩⟩, LamX.ExtN.of st, tabs_same st tb16⟩
    rintro σ' H17 ⟨v', rfl, rz', e17, tb17⟩
    have eA := ((s13e.trans e15).trans e16).trans e17
    have hR17 := eA _ _ hR12 nt_lst
    have hC17 := eA _ _ hC12 nt_lst
    have tm17 := tm12.extN eA
    have P17 := P12.extN eA
    refine ⟨_, rfl, R, ts', qs', rfl, SqL.of hR17, tm17, fun M us H18 hM tmM s18 => ?_⟩
    have lm : (qs'.map (mvQ (-1) 0 0)).length = qs'.length := List.length_map ..
    have m2 : (qs'.map (mvQ (-1) 0 0)).map (mvQ (-1) 0 0) = qs' := mm
    refine ⟨_, rfl, _, rfl, M, Ca, us, qs'.map (mvQ (-1) 0 0), cs, cntR rs2, 10 ^ 69, v', rfl, SqL.of hM, tmM, s18 _ _ hC17, cl.trans lm.symm, (fun j hj => cag j (by rw [lm] at hj; exact hj)), isT, enT, by rw [m2]; exact is0, by rw [m2]; exact en0, rz_ext rz' (LamX.ExtN.of s18), fun H19 s19 => ⟨true, rfl, iteF ?_⟩⟩
    have s1819 := s18.trans s19
    exact ⟨_, _, _, _, _, _, _, _, _, _, _, _, _, _, rfl, (P17.same s1819).le (by omega), tabs_same s1819 tb17⟩
  · rintro σ' H2 ⟨o2, o3, o4, o5, o6, o7, o8, o9, o10, o11, o12, o13, o14, o15, rfl, P2, tb2⟩
    exact q H2
end
end Ur
/-! UrTb: facts for the ends: kits of errors, tables. -/
namespace Ur
open PySem PySem.Spec PyProof.Rows L2
theorem tab_mk {K : PySem.W.Frag} {x : Str} {f c Pt : Addr} {oc e : Value} {od dd : Option Addr} {fd : FuncData} {sl s2 : Array (Option Value)} {vs : Array Value} (a : PySem.W.nsIn K mainGlobals x = some (some (.ref f))) (l : K.lookup f = some ⟨oc, od, .func fd, sl⟩) (r : fd.code = .ref c)
    (v : K.lookup c = some ⟨e, dd, .fields vs, s2⟩) (w : (vs[11]? : Option Value) = some (.ref Pt)) : PySem.W.tabIn K x = some (c, Pt) := by
  unfold PySem.W.tabIn
  rw [a]
  simp only [l, r, v, w]
end Ur
/-! E50: the end. -/
namespace Ur
open PySem PySem.Spec PyProof.Rows L2
theorem all_mk {l : PySem.W.OpenLaw} {w : World} {K : PySem.W.Frag} {h : Heap} {mg : Str → Option Value} {fa : Addr} (X : K.In h) (G : h.Ns mainGlobals mg) (hfa : mg "law" = some (.ref fa))
    {f1 f2 f3 f4 f5 f6 f7 f8 f9 f10 f11 f12 f13 f14 f15 dk15 f16 dk16 f17 f18 f19 f20 f21 f22 f23 f24 f25 f26 f27 f28 f29 f30 f31 f32 f33 f34 f35 f36 f37 f38 f39 dk39 f40 f41 f42 f43 f44 f45 f46 f47 f48 f49 f50 f51 f52 dk52 f53 f54 f55 f56 fL CPainter f57 p58 f58 p59 f59 p60 f60 p61 f61 p62 f62 CFence f63 p64 f64 f65 CHistory f66 p67 f67 fx5 cq__rows_of Pq__rows_of : Addr}
    {od1 an1 od2 an2 od3 an3 od4 an4 od5 an5 od6 an6 od7 an7 od8 an8 od9 an9 od10 an10 od11 an11 od12 an12 od13 an13 od14 an14 od15 an15 od16 an16 od17 an17 od18 an18 od19 an19 od20 an20 od21 an21 od22 an22 od23 an23 od24 an24 od25 an25 od26 an26 od27 an27 od28 an28 od29 an29 od30 an30 od31 an31 od32 an32 od33 an33 od34 an34 od35 an35 od36 an36 od37 an37 od38 an38 od39 an39 od40 an40 od41 an41 od42 an42 od43 an43 od44 an44 od45 an45 od46 an46 od47 an47 od48 an48 od49 an49 od50 an50 od51 an51 od52 an52 od53 an53 od54 an54 od55 an55 od56 an56 odL anL od57 an57 od58 an58 od59 an59 od60 an60 od61 an61 od62 an62 od63 an63 od64 an64 od65 an65 od66 an66 od67 an67 d20q : Option Addr}
    {sl1 sl2 sl3 sl4 sl5 sl6 sl7 sl8 sl9 sl10 sl11 sl12 sl13 sl14 sl15 sl16 sl17 sl18 sl19 sl20 sl21 sl22 sl23 sl24 sl25 sl26 sl27 sl28 sl29 sl30 sl31 sl32 sl33 sl34 sl35 sl36 sl37 sl38 sl39 sl40 sl41 sl42 sl43 sl44 sl45 sl46 sl47 sl48 sl49 sl50 sl51 sl52 sl53 sl54 sl55 sl56 slL sl57 sl58 sl59 sl60 sl61 sl62 sl63 sl64 sl65 sl66 sl67 s20q : Array (Option Value)}
    {oc1 kV1 dc1 pm1 cd1 ct1 oc2 kV2 dc2 pm2 cd2 ct2 oc3 kV3 dc3 pm3 cd3 ct3 oc4 kV4 dc4 pm4 cd4 ct4 oc5 kV5 dc5 pm5 cd5 ct5 oc6 kV6 dc6 pm6 cd6 ct6 oc7 kV7 dc7 pm7 cd7 ct7 oc8 kV8 dc8 pm8 cd8 ct8 oc9 kV9 dc9 pm9 cd9 ct9 oc10 kV10 dc10 pm10 cd10 ct10 oc11 kV11 dc11 pm11 cd11 ct11 oc12 kV12 dc12 pm12 cd12 ct12 oc13 kV13 dc13 pm13 cd13 ct13 oc14 kV14 dc14 pm14 cd14 ct14 oc15 dc15 pm15 cd15 ct15 uk15_0 uk15_1 uk15_2 oc16 dc16 pm16 cd16 ct16 uk16_0 uk16_1 oc17 kV17 dc17 pm17 cd17 ct17 oc18 kV18 dc18 pm18 cd18 ct18 oc19 kV19 dc19 pm19 cd19 ct19 oc20 kV20 dc20 pm20 cd20 ct20 oc21 kV21 dc21 pm21 cd21 ct21 oc22 kV22 dc22 pm22 cd22 ct22 oc23 kV23 dc23 pm23 cd23 ct23 oc24 kV24 dc24 pm24 cd24 ct24 oc25 kV25 dc25 pm25 cd25 ct25 oc26 kV26 dc26 pm26 cd26 ct26 oc27 kV27 dc27 pm27 cd27 ct27 oc28 kV28 dc28 pm28 cd28 ct28 oc29 kV29 dc29 pm29 cd29 ct29 oc30 kV30 dc30 pm30 cd30 ct30 oc31 kV31 dc31 pm31 cd31 ct31 oc32 kV32 dc32 pm32 cd32 ct32 oc33 kV33 dc33 pm33 cd33 ct33 oc34 kV34 dc34 pm34 cd34 ct34 oc35 kV35 dc35 pm35 cd35 ct35 oc36 kV36 dc36 pm36 cd36 ct36 oc37 kV37 dc37 pm37 cd37 ct37 oc38 kV38 dc38 pm38 cd38 ct38 oc39 dc39 pm39 cd39 ct39 uk39_0 oc40 kV40 dc40 pm40 cd40 ct40 oc41 kV41 dc41 pm41 cd41 ct41 oc42 kV42 dc42 pm42 cd42 ct42 oc43 kV43 dc43 pm43 cd43 ct43 oc44 kV44 dc44 pm44 cd44 ct44 oc45 kV45 dc45 pm45 cd45 ct45 oc46 kV46 dc46 pm46 cd46 ct46 oc47 kV47 dc47 pm47 cd47 ct47 oc48 kV48 dc48 pm48 cd48 ct48 oc49 kV49 dc49 pm49 cd49 ct49 oc50 kV50 dc50 pm50 cd50 ct50 oc51 kV51 dc51 pm51 cd51 ct51 oc52 dc52 pm52 cd52 ct52 uk52_0 uk52_1 oc53 kV53 dc53 pm53 cd53 ct53 oc54 kV54 dc54 pm54 cd54 ct54 oc55 kV55 dc55 pm55 cd55 ct55 oc56 kV56 dc56 pm56 cd56 ct56 ocL kVL dcL pmL cdL ctL uPainterMAX_DAY uPainterMAX_POST uPainterMAX_STRIDE oc57 kV57 dc57 pm57 cd57 ct57 oc58 kV58 dc58 pm58 cd58 ct58 oc59 kV59 dc59 pm59 cd59 ct59 oc60 kV60 dc60 pm60 cd60 ct60 oc61 kV61 dc61 pm61 cd61 ct61 oc62 kV62 dc62 pm62 cd62 ct62 oc63 kV63 dc63 pm63 cd63 ct63 oc64 kV64 dc64 pm64 cd64 ct64 oc65 kV65 dc65 pm65 cd65 ct65 oc66 kV66 dc66 pm66 cd66 ct66 oc67 kV67 dc67 pm67 cd67 ct67 e20q vgMAX_ARGUMENT vgMAX_PAINTERS vgWINDOW : Value}
    {r58 r59 r60 r61 r62 r64 r67 : List Value}
    {v20q : Array Value}
    (a1 : PySem.W.nsIn K mainGlobals "_law_pen" = some (some (.ref f1)))
    (l1 : K.lookup f1 = some ⟨oc1, od1, .func (PySem.W.fnOf "_law_pen" "_law_pen" (defArgs s__law_pen) (defBody s__law_pen) (defScope s__law_pen) .none kV1 dc1 pm1 an1 cd1 ct1), sl1⟩)
    (c1 : PySem.W.codeIn K cd1 "_law_pen" = true)
    (k1 : PySem.W.keepIn K (.ref f1) = true)
    (a2 : PySem.W.nsIn K mainGlobals "_law_draw" = some (some (.ref f2)))
    (l2 : K.lookup f2 = some ⟨oc2, od2, .func (PySem.W.fnOf "_law_draw" "_law_draw" (defArgs s__law_draw) (defBody s__law_draw) (defScope s__law_draw) .none kV2 dc2 pm2 an2 cd2 ct2), sl2⟩)
    (c2 : PySem.W.codeIn K cd2 "_law_draw" = true)
    (k2 : PySem.W.keepIn K (.ref f2) = true)
    (a3 : PySem.W.nsIn K mainGlobals "_law_pick" = some (some (.ref f3)))
    (l3 : K.lookup f3 = some ⟨oc3, od3, .func (PySem.W.fnOf "_law_pick" "_law_pick" (defArgs s__law_pick) (defBody s__law_pick) (defScope s__law_pick) .none kV3 dc3 pm3 an3 cd3 ct3), sl3⟩)
    (c3 : PySem.W.codeIn K cd3 "_law_pick" = true)
    (k3 : PySem.W.keepIn K (.ref f3) = true)
    (a4 : PySem.W.nsIn K mainGlobals "_law_around" = some (some (.ref f4)))
    (l4 : K.lookup f4 = some ⟨oc4, od4, .func (PySem.W.fnOf "_law_around" "_law_around" (defArgs s__law_around) (defBody s__law_around) (defScope s__law_around) .none kV4 dc4 pm4 an4 cd4 ct4), sl4⟩)
    (c4 : PySem.W.codeIn K cd4 "_law_around" = true)
    (k4 : PySem.W.keepIn K (.ref f4) = true)
    (a5 : PySem.W.nsIn K mainGlobals "_law_power" = some (some (.ref f5)))
    (l5 : K.lookup f5 = some ⟨oc5, od5, .func (PySem.W.fnOf "_law_power" "_law_power" (defArgs s__law_power) (defBody s__law_power) (defScope s__law_power) .none kV5 dc5 pm5 an5 cd5 ct5), sl5⟩)
    (c5 : PySem.W.codeIn K cd5 "_law_power" = true)
    (k5 : PySem.W.keepIn K (.ref f5) = true)
    (a6 : PySem.W.nsIn K mainGlobals "_law_great" = some (some (.ref f6)))
    (l6 : K.lookup f6 = some ⟨oc6, od6, .func (PySem.W.fnOf "_law_great" "_law_great" (defArgs s__law_great) (defBody s__law_great) (defScope s__law_great) .none kV6 dc6 pm6 an6 cd6 ct6), sl6⟩)
    (c6 : PySem.W.codeIn K cd6 "_law_great" = true)
    (k6 : PySem.W.keepIn K (.ref f6) = true)
    (a7 : PySem.W.nsIn K mainGlobals "_law_names" = some (some (.ref f7)))
    (l7 : K.lookup f7 = some ⟨oc7, od7, .func (PySem.W.fnOf "_law_names" "_law_names" (defArgs s__law_names) (defBody s__law_names) (defScope s__law_names) .none kV7 dc7 pm7 an7 cd7 ct7), sl7⟩)
    (c7 : PySem.W.codeIn K cd7 "_law_names" = true)
    (k7 : PySem.W.keepIn K (.ref f7) = true)
    (a8 : PySem.W.nsIn K mainGlobals "_law_fence" = some (some (.ref f8)))
    (l8 : K.lookup f8 = some ⟨oc8, od8, .func (PySem.W.fnOf "_law_fence" "_law_fence" (defArgs s__law_fence) (defBody s__law_fence) (defScope s__law_fence) .none kV8 dc8 pm8 an8 cd8 ct8), sl8⟩)
    (c8 : PySem.W.codeIn K cd8 "_law_fence" = true)
    (k8 : PySem.W.keepIn K (.ref f8) = true)
    (a9 : PySem.W.nsIn K mainGlobals "is_integer" = some (some (.ref f9)))
    (l9 : K.lookup f9 = some ⟨oc9, od9, .func (PySem.W.fnOf "is_integer" "is_integer" (defArgs s_is_integer) (defBody s_is_integer) (defScope s_is_integer) .none kV9 dc9 pm9 an9 cd9 ct9), sl9⟩)
    (c9 : PySem.W.codeIn K cd9 "is_integer" = true)
    (k9 : PySem.W.keepIn K (.ref f9) = true)
    (a10 : PySem.W.nsIn K mainGlobals "is_between" = some (some (.ref f10)))
    (l10 : K.lookup f10 = some ⟨oc10, od10, .func (PySem.W.fnOf "is_between" "is_between" (defArgs s_is_between) (defBody s_is_between) (defScope s_is_between) .none kV10 dc10 pm10 an10 cd10 ct10), sl10⟩)
    (c10 : PySem.W.codeIn K cd10 "is_between" = true)
    (k10 : PySem.W.keepIn K (.ref f10) = true)
    (a11 : PySem.W.nsIn K mainGlobals "check_count" = some (some (.ref f11)))
    (l11 : K.lookup f11 = some ⟨oc11, od11, .func (PySem.W.fnOf "check_count" "check_count" (defArgs s_check_count) (defBody s_check_count) (defScope s_check_count) .none kV11 dc11 pm11 an11 cd11 ct11), sl11⟩)
    (c11 : PySem.W.codeIn K cd11 "check_count" = true)
    (k11 : PySem.W.keepIn K (.ref f11) = true)
    (a12 : PySem.W.nsIn K mainGlobals "divisor_and_factor" = some (some (.ref f12)))
    (l12 : K.lookup f12 = some ⟨oc12, od12, .func (PySem.W.fnOf "divisor_and_factor" "divisor_and_factor" (defArgs s_divisor_and_factor) (defBody s_divisor_and_factor) (defScope s_divisor_and_factor) .none kV12 dc12 pm12 an12 cd12 ct12), sl12⟩)
    (c12 : PySem.W.codeIn K cd12 "divisor_and_factor" = true)
    (k12 : PySem.W.keepIn K (.ref f12) = true)
    (a13 : PySem.W.nsIn K mainGlobals "common_numbers" = some (some (.ref f13)))
    (l13 : K.lookup f13 = some ⟨oc13, od13, .func (PySem.W.fnOf "common_numbers" "common_numbers" (defArgs s_common_numbers) (defBody s_common_numbers) (defScope s_common_numbers) .none kV13 dc13 pm13 an13 cd13 ct13), sl13⟩)
    (c13 : PySem.W.codeIn K cd13 "common_numbers" = true)
    (k13 : PySem.W.keepIn K (.ref f13) = true)
    (a14 : PySem.W.nsIn K mainGlobals "_span_of" = some (some (.ref f14)))
    (l14 : K.lookup f14 = some ⟨oc14, od14, .func (PySem.W.fnOf "_span_of" "_span_of" (defArgs s__span_of) (defBody s__span_of) (defScope s__span_of) .none kV14 dc14 pm14 an14 cd14 ct14), sl14⟩)
    (c14 : PySem.W.codeIn K cd14 "_span_of" = true)
    (k14 : PySem.W.keepIn K (.ref f14) = true)
    (a15 : PySem.W.nsIn K mainGlobals "crossing" = some (some (.ref f15)))
    (l15 : K.lookup f15 = some ⟨oc15, od15, .func (PySem.W.fnOf "crossing" "crossing" (defArgs s_crossing) (defBody s_crossing) (defScope s_crossing) .none (.ref dk15) dc15 pm15 an15 cd15 ct15), sl15⟩)
    (c15 : PySem.W.codeIn K cd15 "crossing" = true)
    (k15 : PySem.W.keepIn K (.ref f15) = true)
    (q15_0 : PySem.W.nsIn K dk15 "count" = some (some uk15_0))
    (s15_0 : L2.RelV (.non) uk15_0)
    (q15_1 : PySem.W.nsIn K dk15 "other_count" = some (some uk15_1))
    (s15_1 : L2.RelV (.non) uk15_1)
    (q15_2 : PySem.W.nsIn K dk15 "lead" = some (some uk15_2))
    (s15_2 : L2.RelV (.non) uk15_2)
    (a16 : PySem.W.nsIn K mainGlobals "first_block" = some (some (.ref f16)))
    (l16 : K.lookup f16 = some ⟨oc16, od16, .func (PySem.W.fnOf "first_block" "first_block" (defArgs s_first_block) (defBody s_first_block) (defScope s_first_block) .none (.ref dk16) dc16 pm16 an16 cd16 ct16), sl16⟩)
    (c16 : PySem.W.codeIn K cd16 "first_block" = true)
    (k16 : PySem.W.keepIn K (.ref f16) = true)
    (q16_0 : PySem.W.nsIn K dk16 "count" = some (some uk16_0))
    (s16_0 : L2.RelV (.non) uk16_0)
    (q16_1 : PySem.W.nsIn K dk16 "is_earlier" = some (some uk16_1))
    (s16_1 : L2.RelV (.bl false) uk16_1)
    (a17 : PySem.W.nsIn K mainGlobals "rows_by" = some (some (.ref f17)))
    (l17 : K.lookup f17 = some ⟨oc17, od17, .func (PySem.W.fnOf "rows_by" "rows_by" (defArgs s_rows_by) (defBody s_rows_by) (defScope s_rows_by) .none kV17 dc17 pm17 an17 cd17 ct17), sl17⟩)
    (c17 : PySem.W.codeIn K cd17 "rows_by" = true)
    (k17 : PySem.W.keepIn K (.ref f17) = true)
    (a18 : PySem.W.nsIn K mainGlobals "_find_stopped" = some (some (.ref f18)))
    (l18 : K.lookup f18 = some ⟨oc18, od18, .func (PySem.W.fnOf "_find_stopped" "_find_stopped" (defArgs s__find_stopped) (defBody s__find_stopped) (defScope s__find_stopped) .none kV18 dc18 pm18 an18 cd18 ct18), sl18⟩)
    (c18 : PySem.W.codeIn K cd18 "_find_stopped" = true)
    (k18 : PySem.W.keepIn K (.ref f18) = true)
    (a19 : PySem.W.nsIn K mainGlobals "_earliest_block" = some (some (.ref f19)))
    (l19 : K.lookup f19 = some ⟨oc19, od19, .func (PySem.W.fnOf "_earliest_block" "_earliest_block" (defArgs s__earliest_block) (defBody s__earliest_block) (defScope s__earliest_block) .none kV19 dc19 pm19 an19 cd19 ct19), sl19⟩)
    (c19 : PySem.W.codeIn K cd19 "_earliest_block" = true)
    (k19 : PySem.W.keepIn K (.ref f19) = true)
    (a20 : PySem.W.nsIn K mainGlobals "_rows_of" = some (some (.ref f20)))
    (l20 : K.lookup f20 = some ⟨oc20, od20, .func (PySem.W.fnOf "_rows_of" "_rows_of" (defArgs s__rows_of) (defBody s__rows_of) (defScope s__rows_of) .none kV20 dc20 pm20 an20 cd20 ct20), sl20⟩)
    (c20 : PySem.W.codeIn K cd20 "_rows_of" = true)
    (k20 : PySem.W.keepIn K (.ref f20) = true)
    (a21 : PySem.W.nsIn K mainGlobals "_block" = some (some (.ref f21)))
    (l21 : K.lookup f21 = some ⟨oc21, od21, .func (PySem.W.fnOf "_block" "_block" (defArgs s__block) (defBody s__block) (defScope s__block) .none kV21 dc21 pm21 an21 cd21 ct21), sl21⟩)
    (c21 : PySem.W.codeIn K cd21 "_block" = true)
    (k21 : PySem.W.keepIn K (.ref f21) = true)
    (a22 : PySem.W.nsIn K mainGlobals "painted_counts" = some (some (.ref f22)))
    (l22 : K.lookup f22 = some ⟨oc22, od22, .func (PySem.W.fnOf "painted_counts" "painted_counts" (defArgs s_painted_counts) (defBody s_painted_counts) (defScope s_painted_counts) .none kV22 dc22 pm22 an22 cd22 ct22), sl22⟩)
    (c22 : PySem.W.codeIn K cd22 "painted_counts" = true)
    (k22 : PySem.W.keepIn K (.ref f22) = true)
    (a23 : PySem.W.nsIn K mainGlobals "counts_by" = some (some (.ref f23)))
    (l23 : K.lookup f23 = some ⟨oc23, od23, .func (PySem.W.fnOf "counts_by" "counts_by" (defArgs s_counts_by) (defBody s_counts_by) (defScope s_counts_by) .none kV23 dc23 pm23 an23 cd23 ct23), sl23⟩)
    (c23 : PySem.W.codeIn K cd23 "counts_by" = true)
    (k23 : PySem.W.keepIn K (.ref f23) = true)
    (a24 : PySem.W.nsIn K mainGlobals "runs_of" = some (some (.ref f24)))
    (l24 : K.lookup f24 = some ⟨oc24, od24, .func (PySem.W.fnOf "runs_of" "runs_of" (defArgs s_runs_of) (defBody s_runs_of) (defScope s_runs_of) .none kV24 dc24 pm24 an24 cd24 ct24), sl24⟩)
    (c24 : PySem.W.codeIn K cd24 "runs_of" = true)
    (k24 : PySem.W.keepIn K (.ref f24) = true)
    (a25 : PySem.W.nsIn K mainGlobals "painted_runs" = some (some (.ref f25)))
    (l25 : K.lookup f25 = some ⟨oc25, od25, .func (PySem.W.fnOf "painted_runs" "painted_runs" (defArgs s_painted_runs) (defBody s_painted_runs) (defScope s_painted_runs) .none kV25 dc25 pm25 an25 cd25 ct25), sl25⟩)
    (c25 : PySem.W.codeIn K cd25 "painted_runs" = true)
    (k25 : PySem.W.keepIn K (.ref f25) = true)
    (a26 : PySem.W.nsIn K mainGlobals "without" = some (some (.ref f26)))
    (l26 : K.lookup f26 = some ⟨oc26, od26, .func (PySem.W.fnOf "without" "without" (defArgs s_without) (defBody s_without) (defScope s_without) .none kV26 dc26 pm26 an26 cd26 ct26), sl26⟩)
    (c26 : PySem.W.codeIn K cd26 "without" = true)
    (k26 : PySem.W.keepIn K (.ref f26) = true)
    (a27 : PySem.W.nsIn K mainGlobals "weighted" = some (some (.ref f27)))
    (l27 : K.lookup f27 = some ⟨oc27, od27, .func (PySem.W.fnOf "weighted" "weighted" (defArgs s_weighted) (defBody s_weighted) (defScope s_weighted) .none kV27 dc27 pm27 an27 cd27 ct27), sl27⟩)
    (c27 : PySem.W.codeIn K cd27 "weighted" = true)
    (k27 : PySem.W.keepIn K (.ref f27) = true)
    (a28 : PySem.W.nsIn K mainGlobals "mirrored" = some (some (.ref f28)))
    (l28 : K.lookup f28 = some ⟨oc28, od28, .func (PySem.W.fnOf "mirrored" "mirrored" (defArgs s_mirrored) (defBody s_mirrored) (defScope s_mirrored) .none kV28 dc28 pm28 an28 cd28 ct28), sl28⟩)
    (c28 : PySem.W.codeIn K cd28 "mirrored" = true)
    (k28 : PySem.W.keepIn K (.ref f28) = true)
    (a29 : PySem.W.nsIn K mainGlobals "far_post" = some (some (.ref f29)))
    (l29 : K.lookup f29 = some ⟨oc29, od29, .func (PySem.W.fnOf "far_post" "far_post" (defArgs s_far_post) (defBody s_far_post) (defScope s_far_post) .none kV29 dc29 pm29 an29 cd29 ct29), sl29⟩)
    (c29 : PySem.W.codeIn K cd29 "far_post" = true)
    (k29 : PySem.W.keepIn K (.ref f29) = true)
    (a30 : PySem.W.nsIn K mainGlobals "post_at" = some (some (.ref f30)))
    (l30 : K.lookup f30 = some ⟨oc30, od30, .func (PySem.W.fnOf "post_at" "post_at" (defArgs s_post_at) (defBody s_post_at) (defScope s_post_at) .none kV30 dc30 pm30 an30 cd30 ct30), sl30⟩)
    (c30 : PySem.W.codeIn K cd30 "post_at" = true)
    (k30 : PySem.W.keepIn K (.ref f30) = true)
    (a31 : PySem.W.nsIn K mainGlobals "_post_to_the_right" = some (some (.ref f31)))
    (l31 : K.lookup f31 = some ⟨oc31, od31, .func (PySem.W.fnOf "_post_to_the_right" "_post_to_the_right" (defArgs s__post_to_the_right) (defBody s__post_to_the_right) (defScope s__post_to_the_right) .none kV31 dc31 pm31 an31 cd31 ct31), sl31⟩)
    (c31 : PySem.W.codeIn K cd31 "_post_to_the_right" = true)
    (k31 : PySem.W.keepIn K (.ref f31) = true)
    (a32 : PySem.W.nsIn K mainGlobals "count_between" = some (some (.ref f32)))
    (l32 : K.lookup f32 = some ⟨oc32, od32, .func (PySem.W.fnOf "count_between" "count_between" (defArgs s_count_between) (defBody s_count_between) (defScope s_count_between) .none kV32 dc32 pm32 an32 cd32 ct32), sl32⟩)
    (c32 : PySem.W.codeIn K cd32 "count_between" = true)
    (k32 : PySem.W.keepIn K (.ref f32) = true)
    (a33 : PySem.W.nsIn K mainGlobals "_many_between" = some (some (.ref f33)))
    (l33 : K.lookup f33 = some ⟨oc33, od33, .func (PySem.W.fnOf "_many_between" "_many_between" (defArgs s__many_between) (defBody s__many_between) (defScope s__many_between) .none kV33 dc33 pm33 an33 cd33 ct33), sl33⟩)
    (c33 : PySem.W.codeIn K cd33 "_many_between" = true)
    (k33 : PySem.W.keepIn K (.ref f33) = true)
    (a34 : PySem.W.nsIn K mainGlobals "numbers_between" = some (some (.ref f34)))
    (l34 : K.lookup f34 = some ⟨oc34, od34, .func (PySem.W.fnOf "numbers_between" "numbers_between" (defArgs s_numbers_between) (defBody s_numbers_between) (defScope s_numbers_between) .none kV34 dc34 pm34 an34 cd34 ct34), sl34⟩)
    (c34 : PySem.W.codeIn K cd34 "numbers_between" = true)
    (k34 : PySem.W.keepIn K (.ref f34) = true)
    (a35 : PySem.W.nsIn K mainGlobals "_law_opposite" = some (some (.ref f35)))
    (l35 : K.lookup f35 = some ⟨oc35, od35, .func (PySem.W.fnOf "_law_opposite" "_law_opposite" (defArgs s__law_opposite) (defBody s__law_opposite) (defScope s__law_opposite) .none kV35 dc35 pm35 an35 cd35 ct35), sl35⟩)
    (c35 : PySem.W.codeIn K cd35 "_law_opposite" = true)
    (k35 : PySem.W.keepIn K (.ref f35) = true)
    (a36 : PySem.W.nsIn K mainGlobals "_law_shuffled" = some (some (.ref f36)))
    (l36 : K.lookup f36 = some ⟨oc36, od36, .func (PySem.W.fnOf "_law_shuffled" "_law_shuffled" (defArgs s__law_shuffled) (defBody s__law_shuffled) (defScope s__law_shuffled) .none kV36 dc36 pm36 an36 cd36 ct36), sl36⟩)
    (c36 : PySem.W.codeIn K cd36 "_law_shuffled" = true)
    (k36 : PySem.W.keepIn K (.ref f36) = true)
    (a37 : PySem.W.nsIn K mainGlobals "_law_cover" = some (some (.ref f37)))
    (l37 : K.lookup f37 = some ⟨oc37, od37, .func (PySem.W.fnOf "_law_cover" "_law_cover" (defArgs s__law_cover) (defBody s__law_cover) (defScope s__law_cover) .none kV37 dc37 pm37 an37 cd37 ct37), sl37⟩)
    (c37 : PySem.W.codeIn K cd37 "_law_cover" = true)
    (k37 : PySem.W.keepIn K (.ref f37) = true)
    (a38 : PySem.W.nsIn K mainGlobals "_law_covering" = some (some (.ref f38)))
    (l38 : K.lookup f38 = some ⟨oc38, od38, .func (PySem.W.fnOf "_law_covering" "_law_covering" (defArgs s__law_covering) (defBody s__law_covering) (defScope s__law_covering) .none kV38 dc38 pm38 an38 cd38 ct38), sl38⟩)
    (c38 : PySem.W.codeIn K cd38 "_law_covering" = true)
    (k38 : PySem.W.keepIn K (.ref f38) = true)
    (a39 : PySem.W.nsIn K mainGlobals "full_from" = some (some (.ref f39)))
    (l39 : K.lookup f39 = some ⟨oc39, od39, .func (PySem.W.fnOf "full_from" "full_from" (defArgs s_full_from) (defBody s_full_from) (defScope s_full_from) .none (.ref dk39) dc39 pm39 an39 cd39 ct39), sl39⟩)
    (c39 : PySem.W.codeIn K cd39 "full_from" = true)
    (k39 : PySem.W.keepIn K (.ref f39) = true)
    (q39_0 : PySem.W.nsIn K dk39 "left" = some (some uk39_0))
    (s39_0 : L2.RelV (.bl false) uk39_0)
    (a40 : PySem.W.nsIn K mainGlobals "_law_inverse" = some (some (.ref f40)))
    (l40 : K.lookup f40 = some ⟨oc40, od40, .func (PySem.W.fnOf "_law_inverse" "_law_inverse" (defArgs s__law_inverse) (defBody s__law_inverse) (defScope s__law_inverse) .none kV40 dc40 pm40 an40 cd40 ct40), sl40⟩)
    (c40 : PySem.W.codeIn K cd40 "_law_inverse" = true)
    (k40 : PySem.W.keepIn K (.ref f40) = true)
    (a41 : PySem.W.nsIn K mainGlobals "_law_gcd" = some (some (.ref f41)))
    (l41 : K.lookup f41 = some ⟨oc41, od41, .func (PySem.W.fnOf "_law_gcd" "_law_gcd" (defArgs s__law_gcd) (defBody s__law_gcd) (defScope s__law_gcd) .none kV41 dc41 pm41 an41 cd41 ct41), sl41⟩)
    (c41 : PySem.W.codeIn K cd41 "_law_gcd" = true)
    (k41 : PySem.W.keepIn K (.ref f41) = true)
    (a42 : PySem.W.nsIn K mainGlobals "_law_common" = some (some (.ref f42)))
    (l42 : K.lookup f42 = some ⟨oc42, od42, .func (PySem.W.fnOf "_law_common" "_law_common" (defArgs s__law_common) (defBody s__law_common) (defScope s__law_common) .none kV42 dc42 pm42 an42 cd42 ct42), sl42⟩)
    (c42 : PySem.W.codeIn K cd42 "_law_common" = true)
    (k42 : PySem.W.keepIn K (.ref f42) = true)
    (a43 : PySem.W.nsIn K mainGlobals "_law_first" = some (some (.ref f43)))
    (l43 : K.lookup f43 = some ⟨oc43, od43, .func (PySem.W.fnOf "_law_first" "_law_first" (defArgs s__law_first) (defBody s__law_first) (defScope s__law_first) .none kV43 dc43 pm43 an43 cd43 ct43), sl43⟩)
    (c43 : PySem.W.codeIn K cd43 "_law_first" = true)
    (k43 : PySem.W.keepIn K (.ref f43) = true)
    (a44 : PySem.W.nsIn K mainGlobals "_law_pairs" = some (some (.ref f44)))
    (l44 : K.lookup f44 = some ⟨oc44, od44, .func (PySem.W.fnOf "_law_pairs" "_law_pairs" (defArgs s__law_pairs) (defBody s__law_pairs) (defScope s__law_pairs) .none kV44 dc44 pm44 an44 cd44 ct44), sl44⟩)
    (c44 : PySem.W.codeIn K cd44 "_law_pairs" = true)
    (k44 : PySem.W.keepIn K (.ref f44) = true)
    (a45 : PySem.W.nsIn K mainGlobals "_law_next" = some (some (.ref f45)))
    (l45 : K.lookup f45 = some ⟨oc45, od45, .func (PySem.W.fnOf "_law_next" "_law_next" (defArgs s__law_next) (defBody s__law_next) (defScope s__law_next) .none kV45 dc45 pm45 an45 cd45 ct45), sl45⟩)
    (c45 : PySem.W.codeIn K cd45 "_law_next" = true)
    (k45 : PySem.W.keepIn K (.ref f45) = true)
    (a46 : PySem.W.nsIn K mainGlobals "_law_history" = some (some (.ref f46)))
    (l46 : K.lookup f46 = some ⟨oc46, od46, .func (PySem.W.fnOf "_law_history" "_law_history" (defArgs s__law_history) (defBody s__law_history) (defScope s__law_history) .none kV46 dc46 pm46 an46 cd46 ct46), sl46⟩)
    (c46 : PySem.W.codeIn K cd46 "_law_history" = true)
    (k46 : PySem.W.keepIn K (.ref f46) = true)
    (a47 : PySem.W.nsIn K mainGlobals "_law_is_painted" = some (some (.ref f47)))
    (l47 : K.lookup f47 = some ⟨oc47, od47, .func (PySem.W.fnOf "_law_is_painted" "_law_is_painted" (defArgs s__law_is_painted) (defBody s__law_is_painted) (defScope s__law_is_painted) .none kV47 dc47 pm47 an47 cd47 ct47), sl47⟩)
    (c47 : PySem.W.codeIn K cd47 "_law_is_painted" = true)
    (k47 : PySem.W.keepIn K (.ref f47) = true)
    (a48 : PySem.W.nsIn K mainGlobals "_law_number" = some (some (.ref f48)))
    (l48 : K.lookup f48 = some ⟨oc48, od48, .func (PySem.W.fnOf "_law_number" "_law_number" (defArgs s__law_number) (defBody s__law_number) (defScope s__law_number) .none kV48 dc48 pm48 an48 cd48 ct48), sl48⟩)
    (c48 : PySem.W.codeIn K cd48 "_law_number" = true)
    (k48 : PySem.W.keepIn K (.ref f48) = true)
    (a49 : PySem.W.nsIn K mainGlobals "_law_shares" = some (some (.ref f49)))
    (l49 : K.lookup f49 = some ⟨oc49, od49, .func (PySem.W.fnOf "_law_shares" "_law_shares" (defArgs s__law_shares) (defBody s__law_shares) (defScope s__law_shares) .none kV49 dc49 pm49 an49 cd49 ct49), sl49⟩)
    (c49 : PySem.W.codeIn K cd49 "_law_shares" = true)
    (k49 : PySem.W.keepIn K (.ref f49) = true)
    (a50 : PySem.W.nsIn K mainGlobals "_law_is_whole" = some (some (.ref f50)))
    (l50 : K.lookup f50 = some ⟨oc50, od50, .func (PySem.W.fnOf "_law_is_whole" "_law_is_whole" (defArgs s__law_is_whole) (defBody s__law_is_whole) (defScope s__law_is_whole) .none kV50 dc50 pm50 an50 cd50 ct50), sl50⟩)
    (c50 : PySem.W.codeIn K cd50 "_law_is_whole" = true)
    (k50 : PySem.W.keepIn K (.ref f50) = true)
    (a51 : PySem.W.nsIn K mainGlobals "_law_is_right" = some (some (.ref f51)))
    (l51 : K.lookup f51 = some ⟨oc51, od51, .func (PySem.W.fnOf "_law_is_right" "_law_is_right" (defArgs s__law_is_right) (defBody s__law_is_right) (defScope s__law_is_right) .none kV51 dc51 pm51 an51 cd51 ct51), sl51⟩)
    (c51 : PySem.W.codeIn K cd51 "_law_is_right" = true)
    (k51 : PySem.W.keepIn K (.ref f51) = true)
    (a52 : PySem.W.nsIn K mainGlobals "unpainted_from" = some (some (.ref f52)))
    (l52 : K.lookup f52 = some ⟨oc52, od52, .func (PySem.W.fnOf "unpainted_from" "unpainted_from" (defArgs s_unpainted_from) (defBody s_unpainted_from) (defScope s_unpainted_from) .none (.ref dk52) dc52 pm52 an52 cd52 ct52), sl52⟩)
    (c52 : PySem.W.codeIn K cd52 "unpainted_from" = true)
    (k52 : PySem.W.keepIn K (.ref f52) = true)
    (q52_0 : PySem.W.nsIn K dk52 "day" = some (some uk52_0))
    (s52_0 : L2.RelV (.non) uk52_0)
    (q52_1 : PySem.W.nsIn K dk52 "left" = some (some uk52_1))
    (s52_1 : L2.RelV (.bl false) uk52_1)
    (a53 : PySem.W.nsIn K mainGlobals "check_place" = some (some (.ref f53)))
    (l53 : K.lookup f53 = some ⟨oc53, od53, .func (PySem.W.fnOf "check_place" "check_place" (defArgs s_check_place) (defBody s_check_place) (defScope s_check_place) .none kV53 dc53 pm53 an53 cd53 ct53), sl53⟩)
    (c53 : PySem.W.codeIn K cd53 "check_place" = true)
    (k53 : PySem.W.keepIn K (.ref f53) = true)
    (a54 : PySem.W.nsIn K mainGlobals "check_post" = some (some (.ref f54)))
    (l54 : K.lookup f54 = some ⟨oc54, od54, .func (PySem.W.fnOf "check_post" "check_post" (defArgs s_check_post) (defBody s_check_post) (defScope s_check_post) .none kV54 dc54 pm54 an54 cd54 ct54), sl54⟩)
    (c54 : PySem.W.codeIn K cd54 "check_post" = true)
    (k54 : PySem.W.keepIn K (.ref f54) = true)
    (a55 : PySem.W.nsIn K mainGlobals "check_day" = some (some (.ref f55)))
    (l55 : K.lookup f55 = some ⟨oc55, od55, .func (PySem.W.fnOf "check_day" "check_day" (defArgs s_check_day) (defBody s_check_day) (defScope s_check_day) .none kV55 dc55 pm55 an55 cd55 ct55), sl55⟩)
    (c55 : PySem.W.codeIn K cd55 "check_day" = true)
    (k55 : PySem.W.keepIn K (.ref f55) = true)
    (a56 : PySem.W.nsIn K mainGlobals "check_day_or_none" = some (some (.ref f56)))
    (l56 : K.lookup f56 = some ⟨oc56, od56, .func (PySem.W.fnOf "check_day_or_none" "check_day_or_none" (defArgs s_check_day_or_none) (defBody s_check_day_or_none) (defScope s_check_day_or_none) .none kV56 dc56 pm56 an56 cd56 ct56), sl56⟩)
    (c56 : PySem.W.codeIn K cd56 "check_day_or_none" = true)
    (k56 : PySem.W.keepIn K (.ref f56) = true)
    (aL : PySem.W.nsIn K mainGlobals "law" = some (some (.ref fL)))
    (lL : K.lookup fL = some ⟨ocL, odL, .func (PySem.W.fnOf "law" "law" (defArgs s_law) (defBody s_law) (defScope s_law) .none kVL dcL pmL anL cdL ctL), slL⟩)
    (cL : PySem.W.codeIn K cdL "law" = true)
    (kL : PySem.W.keepIn K (.ref fL) = true)
    (gPainter : PySem.W.nsIn K mainGlobals "Painter" = some (some (.ref CPainter)))
    (pgPainter : PySem.W.plainGet K CPainter Str.empty = true)
    (hdPainter : PySem.W.hasDictIn K CPainter = true)
    (poPainter : PySem.W.plainOver K CPainter = true)
    (saPainter : PySem.W.findIn K (.ref CPainter) "__setattr__" = some (some (.builtin "object.__setattr__")))
    (rdPainter : PySem.W.readsIn K CPainter (.type "type") = true)
    (gaPainter : PySem.W.specialIn K (.ref CPainter) "__getattribute__" = some (some (.builtin "type.__getattribute__")))
    (nPainter_name : PySem.W.findIn K (.ref CPainter) "_name" = some none)
    (nPainter_day : PySem.W.findIn K (.ref CPainter) "_day" = some none)
    (nPainter_post : PySem.W.findIn K (.ref CPainter) "_post" = some none)
    (nPainter_stride : PySem.W.findIn K (.ref CPainter) "_stride" = some none)
    (vPainterMAX_DAY : PySem.W.findCls K (.ref CPainter) (.type "type") "MAX_DAY" = some (.val uPainterMAX_DAY))
    (wPainterMAX_DAY : L2.RelV (.int (10 ^ 30)) uPainterMAX_DAY)
    (vPainterMAX_POST : PySem.W.findCls K (.ref CPainter) (.type "type") "MAX_POST" = some (.val uPainterMAX_POST))
    (wPainterMAX_POST : L2.RelV (.int (10 ^ 30)) uPainterMAX_POST)
    (vPainterMAX_STRIDE : PySem.W.findCls K (.ref CPainter) (.type "type") "MAX_STRIDE" = some (.val uPainterMAX_STRIDE))
    (wPainterMAX_STRIDE : L2.RelV (.int (10 ^ 18)) uPainterMAX_STRIDE)
    (a57 : PySem.W.findIn K (.ref CPainter) "__init__" = some (some (.ref f57)))
    (i57 : PySem.W.isFn K (.ref f57) = true)
    (l57 : K.lookup f57 = some ⟨oc57, od57, .func (PySem.W.fnOf "__init__" "Painter.__init__" (defArgs s_Painter_init) (defBody s_Painter_init) (defScope s_Painter_init) .none kV57 dc57 pm57 an57 cd57 ct57), sl57⟩)
    (c57 : PySem.W.codeIn K cd57 "Painter.__init__" = true)
    (k57 : PySem.W.keepIn K (.ref f57) = true)
    (mkPainter : PySem.W.makesIn K CPainter = true)
    (kcPainter : PySem.W.keepIn K (.ref CPainter) = true)
    (a58 : PySem.W.findCls K (.ref CPainter) (.type "type") "is_name" = some (.get (.builtin "staticmethod.__get__") (.ref p58) .none (.ref CPainter)))
    (e58 : PySem.W.recIn K p58 "staticmethod" = some (.ref f58 :: r58))
    (l58 : K.lookup f58 = some ⟨oc58, od58, .func (PySem.W.fnOf "is_name" "Painter.is_name" (defArgs s_Painter_is_name) (defBody s_Painter_is_name) (defScope s_Painter_is_name) .none kV58 dc58 pm58 an58 cd58 ct58), sl58⟩)
    (c58 : PySem.W.codeIn K cd58 "Painter.is_name" = true)
    (k58 : PySem.W.keepIn K (.ref f58) = true)
    (a59 : PySem.W.findIn K (.ref CPainter) "name" = some (some (.ref p59)))
    (s59 : PySem.W.specialIn K (.ref p59) "__get__" = some (some (.builtin "property.__get__")))
    (t59 : PySem.W.takesIn K (.ref p59) = some true)
    (e59 : PySem.W.recIn K p59 "property" = some (.ref f59 :: r59))
    (l59 : K.lookup f59 = some ⟨oc59, od59, .func (PySem.W.fnOf "name" "Painter.name" (defArgs s_Painter_name) (defBody s_Painter_name) (defScope s_Painter_name) .none kV59 dc59 pm59 an59 cd59 ct59), sl59⟩)
    (c59 : PySem.W.codeIn K cd59 "Painter.name" = true)
    (k59 : PySem.W.keepIn K (.ref f59) = true)
    (a60 : PySem.W.findIn K (.ref CPainter) "day" = some (some (.ref p60)))
    (s60 : PySem.W.specialIn K (.ref p60) "__get__" = some (some (.builtin "property.__get__")))
    (t60 : PySem.W.takesIn K (.ref p60) = some true)
    (e60 : PySem.W.recIn K p60 "property" = some (.ref f60 :: r60))
    (l60 : K.lookup f60 = some ⟨oc60, od60, .func (PySem.W.fnOf "day" "Painter.day" (defArgs s_Painter_day) (defBody s_Painter_day) (defScope s_Painter_day) .none kV60 dc60 pm60 an60 cd60 ct60), sl60⟩)
    (c60 : PySem.W.codeIn K cd60 "Painter.day" = true)
    (k60 : PySem.W.keepIn K (.ref f60) = true)
    (a61 : PySem.W.findIn K (.ref CPainter) "post" = some (some (.ref p61)))
    (s61 : PySem.W.specialIn K (.ref p61) "__get__" = some (some (.builtin "property.__get__")))
    (t61 : PySem.W.takesIn K (.ref p61) = some true)
    (e61 : PySem.W.recIn K p61 "property" = some (.ref f61 :: r61))
    (l61 : K.lookup f61 = some ⟨oc61, od61, .func (PySem.W.fnOf "post" "Painter.post" (defArgs s_Painter_post) (defBody s_Painter_post) (defScope s_Painter_post) .none kV61 dc61 pm61 an61 cd61 ct61), sl61⟩)
    (c61 : PySem.W.codeIn K cd61 "Painter.post" = true)
    (k61 : PySem.W.keepIn K (.ref f61) = true)
    (a62 : PySem.W.findIn K (.ref CPainter) "stride" = some (some (.ref p62)))
    (s62 : PySem.W.specialIn K (.ref p62) "__get__" = some (some (.builtin "property.__get__")))
    (t62 : PySem.W.takesIn K (.ref p62) = some true)
    (e62 : PySem.W.recIn K p62 "property" = some (.ref f62 :: r62))
    (l62 : K.lookup f62 = some ⟨oc62, od62, .func (PySem.W.fnOf "stride" "Painter.stride" (defArgs s_Painter_stride) (defBody s_Painter_stride) (defScope s_Painter_stride) .none kV62 dc62 pm62 an62 cd62 ct62), sl62⟩)
    (c62 : PySem.W.codeIn K cd62 "Painter.stride" = true)
    (k62 : PySem.W.keepIn K (.ref f62) = true)
    (gFence : PySem.W.nsIn K mainGlobals "Fence" = some (some (.ref CFence)))
    (pgFence : PySem.W.plainGet K CFence Str.empty = true)
    (hdFence : PySem.W.hasDictIn K CFence = true)
    (poFence : PySem.W.plainOver K CFence = true)
    (saFence : PySem.W.findIn K (.ref CFence) "__setattr__" = some (some (.builtin "object.__setattr__")))
    (rdFence : PySem.W.readsIn K CFence (.type "type") = true)
    (gaFence : PySem.W.specialIn K (.ref CFence) "__getattribute__" = some (some (.builtin "type.__getattribute__")))
    (nFence_painters : PySem.W.findIn K (.ref CFence) "_painters" = some none)
    (nFence_by_name : PySem.W.findIn K (.ref CFence) "_by_name" = some none)
    (a63 : PySem.W.findIn K (.ref CFence) "__init__" = some (some (.ref f63)))
    (i63 : PySem.W.isFn K (.ref f63) = true)
    (l63 : K.lookup f63 = some ⟨oc63, od63, .func (PySem.W.fnOf "__init__" "Fence.__init__" (defArgs s_Fence_init) (defBody s_Fence_init) (defScope s_Fence_init) .none kV63 dc63 pm63 an63 cd63 ct63), sl63⟩)
    (c63 : PySem.W.codeIn K cd63 "Fence.__init__" = true)
    (k63 : PySem.W.keepIn K (.ref f63) = true)
    (mkFence : PySem.W.makesIn K CFence = true)
    (kcFence : PySem.W.keepIn K (.ref CFence) = true)
    (a64 : PySem.W.findIn K (.ref CFence) "painters" = some (some (.ref p64)))
    (s64 : PySem.W.specialIn K (.ref p64) "__get__" = some (some (.builtin "property.__get__")))
    (t64 : PySem.W.takesIn K (.ref p64) = some true)
    (e64 : PySem.W.recIn K p64 "property" = some (.ref f64 :: r64))
    (l64 : K.lookup f64 = some ⟨oc64, od64, .func (PySem.W.fnOf "painters" "Fence.painters" (defArgs s_Fence_painters) (defBody s_Fence_painters) (defScope s_Fence_painters) .none kV64 dc64 pm64 an64 cd64 ct64), sl64⟩)
    (c64 : PySem.W.codeIn K cd64 "Fence.painters" = true)
    (k64 : PySem.W.keepIn K (.ref f64) = true)
    (a65 : PySem.W.findIn K (.ref CFence) "__add__" = some (some (.ref f65)))
    (i65 : PySem.W.isFn K (.ref f65) = true)
    (l65 : K.lookup f65 = some ⟨oc65, od65, .func (PySem.W.fnOf "__add__" "Fence.__add__" (defArgs s_Fence_add) (defBody s_Fence_add) (defScope s_Fence_add) .none kV65 dc65 pm65 an65 cd65 ct65), sl65⟩)
    (c65 : PySem.W.codeIn K cd65 "Fence.__add__" = true)
    (k65 : PySem.W.keepIn K (.ref f65) = true)
    (gHistory : PySem.W.nsIn K mainGlobals "History" = some (some (.ref CHistory)))
    (pgHistory : PySem.W.plainGet K CHistory Str.empty = true)
    (hdHistory : PySem.W.hasDictIn K CHistory = true)
    (poHistory : PySem.W.plainOver K CHistory = true)
    (saHistory : PySem.W.findIn K (.ref CHistory) "__setattr__" = some (some (.builtin "object.__setattr__")))
    (rdHistory : PySem.W.readsIn K CHistory (.type "type") = true)
    (gaHistory : PySem.W.specialIn K (.ref CHistory) "__getattribute__" = some (some (.builtin "type.__getattribute__")))
    (nHistory_fence : PySem.W.findIn K (.ref CHistory) "_fence" = some none)
    (nHistory_rows : PySem.W.findIn K (.ref CHistory) "_rows" = some none)
    (nHistory_by_name : PySem.W.findIn K (.ref CHistory) "_by_name" = some none)
    (nHistory_stopped : PySem.W.findIn K (.ref CHistory) "_stopped" = some none)
    (a66 : PySem.W.findIn K (.ref CHistory) "__init__" = some (some (.ref f66)))
    (i66 : PySem.W.isFn K (.ref f66) = true)
    (l66 : K.lookup f66 = some ⟨oc66, od66, .func (PySem.W.fnOf "__init__" "History.__init__" (defArgs s_History_init) (defBody s_History_init) (defScope s_History_init) .none kV66 dc66 pm66 an66 cd66 ct66), sl66⟩)
    (c66 : PySem.W.codeIn K cd66 "History.__init__" = true)
    (k66 : PySem.W.keepIn K (.ref f66) = true)
    (mkHistory : PySem.W.makesIn K CHistory = true)
    (kcHistory : PySem.W.keepIn K (.ref CHistory) = true)
    (a67 : PySem.W.findIn K (.ref CHistory) "rows" = some (some (.ref p67)))
    (s67 : PySem.W.specialIn K (.ref p67) "__get__" = some (some (.builtin "property.__get__")))
    (t67 : PySem.W.takesIn K (.ref p67) = some true)
    (e67 : PySem.W.recIn K p67 "property" = some (.ref f67 :: r67))
    (l67 : K.lookup f67 = some ⟨oc67, od67, .func (PySem.W.fnOf "rows" "History.rows" (defArgs s_History_rows) (defBody s_History_rows) (defScope s_History_rows) .none kV67 dc67 pm67 an67 cd67 ct67), sl67⟩)
    (c67 : PySem.W.codeIn K cd67 "History.rows" = true)
    (k67 : PySem.W.keepIn K (.ref f67) = true)
    (ax1 : PySem.W.selfFirst K CFence = true)
    (ax2 : PySem.W.selfFirst K CPainter = true)
    (ax3 : PySem.W.findIn K (.ref CFence) "__radd__" = some none)
    (ax4 : PySem.W.findIn K (.ref CPainter) "__radd__" = some none)
    (ax5 : PySem.W.findIn K (.ref CPainter) "__add__" = some (some (.ref fx5)))
    (ax6 : PySem.W.subIn K (.ref CPainter) (.ref CFence) = some false)
    (ax7 : CFence ≠ CPainter)
    (y1Painter : PySem.W.findIn K (.ref CPainter) "__class__" = some (some (.builtin "object.__class__")))
    (y2Painter : PySem.W.specialIn K (.builtin "object.__class__") "__get__" = some (some (.builtin "getset_descriptor.__get__")))
    (y3Painter : PySem.W.takesIn K (.builtin "object.__class__") = some true)
    (y4Painter : PySem.W.mroIn K CPainter (.type "object") = some true)
    (y1Fence : PySem.W.findIn K (.ref CFence) "__class__" = some (some (.builtin "object.__class__")))
    (y2Fence : PySem.W.specialIn K (.builtin "object.__class__") "__get__" = some (some (.builtin "getset_descriptor.__get__")))
    (y3Fence : PySem.W.takesIn K (.builtin "object.__class__") = some true)
    (y4Fence : PySem.W.mroIn K CFence (.type "object") = some true)
    (r20q : cd20 = Value.ref cq__rows_of)
    (v20x : K.lookup cq__rows_of = some ⟨e20q, d20q, .fields v20q, s20q⟩)
    (w20x : (v20q[11]? : Option Value) = some (.ref Pq__rows_of))
    (n20q : K.lookup Pq__rows_of = none)
    (neq_CHistory_CPainter : CHistory ≠ CPainter)
    (neq_CHistory_CFence : CHistory ≠ CFence)
    (GMAX_ARGUMENT : PySem.W.nsIn K mainGlobals "MAX_ARGUMENT" = some (some vgMAX_ARGUMENT))
    (HMAX_ARGUMENT : L2.RelV (.int (10 ^ 80)) vgMAX_ARGUMENT)
    (GMAX_PAINTERS : PySem.W.nsIn K mainGlobals "MAX_PAINTERS" = some (some vgMAX_PAINTERS))
    (HMAX_PAINTERS : L2.RelV (.int (40)) vgMAX_PAINTERS)
    (GWINDOW : PySem.W.nsIn K mainGlobals "WINDOW" = some (some vgWINDOW))
    (HWINDOW : L2.RelV (.int (10 ^ 36)) vgWINDOW)
    (zlen : PySem.W.nsIn K mainGlobals "len" = some none)
    (zint : PySem.W.nsIn K mainGlobals "int" = some none)
    (zabs : PySem.W.nsIn K mainGlobals "abs" = some none)
    (zlist : PySem.W.nsIn K mainGlobals "list" = some none)
    (zrange : PySem.W.nsIn K mainGlobals "range" = some none)
    (zmin : PySem.W.nsIn K mainGlobals "min" = some none)
    (zmax : PySem.W.nsIn K mainGlobals "max" = some none)
    (zrepr : PySem.W.nsIn K mainGlobals "repr" = some none)
    (zstr : PySem.W.nsIn K mainGlobals "str" = some none)
    (zbool : PySem.W.nsIn K mainGlobals "bool" = some none)
    (zisinstance : PySem.W.nsIn K mainGlobals "isinstance" = some none)
    (zany : PySem.W.nsIn K mainGlobals "any" = some none)
    (zdivmod : PySem.W.nsIn K mainGlobals "divmod" = some none)
    (zenumerate : PySem.W.nsIn K mainGlobals "enumerate" = some none)
    (ztuple : PySem.W.nsIn K mainGlobals "tuple" = some none)
    (zsorted : PySem.W.nsIn K mainGlobals "sorted" = some none)
    (zzip : PySem.W.nsIn K mainGlobals "zip" = some none)
    (zsum : PySem.W.nsIn K mainGlobals "sum" = some none)
    : ∃ (fd : FuncData) (ct : List (Addr × Addr)) (sp : Sp), (∀ (s : Shared) (v : Value), BindsTo s fd ⟨[v], []⟩ [("_law_script", v)]) ∧ (∀ q ∈ ct, K.lookup q.2 = none ∧ ∃ y ∈ (["_rows_of"] : List Str), PySem.W.tabIn K y = some q) ∧
      (∀ (H : Hp) (a : Addr) (ns : List Int), ns.length ≤ 63 → (∀ q ∈ ct, H q.2 = some (.tbl #[])) → SqL K H a (ns.map V.int) → sp [.ref a] H (fun v _ => v = .bl true) fun _ _ _ => False) ∧ ∀ base : Heap, K.In base → base.Ns mainGlobals mg → (∀ q ∈ ct, LamX.TabB base mg q.1 q.2) → FnG l.prog w K mg base 40 fa fd ["_law_script"] sp := by
  have e := hfa.symm.trans (PySem.W.mg_of X G aL)
  cases e
  have F_law := fun_mk (st := s_law) lL cL kL
  have u20q := tab_mk a20 l20 (fd := PySem.W.fnOf "_rows_of" "_rows_of" (defArgs s__rows_of) (defBody s__rows_of) (defScope s__rows_of) .none kV20 dc20 pm20 an20 cd20 ct20) r20q v20x w20x
  have D__law_pen : Dfn K mg "_law_pen" s__law_pen P__law_pen := ⟨f1, _, fun_mk l1 c1 k1, (fun_mk l1 c1 k1).binds fun _ _ _ _ _ _ us hl => match us, hl with | [_], _ => rfl, PySem.W.mg_of X G a1⟩
  have D__law_draw : Dfn K mg "_law_draw" s__law_draw P__law_draw := ⟨f2, _, fun_mk l2 c2 k2, (fun_mk l2 c2 k2).binds fun _ _ _ _ _ _ us hl => match us, hl with | [_, _], _ => rfl, PySem.W.mg_of X G a2⟩
  have D__law_pick : Dfn K mg "_law_pick" s__law_pick P__law_pick := ⟨f3, _, fun_mk l3 c3 k3, (fun_mk l3 c3 k3).binds fun _ _ _ _ _ _ us hl => match us, hl with | [_, _], _ => rfl, PySem.W.mg_of X G a3⟩
  have D__law_around : Dfn K mg "_law_around" s__law_around P__law_around := ⟨f4, _, fun_mk l4 c4 k4, (fun_mk l4 c4 k4).binds fun _ _ _ _ _ _ us hl => match us, hl with | [_, _], _ => rfl, PySem.W.mg_of X G a4⟩
  have D__law_power : Dfn K mg "_law_power" s__law_power P__law_power := ⟨f5, _, fun_mk l5 c5 k5, (fun_mk l5 c5 k5).binds fun _ _ _ _ _ _ us hl => match us, hl with | [_], _ => rfl, PySem.W.mg_of X G a5⟩
  have D__law_great : Dfn K mg "_law_great" s__law_great P__law_great := ⟨f6, _, fun_mk l6 c6 k6, (fun_mk l6 c6 k6).binds fun _ _ _ _ _ _ us hl => match us, hl with | [_, _], _ => rfl, PySem.W.mg_of X G a6⟩
  have D__law_names : Dfn K mg "_law_names" s__law_names P__law_names := ⟨f7, _, fun_mk l7 c7 k7, (fun_mk l7 c7 k7).binds fun _ _ _ _ _ _ us hl => match us, hl with | [_, _], _ => rfl, PySem.W.mg_of X G a7⟩
  have D__law_fence : Dfn K mg "_law_fence" s__law_fence P__law_fence := ⟨f8, _, fun_mk l8 c8 k8, (fun_mk l8 c8 k8).binds fun _ _ _ _ _ _ us hl => match us, hl with | [_], _ => rfl, PySem.W.mg_of X G a8⟩
  have D_is_integer : Dfn K mg "is_integer" s_is_integer P_is_integer := ⟨f9, _, fun_mk l9 c9 k9, (fun_mk l9 c9 k9).binds fun _ _ _ _ _ _ us hl => match us, hl with | [_], _ => rfl, PySem.W.mg_of X G a9⟩
  have D_is_between : Dfn K mg "is_between" s_is_between P_is_between := ⟨f10, _, fun_mk l10 c10 k10, (fun_mk l10 c10 k10).binds fun _ _ _ _ _ _ us hl => match us, hl with | [_, _, _], _ => rfl, PySem.W.mg_of X G a10⟩
  have D_check_count : Dfn K mg "check_count" s_check_count P_check_count := ⟨f11, _, fun_mk l11 c11 k11, (fun_mk l11 c11 k11).binds fun _ _ _ _ _ _ us hl => match us, hl with | [_], _ => rfl, PySem.W.mg_of X G a11⟩
  have D_divisor_and_factor : Dfn K mg "divisor_and_factor" s_divisor_and_factor P_divisor_and_factor := ⟨f12, _, fun_mk l12 c12 k12, (fun_mk l12 c12 k12).binds fun _ _ _ _ _ _ us hl => match us, hl with | [_, _], _ => rfl, PySem.W.mg_of X G a12⟩
  have D_common_numbers : Dfn K mg "common_numbers" s_common_numbers P_common_numbers := ⟨f13, _, fun_mk l13 c13 k13, (fun_mk l13 c13 k13).binds fun _ _ _ _ _ _ us hl => match us, hl with | [_, _], _ => rfl, PySem.W.mg_of X G a13⟩
  have D__span_of : Dfn K mg "_span_of" s__span_of P__span_of := ⟨f14, _, fun_mk l14 c14 k14, (fun_mk l14 c14 k14).binds fun _ _ _ _ _ _ us hl => match us, hl with | [_], _ => rfl, PySem.W.mg_of X G a14⟩
  have FK_crossing : FunD K "crossing" "crossing" (defArgs s_crossing) (defBody s_crossing) (defScope s_crossing) [] [("count", .non), ("other_count", .non), ("lead", .non)] f15 _ := ⟨⟨_, _, .none, .ref dk15, _, _, _, _, _, _, rfl, l15, c15, Or.inl ⟨rfl, rfl⟩, Or.inr ⟨dk15, rfl, fun q hq => (by simp only [List.mem_cons, List.not_mem_nil, or_false] at hq; rcases hq with rfl | rfl | rfl <;> first | exact ⟨_, q15_0, s15_0⟩ | exact ⟨_, q15_1, s15_1⟩ | exact ⟨_, q15_2, s15_2⟩)⟩⟩, k15⟩
  have m_crossing : mg "crossing" = some (.ref f15) := PySem.W.mg_of X G a15
  have FK_first_block : FunD K "first_block" "first_block" (defArgs s_first_block) (defBody s_first_block) (defScope s_first_block) [] [("count", .non), ("is_earlier", .bl false)] f16 _ := ⟨⟨_, _, .none, .ref dk16, _, _, _, _, _, _, rfl, l16, c16, Or.inl ⟨rfl, rfl⟩, Or.inr ⟨dk16, rfl, fun q hq => (by simp only [List.mem_cons, List.not_mem_nil, or_false] at hq; rcases hq with rfl | rfl <;> first | exact ⟨_, q16_0, s16_0⟩ | exact ⟨_, q16_1, s16_1⟩)⟩⟩, k16⟩
  have m_first_block : mg "first_block" = some (.ref f16) := PySem.W.mg_of X G a16
  have D_rows_by : Dfn K mg "rows_by" s_rows_by P_rows_by := ⟨f17, _, fun_mk l17 c17 k17, (fun_mk l17 c17 k17).binds fun _ _ _ _ _ _ us hl => match us, hl with | [_, _], _ => rfl, PySem.W.mg_of X G a17⟩
  have D__find_stopped : Dfn K mg "_find_stopped" s__find_stopped P__find_stopped := ⟨f18, _, fun_mk l18 c18 k18, (fun_mk l18 c18 k18).binds fun _ _ _ _ _ _ us hl => match us, hl with | [_, _], _ => rfl, PySem.W.mg_of X G a18⟩
  have D__earliest_block : Dfn K mg "_earliest_block" s__earliest_block P__earliest_block := ⟨f19, _, fun_mk l19 c19 k19, (fun_mk l19 c19 k19).binds fun _ _ _ _ _ _ us hl => match us, hl with | [_, _, _], _ => rfl, PySem.W.mg_of X G a19⟩
  have D__rows_of : Dfn K mg "_rows_of" s__rows_of P__rows_of := ⟨f20, _, fun_mk l20 c20 k20, (fun_mk l20 c20 k20).binds fun _ _ _ _ _ _ us hl => match us, hl with | [_], _ => rfl, PySem.W.mg_of X G a20⟩
  have D__block : Dfn K mg "_block" s__block P__block := ⟨f21, _, fun_mk l21 c21 k21, (fun_mk l21 c21 k21).binds fun _ _ _ _ _ _ us hl => match us, hl with | [_, _, _, _], _ => rfl, PySem.W.mg_of X G a21⟩
  have D_painted_counts : Dfn K mg "painted_counts" s_painted_counts P_painted_counts := ⟨f22, _, fun_mk l22 c22 k22, (fun_mk l22 c22 k22).binds fun _ _ _ _ _ _ us hl => match us, hl with | [_], _ => rfl, PySem.W.mg_of X G a22⟩
  have D_counts_by : Dfn K mg "counts_by" s_counts_by P_counts_by := ⟨f23, _, fun_mk l23 c23 k23, (fun_mk l23 c23 k23).binds fun _ _ _ _ _ _ us hl => match us, hl with | [_, _], _ => rfl, PySem.W.mg_of X G a23⟩
  have D_runs_of : Dfn K mg "runs_of" s_runs_of P_runs_of := ⟨f24, _, fun_mk l24 c24 k24, (fun_mk l24 c24 k24).binds fun _ _ _ _ _ _ us hl => match us, hl with | [_], _ => rfl, PySem.W.mg_of X G a24⟩
  have D_painted_runs : Dfn K mg "painted_runs" s_painted_runs P_painted_runs := ⟨f25, _, fun_mk l25 c25 k25, (fun_mk l25 c25 k25).binds fun _ _ _ _ _ _ us hl => match us, hl with | [_, _], _ => rfl, PySem.W.mg_of X G a25⟩
  have D_without : Dfn K mg "without" s_without P_without := ⟨f26, _, fun_mk l26 c26 k26, (fun_mk l26 c26 k26).binds fun _ _ _ _ _ _ us hl => match us, hl with | [_, _, _], _ => rfl, PySem.W.mg_of X G a26⟩
  have D_weighted : Dfn K mg "weighted" s_weighted P_weighted := ⟨f27, _, fun_mk l27 c27 k27, (fun_mk l27 c27 k27).binds fun _ _ _ _ _ _ us hl => match us, hl with | [_, _], _ => rfl, PySem.W.mg_of X G a27⟩
  have D_mirrored : Dfn K mg "mirrored" s_mirrored P_mirrored := ⟨f28, _, fun_mk l28 c28 k28, (fun_mk l28 c28 k28).binds fun _ _ _ _ _ _ us hl => match us, hl with | [_], _ => rfl, PySem.W.mg_of X G a28⟩
  have D_far_post : Dfn K mg "far_post" s_far_post P_far_post := ⟨f29, _, fun_mk l29 c29 k29, (fun_mk l29 c29 k29).binds fun _ _ _ _ _ _ us hl => match us, hl with | [_, _], _ => rfl, PySem.W.mg_of X G a29⟩
  have D_post_at : Dfn K mg "post_at" s_post_at P_post_at := ⟨f30, _, fun_mk l30 c30 k30, (fun_mk l30 c30 k30).binds fun _ _ _ _ _ _ us hl => match us, hl with | [_, _, _, _], _ => rfl, PySem.W.mg_of X G a30⟩
  have D__post_to_the_right : Dfn K mg "_post_to_the_right" s__post_to_the_right P__post_to_the_right := ⟨f31, _, fun_mk l31 c31 k31, (fun_mk l31 c31 k31).binds fun _ _ _ _ _ _ us hl => match us, hl with | [_, _, _], _ => rfl, PySem.W.mg_of X G a31⟩
  have D_count_between : Dfn K mg "count_between" s_count_between P_count_between := ⟨f32, _, fun_mk l32 c32 k32, (fun_mk l32 c32 k32).binds fun _ _ _ _ _ _ us hl => match us, hl with | [_, _, _], _ => rfl, PySem.W.mg_of X G a32⟩
  have D__many_between : Dfn K mg "_many_between" s__many_between P__many_between := ⟨f33, _, fun_mk l33 c33 k33, (fun_mk l33 c33 k33).binds fun _ _ _ _ _ _ us hl => match us, hl with | [_, _, _], _ => rfl, PySem.W.mg_of X G a33⟩
  have D_numbers_between : Dfn K mg "numbers_between" s_numbers_between P_numbers_between := ⟨f34, _, fun_mk l34 c34 k34, (fun_mk l34 c34 k34).binds fun _ _ _ _ _ _ us hl => match us, hl with | [_, _, _], _ => rfl, PySem.W.mg_of X G a34⟩
  have D__law_opposite : Dfn K mg "_law_opposite" s__law_opposite P__law_opposite := ⟨f35, _, fun_mk l35 c35 k35, (fun_mk l35 c35 k35).binds fun _ _ _ _ _ _ us hl => match us, hl with | [_], _ => rfl, PySem.W.mg_of X G a35⟩
  have D__law_shuffled : Dfn K mg "_law_shuffled" s__law_shuffled P__law_shuffled := ⟨f36, _, fun_mk l36 c36 k36, (fun_mk l36 c36 k36).binds fun _ _ _ _ _ _ us hl => match us, hl with | [_, _], _ => rfl, PySem.W.mg_of X G a36⟩
  have D__law_cover : Dfn K mg "_law_cover" s__law_cover P__law_cover := ⟨f37, _, fun_mk l37 c37 k37, (fun_mk l37 c37 k37).binds fun _ _ _ _ _ _ us hl => match us, hl with | [_, _], _ => rfl, PySem.W.mg_of X G a37⟩
  have D__law_covering : Dfn K mg "_law_covering" s__law_covering P__law_covering := ⟨f38, _, fun_mk l38 c38 k38, (fun_mk l38 c38 k38).binds fun _ _ _ _ _ _ us hl => match us, hl with | [_, _, _, _, _], _ => rfl, PySem.W.mg_of X G a38⟩
  have FK_full_from : FunD K "full_from" "full_from" (defArgs s_full_from) (defBody s_full_from) (defScope s_full_from) [] [("left", .bl false)] f39 _ := ⟨⟨_, _, .none, .ref dk39, _, _, _, _, _, _, rfl, l39, c39, Or.inl ⟨rfl, rfl⟩, Or.inr ⟨dk39, rfl, fun q hq => (by simp only [List.mem_cons, List.not_mem_nil, or_false] at hq; rcases hq with rfl <;> first | exact ⟨_, q39_0, s39_0⟩)⟩⟩, k39⟩
  have m_full_from : mg "full_from" = some (.ref f39) := PySem.W.mg_of X G a39
  have D__law_inverse : Dfn K mg "_law_inverse" s__law_inverse P__law_inverse := ⟨f40, _, fun_mk l40 c40 k40, (fun_mk l40 c40 k40).binds fun _ _ _ _ _ _ us hl => match us, hl with | [_, _], _ => rfl, PySem.W.mg_of X G a40⟩
  have D__law_gcd : Dfn K mg "_law_gcd" s__law_gcd P__law_gcd := ⟨f41, _, fun_mk l41 c41 k41, (fun_mk l41 c41 k41).binds fun _ _ _ _ _ _ us hl => match us, hl with | [_, _], _ => rfl, PySem.W.mg_of X G a41⟩
  have D__law_common : Dfn K mg "_law_common" s__law_common P__law_common := ⟨f42, _, fun_mk l42 c42 k42, (fun_mk l42 c42 k42).binds fun _ _ _ _ _ _ us hl => match us, hl with | [_, _], _ => rfl, PySem.W.mg_of X G a42⟩
  have D__law_first : Dfn K mg "_law_first" s__law_first P__law_first := ⟨f43, _, fun_mk l43 c43 k43, (fun_mk l43 c43 k43).binds fun _ _ _ _ _ _ us hl => match us, hl with | [_, _, _, _, _], _ => rfl, PySem.W.mg_of X G a43⟩
  have D__law_pairs : Dfn K mg "_law_pairs" s__law_pairs P__law_pairs := ⟨f44, _, fun_mk l44 c44 k44, (fun_mk l44 c44 k44).binds fun _ _ _ _ _ _ us hl => match us, hl with | [_], _ => rfl, PySem.W.mg_of X G a44⟩
  have D__law_next : Dfn K mg "_law_next" s__law_next P__law_next := ⟨f45, _, fun_mk l45 c45 k45, (fun_mk l45 c45 k45).binds fun _ _ _ _ _ _ us hl => match us, hl with | [_, _, _, _], _ => rfl, PySem.W.mg_of X G a45⟩
  have D__law_history : Dfn K mg "_law_history" s__law_history P__law_history := ⟨f46, _, fun_mk l46 c46 k46, (fun_mk l46 c46 k46).binds fun _ _ _ _ _ _ us hl => match us, hl with | [_], _ => rfl, PySem.W.mg_of X G a46⟩
  have D__law_is_painted : Dfn K mg "_law_is_painted" s__law_is_painted P__law_is_painted := ⟨f47, _, fun_mk l47 c47 k47, (fun_mk l47 c47 k47).binds fun _ _ _ _ _ _ us hl => match us, hl with | [_, _, _, _], _ => rfl, PySem.W.mg_of X G a47⟩
  have D__law_number : Dfn K mg "_law_number" s__law_number P__law_number := ⟨f48, _, fun_mk l48 c48 k48, (fun_mk l48 c48 k48).binds fun _ _ _ _ _ _ us hl => match us, hl with | [_, _, _, _, _], _ => rfl, PySem.W.mg_of X G a48⟩
  have D__law_shares : Dfn K mg "_law_shares" s__law_shares P__law_shares := ⟨f49, _, fun_mk l49 c49 k49, (fun_mk l49 c49 k49).binds fun _ _ _ _ _ _ us hl => match us, hl with | [_, _], _ => rfl, PySem.W.mg_of X G a49⟩
  have D__law_is_whole : Dfn K mg "_law_is_whole" s__law_is_whole P__law_is_whole := ⟨f50, _, fun_mk l50 c50 k50, (fun_mk l50 c50 k50).binds fun _ _ _ _ _ _ us hl => match us, hl with | [_], _ => rfl, PySem.W.mg_of X G a50⟩
  have D__law_is_right : Dfn K mg "_law_is_right" s__law_is_right P__law_is_right := ⟨f51, _, fun_mk l51 c51 k51, (fun_mk l51 c51 k51).binds fun _ _ _ _ _ _ us hl => match us, hl with | [_, _, _], _ => rfl, PySem.W.mg_of X G a51⟩
  have FK_unpainted_from : FunD K "unpainted_from" "unpainted_from" (defArgs s_unpainted_from) (defBody s_unpainted_from) (defScope s_unpainted_from) [] [("day", .non), ("left", .bl false)] f52 _ := ⟨⟨_, _, .none, .ref dk52, _, _, _, _, _, _, rfl, l52, c52, Or.inl ⟨rfl, rfl⟩, Or.inr ⟨dk52, rfl, fun q hq => (by simp only [List.mem_cons, List.not_mem_nil, or_false] at hq; rcases hq with rfl | rfl <;> first | exact ⟨_, q52_0, s52_0⟩ | exact ⟨_, q52_1, s52_1⟩)⟩⟩, k52⟩
  have m_unpainted_from : mg "unpainted_from" = some (.ref f52) := PySem.W.mg_of X G a52
  have D_check_place : Dfn K mg "check_place" s_check_place P_check_place := ⟨f53, _, fun_mk l53 c53 k53, (fun_mk l53 c53 k53).binds fun _ _ _ _ _ _ us hl => match us, hl with | [_, _, _], _ => rfl, PySem.W.mg_of X G a53⟩
  have D_check_post : Dfn K mg "check_post" s_check_post P_check_post := ⟨f54, _, fun_mk l54 c54 k54, (fun_mk l54 c54 k54).binds fun _ _ _ _ _ _ us hl => match us, hl with | [_], _ => rfl, PySem.W.mg_of X G a54⟩
  have D_check_day : Dfn K mg "check_day" s_check_day P_check_day := ⟨f55, _, fun_mk l55 c55 k55, (fun_mk l55 c55 k55).binds fun _ _ _ _ _ _ us hl => match us, hl with | [_], _ => rfl, PySem.W.mg_of X G a55⟩
  have D_check_day_or_none : Dfn K mg "check_day_or_none" s_check_day_or_none P_check_day_or_none := ⟨f56, _, fun_mk l56 c56 k56, (fun_mk l56 c56 k56).binds fun _ _ _ _ _ _ us hl => match us, hl with | [_], _ => rfl, PySem.W.mg_of X G a56⟩
  have cl_Painter : Cls K CPainter := ⟨pgPainter, hdPainter, poPainter, saPainter⟩
  have rd_Painter : ClX.CRead K CPainter (.type "type") := ⟨rdPainter, gaPainter⟩
  have mg_Painter : mg "Painter" = some (.ref CPainter) := PySem.W.mg_of X G gPainter
  have cv_Painter_MAX_DAY : ∃ u, ClX.CVal K CPainter (.type "type") "MAX_DAY" (.int (10 ^ 30)) u := ⟨_, vPainterMAX_DAY, wPainterMAX_DAY⟩
  have cv_Painter_MAX_POST : ∃ u, ClX.CVal K CPainter (.type "type") "MAX_POST" (.int (10 ^ 30)) u := ⟨_, vPainterMAX_POST, wPainterMAX_POST⟩
  have cv_Painter_MAX_STRIDE : ∃ u, ClX.CVal K CPainter (.type "type") "MAX_STRIDE" (.int (10 ^ 18)) u := ⟨_, vPainterMAX_STRIDE, wPainterMAX_STRIDE⟩
  have F_Painter_init := fun_mk (st := s_Painter_init) (x := "__init__") l57 c57 k57
  have b_Painter_init := F_Painter_init.binds (ps := P_Painter_init) fun _ _ _ _ _ _ us hl => match us, hl with | [_, _, _, _, _], _ => rfl
  have mk_Painter : Mk K CPainter f57 := ⟨mkPainter, a57, i57, kcPainter⟩
  have F_Painter_is_name := fun_mk (st := s_Painter_is_name) (x := "is_name") l58 c58 k58
  have b_Painter_is_name := F_Painter_is_name.binds (ps := P_Painter_is_name) fun _ _ _ _ _ _ us hl => match us, hl with | [_], _ => rfl
  have sm_Painter_is_name : SMet K CPainter (.type "type") "is_name" p58 f58 := ⟨a58, ⟨_, e58⟩, k58⟩
  have F_Painter_name := fun_mk (st := s_Painter_name) (x := "name") l59 c59 k59
  have b_Painter_name := F_Painter_name.binds (ps := P_Painter_name) fun _ _ _ _ _ _ us hl => match us, hl with | [_], _ => rfl
  have pr_Painter_name : PropOf K CPainter "name" p59 f59 := ⟨a59, s59, t59, ⟨_, e59⟩⟩
  have F_Painter_day := fun_mk (st := s_Painter_day) (x := "day") l60 c60 k60
  have b_Painter_day := F_Painter_day.binds (ps := P_Painter_day) fun _ _ _ _ _ _ us hl => match us, hl with | [_], _ => rfl
  have pr_Painter_day : PropOf K CPainter "day" p60 f60 := ⟨a60, s60, t60, ⟨_, e60⟩⟩
  have F_Painter_post := fun_mk (st := s_Painter_post) (x := "post") l61 c61 k61
  have b_Painter_post := F_Painter_post.binds (ps := P_Painter_post) fun _ _ _ _ _ _ us hl => match us, hl with | [_], _ => rfl
  have pr_Painter_post : PropOf K CPainter "post" p61 f61 := ⟨a61, s61, t61, ⟨_, e61⟩⟩
  have F_Painter_stride := fun_mk (st := s_Painter_stride) (x := "stride") l62 c62 k62
  have b_Painter_stride := F_Painter_stride.binds (ps := P_Painter_stride) fun _ _ _ _ _ _ us hl => match us, hl with | [_], _ => rfl
  have pr_Painter_stride : PropOf K CPainter "stride" p62 f62 := ⟨a62, s62, t62, ⟨_, e62⟩⟩
  have cl_Fence : Cls K CFence := ⟨pgFence, hdFence, poFence, saFence⟩
  have rd_Fence : ClX.CRead K CFence (.type "type") := ⟨rdFence, gaFence⟩
  have mg_Fence : mg "Fence" = some (.ref CFence) := PySem.W.mg_of X G gFence
  have F_Fence_init := fun_mk (st := s_Fence_init) (x := "__init__") l63 c63 k63
  have mk_Fence : Mk K CFence f63 := ⟨mkFence, a63, i63, kcFence⟩
  have F_Fence_painters := fun_mk (st := s_Fence_painters) (x := "painters") l64 c64 k64
  have b_Fence_painters := F_Fence_painters.binds (ps := P_Fence_painters) fun _ _ _ _ _ _ us hl => match us, hl with | [_], _ => rfl
  have pr_Fence_painters : PropOf K CFence "painters" p64 f64 := ⟨a64, s64, t64, ⟨_, e64⟩⟩
  have F_Fence_add := fun_mk (st := s_Fence_add) (x := "__add__") l65 c65 k65
  have b_Fence_add := F_Fence_add.binds (ps := P_Fence_add) fun _ _ _ _ _ _ us hl => match us, hl with | [_, _], _ => rfl
  have me_Fence___add__ : Meth K CFence "__add__" f65 := ⟨a65, i65, k65⟩
  have fi_Fence___add__ : PySem.W.fnIn K f65 = true := by unfold PySem.W.fnIn; rw [l65]
  have cl_History : Cls K CHistory := ⟨pgHistory, hdHistory, poHistory, saHistory⟩
  have rd_History : ClX.CRead K CHistory (.type "type") := ⟨rdHistory, gaHistory⟩
  have mg_History : mg "History" = some (.ref CHistory) := PySem.W.mg_of X G gHistory
  have F_History_init := fun_mk (st := s_History_init) (x := "__init__") l66 c66 k66
  have b_History_init := F_History_init.binds (ps := P_History_init) fun _ _ _ _ _ _ us hl => match us, hl with | [_, _], _ => rfl
  have mk_History : Mk K CHistory f66 := ⟨mkHistory, a66, i66, kcHistory⟩
  have F_History_rows := fun_mk (st := s_History_rows) (x := "rows") l67 c67 k67
  have b_History_rows := F_History_rows.binds (ps := P_History_rows) fun _ _ _ _ _ _ us hl => match us, hl with | [_], _ => rfl
  have pr_History_rows : PropOf K CHistory "rows" p67 f67 := ⟨a67, s67, t67, ⟨_, e67⟩⟩
  have at_Fence : AddTwo K CFence CPainter := ⟨ax1, ax2, ax3, ax4, ⟨_, ax5⟩, ax6, ax7⟩
  have ic_Painter : C8.InsC K CPainter := ⟨cl_Painter, y1Painter, y2Painter, y3Painter, y4Painter, if_pos (beq_self_eq_true _)⟩
  have ic_Fence : C8.InsC K CFence := ⟨cl_Fence, y1Fence, y2Fence, y3Fence, y4Fence, if_pos (beq_self_eq_true _)⟩
  have DT__rows_of : DfnT K mg "_rows_of" s__rows_of P__rows_of cq__rows_of := ⟨f20, _, fun_mk l20 c20 k20, (fun_mk l20 c20 k20).binds fun _ _ _ _ _ _ us hl => match us, hl with | [_], _ => rfl, PySem.W.mg_of X G a20, r20q⟩
  have gl_MAX_ARGUMENT : ∃ u, mg "MAX_ARGUMENT" = some u ∧ L2.RelV (.int (10 ^ 80)) u := ⟨_, PySem.W.mg_of X G GMAX_ARGUMENT, HMAX_ARGUMENT⟩
  have gl_MAX_PAINTERS : ∃ u, mg "MAX_PAINTERS" = some u ∧ L2.RelV (.int (40)) u := ⟨_, PySem.W.mg_of X G GMAX_PAINTERS, HMAX_PAINTERS⟩
  have gl_WINDOW : ∃ u, mg "WINDOW" = some u ∧ L2.RelV (.int (10 ^ 36)) u := ⟨_, PySem.W.mg_of X G GWINDOW, HWINDOW⟩
  have B : Blt mg := ⟨PySem.W.mg_none_of X G zlen, PySem.W.mg_none_of X G zint, PySem.W.mg_none_of X G zabs, PySem.W.mg_none_of X G zlist, PySem.W.mg_none_of X G zrange, PySem.W.mg_none_of X G zmin, PySem.W.mg_none_of X G zmax, PySem.W.mg_none_of X G zrepr, PySem.W.mg_none_of X G zstr, PySem.W.mg_none_of X G zbool, PySem.W.mg_none_of X G zisinstance, PySem.W.mg_none_of X G zany, PySem.W.mg_none_of X G zdivmod⟩
  have nb_enumerate : mg "enumerate" = none := PySem.W.mg_none_of X G zenumerate
  have nb_tuple : mg "tuple" = none := PySem.W.mg_none_of X G ztuple
  have nb_sorted : mg "sorted" = none := PySem.W.mg_none_of X G zsorted
  have nb_zip : mg "zip" = none := PySem.W.mg_none_of X G zzip
  have nb_sum : mg "sum" = none := PySem.W.mg_none_of X G zsum
  refine ⟨PySem.W.fnOf "law" "law" (defArgs s_law) (defBody s_law) (defScope s_law) .none kVL dcL pmL anL cdL ctL, [(cq__rows_of, Pq__rows_of)], spLaw K ([(Pq__rows_of, qRw)]), fun s v => .of_eq rfl, ?_, ?_, fun base hKb _ hTB => ?_⟩
  · intro q hq
    rcases List.mem_cons.mp hq with rfl | hq
    · exact ⟨n20q, _, List.mem_cons_self, u20q⟩
    · cases hq
  · intro H a ns hl hT hS
    refine ⟨a, ns, rfl, hS, hl, fun p hp => ?_, fun _ => rfl⟩
    rcases List.mem_cons.mp hp with rfl | hp
    · exact LamX.TabS.nil (hT (cq__rows_of, Pq__rows_of) List.mem_cons_self)
    · cases hp
  have T : PTxt K mg CPainter := ⟨cl_Painter, nPainter_name, nPainter_day, nPainter_post, nPainter_stride, mg_Painter, rd_Painter, cv_Painter_MAX_DAY, cv_Painter_MAX_POST, cv_Painter_MAX_STRIDE⟩
  have U : FTxt K mg CFence := ⟨cl_Fence, nFence_painters, nFence_by_name, mg_Fence⟩
  have UH : HTxt K mg CHistory := ⟨cl_History, nHistory_fence, nHistory_rows, nHistory_by_name, nHistory_stopped, mg_History⟩
  have CD := ok_draw (P := l.prog) (w := w) (base := base) D__law_draw B
  have CP := ok_pickL (P := l.prog) (w := w) (base := base) D__law_pick B CD
  have CPS := ok_pickS (P := l.prog) (w := w) (base := base) D__law_pick B CD
  have CI := ok_pickI CP
  have CW := ok_power (P := l.prog) (w := w) (base := base) D__law_power B
  have CG := ok_great (P := l.prog) (w := w) (base := base) D__law_great CW CD CP
  have CN := ok_namesN (P := l.prog) (w := w) (base := base) D__law_names B CD CP CPS
  have CPen := ok_pen (P := l.prog) (w := w) (base := base) D__law_pen B
  have CInt := ok_is_integer (P := l.prog) (w := w) (base := base) D_is_integer B
  have CB := ok_is_between (P := l.prog) (w := w) (base := base) D_is_between CInt
  have FN := ok_is_name (P := l.prog) (w := w) (base := base) F_Painter_is_name B
  have FI := ok_init (P := l.prog) (w := w) (base := base) F_Painter_init T sm_Painter_is_name FN b_Painter_is_name CB
  have hMk : MkP l.prog w K mg base CPainter := ⟨_, _, mk_Painter, FI, b_Painter_init⟩
  have hName : PropS l.prog w K mg base CPainter "name" 1 (getSp CPainter "_name") := ⟨_, _, _, pr_Painter_name, ok_get_name F_Painter_name T, b_Painter_name⟩
  have hDay : PropS l.prog w K mg base CPainter "day" 1 (getSp CPainter "_day") := ⟨_, _, _, pr_Painter_day, ok_get_day F_Painter_day T, b_Painter_day⟩
  have hPost : PropS l.prog w K mg base CPainter "post" 1 (getSp CPainter "_post") := ⟨_, _, _, pr_Painter_post, ok_get_post F_Painter_post T, b_Painter_post⟩
  have hStride : PropS l.prog w K mg base CPainter "stride" 1 (getSp CPainter "_stride") := ⟨_, _, _, pr_Painter_stride, ok_get_stride F_Painter_stride T, b_Painter_stride⟩
  obtain ⟨uMP, hMP, rMP⟩ := gl_MAX_PAINTERS
  have FF := ok_finit (P := l.prog) (w := w) (base := base) F_Fence_init B nb_enumerate T U ic_Painter hName hMP rMP
  have hMkF : MkF l.prog w K mg base CPainter CFence := ⟨_, mk_Fence, FF⟩
  have FAdd := ok_fadd (P := l.prog) (w := w) (base := base) F_Fence_add U hMkF
  have hFAdd : OwnR l.prog w K mg base CFence "__add__" 5 P_Fence_add (spFAdd CPainter CFence) := ⟨_, _, me_Fence___add__.at_, me_Fence___add__.fn, fi_Fence___add__, FAdd, b_Fence_add⟩
  have hPs : PropS l.prog w K mg base CFence "painters" 1 (getSp CFence "_painters") := ⟨_, _, _, pr_Fence_painters, ok_get_painters F_Fence_painters U, b_Fence_painters⟩
  have CFe := ok_fence (P := l.prog) (w := w) (base := base) D__law_fence T U hMk hMkF hFAdd at_Fence
  have CDF := ok_df (P := l.prog) (w := w) (base := base) D_divisor_and_factor
  have CCN := ok_cn (P := l.prog) (w := w) (base := base) D_common_numbers B T hPost hStride CDF
  obtain ⟨uM, hM, rM⟩ := gl_MAX_ARGUMENT
  have CC := ok_check_count (P := l.prog) (w := w) (base := base) D_check_count hM rM CB
  have CSp := ok_span (P := l.prog) (w := w) (base := base) D__span_of B
  have CCr := CrC.of FK_crossing (ok_cr (P := l.prog) (w := w) (base := base) FK_crossing B T hDay hPost hStride CCN CSp) m_crossing
  have FB := ok_fb (P := l.prog) (w := w) (base := base) FK_first_block B T CC CCr
  have CFB := FBC.of FK_first_block FB m_first_block
  have CBk := ok_block (P := l.prog) (w := w) (base := base) D__block B CFB
  have FRl := fun f => ok_rl (P := l.prog) (w := w) (base := base) CBk f
  have CEB := ok_eb (P := l.prog) (w := w) (base := base) D__earliest_block B nb_enumerate T hDay
  have CFS := ok_fs (P := l.prog) (w := w) (base := base) gpF (fun f => bk_of (FRl f)) D__find_stopped B CEB
  have CRB := ok_rb (P := l.prog) (w := w) (base := base) D_rows_by B nb_enumerate nb_tuple T hName hDay hPost hStride CFS
  have tb0 := hTB _ List.mem_cons_self
  have CRO := ok_ro (P := l.prog) (w := w) (base := base) FRl DT__rows_of tb0 List.mem_cons_self (fun p hp e => by rw [List.mem_singleton.mp hp]) U hPs CRB
  have FH := ok_hinit (P := l.prog) (w := w) (base := base) F_History_init nb_enumerate nb_sorted UH neq_CHistory_CPainter neq_CHistory_CFence CRO
  have hMkH : MkH l.prog w K mg base [(Pq__rows_of, qRw)] CPainter CFence CHistory := ⟨_, _, mk_History, FH, b_History_init⟩
  have hRows : PropS l.prog w K mg base CHistory "rows" 1 (getSp CHistory "_rows") := ⟨_, _, _, pr_History_rows, ok_get_rows F_History_rows UH, b_History_rows⟩
  have CPc := ok_pc (P := l.prog) (w := w) (base := base) D_painted_counts nb_zip U UH hMkH hRows hPs
  have CNB := ok_nb (P := l.prog) (w := w) (base := base) D_numbers_between B
  have CMB := ok_mb (P := l.prog) (w := w) (base := base) D__many_between B CNB
  have CCB := ok_cb (P := l.prog) (w := w) (base := base) D_count_between nb_sum CMB
  have CBy := ok_cby (P := l.prog) (w := w) (base := base) D_counts_by B T hDay
  have CRu := ok_ru (P := l.prog) (w := w) (base := base) D_runs_of T hPost hStride
  have CPR := ok_pru (P := l.prog) (w := w) (base := base) D_painted_runs CPc CBy CRu
  obtain ⟨uW, hW, rW⟩ := gl_WINDOW
  have CWt := ok_wt (P := l.prog) (w := w) (base := base) D_weighted
  have COu := ok_out (P := l.prog) (w := w) (base := base) D_without CWt
  have CMi := ok_mirR (P := l.prog) (w := w) (base := base) D_mirrored
  have CFar := ok_farP (P := l.prog) (w := w) (base := base) D_far_post B
  have CRi := ok_right (P := l.prog) (w := w) (base := base) D__post_to_the_right hW rW CFar CCB
  have CPA := ok_postAt (P := l.prog) (w := w) (base := base) D_post_at CMi CRi
  have COp := ok_opp (P := l.prog) (w := w) (base := base) D__law_opposite
  have CCo := ok_cover (P := l.prog) (w := w) (base := base) D__law_cover B CD
  have CCv := ok_covering (P := l.prog) (w := w) (base := base) D__law_covering B CD CI CG
  have CFu := FulC.of FK_full_from (ok_ful (P := l.prog) (w := w) (base := base) FK_full_from CPR CMi CFar COu CPA) m_full_from
  have CA := ok_around (P := l.prog) (w := w) (base := base) D__law_around CD
  have CKP := ok_check_post (P := l.prog) (w := w) (base := base) D_check_post hM rM CB
  have CKD := ok_check_day (P := l.prog) (w := w) (base := base) D_check_day hM rM CB
  have CKN := ok_check_dayN (P := l.prog) (w := w) (base := base) D_check_day_or_none CKD
  have CPl := ok_ckpl (P := l.prog) (w := w) (base := base) D_check_place CKP CC CKN
  have CUN := unp_ofN FK_unpainted_from (ok_unp (P := l.prog) (w := w) (base := base) FK_unpainted_from CPl CPR COu CPA) m_unpainted_from
  have CGd := ok_gcd (P := l.prog) (w := w) (base := base) D__law_gcd B
  have CIv := ok_inv (P := l.prog) (w := w) (base := base) D__law_inverse B
  have CCom := ok_com (P := l.prog) (w := w) (base := base) D__law_common B CGd CIv
  have CFi := ok_first (P := l.prog) (w := w) (base := base) D__law_first B
  have CPa := ok_pairs (P := l.prog) (w := w) (base := base) D__law_pairs B CCom
  have CNx := ok_next (P := l.prog) (w := w) (base := base) D__law_next B CFi
  have CLh := ok_lhist (P := l.prog) (w := w) (base := base) D__law_history B CPa CNx
  have CShr := ok_shr (P := l.prog) (w := w) (base := base) D__law_shares nb_enumerate CGd
  have CNu := ok_number (P := l.prog) (w := w) (base := base) D__law_number B nb_enumerate
  have CIp := ok_ispaint (P := l.prog) (w := w) (base := base) D__law_is_painted B nb_enumerate
  have CIw := ok_is_whole (P := l.prog) (w := w) (base := base) D__law_is_whole B
  have CRg := ok_rigF (P := l.prog) (w := w) (base := base) D__law_is_right B nb_enumerate nb_tuple COp CShr CNu CIw CIp
  have CShu := ok_shuf (P := l.prog) (w := w) (base := base) D__law_shuffled B CD
  exact ok_law F_law B CPen CD CP CI CG CA CN CCo CShu CCv CFe CLh COp CRg CFu CUN
end Ur
theorem PySem.W.Fast.tw4735676549613378240 : True := True.intro
theorem PySem.W.Fast.tw11108796197003322371 : True := True.intro
theorem PySem.W.Fast.tw13200816709389838947 : True := True.intro
theorem PySem.W.Fast.tw12958231936185871267 : True := True.intro
theorem PySem.W.Fast.tw4685810036215056485 : True := True.intro
theorem PySem.W.Fast.tw10400266649315989413 : True := True.intro
theorem PySem.W.Fast.tw17814254728093823973 : True := True.intro
theorem PySem.W.Fast.tw6602184920795301958 : True := True.intro
theorem PySem.W.Fast.tw6057057731559665895 : True := True.intro
theorem PySem.W.Fast.tw16248299380334178951 : True := True.intro
theorem PySem.W.Fast.tw9663499965407765415 : True := True.intro
theorem PySem.W.Fast.tw1282429943710863656 : True := True.intro
theorem PySem.W.Fast.tw1021777563409393033 : True := True.intro
theorem PySem.W.Fast.tw18156841975256023625 : True := True.intro
theorem PySem.W.Fast.tw3786979889714602729 : True := True.intro
theorem PySem.W.Fast.tw14302157605546532266 : True := True.intro
theorem PySem.W.Fast.tw12968061813204005578 : True := True.intro
theorem PySem.W.Fast.tw18121075449548491787 : True := True.intro
theorem PySem.W.Fast.tw1394040776761926027 : True := True.intro
theorem PySem.W.Fast.tw18200949720776082379 : True := True.intro
theorem PySem.W.Fast.tw6111939251800170252 : True := True.intro
theorem PySem.W.Fast.tw13500180453870909292 : True := True.intro
theorem PySem.W.Fast.tw4231318709504267373 : True := True.intro
theorem PySem.W.Fast.tw7382427576058450189 : True := True.intro
theorem PySem.W.Fast.tw14030227494773890381 : True := True.intro
theorem PySem.W.Fast.tw14326679425418780718 : True := True.intro
theorem PySem.W.Fast.tw9207761706101943150 : True := True.intro
theorem PySem.W.Fast.tw6098691954891251791 : True := True.intro
theorem PySem.W.Fast.tw15599596392326955153 : True := True.intro
theorem PySem.W.Fast.tw7528220764886008689 : True := True.intro
theorem PySem.W.Fast.tw13395407333140491954 : True := True.intro
theorem PySem.W.Fast.tw16026358693792613427 : True := True.intro
theorem PySem.W.Fast.tw16722440408783571635 : True := True.intro
theorem PySem.W.Fast.tw11506524814864832534 : True := True.intro
theorem PySem.W.Fast.tw1194078300124425431 : True := True.intro
theorem PySem.W.Fast.tw2000165578372879831 : True := True.intro
theorem PySem.W.Fast.tw15549062265118099960 : True := True.intro
theorem PySem.W.Fast.tw7867167596704682712 : True := True.intro
theorem PySem.W.Fast.tw6164647532700206008 : True := True.intro
theorem PySem.W.Fast.tw4752072516794685593 : True := True.intro
theorem PySem.W.Fast.tw14281279936428427705 : True := True.intro
theorem PySem.W.Fast.tw16391526487326461146 : True := True.intro
theorem PySem.W.Fast.tw11374454756128267227 : True := True.intro
theorem PySem.W.Fast.tw2346618138290802683 : True := True.intro
theorem PySem.W.Fast.tw10193616603925963900 : True := True.intro
theorem PySem.W.Fast.tw8181377359789162812 : True := True.intro
theorem PySem.W.Fast.tw17309597308778955806 : True := True.intro
theorem PySem.W.Fast.tw3385260876262344223 : True := True.intro
theorem PySem.W.Fast.tw8817291198399488607 : True := True.intro
theorem PySem.W.Fast.tw10220442868417145759 : True := True.intro
open PySem PySem.W PyProof.Rows
set_option maxRecDepth 100000 in
set_option maxHeartbeats 0 in
theorem PySem.Challenge.cw_paintposts_k50_whole_full_from_with_hole_holds : PySem.Challenge.rw_paintposts_k50_whole_full_from_with_hole.Holds := by
  w_on; o_law; k_head; (case hw => w_witness2)
  k_fill
  refine Ur.walk_ofGT (l := PySem.Challenge.rw_paintposts_k50_whole_full_from_with_hole) (n := 63) (k := 40) (x := "_law_script") (xs := ["_rows_of"]) rfl (by decide) rfl ⟨rfl, by decide, by decide⟩ ?hrec (fun w h Y => PySem.W.km_in_of Y) ?F
  case hrec => decide +kernel
  case F =>
    intro w mg fa h KX G hmg
    refine' Ur.all_mk KX G hmg ?a1 ?l1 ?c1 ?k1 ?a2 ?l2 ?c2 ?k2 ?a3 ?l3 ?c3 ?k3 ?a4 ?l4 ?c4 ?k4 ?a5 ?l5 ?c5 ?k5 ?a6 ?l6 ?c6 ?k6 ?a7 ?l7 ?c7 ?k7 ?a8 ?l8 ?c8 ?k8 ?a9 ?l9 ?c9 ?k9 ?a10 ?l10 ?c10 ?k10 ?a11 ?l11 ?c11 ?k11 ?a12 ?l12 ?c12 ?k12 ?a13 ?l13 ?c13 ?k13 ?a14 ?l14 ?c14 ?k14 ?a15 ?l15 ?c15 ?k15 ?q15_0 ?s15_0 ?q15_1 ?s15_1 ?q15_2 ?s15_2 ?a16 ?l16 ?c16 ?k16 ?q16_0 ?s16_0 ?q16_1 ?s16_1 ?a17 ?l17 ?c17 ?k17 ?a18 ?l18 ?c18 ?k18 ?a19 ?l19 ?c19 ?k19 ?a20 ?l20 ?c20 ?k20 ?a21 ?l21 ?c21 ?k21 ?a22 ?l22 ?c22 ?k22 ?a23 ?l23 ?c23 ?k23 ?a24 ?l24 ?c24 ?k24 ?a25 ?l25 ?c25 ?k25 ?a26 ?l26 ?c26 ?k26 ?a27 ?l27 ?c27 ?k27 ?a28 ?l28 ?c28 ?k28 ?a29 ?l29 ?c29 ?k29 ?a30 ?l30 ?c30 ?k30 ?a31 ?l31 ?c31 ?k31 ?a32 ?l32 ?c32 ?k32 ?a33 ?l33 ?c33 ?k33 ?a34 ?l34 ?c34 ?k34 ?a35 ?l35 ?c35 ?k35 ?a36 ?l36 ?c36 ?k36 ?a37 ?l37 ?c37 ?k37 ?a38 ?l38 ?c38 ?k38 ?a39 ?l39 ?c39 ?k39 ?q39_0 ?s39_0 ?a40 ?l40 ?c40 ?k40 ?a41 ?l41 ?c41 ?k41 ?a42 ?l42 ?c42 ?k42 ?a43 ?l43 ?c43 ?k43 ?a44 ?l44 ?c44 ?k44 ?a45 ?l45 ?c45 ?k45 ?a46 ?l46 ?c46 ?k46 ?a47 ?l47 ?c47 ?k47 ?a48 ?l48 ?c48 ?k48 ?a49 ?l49 ?c49 ?k49 ?a50 ?l50 ?c50 ?k50 ?a51 ?l51 ?c51 ?k51 ?a52 ?l52 ?c52 ?k52 ?q52_0 ?s52_0 ?q52_1 ?s52_1 ?a53 ?l53 ?c53 ?k53 ?a54 ?l54 ?c54 ?k54 ?a55 ?l55 ?c55 ?k55 ?a56 ?l56 ?c56 ?k56 ?aL ?lL ?cL ?kL ?gPainter ?pgPainter ?hdPainter ?poPainter ?saPainter ?rdPainter ?gaPainter ?nPainter_name ?nPainter_day ?nPainter_post ?nPainter_stride ?vPainterMAX_DAY ?wPainterMAX_DAY ?vPainterMAX_POST ?wPainterMAX_POST ?vPainterMAX_STRIDE ?wPainterMAX_STRIDE ?a57 ?i57 ?l57 ?c57 ?k57 ?mkPainter ?kcPainter ?a58 ?e58 ?l58 ?c58 ?k58 ?a59 ?s59 ?t59 ?e59 ?l59 ?c59 ?k59 ?a60 ?s60 ?t60 ?e60 ?l60 ?c60 ?k60 ?a61 ?s61 ?t61 ?e61 ?l61 ?c61 ?k61 ?a62 ?s62 ?t62 ?e62 ?l62 ?c62 ?k62 ?gFence ?pgFence ?hdFence ?poFence ?saFence ?rdFence ?gaFence ?nFence_painters ?nFence_by_name ?a63 ?i63 ?l63 ?c63 ?k63 ?mkFence ?kcFence ?a64 ?s64 ?t64 ?e64 ?l64 ?c64 ?k64 ?a65 ?i65 ?l65 ?c65 ?k65 ?gHistory ?pgHistory ?hdHistory ?poHistory ?saHistory ?rdHistory ?gaHistory ?nHistory_fence ?nHistory_rows ?nHistory_by_name ?nHistory_stopped ?a66 ?i66 ?l66 ?c66 ?k66 ?mkHistory ?kcHistory ?a67 ?s67 ?t67 ?e67 ?l67 ?c67 ?k67 ?ax1 ?ax2 ?ax3 ?ax4 ?ax5 ?ax6 ?ax7 ?y1Painter ?y2Painter ?y3Painter ?y4Painter ?y1Fence ?y2Fence ?y3Fence ?y4Fence ?r20q ?v20x ?w20x ?n20q ?neq_CHistory_CPainter ?neq_CHistory_CFence ?GMAX_ARGUMENT ?HMAX_ARGUMENT ?GMAX_PAINTERS ?HMAX_PAINTERS ?GWINDOW ?HWINDOW ?zlen ?zint ?zabs ?zlist ?zrange ?zmin ?zmax ?zrepr ?zstr ?zbool ?zisinstance ?zany ?zdivmod ?zenumerate ?ztuple ?zsorted ?zzip ?zsum
    (case a1 => k_is)
    (case l1 => k_is)
    (case c1 => k_is)
    (case k1 => k_is)
    (case a2 => k_is)
    (case l2 => k_is)
    (case c2 => k_is)
    (case k2 => k_is)
    (case a3 => k_is)
    (case l3 => k_is)
    (case c3 => k_is)
    (case k3 => k_is)
    (case a4 => k_is)
    (case l4 => k_is)
    (case c4 => k_is)
    (case k4 => k_is)
    (case a5 => k_is)
    (case l5 => k_is)
    (case c5 => k_is)
    (case k5 => k_is)
    (case a6 => k_is)
    (case l6 => k_is)
    (case c6 => k_is)
    (case k6 => k_is)
    (case a7 => k_is)
    (case l7 => k_is)
    (case c7 => k_is)
    (case k7 => k_is)
    (case a8 => k_is)
    (case l8 => k_is)
    (case c8 => k_is)
    (case k8 => k_is)
    (case a9 => k_is)
    (case l9 => k_is)
    (case c9 => k_is)
    (case k9 => k_is)
    (case a10 => k_is)
    (case l10 => k_is)
    (case c10 => k_is)
    (case k10 => k_is)
    (case a11 => k_is)
    (case l11 => k_is)
    (case c11 => k_is)
    (case k11 => k_is)
    (case a12 => k_is)
    (case l12 => k_is)
    (case c12 => k_is)
    (case k12 => k_is)
    (case a13 => k_is)
    (case l13 => k_is)
    (case c13 => k_is)
    (case k13 => k_is)
    (case a14 => k_is)
    (case l14 => k_is)
    (case c14 => k_is)
    (case k14 => k_is)
    (case a15 => k_is)
    (case l15 => k_is)
    (case c15 => k_is)
    (case k15 => k_is)
    (case q15_0 => k_is)
    (case s15_0 => exact rfl)
    (case q15_1 => k_is)
    (case s15_1 => exact rfl)
    (case q15_2 => k_is)
    (case s15_2 => exact rfl)
    (case a16 => k_is)
    (case l16 => k_is)
    (case c16 => k_is)
    (case k16 => k_is)
    (case q16_0 => k_is)
    (case s16_0 => exact rfl)
    (case q16_1 => k_is)
    (case s16_1 => exact rfl)
    (case a17 => k_is)
    (case l17 => k_is)
    (case c17 => k_is)
    (case k17 => k_is)
    (case a18 => k_is)
    (case l18 => k_is)
    (case c18 => k_is)
    (case k18 => k_is)
    (case a19 => k_is)
    (case l19 => k_is)
    (case c19 => k_is)
    (case k19 => k_is)
    (case a20 => k_is)
    (case l20 => k_is)
    (case c20 => k_is)
    (case k20 => k_is)
    (case a21 => k_is)
    (case l21 => k_is)
    (case c21 => k_is)
    (case k21 => k_is)
    (case a22 => k_is)
    (case l22 => k_is)
    (case c22 => k_is)
    (case k22 => k_is)
    (case a23 => k_is)
    (case l23 => k_is)
    (case c23 => k_is)
    (case k23 => k_is)
    (case a24 => k_is)
    (case l24 => k_is)
    (case c24 => k_is)
    (case k24 => k_is)
    (case a25 => k_is)
    (case l25 => k_is)
    (case c25 => k_is)
    (case k25 => k_is)
    (case a26 => k_is)
    (case l26 => k_is)
    (case c26 => k_is)
    (case k26 => k_is)
    (case a27 => k_is)
    (case l27 => k_is)
    (case c27 => k_is)
    (case k27 => k_is)
    (case a28 => k_is)
    (case l28 => k_is)
    (case c28 => k_is)
    (case k28 => k_is)
    (case a29 => k_is)
    (case l29 => k_is)
    (case c29 => k_is)
    (case k29 => k_is)
    (case a30 => k_is)
    (case l30 => k_is)
    (case c30 => k_is)
    (case k30 => k_is)
    (case a31 => k_is)
    (case l31 => k_is)
    (case c31 => k_is)
    (case k31 => k_is)
    (case a32 => k_is)
    (case l32 => k_is)
    (case c32 => k_is)
    (case k32 => k_is)
    (case a33 => k_is)
    (case l33 => k_is)
    (case c33 => k_is)
    (case k33 => k_is)
    (case a34 => k_is)
    (case l34 => k_is)
    (case c34 => k_is)
    (case k34 => k_is)
    (case a35 => k_is)
    (case l35 => k_is)
    (case c35 => k_is)
    (case k35 => k_is)
    (case a36 => k_is)
    (case l36 => k_is)
    (case c36 => k_is)
    (case k36 => k_is)
    (case a37 => k_is)
    (case l37 => k_is)
    (case c37 => k_is)
    (case k37 => k_is)
    (case a38 => k_is)
    (case l38 => k_is)
    (case c38 => k_is)
    (case k38 => k_is)
    (case a39 => k_is)
    (case l39 => k_is)
    (case c39 => k_is)
    (case k39 => k_is)
    (case q39_0 => k_is)
    (case s39_0 => exact rfl)
    (case a40 => k_is)
    (case l40 => k_is)
    (case c40 => k_is)
    (case k40 => k_is)
    (case a41 => k_is)
    (case l41 => k_is)
    (case c41 => k_is)
    (case k41 => k_is)
    (case a42 => k_is)
    (case l42 => k_is)
    (case c42 => k_is)
    (case k42 => k_is)
    (case a43 => k_is)
    (case l43 => k_is)
    (case c43 => k_is)
    (case k43 => k_is)
    (case a44 => k_is)
    (case l44 => k_is)
    (case c44 => k_is)
    (case k44 => k_is)
    (case a45 => k_is)
    (case l45 => k_is)
    (case c45 => k_is)
    (case k45 => k_is)
    (case a46 => k_is)
    (case l46 => k_is)
    (case c46 => k_is)
    (case k46 => k_is)
    (case a47 => k_is)
    (case l47 => k_is)
    (case c47 => k_is)
    (case k47 => k_is)
    (case a48 => k_is)
    (case l48 => k_is)
    (case c48 => k_is)
    (case k48 => k_is)
    (case a49 => k_is)
    (case l49 => k_is)
    (case c49 => k_is)
    (case k49 => k_is)
    (case a50 => k_is)
    (case l50 => k_is)
    (case c50 => k_is)
    (case k50 => k_is)
    (case a51 => k_is)
    (case l51 => k_is)
    (case c51 => k_is)
    (case k51 => k_is)
    (case a52 => k_is)
    (case l52 => k_is)
    (case c52 => k_is)
    (case k52 => k_is)
    (case q52_0 => k_is)
    (case s52_0 => exact rfl)
    (case q52_1 => k_is)
    (case s52_1 => exact rfl)
    (case a53 => k_is)
    (case l53 => k_is)
    (case c53 => k_is)
    (case k53 => k_is)
    (case a54 => k_is)
    (case l54 => k_is)
    (case c54 => k_is)
    (case k54 => k_is)
    (case a55 => k_is)
    (case l55 => k_is)
    (case c55 => k_is)
    (case k55 => k_is)
    (case a56 => k_is)
    (case l56 => k_is)
    (case c56 => k_is)
    (case k56 => k_is)
    (case aL => k_is)
    (case lL => k_is)
    (case cL => k_is)
    (case kL => k_is)
    (case gPainter => k_is)
    (case pgPainter => k_is)
    (case hdPainter => k_is)
    (case poPainter => k_is)
    (case saPainter => k_is)
    (case rdPainter => k_is)
    (case gaPainter => k_is)
    (case nPainter_name => k_is)
    (case nPainter_day => k_is)
    (case nPainter_post => k_is)
    (case nPainter_stride => k_is)
    (case vPainterMAX_DAY => k_is)
    (case wPainterMAX_DAY => exact ⟨_, rfl⟩)
    (case vPainterMAX_POST => k_is)
    (case wPainterMAX_POST => exact ⟨_, rfl⟩)
    (case vPainterMAX_STRIDE => k_is)
    (case wPainterMAX_STRIDE => exact ⟨_, rfl⟩)
    (case a57 => k_is)
    (case i57 => k_is)
    (case l57 => k_is)
    (case c57 => k_is)
    (case k57 => k_is)
    (case mkPainter => k_is)
    (case kcPainter => k_is)
    (case a58 => k_is)
    (case e58 => k_is)
    (case l58 => k_is)
    (case c58 => k_is)
    (case k58 => k_is)
    (case a59 => k_is)
    (case s59 => k_is)
    (case t59 => k_is)
    (case e59 => k_is)
    (case l59 => k_is)
    (case c59 => k_is)
    (case k59 => k_is)
    (case a60 => k_is)
    (case s60 => k_is)
    (case t60 => k_is)
    (case e60 => k_is)
    (case l60 => k_is)
    (case c60 => k_is)
    (case k60 => k_is)
    (case a61 => k_is)
    (case s61 => k_is)
    (case t61 => k_is)
    (case e61 => k_is)
    (case l61 => k_is)
    (case c61 => k_is)
    (case k61 => k_is)
    (case a62 => k_is)
    (case s62 => k_is)
    (case t62 => k_is)
    (case e62 => k_is)
    (case l62 => k_is)
    (case c62 => k_is)
    (case k62 => k_is)
    (case gFence => k_is)
    (case pgFence => k_is)
    (case hdFence => k_is)
    (case poFence => k_is)
    (case saFence => k_is)
    (case rdFence => k_is)
    (case gaFence => k_is)
    (case nFence_painters => k_is)
    (case nFence_by_name => k_is)
    (case a63 => k_is)
    (case i63 => k_is)
    (case l63 => k_is)
    (case c63 => k_is)
    (case k63 => k_is)
    (case mkFence => k_is)
    (case kcFence => k_is)
    (case a64 => k_is)
    (case s64 => k_is)
    (case t64 => k_is)
    (case e64 => k_is)
    (case l64 => k_is)
    (case c64 => k_is)
    (case k64 => k_is)
    (case a65 => k_is)
    (case i65 => k_is)
    (case l65 => k_is)
    (case c65 => k_is)
    (case k65 => k_is)
    (case gHistory => k_is)
    (case pgHistory => k_is)
    (case hdHistory => k_is)
    (case poHistory => k_is)
    (case saHistory => k_is)
    (case rdHistory => k_is)
    (case gaHistory => k_is)
    (case nHistory_fence => k_is)
    (case nHistory_rows => k_is)
    (case nHistory_by_name => k_is)
    (case nHistory_stopped => k_is)
    (case a66 => k_is)
    (case i66 => k_is)
    (case l66 => k_is)
    (case c66 => k_is)
    (case k66 => k_is)
    (case mkHistory => k_is)
    (case kcHistory => k_is)
    (case a67 => k_is)
    (case s67 => k_is)
    (case t67 => k_is)
    (case e67 => k_is)
    (case l67 => k_is)
    (case c67 => k_is)
    (case k67 => k_is)
    (case ax1 => k_is)
    (case ax2 => k_is)
    (case ax3 => k_is)
    (case ax4 => k_is)
    (case ax5 => k_is)
    (case ax6 => k_is)
    (case ax7 => decide)
    (case y1Painter => k_is)
    (case y2Painter => k_is)
    (case y3Painter => k_is)
    (case y4Painter => k_is)
    (case y1Fence => k_is)
    (case y2Fence => k_is)
    (case y3Fence => k_is)
    (case y4Fence => k_is)
    (case r20q => exact rfl)
    (case v20x => k_is)
    (case w20x => exact rfl)
    (case n20q => first | exact rfl | kernel_rfl)
    (case neq_CHistory_CPainter => decide)
    (case neq_CHistory_CFence => decide)
    (case GMAX_ARGUMENT => k_is)
    (case HMAX_ARGUMENT => exact ⟨_, rfl⟩)
    (case GMAX_PAINTERS => k_is)
    (case HMAX_PAINTERS => exact ⟨_, rfl⟩)
    (case GWINDOW => k_is)
    (case HWINDOW => exact ⟨_, rfl⟩)
    (case zlen => k_is)
    (case zint => k_is)
    (case zabs => k_is)
    (case zlist => k_is)
    (case zrange => k_is)
    (case zmin => k_is)
    (case zmax => k_is)
    (case zrepr => k_is)
    (case zstr => k_is)
    (case zbool => k_is)
    (case zisinstance => k_is)
    (case zany => k_is)
    (case zdivmod => k_is)
    (case zenumerate => k_is)
    (case ztuple => k_is)
    (case zsorted => k_is)
    (case zzip => k_is)
    (case zsum => k_is)
