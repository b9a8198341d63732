import PyProof.Rows.All
import Wide.All
import OpenK.AllK
import Wide.FinOn
import HandS.ForMost
import HandS.Property
import HandS.ClsMeth
import HandS.IsInst
import HandS.Wide
import HandS.StrMore
import HandS.FStr
import HandS.RaiseMore
import HandS.Codes
import HandS.Style
import HandS.Flow
import HandS.Defaults
import PyProof.ReprRoads
import PyProof.ReprLen
import PyProof.Rows.RegStrFacts
import KE.KExcIs
import KE.KNest
import HandS.Exc
import HandS.ExcInit
import HandS.ExcField
import HandS.WordsExc
import HandS.ExcIs
import HandS.Dict
import HandS.Lambda
import HandS.Call
import HandS.EndTab
import PyProof.Rows.RuleDivmod
import HandS.Text
import HandS.Walk
import HandS.MakeKwOnly
import PySem.Challenge.RW_paintposts_k02_painters_and_values_that
set_option Elab.async false
set_option linter.all false
set_option maxRecDepth 100000
set_option maxHeartbeats 4000000
/-! Ur0: what every law of this program starts with: short forms of calls, the pen, wide division, static methods. -/
namespace Ur
open PySem PySem.Spec PyProof.Rows L2

/-! ### calls in short -/
/-- a def of the text, where it stands -/
def Dfn (K : PySem.W.Frag) (mg : Str → Option Value) (x : Str) (st : Stmt) (ps : List Str) : Prop :=
  ∃ (f : Addr) (fd : FuncData), Fun K x x st f fd ∧ Binds K fd ps [] ∧ mg x = some (.ref f)
/-- a name of the module that can be called: it keeps the promise sp at level k -/
def Cal (P : Program) (w : World) (K : PySem.W.Frag) (mg : Str → Option Value) (base : Heap) (k : Nat) (x : Str) (ps : List Str) (sp : Sp) : Prop :=
  ∃ (f : Addr) (fd : FuncData), FnOk P w K mg base CX0 k f fd ps sp ∧ PySem.W.keepIn K (.ref f) = true ∧ Binds K fd ps [] ∧ mg x = some (.ref f)
section
variable {P : Program} {w : World} {K : PySem.W.Frag} {mg : Str → Option Value} {base : Heap} {k : Nat} {x : Str} {ps : List Str} {sp : Sp} {st : Stmt}
theorem Cal.mono {j : Nat} (c : Cal P w K mg base j x ps sp) (h : j ≤ k) : Cal P w K mg base k x ps sp :=
  let ⟨f, fd, F, r⟩ := c
  ⟨f, fd, F.mono h, r⟩
theorem Dfn.cal {N : List Str} (D : Dfn K mg x st ps) (S : FnScope N ps (defScope st)) (len : ∀ vs H Q E, sp vs H Q E → vs.length = ps.length)
    (hbody : ∀ (f : Addr) (cdv : Value) (A : Around) (outer : List Env) (s : Shared) (H : Hp) (vs : List V) (Q : VK) (E : XK), Room k (A.deeper (envOfC x (defScope st) s.heap.objs.size f cdv)) → sp vs H Q E →
      ∃ t, PSs (cxOf CX0 P w K mg base N x (defScope st) f cdv A outer s H E).nox (defBody st) t ∧ t { nx := fun _ H' => Q .non H', rt := Q } (start N vs) H) :
    Cal P w K mg base (k + 1) x ps sp := by
  obtain ⟨f, fd, F, b, m⟩ := D
  exact ⟨f, fd, F.ok S len fun cdv A outer s H vs Q E hr h => hbody f cdv A outer s H vs Q E hr h, F.kp, b, m⟩
end
section
variable {X : Cx} {k : Nat} {x : Str} {ps : List Str} {sp : Sp} {e : Expr} {es : List Expr} {t : TA} {p pos : Pos}
theorem pe_cal (c : Cal X.prog X.w X.K X.mg X.base k x ps sp) (hr : Room k X.A) (ha : PA X (e :: es) t) (hg : Gl X x := by rfl) (hdb : (x == ("__debug__" : Str)) = false := by decide)
    (he : starEach (e :: es) X.env = (false, eval e X.env) :: starEach es X.env := by rfl) (hpl : (backTo pos (starEach es X.env)).any (·.1) = false := by rfl) :
    PE X (.Call (.Name x p) (e :: es) [] pos) (tCall sp [] E0 t) := by
  obtain ⟨f, fd, F, kp, b, m⟩ := c
  exact pe_call F hr hg m kp b .nil pass0 ha (hdb := hdb) (he := he) (hpl := hpl)
end

/-! ### heaps: all stands as it stood, but what is at p -/
def Keep (p : Addr) (H H' : Hp) : Prop := ∀ b o, H b = some o → b ≠ p → H' b = some o
theorem Keep.refl {p : Addr} {H : Hp} : Keep p H H := fun _ _ h _ => h
theorem Keep.trans {p : Addr} {H H1 H2 : Hp} (a : Keep p H H1) (b : Keep p H1 H2) : Keep p H H2 := fun c o h n => b c o (a c o h n) n
theorem Keep.of {p : Addr} {H H' : Hp} (s : Same H H') : Keep p H H' := fun b o h _ => s b o h
theorem Keep.at_ {p : Addr} {H : Hp} {o : HO} : Keep p H (upd H p o) := fun b u h n => by rw [upd_ne n]; exact h
theorem same_new {H : Hp} {p : Addr} (h : H p = none) (o : HO) : Same H (upd H p o) := fun b u q => by rw [upd_ne (ne_of_none q h)]; exact q
theorem Keep.new {p q : Addr} {H H' : Hp} {o : HO} (a : Keep p H H') (h : H' q = none) : Keep p H (upd H' q o) := a.trans (Keep.of (same_new h o))
theorem Keep.at_new {p a : Addr} {H H' : Hp} {o : HO} (k : Keep p H H') (h : H a = none) : Keep p H (upd H' a o) := fun b u e n => by rw [upd_ne (ne_of_none e h)]; exact k b u e n
theorem Keep.lst {p a : Addr} {K : PySem.W.Frag} {H H' : Hp} {xs : List V} {kvs : List (Key × V)} (k : Keep p H H') (hp : H p = some (.dK kvs)) (h : SqL K H a xs) : SqL K H' a xs := by
  rcases h with (h | ⟨o, h⟩) | h
  · exact .inl (.inl (k _ _ h (ne_of h hp (by intro z; cases z))))
  · exact .inl (.inr ⟨o, k _ _ h (ne_of h hp (by intro z; cases z))⟩)
  · exact .inr h
theorem Keep.tup {p a : Addr} {K : PySem.W.Frag} {H H' : Hp} {xs : List V} {kvs : List (Key × V)} (k : Keep p H H') (hp : H p = some (.dK kvs)) (h : SqT K H a xs) : SqT K H' a xs := by
  rcases h with (h | ⟨o, h⟩) | h
  · exact .inl (.inl (k _ _ h (ne_of h hp (by intro z; cases z))))
  · exact .inl (.inr ⟨o, k _ _ h (ne_of h hp (by intro z; cases z))⟩)
  · exact .inr h
/-- a new address is none of the old ones, also where things were kept -/
theorem Keep.none_of {p a : Addr} {H H' : Hp} (k : Keep p H H') (h : H' a = none) (n : a ≠ p) : H a = none := by
  cases q : H a with
  | none => rfl
  | some o => rw [k a o q n] at h; cases h

/-! ### // by any divisor but 0, of up to 9000 bits -/
def CDivX (_ j : Int) : Prop := j ≠ 0 ∧ j.natAbs.log2 < 9000
theorem op_fdivX {X : Cx} : OpR X (binaryOp .FloorDiv) (rI CDivX fun i j => .int (i.fdiv j)) := opI fun i j _ _ _ _ _ hc q => PyProof.Rows.floordiv_int hc.1 q (.inl (PyProof.noPylong_of_log2 hc.2))
theorem log2_small {i : Int} {b : Nat} (h : i.natAbs < 2 ^ b) (hb : 0 < b) : i.natAbs.log2 < b := PySem.Flt.log2_lt_of hb h

/-! ### a static method, read off its class -/
structure SMet (K : PySem.W.Frag) (C : Addr) (mc : Value) (m : Str) (p g : Addr) : Prop where
  at_ : PySem.W.findCls K (.ref C) mc m = some (.get (.builtin "staticmethod.__get__") (.ref p) .none (.ref C))
  rc : ∃ rest, PySem.W.recIn K p "staticmethod" = some (.ref g :: rest)
  kp : PySem.W.keepIn K (.ref g) = true
def tSMeth (C : Addr) (sp : Sp) (E : XK) (ta : TE) (t : TA) : TE := fun σ H Q => ta σ H fun x H1 => x = .ref C ∧ t σ H1 fun vs H2 => sp vs H2 Q E
section
variable {X : Cx} {CX : CXT} {k : Nat} {C p g : Addr} {mc : Value} {sp : Sp} {E : XK} {o e : Expr} {es : List Expr} {m : Str} {pos apos : Pos} {ta : TE} {t : TA} {pl : Sem Bool} {fd : FuncData} {ps : List Str}
theorem pe_smeth (he : PE X o ta) (r : ClX.CRead X.K C mc) (c : SMet X.K C mc m p g) (F : FnOk X.prog X.w X.K X.mg X.base CX k g fd ps sp) (hb : Binds X.K fd ps []) (hr : Room k X.A) (hx : Passes CX X E) (ha : PA X (e :: es) t)
    (hst : starEach (e :: es) X.env = (false, eval e X.env) :: starEach es X.env := by rfl) (hpl : (backTo pos (starEach es X.env)).any (·.1) = false := by rfl)
    (ht : eval (.Call (.Attribute o m apos) (e :: es) [] pos) X.env = (do let ov ← eval o X.env; standAt apos.atName; let (f, first) ← holding [ov] (getMethod ov m pl); callWith pos f first (backTo pos (starEach (e :: es) X.env)) (backToKw pos (keywordEach [] X.env))) := by rfl) :
    PE X (.Call (.Attribute o m apos) (e :: es) [] pos) (tSMeth C sp E ta t) := by
  refine ⟨fun pins s σ H Q I h => ?_⟩
  refine PySem.W.methodCall_KW (pl := pl) (thn (he.run pins s σ H _ I h) fun u s1 ⟨x, H1, I1, rx, ex, q⟩ => ?_) ht
  subst ex
  obtain rfl : u = Value.ref C := rx
  obtain ⟨rest, hp⟩ := c.rc
  refine PySem.W.method_cls I1.kIn r.ga ?_
  refine PySem.W.cls_bind I1.kIn r.rd c.at_ (wpAny_call (PySem.W.sm_get (s := { s1 with toks := s1.toks + 1 }) I1.kIn hp (PySem.W.handed_on rfl ?_)))
  refine PySem.W.callWith_K (h₀ := X.base) I.ok.mod.kin c.kp (thn (ha.run pos pins _ σ H1 _ (I1.tok _) q) fun us s3 ⟨vs, H2, I3, rv, q2⟩ => ⟨I3.kIn, ?_⟩) hst hpl
  exact run_fn F hr hb .nil hx I3 rv (by rw [List.append_nil]; exact q2)
end
end Ur
/-! UrG: defs that show things (repr of lists and tuples): their promise holds where nothing is being shown around them. -/
namespace Ur
open PySem PySem.Spec PyProof.Rows L2
/-- nothing is being shown around -/
def Still (A : Around) : Prop := A.guards = some []
theorem Still.deeper {A : Around} {e : Env} (h : Still A) : Still (A.deeper e) := h
structure FnG (P : Program) (w : World) (K : PySem.W.Frag) (mg : Str → Option Value) (base : Heap) (k : Nat) (f : Addr) (fd : FuncData) (ps : List Str) (sp : Sp) : Prop where
  ln : ∀ vs H Q E, sp vs H Q E → vs.length = ps.length
  go : ∀ (A : Around) (out : List Env) (s : Shared) (H : Hp) (args : Args) (us : List Value) (vs : List V) (Q : VK) (E : XK), Still A → Room k A → Env0 P w K mg base A out s H → BindsTo s fd args (ps.zip us) → Vals vs us → sp vs H Q E → codeAny (model P w) A (.call (.ref f) args) (CR CX0 out P w H s Q E) s
section
variable {P : Program} {w : World} {K : PySem.W.Frag} {mg : Str → Option Value} {base : Heap} {k : Nat} {f : Addr} {fd : FuncData} {ps : List Str} {sp : Sp} {x qual : Str} {st : Stmt}
theorem FnG.of (F : FnOk P w K mg base CX0 k f fd ps sp) : FnG P w K mg base k f fd ps sp := ⟨F.len, fun A o s H a us vs Q E _ => F.run A o s H a us vs Q E⟩
theorem FnG.mono {j : Nat} (F : FnG P w K mg base j f fd ps sp) (h : j ≤ k) : FnG P w K mg base k f fd ps sp := ⟨F.ln, fun A o s H a us vs Q E g r => F.go A o s H a us vs Q E g (r.mono h)⟩
theorem runG {N : List Str} (F : Fun K x qual st f fd) (S : FnScope N ps (defScope st)) (len : ∀ vs H Q E, sp vs H Q E → vs.length = ps.length)
    (hbody : ∀ (cdv : Value) (A : Around) (out : List Env) (s : Shared) (H : Hp) (vs : List V) (Q : VK) (E : XK), Still A → Room k (A.deeper (envOfC qual (defScope st) s.heap.objs.size f cdv)) → sp vs H Q E → ∃ t, PSs (cxOf CX0 P w K mg base N qual (defScope st) f cdv A out s H E).nox (defBody st) t ∧ t { nx := fun _ H' => Q .non H', rt := Q } (start N vs) H) :
    FnG P w K mg base (k + 1) f fd ps sp := by
  obtain ⟨oc, od, kV, doc, pm, an, cdv, ct, osl, efd, lk, hcd⟩ := F.ex
  subst efd
  constructor
  · exact len
  intro A out s H args us vs Q E still room e0 hb rel ask
  have old : ∀ b o, base.get? b = some o → s.heap.get? b = some o := fun b o e => (e0.bs b o e).1
  have kin : K.In s.heap := e0.mod.kin.keeps old
  have kinds : ∀ y ∈ ps.zip us, (defScope st).names.lookup y.1 = some .local ∨ ((defScope st).names.lookup y.1 = some .cell ∧ ((cellsFrom (s.heap.objs.size + 1) (defScope st).names []).lookup y.1).isSome = true) := by
    intro y hy
    cases S.par y.1 (List.of_mem_zip (a := y.1) (b := y.2) hy).1 with
    | inl h => exact Or.inl h
    | inr h => exact Or.inr ⟨h, PySem.W.cellsFrom_some _ _ _ (Or.inl h)⟩
  refine codeAny_call_function room.depth (kin _ _ lk) rfl S.co S.gen rfl (PySem.W.codeRec_of kin hcd) (hb _ _ _ _ (wpAny_newFunctionEnv_cells S.kind kinds fun env he s1 made => ?_))
  subst he
  refine ⟨(e0.mod.nolimit.keeps old).keeps made.toInCall.keep, codeAny_func ?_⟩
  obtain ⟨t, ht0, hq⟩ := hbody cdv A out s H vs Q E still (room.deeper _) ask
  have J : Inv (cxOf CX0 P w K mg base N qual (defScope st) f cdv A out s H E) [] (start N vs) H s1 := inv_start S room.hd e0 (len _ _ _ _ ask) rel made
  refine wpAny_mono (ht0.nox.run [] s1 (start N vs) H _ J hq) ?_ (fun _ _ z => z)
  intro fl s2 done
  match fl, done with
  | .ret u, ⟨v, σ', H', J', rv, q⟩ => exact ⟨v, H', J'.os, J'.bare, J'.base, J'.hok, rv, q⟩
  | .next, ⟨σ', H', J', q⟩ => exact ⟨V.non, H', J'.os, J'.bare, J'.base, J'.hok, rfl, q⟩
  | .brk, ⟨_, _, _, q⟩ => exact q.elim
  | .cont, ⟨_, _, _, q⟩ => exact q.elim
/-- a name of the module that can be called where nothing is being shown -/
def CalG (P : Program) (w : World) (K : PySem.W.Frag) (mg : Str → Option Value) (base : Heap) (k : Nat) (x : Str) (ps : List Str) (sp : Sp) : Prop :=
  ∃ (f : Addr) (fd : FuncData), FnG P w K mg base k f fd ps sp ∧ PySem.W.keepIn K (.ref f) = true ∧ Binds K fd ps [] ∧ mg x = some (.ref f)
theorem Dfn.calG {N : List Str} (D : Dfn K mg x st ps) (S : FnScope N ps (defScope st)) (len : ∀ vs H Q E, sp vs H Q E → vs.length = ps.length)
    (hbody : ∀ (f : Addr) (cdv : Value) (A : Around) (out : List Env) (s : Shared) (H : Hp) (vs : List V) (Q : VK) (E : XK), Still A → Room k (A.deeper (envOfC x (defScope st) s.heap.objs.size f cdv)) → sp vs H Q E → ∃ t, PSs (cxOf CX0 P w K mg base N x (defScope st) f cdv A out s H E).nox (defBody st) t ∧ t { nx := fun _ H' => Q .non H', rt := Q } (start N vs) H) :
    CalG P w K mg base (k + 1) x ps sp := by
  obtain ⟨f, fd, F, b, m⟩ := D
  exact ⟨f, fd, runG F S len (hbody f), F.kp, b, m⟩
end
section
variable {X : Cx} {k : Nat} {x : Str} {ps : List Str} {sp : Sp} {e : Expr} {es : List Expr} {t : TA} {p pos : Pos}
theorem pe_calG (c : CalG X.prog X.w X.K X.mg X.base k x ps sp) (hs : Still X.A) (hr : Room k X.A) (ha : PA X (e :: es) t) (hg : Gl X x := by rfl) (hdb : (x == ("__debug__" : Str)) = false := by decide)
    (he : starEach (e :: es) X.env = (false, eval e X.env) :: starEach es X.env := by rfl) (hpl : (backTo pos (starEach es X.env)).any (·.1) = false := by rfl) :
    PE X (.Call (.Name x p) (e :: es) [] pos) (tCall sp [] E0 t) := by
  obtain ⟨f, fd, F, kp, b, m⟩ := c
  constructor
  intro pins s σ H Q I h
  refine wpAny_Call_Name_kw (ld_glob I hg m ?_ hdb)
  refine PySem.W.callWith_K (h₀ := X.base) I.ok.mod.kin kp (thn (ha.run pos pins s σ H _ I h) ?_) he hpl
  intro us s1 ⟨vs, H1, J, r, q⟩
  refine ⟨J.kIn, ?_⟩
  have q : sp (vs ++ []) H1 Q E0 := q
  rw [List.append_nil] at q
  have hl : us.length = ps.length := by rw [← r.length]; exact F.ln _ _ _ _ q
  have bb := b s1 us J.kIn (by rw [List.append_nil]; exact hl)
  rw [List.append_nil] at bb
  refine wpAny_call (codeAny_mono (F.go X.A X.stack s1 H1 ⟨us, []⟩ us vs Q E0 hs hr J.env0 bb r q) ?_)
  intro rr s2 hq
  match rr, hq with
  | .ok (.ret u), hq => exact J.after hq
  | .ok .next, hq => exact False.elim hq
  | .ok .brk, hq => exact False.elim hq
  | .ok .cont, hq => exact False.elim hq
  | .error _, hq => exact False.elim hq
/-- repr(x) of data: its own text -/
def rRepr (K : PySem.W.Frag) : List V → Hp → VK → Prop := fun xs H Q => ∃ (x : V) (d : PyData), xs = [x] ∧ Dp K H x d ∧ d.showable = true ∧ d.hasDict = false ∧ d.depth ≤ 64 ∧ d.shown.length ≤ sizeLine ∧ Q (.str d.shown) H
/-- .. of a value that is no list and no tuple -/
def rReprF : List V → Hp → VK → Prop := fun xs H Q => (xs = [.non] ∧ Q (.str (PyData.shown .none)) H) ∨ (∃ b, xs = [.bl b] ∧ Q (.str (PyData.shown (.bool b))) H) ∨ (∃ i, xs = [.int i] ∧ i.natAbs.log2 < 1920 ∧ Q (.str (PyData.shown (.int i))) H) ∨
  ∃ x : Str, xs = [.str x] ∧ (reprText x).length ≤ sizeLine ∧ Q (.str (PyData.shown (.str x))) H
theorem call_reprF : CallR X (.builtin "repr") rReprF := by
  intro pins s σ H xs us Q I r h
  rcases h with ⟨rfl, q⟩ | ⟨b, rfl, q⟩ | ⟨i, rfl, hz, q⟩ | ⟨x, rfl, hz, q⟩
  · obtain ⟨u, rfl, ru⟩ := vals1 r
    obtain rfl : u = Value.none := ru
    exact PySem.P.repr_of_none ⟨.str _, H, I.tok _, ⟨_, rfl⟩, q⟩
  · obtain ⟨u, rfl, ru⟩ := vals1 r
    obtain rfl : u = Value.bool b := ru
    exact PySem.P.repr_of_bool ⟨.str _, H, I.tok _, ⟨_, rfl⟩, q⟩
  · obtain ⟨u, rfl, t, rfl⟩ := vals1 r
    exact PySem.P.repr_of_int hz ⟨.str _, H, I.tok _, ⟨_, rfl⟩, q⟩
  · obtain ⟨u, rfl, t, rfl⟩ := vals1 r
    exact PySem.P.repr_of_str ⟨.str _, H, I.tok _, ⟨_, rfl⟩, q⟩ hz
theorem call_reprD (hs : Still X.A) (hu : X.A.units + 66 < cLine) : CallR X (.builtin "repr") (rRepr X.K) := by
  intro pins s σ H xs us Q I r h
  obtain ⟨x, d, rfl, hd, sh, nd, dp, sz, q⟩ := h
  have flat : rReprF [x] H Q → wpAny (model X.prog X.w) X.A (call (.builtin "repr") us) (EP X pins σ Q) X.xe s := fun z => call_reprF pins s σ H [x] us Q I r z
  cases d with
  | none => cases hd; exact flat (Or.inl ⟨rfl, q⟩)
  | bool b => cases hd; exact flat (Or.inr (Or.inl ⟨b, rfl, q⟩))
  | int i => cases hd; exact flat (Or.inr (Or.inr (Or.inl ⟨i, rfl, of_decide_eq_true sh, q⟩)))
  | str y => cases hd; exact flat (Or.inr (Or.inr (Or.inr ⟨y, rfl, sz, q⟩)))
  | dict _ => cases hd
  | list ds =>
    obtain ⟨u, rfl, ru⟩ := vals1 r
    obtain ⟨as, rd⟩ := Dp.reads I _ x u hd ru
    obtain ⟨a, rfl⟩ : ∃ a, x = .ref a := by cases hd; exact ⟨_, rfl⟩
    obtain rfl : u = Value.ref a := ru
    exact repr_of_reads' rd sh (fun z => by rw [nd] at z; cases z) hs (by omega) (fun _ _ e => e) (fun h' v tk kp => ⟨.str _, H, I.kept kp, ⟨v, rfl⟩, q⟩) sz
  | tuple ds =>
    obtain ⟨u, rfl, ru⟩ := vals1 r
    obtain ⟨as, rd⟩ := Dp.reads I _ x u hd ru
    obtain ⟨a, rfl⟩ : ∃ a, x = .ref a := by cases hd; exact ⟨_, rfl⟩
    obtain rfl : u = Value.ref a := ru
    exact repr_of_reads' rd sh (fun z => by rw [nd] at z; cases z) hs (by omega) (fun _ _ e => e) (fun h' v tk kp => ⟨.str _, H, I.kept kp, ⟨v, rfl⟩, q⟩) sz
end
/-! ### the law's own call -/
theorem law_callG {P : Program} {w : World} {K : PySem.W.Frag} {mg mb : Str → Option Value} {k : Nat} {fa a : Addr} {fd : FuncData} {x : Str} {sp : Sp} {s1 : Shared} {vs : List Value} {ns : List Int}
    (kin : K.In s1.heap) (hns : s1.heap.Ns mainGlobals mg) (hb : s1.heap.Ns builtinsNs mb) (hbb : ∀ x : Str, x ≠ "__name__" → mb x = bootBuiltins x) (hlim : s1.heap.NoLimit) (hg : s1.gens = #[])
    (ha : s1.heap.get? a = some { cls := .type "list", data := .seq vs.toArray }) (hi : IntsAre vs ns) (hl : ns.length ≤ sizeLine) (hr : Room k callerA)
    (F : ∀ base : Heap, K.In base → base.Ns mainGlobals mg → FnG P w K mg base k fa fd [x] sp) (hbind : ∀ (s : Shared) (u : Value), BindsTo s fd ⟨[u], []⟩ [(x, u)])
    (hsp : ∀ H : Hp, SqL K H a (ns.map V.int) → sp [.ref a] H (fun v _ => v = .bl true) fun _ _ _ => False) :
    codeAny (model P w) callerA (.call (.ref fa) ⟨[.ref a], []⟩) (fun r s' => r = .ok (.ret (.bool true)) ∧ OldK s1.heap s'.heap ∧ s'.os = s1.os ∧ AllBare s'.gens) s1 := by
  have rv : Vals (ns.map V.int) vs := vals_ints hi
  have lenV : vs.length = ns.length := hi.length
  -- the abstract heap: the script alone, where it is none of the module's own objects
  let ob : Obj := { cls := .type "list", data := .seq vs.toArray }
  obtain ⟨H, hH, hS, only⟩ : ∃ H : Hp, (∀ b u, H b = some u → b = a ∧ u = .frz ob (.lst (ns.map V.int)) ∧ K.lookup a = none) ∧ SqL K H a (ns.map V.int) ∧ True := by
    cases hk : K.lookup a with
    | some o =>
      have e : s1.heap.get? a = some o := kin a o hk
      have e2 : o = ob := Option.some.inj (e.symm.trans ha)
      refine ⟨fun _ => none, fun b u z => (nomatch z), Or.inr ⟨o, vs.toArray, 0, hk, by rw [e2], by rw [e2], by rw [e2], ?_, ?_⟩, trivial⟩
      · rw [List.size_toArray, lenV]; exact hl
      · simpa using rv
    | none =>
      refine ⟨fun b => if b = a then some (.frz ob (.lst (ns.map V.int))) else none, fun b u z => ?_, Or.inl (Or.inr ⟨ob, if_pos rfl⟩), trivial⟩
      by_cases hba : b = a
      · refine ⟨hba, ?_, rfl⟩
        have z : (if b = a then some (HO.frz ob (.lst (ns.map V.int))) else none) = some u := z
        rw [if_pos hba] at z
        exact (Option.some.inj z).symm
      · have z : (if b = a then some (HO.frz ob (.lst (ns.map V.int))) else none) = some u := z
        rw [if_neg hba] at z
        cases z
  have hok : HOk P w H s1.heap := by
    intro b u z
    obtain ⟨rfl, rfl, _⟩ := hH b u z
    exact ⟨ha, by rw [List.length_map]; exact hl, vs, _, rv, ha⟩
  have free : ∀ {b : Addr} {o : Obj}, s1.heap.get? b = some o → (b = a → o = ob → K.lookup a ≠ none) → H b = none := by
    intro b o e n
    cases z : H b with
    | none => rfl
    | some u =>
      obtain ⟨h1, _, h3⟩ := hH b u z
      subst h1
      exact absurd h3 (n rfl (Option.some.inj (e.symm.trans ha)))
  have nsB : ∀ {b : Addr} {m : Str → Option Value}, s1.heap.Ns b m → (hidT s1.heap H).Ns b m := by
    intro b m ⟨o, es, ep, e, d, r⟩
    refine ⟨o, es, ep, hidT_get e (free e fun _ z => ?_), d, r⟩
    rw [z] at d
    cases d
  have kinB : K.In (hidT s1.heap H) := by
    intro b o e
    refine hidT_get (kin b o e) (free (kin b o e) fun z _ => ?_)
    subst z
    rw [e]
    exact fun q => nomatch q
  have modB : Mod K mg (hidT s1.heap H) := by
    obtain ⟨mc, l1, l2⟩ := hlim
    exact ⟨kinB, nsB hns, ⟨mb, nsB hb, hbb⟩, ⟨mc, nsB l1, l2⟩⟩
  have none_in : ∀ b : Addr, b ∉ ([] : List Addr) := fun b z => nomatch z
  have e0 : Env0 P w K mg (hidT s1.heap H) callerA [] s1 H := ⟨rfl, modB, fun b o e => of_hidT e, Nat.le_of_eq (hidT_size _ _), trivial, fun b z => absurd z (none_in b), hok, .of_eq hg⟩
  refine codeAny_mono ((F _ kinB (nsB hns)).go callerA [] s1 H ⟨[.ref a], []⟩ [.ref a] [.ref a] _ _ rfl hr e0 (hbind s1 (.ref a)) (.cons rfl .nil) (hsp H hS)) ?_
  intro r s2 h
  match r, h with
  | .error _, h => exact False.elim h
  | .ok .next, h => exact False.elim h
  | .ok .brk, h => exact False.elim h
  | .ok .cont, h => exact False.elim h
  | .ok (.ret u), h =>
    obtain ⟨v, H2, os, bare, un, hok2, rv2, q⟩ := h
    have q : v = .bl true := q
    subst q
    obtain rfl : u = Value.bool true := rv2
    refine ⟨rfl, OldK.of_keep ?_, os, bare⟩
    intro b o e
    cases z : H b with
    | none => exact un.keep b o e z (none_in b) (none_in b)
    | some u =>
      obtain ⟨rfl, rfl, _⟩ := hH b u z
      have z2 := un.frzs b ob _ z
      have e2 := (hok2 b _ z2).1
      rw [ha] at e
      rw [← Option.some.inj e]
      exact e2
theorem walk_ofG {l : PySem.W.OpenLaw} {n k : Nat} {q : Program} {loose : List Str} {XP : (Str → Option Value) → Heap → Prop} {YP : World → Heap → Prop} {d : DefRec} {K : Params → PySem.W.Frag} {sp : PySem.W.Frag → Sp} {x : Str}
    (hn : l.most = some n) (hn2 : n ≤ sizeLine) (hdf : d.params.defaults = []) (hr : Room k callerA) (hY : ∀ (w : World) (h : Heap), YP w h → (K w.params).In h)
    (F : ∀ (w : World) (mg : Str → Option Value) (fa : Addr) (h : Heap), (K w.params).In h → h.Ns mainGlobals mg → mg d.name = some (.ref fa) →
      ∃ fd : FuncData, (∀ (s : Shared) (u : Value), BindsTo s fd ⟨[u], []⟩ [(x, u)]) ∧ ∀ base : Heap, (K w.params).In base → base.Ns mainGlobals mg → FnG l.prog w (K w.params) mg base k fa fd [x] (sp (K w.params)))
    (hsp : ∀ (K : PySem.W.Frag) (H : Hp) (a : Addr) (ns : List Int), ns.length ≤ n → SqL K H a (ns.map V.int) → sp K [.ref a] H (fun v _ => v = .bl true) fun _ _ _ => False) :
    PySem.W.WalkO q loose XP YP l.row.toRowW d [] (fun f vs => PySem.call f vs) := by
  refine Att.attach_call hn hdf ?_
  intro w s0 s1 mg mb fa o pm cd doc a vs ns G Y ho hd hcd hmg hobj hints hlen hg
  have kin := hY w _ Y
  obtain ⟨fd, hb, hF⟩ := F w mg fa _ kin G.T.g hmg
  exact law_callG kin G.T.g G.T.b G.T.builtins G.T.nolimit hg hobj hints (Nat.le_trans hlen hn2) hr hF hb fun H hS => hsp _ H a ns hlen hS
end Ur
/-! UrS: what can be shown, by its parts. -/
namespace Ur
open PySem PySem.Spec PyProof.Rows L2
/-- d can be shown: its weight is at most n, its depth at most k -/
structure Shw (d : PyData) (n k : Nat) : Prop where
  sh : d.showable = true
  nd : d.hasDict = false
  dp : d.depth ≤ k
  lv : d.leavesShort 1930 = true
  wt : d.weight ≤ n
structure ShwAll (ds : List PyData) (n k : Nat) : Prop where
  sh : PyData.showableAll ds = true
  nd : PyData.hasDictAll ds = false
  dp : PyData.depthAll ds ≤ k
  lv : PyData.leavesShortAll 1930 ds = true
  wt : PyData.weightAll ds ≤ n
theorem Shw.mono {d : PyData} {n k m j : Nat} (s : Shw d n k) (h1 : n ≤ m) (h2 : k ≤ j) : Shw d m j := ⟨s.sh, s.nd, Nat.le_trans s.dp h2, s.lv, Nat.le_trans s.wt h1⟩
theorem Shw.non : Shw .none 0 0 := ⟨rfl, rfl, Nat.le_refl _, rfl, Nat.le_refl _⟩
theorem Shw.bl (b : Bool) : Shw (.bool b) 0 0 := ⟨rfl, rfl, Nat.le_refl _, rfl, Nat.le_refl _⟩
theorem Shw.int {i : Int} (h : i.natAbs.log2 < 1920) : Shw (.int i) 1921 0 := by
  refine ⟨decide_eq_true h, rfl, Nat.le_refl _, decide_eq_true ?_, ?_⟩
  · have e : PyData.shown (.int i) = Str.ofString (toString i) := by simp only [PyData.shown]
    rw [e]
    exact Nat.le_trans (PyProof.Rows.int_text_len_1921 h) (by decide)
  · show (if i == 0 then 0 else i.natAbs.log2 + 1) ≤ 1921
    split <;> omega
theorem Shw.intb {i : Int} {b : Nat} (h : i.natAbs < 2 ^ b) (h0 : 0 < b) (h1 : b ≤ 1920) : Shw (.int i) b 0 := by
  have z := PySem.Flt.log2_lt_of h0 h
  refine ⟨decide_eq_true (Nat.lt_of_lt_of_le z h1), rfl, Nat.le_refl _, (Shw.int (Nat.lt_of_lt_of_le z h1)).lv, ?_⟩
  show (if i == 0 then 0 else i.natAbs.log2 + 1) ≤ b
  split <;> omega
theorem Shw.str {x : Str} (h : ∀ c ∈ x.cps.toList, c < 16 ^ 8) : Shw (.str x) x.length 0 := ⟨rfl, rfl, Nat.le_refl _, List.all_eq_true.mpr fun c hc => decide_eq_true (h c hc), Nat.le_refl _⟩
theorem ShwAll.nil : ShwAll [] 0 0 := ⟨rfl, rfl, Nat.le_refl _, rfl, Nat.le_refl _⟩
theorem ShwAll.cons {d : PyData} {ds : List PyData} {n k m j : Nat} (a : Shw d n k) (b : ShwAll ds m j) : ShwAll (d :: ds) (n + 1 + m) (max k j) := by
  refine ⟨?_, ?_, ?_, ?_, ?_⟩
  · show (d.showable && PyData.showableAll ds) = true
    rw [a.sh, b.sh]; rfl
  · show (d.hasDict || PyData.hasDictAll ds) = false
    rw [a.nd, b.nd]; rfl
  · show max d.depth (PyData.depthAll ds) ≤ max k j
    have := a.dp; have := b.dp; omega
  · show (d.leavesShort 1930 && PyData.leavesShortAll 1930 ds) = true
    rw [a.lv, b.lv]; rfl
  · show d.weight + 1 + PyData.weightAll ds ≤ n + 1 + m
    have := a.wt; have := b.wt; omega
theorem ShwAll.lst {ds : List PyData} {n k : Nat} (a : ShwAll ds n k) : Shw (.list ds) n (k + 1) := ⟨a.sh, a.nd, Nat.succ_le_succ a.dp, a.lv, a.wt⟩
theorem ShwAll.tup {ds : List PyData} {n k : Nat} (a : ShwAll ds n k) : Shw (.tuple ds) n (k + 1) := ⟨a.sh, a.nd, Nat.succ_le_succ a.dp, a.lv, a.wt⟩
theorem Shw.fits {d : PyData} {n k : Nat} (s : Shw d n k) (h : n ≤ 8600) : d.shown.length ≤ sizeLine := by
  have z := PyData.shown_le 1930 (by decide) d s.lv
  have w : (1930 + 2) * d.weight ≤ 1932 * 8600 := Nat.mul_le_mul_left _ (Nat.le_trans s.wt h)
  have e : sizeLine = 16777216 := by decide
  omega
/-- d can be shown -/
def ShwOk (d : PyData) : Prop := ∃ n k, Shw d n k ∧ n ≤ 8600 ∧ k ≤ 64
theorem Shw.good {d : PyData} {n k : Nat} (s : Shw d n k) (h : n ≤ 8600) (h2 : k ≤ 64) : ShwOk d := ⟨n, k, s, h, h2⟩
theorem ShwOk.int {i : Int} (h : i.natAbs.log2 < 1920) : ShwOk (.int i) := (Shw.int h).good (by decide) (by decide)
theorem ShwOk.non : ShwOk .none := Shw.non.good (by decide) (by decide)
/-- repr(x), x data that can be shown -/
def rReprS (K : PySem.W.Frag) : List V → Hp → VK → Prop := fun xs H Q => ∃ (x : V) (d : PyData), xs = [x] ∧ Dp K H x d ∧ ShwOk d ∧ ∀ z : Str, z = d.shown → Q (.str z) H
section
variable {X : Cx}
theorem call_reprS (hs : Still X.A) (hu : X.A.units + 66 < cLine) : CallR X (.builtin "repr") (rReprS X.K) := by
  intro pins s σ H xs us Q I r h
  obtain ⟨x, d, rfl, hd, ⟨n, k, sh, hn, hk⟩, q⟩ := h
  exact call_reprD hs hu pins s σ H [x] us Q I r ⟨x, d, rfl, hd, sh.sh, sh.nd, Nat.le_trans sh.dp hk, sh.fits hn, q _ rfl⟩
/-- str(x) of a whole number or a text -/
def rStrB : List V → Hp → VK → Prop := fun xs H Q => (∃ i, xs = [.int i] ∧ i.natAbs.log2 < 1920 ∧ Q (.str (toString i)) H) ∨ ∃ a, xs = [.str a] ∧ Q (.str a) H
theorem call_strB : CallR X (.type "str") rStrB := by
  intro pins s σ H xs us Q I r h
  rcases h with ⟨i, rfl, hz, q⟩ | ⟨a, rfl, q⟩
  · exact call_str_int pins s σ H _ us Q I r ⟨i, rfl, hz, q⟩
  · exact SkE.call_str_str pins s σ H _ us Q I r ⟨a, rfl, q⟩
end
theorem log2_of {i : Int} {b : Nat} (h : i.natAbs < 2 ^ b) (h0 : 0 < b) (h1 : b ≤ 1920) : i.natAbs.log2 < 1920 := Nat.lt_of_lt_of_le (PySem.Flt.log2_lt_of h0 h) h1
end Ur
/-! UrM: the mathematics of common posts, in plain numbers. -/
namespace Ur
/-! ### the divisor and its factor -/
structure Euc (n m d r f g : Int) : Prop where
  d0 : 0 ≤ d
  r0 : 0 ≤ r
  sg : (0 ≤ f ∧ g ≤ 0 ∧ f * r - g * d = m) ∨ (f ≤ 0 ∧ 0 ≤ g ∧ g * d - f * r = m)
  c1 : m ∣ n * f - d
  c2 : m ∣ n * g - r
  dv : ∀ c : Int, c ∣ d → c ∣ r → c ∣ n ∧ c ∣ m
  f0 : -m ≤ f
  f1 : f ≤ m
  g0 : -m ≤ g
  g1 : g ≤ m
theorem Euc.start {n m : Int} (hn : 0 ≤ n) (hm : 0 < m) : Euc n m n m 1 0 :=
  ⟨hn, by omega, Or.inl ⟨by omega, by omega, by omega⟩, ⟨0, by omega⟩, ⟨-1, by omega⟩, fun c a b => ⟨a, b⟩, by omega, by omega, by omega, by omega⟩
theorem le_of_mul {a b m : Int} (ha : 0 ≤ a) (hb : 1 ≤ b) (h : a * b ≤ m) : a ≤ m := by
  have := Int.mul_le_mul_of_nonneg_left hb ha
  omega
theorem Euc.step {n m d r f g : Int} (E : Euc n m d r f g) (hr : r ≠ 0) : Euc n m r (d - d / r * r) g (f - d / r * g) := by
  obtain ⟨d0, r0, sg, c1, c2, dv, f0, f1, g0, g1⟩ := E
  have rp : 0 < r := by omega
  have e : d - d / r * r = d % r := by
    have h := Int.mul_ediv_add_emod d r
    have h2 : r * (d / r) = d / r * r := Int.mul_comm _ _
    omega
  have m0 : 0 ≤ d % r := Int.emod_nonneg d (by omega)
  have t0 : 0 ≤ d / r := Int.ediv_nonneg d0 r0
  have q0 : 0 ≤ d - d / r * r := by omega
  generalize d / r = t at *
  have sg' : (0 ≤ g ∧ f - t * g ≤ 0 ∧ g * (d - t * r) - (f - t * g) * r = m) ∨ (g ≤ 0 ∧ 0 ≤ f - t * g ∧ (f - t * g) * r - g * (d - t * r) = m) := by
    rcases sg with ⟨a, b, c⟩ | ⟨a, b, c⟩
    · refine Or.inr ⟨b, ?_, by grind⟩
      have : t * g ≤ 0 := Int.mul_nonpos_of_nonneg_of_nonpos t0 b
      omega
    · refine Or.inl ⟨b, ?_, by grind⟩
      have : 0 ≤ t * g := Int.mul_nonneg t0 b
      omega
  refine ⟨r0, q0, sg', c2, ?_, fun c h1 h2 => dv c ?_ h1, g0, g1, ?_, ?_⟩
  · obtain ⟨a, ha⟩ := c1
    obtain ⟨b, hb⟩ := c2
    exact ⟨a - t * b, by grind⟩
  · obtain ⟨a, ha⟩ := h1
    obtain ⟨b, hb⟩ := h2
    exact ⟨b + t * a, by grind⟩
  · rcases sg' with ⟨a, b, c⟩ | ⟨a, b, c⟩
    · have z : 0 ≤ g * (d - t * r) := Int.mul_nonneg a q0
      have y : -(f - t * g) * r = -((f - t * g) * r) := Int.neg_mul _ _
      have := le_of_mul (a := -(f - t * g)) (b := r) (m := m) (by omega) (by omega) (by omega)
      omega
    · omega
  · rcases sg' with ⟨a, b, c⟩ | ⟨a, b, c⟩
    · omega
    · have z : g * (d - t * r) ≤ 0 := Int.mul_nonpos_of_nonpos_of_nonneg a q0
      exact le_of_mul (b := r) b (by omega) (by omega)
/-- what comes out: a divisor of both, and its factor -/
structure DivFac (n m d f : Int) : Prop where
  pos : 0 < d
  dn : d ∣ n
  dm : d ∣ m
  cg : m ∣ n * f - d
  f0 : -m ≤ f
  f1 : f ≤ m
theorem Euc.done {n m d f g : Int} (E : Euc n m d 0 f g) (hm : 0 < m) : DivFac n m d f := by
  have z := E.dv d (Int.dvd_refl d) (Int.dvd_zero d)
  refine ⟨?_, z.1, z.2, E.c1, E.f0, E.f1⟩
  have d0 := E.d0
  by_cases h : d = 0
  · have := z.2
    rw [h] at this
    have := Int.zero_dvd.mp this
    omega
  · omega
/-! ### common posts -/
/-- q is on the way that starts at p with the stride s -/
def On (p s q : Int) : Prop := ∃ j : Int, 0 ≤ j ∧ q = p + j * s
/-- how two strides meet: every step-th number of the first one -/
def Steps (s1 s2 step : Int) : Prop := 0 < step ∧ ∀ k : Int, s2 ∣ k * s1 ↔ step ∣ k
/-- the numbers of common posts, on the way of the first one -/
inductive Comm (p1 s1 p2 s2 : Int) : Option (Int × Option Int × Int) → Prop where
  | no : (∀ k : Int, 0 ≤ k → ¬ On p2 s2 (p1 + k * s1)) → Comm p1 s1 p2 s2 none
  | inf {first step : Int} : (0 < s1 ↔ 0 < s2) → Steps s1 s2 step → 0 ≤ first → first ≤ (p2 - p1).natAbs + step → (∀ k : Int, 0 ≤ k → (On p2 s2 (p1 + k * s1) ↔ first ≤ k ∧ step ∣ k - first)) → Comm p1 s1 p2 s2 (some (first, none, step))
  | fin {first last step : Int} : ¬ (0 < s1 ↔ 0 < s2) → Steps s1 s2 step → 0 ≤ first → first ≤ last → last ≤ (p2 - p1).natAbs → step ∣ last - first → (∀ k : Int, 0 ≤ k → (On p2 s2 (p1 + k * s1) ↔ first ≤ k ∧ k ≤ last ∧ step ∣ k - first)) → Comm p1 s1 p2 s2 (some (first, some last, step))
theorem dvd_abs {a b : Int} : (a.natAbs : Int) ∣ b ↔ a ∣ b := Int.natAbs_dvd
/-- n, m as the program has them: the first stride's remainder by the size of the second -/
structure Meet (s1 s2 gap d step res : Int) : Prop where
  d0 : 0 < d
  d1 : d ∣ s1
  d2 : d ∣ s2
  dg : d ∣ gap
  st : Steps s1 s2 step
  se : step * d = s2.natAbs
  /-- the numbers at which the two ways, taken as endless, have the same post -/
  at_ : ∀ k : Int, s2 ∣ k * s1 - gap ↔ step ∣ k - res
  r0 : 0 ≤ res
  r1 : res < step
theorem meet_of {s1 s2 gap d f : Int} (hs2 : s2 ≠ 0) (D : DivFac (s1 % (s2.natAbs : Int)) (s2.natAbs : Int) d f) (hg : d ∣ gap) :
    Meet s1 s2 gap d ((s2.natAbs : Int) / d) ((gap / d * f) % ((s2.natAbs : Int) / d)) := by
  obtain ⟨d0, dn, dm, cg, f0, f1⟩ := D
  generalize hm : (s2.natAbs : Int) = m at *
  have mp : 0 < m := by omega
  obtain ⟨st, hst⟩ := dm
  have est : m / d = st := by rw [hst]; exact Int.mul_ediv_cancel_left _ (by omega)
  rw [est]
  have stp : 0 < st := by
    by_cases h : 0 < st
    · exact h
    · have : d * st ≤ 0 := Int.mul_nonpos_of_nonneg_of_nonpos (by omega) (by omega)
      omega
  obtain ⟨gq, hgq⟩ := hg
  have egq : gap / d = gq := by rw [hgq]; exact Int.mul_ediv_cancel_left _ (by omega)
  rw [egq]
  -- d divides s1
  have e1 : s1 = m * (s1 / m) + s1 % m := (Int.mul_ediv_add_emod s1 m).symm
  obtain ⟨a, ha⟩ := dn
  have d1 : d ∣ s1 := ⟨st * (s1 / m) + a, by grind⟩
  obtain ⟨u, hu⟩ := d1
  -- u * f is 1 modulo st
  obtain ⟨b, hb⟩ := cg
  have uf : ∃ c, u * f - 1 = st * c := by
    refine ⟨b + f * (s1 / m), ?_⟩
    have z : d * (u * f - 1) = d * (st * (b + f * (s1 / m))) := by grind
    exact Int.eq_of_mul_eq_mul_left (by omega) z
  obtain ⟨c, hc⟩ := uf
  have key : ∀ x : Int, d * st ∣ d * x ↔ st ∣ x := fun x => ⟨fun h => Int.dvd_of_mul_dvd_mul_left (by omega) h, fun h => Int.mul_dvd_mul_left d h⟩
  have m2 : ∀ x : Int, s2 ∣ x ↔ m ∣ x := fun x => by rw [← hm]; exact Int.natAbs_dvd.symm
  refine ⟨d0, ⟨u, hu⟩, ?_, ⟨gq, hgq⟩, ⟨stp, fun k => ?_⟩, by rw [hm, hst]; exact Int.mul_comm _ _, fun k => ?_, Int.emod_nonneg _ (by omega), Int.emod_lt_of_pos _ stp⟩
  · have : d ∣ (s2.natAbs : Int) := by rw [hm]; exact ⟨st, hst⟩
    exact Int.dvd_natAbs.mp this
  · rw [m2, hst, hu, show k * (d * u) = d * (k * u) by grind, key]
    constructor
    · intro ⟨x, hx⟩
      exact ⟨x * f - k * c, by grind⟩
    · intro ⟨x, hx⟩
      exact ⟨x * u, by grind⟩
  · rw [m2, hst, hu, hgq, show k * (d * u) - d * gq = d * (k * u - gq) by grind, key]
    have er : gq * f = st * (gq * f / st) + gq * f % st := (Int.mul_ediv_add_emod _ _).symm
    generalize gq * f / st = w at er
    generalize gq * f % st = res at er
    constructor
    · intro ⟨x, hx⟩
      exact ⟨x * f - k * c + w, by grind⟩
    · intro ⟨x, hx⟩
      exact ⟨x * u + gq * c - w * u, by grind⟩
theorem le_fdiv {k a s : Int} (hs : s ≠ 0) : k ≤ a.fdiv s ↔ (0 < s → k * s ≤ a) ∧ (s < 0 → a ≤ k * s) := by
  by_cases h : 0 < s
  · rw [Int.fdiv_eq_ediv_of_nonneg a (by omega), Int.le_ediv_iff_mul_le h]
    exact ⟨fun z => ⟨fun _ => z, fun y => by omega⟩, fun z => z.1 h⟩
  · have h2 : 0 < -s := by omega
    have e : a.fdiv s = (-a) / (-s) := by
      rw [← Int.fdiv_eq_ediv_of_nonneg (-a) (by omega : (0 : Int) ≤ -s), Int.neg_fdiv_neg]
    rw [e, Int.le_ediv_iff_mul_le h2, Int.mul_neg]
    exact ⟨fun z => ⟨fun y => by omega, fun _ => by omega⟩, fun z => by have := z.2 (by omega); omega⟩
theorem on_iff {p1 s1 p2 s2 k : Int} (hs : s2 ≠ 0) : On p2 s2 (p1 + k * s1) ↔ s2 ∣ k * s1 - (p2 - p1) ∧ (0 < s2 → p2 - p1 ≤ k * s1) ∧ (s2 < 0 → k * s1 ≤ p2 - p1) := by
  generalize k * s1 = x
  constructor
  · rintro ⟨j, j0, h⟩
    refine ⟨⟨j, by grind⟩, fun z => ?_, fun z => ?_⟩
    · have : 0 ≤ j * s2 := Int.mul_nonneg j0 (by omega)
      omega
    · have : j * s2 ≤ 0 := Int.mul_nonpos_of_nonneg_of_nonpos j0 (by omega)
      omega
  · rintro ⟨⟨j, hj⟩, h1, h2⟩
    refine ⟨j, ?_, by grind⟩
    by_cases c : 0 ≤ j
    · exact c
    · exfalso
      by_cases z : 0 < s2
      · have := h1 z
        have : s2 * j ≤ s2 * (-1) := Int.mul_le_mul_of_nonneg_left (by omega) (by omega)
        omega
      · have := h2 (by omega)
        have : s2 * (-1) ≤ s2 * j := Int.mul_le_mul_of_nonpos_left (by omega) (by omega)
        omega
theorem abs_mul_ge {g s : Int} (hs : s ≠ 0) : (0 < s → (g.natAbs : Int) * 1 ≤ g.natAbs * s) ∧ (s < 0 → (g.natAbs : Int) * s ≤ g.natAbs * (-1)) :=
  ⟨fun h => Int.mul_le_mul_of_nonneg_left (by omega) (by omega), fun h => Int.mul_le_mul_of_nonneg_left (by omega) (by omega)⟩
/-- a number behind a bound, one of each step -/
theorem from_on {step res low k : Int} (hp : 0 < step) : (low ≤ k ∧ step ∣ k - res) ↔ (low + (res - low) % step ≤ k ∧ step ∣ k - (low + (res - low) % step)) := by
  have e : res - low = step * ((res - low) / step) + (res - low) % step := (Int.mul_ediv_add_emod _ _).symm
  have r0 : 0 ≤ (res - low) % step := Int.emod_nonneg _ (by omega)
  have r1 : (res - low) % step < step := Int.emod_lt_of_pos _ hp
  generalize (res - low) / step = q at e
  generalize (res - low) % step = r at *
  constructor
  · rintro ⟨h, x, hx⟩
    refine ⟨?_, x + q, by grind⟩
    by_cases c : low + r ≤ k
    · exact c
    · have z : step * (x + q) = k - (low + r) := by grind
      have : step * (x + q) ≤ step * (-1) := Int.mul_le_mul_of_nonneg_left (by
        by_cases y : x + q ≤ -1
        · exact y
        · have : 0 ≤ step * (x + q) := Int.mul_nonneg (by omega) (by omega)
          omega) (by omega)
      omega
  · rintro ⟨h, x, hx⟩
    exact ⟨by omega, x - q, by grind⟩
theorem comm_same {p1 s1 p2 s2 d step res : Int} (h1 : s1 ≠ 0) (h2 : s2 ≠ 0) (hs : 0 < s1 ↔ 0 < s2) (M : Meet s1 s2 (p2 - p1) d step res) :
    Comm p1 s1 p2 s2 (some ((if -((-(p2 - p1)).fdiv s1) > 0 then -((-(p2 - p1)).fdiv s1) else 0) + (res - (if -((-(p2 - p1)).fdiv s1) > 0 then -((-(p2 - p1)).fdiv s1) else 0)) % step, none, step)) := by
  have sp := M.st.1
  have low : ∀ k : Int, -((-(p2 - p1)).fdiv s1) ≤ k ↔ (0 < s2 → p2 - p1 ≤ k * s1) ∧ (s2 < 0 → k * s1 ≤ p2 - p1) := fun k => by
    have z := le_fdiv (k := -k) (a := -(p2 - p1)) h1
    have e : -k * s1 = -(k * s1) := Int.neg_mul _ _
    rw [e] at z
    constructor
    · intro y
      have z := z.mp (by omega)
      exact ⟨fun c => by have := z.1 (hs.mpr c); omega, fun c => by have := z.2 (by omega); omega⟩
    · intro y
      have z := z.mpr ⟨fun c => by have := y.1 (hs.mp c); omega, fun c => by have := y.2 (by omega); omega⟩
      omega
  have lowle : -((-(p2 - p1)).fdiv s1) ≤ (p2 - p1).natAbs := by
    rw [low]
    have z := abs_mul_ge (g := p2 - p1) h1
    exact ⟨fun c => by have := z.1 (hs.mpr c); omega, fun c => by have := z.2 (by omega); omega⟩
  generalize -((-(p2 - p1)).fdiv s1) = lo at low lowle ⊢
  have m0 : 0 ≤ (if lo > 0 then lo else 0) ∧ (if lo > 0 then lo else 0) ≤ ((p2 - p1).natAbs : Int) ∧ ∀ k : Int, 0 ≤ k → (lo ≤ k ↔ (if lo > 0 then lo else 0) ≤ k) := by
    split <;> exact ⟨by omega, by omega, fun k _ => by omega⟩
  generalize (if lo > 0 then lo else 0) = l at m0 ⊢
  have r0 : 0 ≤ (res - l) % step := Int.emod_nonneg _ (by omega)
  have r1 : (res - l) % step < step := Int.emod_lt_of_pos _ sp
  refine .inf hs M.st (by omega) (by omega) fun k hk => ?_
  rw [on_iff h2, M.at_ k, ← low k, m0.2.2 k hk, ← from_on sp]
  exact And.comm
theorem opp_low {p1 s1 p2 s2 : Int} (h1 : s1 ≠ 0) (h2 : s2 ≠ 0) (hs : ¬ (0 < s1 ↔ 0 < s2)) (k : Int) : k ≤ (p2 - p1).fdiv s1 ↔ (0 < s2 → p2 - p1 ≤ k * s1) ∧ (s2 < 0 → k * s1 ≤ p2 - p1) := by
  rw [le_fdiv h1]
  constructor
  · intro y
    exact ⟨fun c => y.2 (by omega), fun c => y.1 (by omega)⟩
  · intro y
    exact ⟨fun c => y.2 (by omega), fun c => y.1 (by omega)⟩
/-- beside one another modulo step, and neither below nought: the remainder is the least -/
theorem least_res {step res k : Int} (h0 : 0 ≤ k) (r1 : res < step) (hk : step ∣ k - res) : res ≤ k := by
  obtain ⟨x, hx⟩ := hk
  by_cases c : res ≤ k
  · exact c
  · exfalso
    by_cases y : 0 ≤ x
    · have : 0 ≤ step * x := Int.mul_nonneg (by omega) y
      omega
    · have : step * x ≤ step * (-1) := Int.mul_le_mul_of_nonneg_left (by omega) (by omega)
      omega
theorem comm_no {p1 s1 p2 s2 d step res : Int} (h1 : s1 ≠ 0) (h2 : s2 ≠ 0) (hs : ¬ (0 < s1 ↔ 0 < s2)) (M : Meet s1 s2 (p2 - p1) d step res) (hr : (p2 - p1).fdiv s1 < res) : Comm p1 s1 p2 s2 none := by
  refine .no fun k hk h => ?_
  rw [on_iff h2, M.at_ k, ← opp_low h1 h2 hs k] at h
  have := least_res hk M.r1 h.1
  omega
theorem comm_opp {p1 s1 p2 s2 d step res : Int} (h1 : s1 ≠ 0) (h2 : s2 ≠ 0) (hs : ¬ (0 < s1 ↔ 0 < s2)) (M : Meet s1 s2 (p2 - p1) d step res) (hr : res ≤ (p2 - p1).fdiv s1) :
    Comm p1 s1 p2 s2 (some (res, some ((p2 - p1).fdiv s1 - ((p2 - p1).fdiv s1 - res) % step), step)) := by
  have sp := M.st.1
  have low := opp_low (p1 := p1) (p2 := p2) h1 h2 hs
  have mle : (p2 - p1).fdiv s1 ≤ (p2 - p1).natAbs := by
    by_cases c : (p2 - p1).fdiv s1 ≤ (p2 - p1).natAbs
    · exact c
    · exfalso
      have y := (le_fdiv (k := ((p2 - p1).natAbs : Int) + 1) (a := p2 - p1) h1).mp (by omega)
      have z := abs_mul_ge (g := p2 - p1) h1
      have e : (((p2 - p1).natAbs : Int) + 1) * s1 = (p2 - p1).natAbs * s1 + s1 := by rw [Int.add_mul, Int.one_mul]
      by_cases c : 0 < s1
      · have := y.1 c
        have := z.1 c
        omega
      · have := y.2 (by omega)
        have := z.2 (by omega)
        omega
  generalize (p2 - p1).fdiv s1 = mo at low hr mle ⊢
  have e : mo - res = step * ((mo - res) / step) + (mo - res) % step := (Int.mul_ediv_add_emod _ _).symm
  have q0 : 0 ≤ (mo - res) / step := Int.ediv_nonneg (by omega) (by omega)
  have r0 : 0 ≤ (mo - res) % step := Int.emod_nonneg _ (by omega)
  have r1 : (mo - res) % step < step := Int.emod_lt_of_pos _ sp
  generalize (mo - res) / step = q at e q0
  generalize (mo - res) % step = r at *
  have sq : 0 ≤ step * q := Int.mul_nonneg (by omega) q0
  refine .fin hs M.st M.r0 (by omega) (by omega) ⟨q, by omega⟩ fun k hk => ?_
  rw [on_iff h2, M.at_ k, ← low k]
  constructor
  · rintro ⟨h, hm⟩
    refine ⟨least_res hk M.r1 h, ?_, h⟩
    obtain ⟨x, hx⟩ := h
    by_cases c : k ≤ mo - r
    · exact c
    · exfalso
      have : step * (q + 1) ≤ step * x := Int.mul_le_mul_of_nonneg_left (by
        by_cases y : q + 1 ≤ x
        · exact y
        · have : step * x ≤ step * q := Int.mul_le_mul_of_nonneg_left (by omega) (by omega)
          omega) (by omega)
      have : step * (q + 1) = step * q + step := by rw [Int.mul_add, Int.mul_one]
      omega
  · rintro ⟨_, h, hd⟩
    exact ⟨hd, by omega⟩
theorem comm_gap {p1 s1 p2 s2 d : Int} (h1 : d ∣ s1) (h2 : d ∣ s2) (hg : ¬ d ∣ p2 - p1) : Comm p1 s1 p2 s2 none := by
  refine .no fun k hk ⟨j, _, h⟩ => hg ?_
  obtain ⟨a, rfl⟩ := h1
  obtain ⟨b, rfl⟩ := h2
  exact ⟨k * a - j * b, by grind⟩
theorem mul_bd {a b A B : Int} (h0 : 0 ≤ a) (h1 : a ≤ A) (h2 : -B ≤ b) (h3 : b ≤ B) (hB : 0 ≤ B) : -(A * B) ≤ a * b ∧ a * b ≤ A * B := by
  have x1 : a * b ≤ a * B := Int.mul_le_mul_of_nonneg_left h3 h0
  have x2 : a * B ≤ A * B := Int.mul_le_mul_of_nonneg_right h1 hB
  have x3 : a * (-B) ≤ a * b := Int.mul_le_mul_of_nonneg_left h2 h0
  rw [Int.mul_neg] at x3
  omega
theorem mul_pos1 {a b : Int} (h0 : 1 ≤ a) (h1 : 1 ≤ b) : 1 ≤ a * b := by
  have := Int.mul_le_mul h0 h1 (by decide) (by omega)
  omega
/-- how many steps to a post, if it is on the way -/
def StepsTo (p s q : Int) (r : Option Int) : Prop := ∀ j : Int, r = some j ↔ (0 ≤ j ∧ q = p + j * s)
theorem steps_to_spec {p s q : Int} (hs : s ≠ 0) : StepsTo p s q (if (q - p).fmod s = 0 ∧ 0 ≤ (q - p).fdiv s then some ((q - p).fdiv s) else none) := by
  have e := Int.fmod_add_mul_fdiv (q - p) s
  intro j
  have uniq : q = p + j * s → (q - p).fmod s = 0 ∧ (q - p).fdiv s = j := by
    intro h
    have e2 : q - p = j * s := by omega
    rw [e2]
    exact ⟨Int.mul_fmod_left j s, Int.mul_fdiv_cancel j hs⟩
  constructor
  · intro h
    split at h
    · rename_i c
      obtain rfl := Option.some.inj h
      rw [c.1] at e
      refine ⟨c.2, ?_⟩
      have : s * (q - p).fdiv s = (q - p).fdiv s * s := Int.mul_comm _ _
      omega
    · cases h
  · rintro ⟨h0, h⟩
    obtain ⟨a, b⟩ := uniq h
    rw [if_pos ⟨a, by rw [b]; exact h0⟩, b]
theorem stepsTo_on {p s q : Int} {r : Option Int} (h : StepsTo p s q r) : On p s q ↔ r ≠ none := by
  constructor
  · rintro ⟨j, j0, e⟩ z
    have := (h j).mpr ⟨j0, e⟩
    rw [z] at this
    cases this
  · intro z
    cases r with
    | none => exact absurd rfl z
    | some j => exact ⟨j, (h j).mp rfl⟩
end Ur
/-! UrX: errors: several except clauses with names; an error that was caught and is kept as a value; isinstance of it. -/
namespace Ur
open PySem PySem.Spec PyProof.Rows L2
/-- an error that was caught, known by its class and its dict -/
def exk (p : Addr) (cls : Value) (d : Option Addr) : HO := .ext fun h => ∃ o : Obj, h.get? p = some o ∧ Zc cls d o ∧ ∃ vs, o.data = .fields vs
theorem exk_ok {P : Program} {w : World} {H : Hp} {h : Heap} {p : Addr} {cls : Value} {d : Option Addr} {o : Obj} (g : h.get? p = some o) (z : Zc cls d o) (f : ∃ vs, o.data = .fields vs) : ObjOk P w H h p (exk p cls d) := by
  refine ⟨⟨o, g, z, f⟩, ⟨o, g⟩, ?_⟩
  rintro h1 h2 ⟨o1, g1, z1, f1⟩ st
  exact ⟨o1, st _ g1, z1, f1⟩
section
variable {X : Cx} {pins : List (Addr × Obj)} {σ : L2.St} {H : Hp} {s : Shared} {p : Addr} {o : Obj} {cls : Value} {d : Option Addr}
/-- an object that was made here and is told nothing of as yet is told of -/
theorem noteErr (I : Inv X pins σ H s) (na : H p = none) (g : s.heap.get? p = some o) (z : Zc cls d o) (f : ∃ vs, o.data = .fields vs) (n0 : X.s_0.heap.get? p = none) (nL : p ≠ X.env.locals)
    (np : ∀ q ∈ X.pn ++ pins, q.1 ≠ p) : Inv X pins σ (upd H p (exk p cls d)) s := by
  have some_ne : ∀ {b : Addr} {u : HO}, H b = some u → b ≠ p := fun {b u} e q => by
    subst q
    rw [na] at e
    cases e
  have was_ne : ∀ {b : Addr} {u : Obj}, X.s_0.heap.get? b = some u → b ≠ p := fun {b u} e q => by
    subst q
    rw [n0] at e
    cases e
  obtain ⟨ok, os, bare, base, loc, cell, free, freeC, pin, hok, len⟩ := I
  refine ⟨ok, os, bare, ⟨base.keep, base.slot, ?_, base.there, ?_, ?_, ?_⟩, loc, cell, ?_, ?_, ?_, ?_, len⟩
  · intro b u e n x
    rw [upd_ne (was_ne e)]
    exact base.free b u e n x
  · intro b xs e
    have t := base.tups b xs e
    rw [upd_ne (some_ne t)]
    exact t
  · intro b u xs e
    have t := base.frzs b u xs e
    rw [upd_ne (some_ne t)]
    exact t
  · intro b ps e
    obtain ⟨m, t⟩ := base.tbls b ps e
    exact ⟨m, by rw [upd_ne (some_ne t)]; exact t⟩
  · rw [upd_ne (Ne.symm nL)]
    exact free
  · intro x c e
    have cp : c ≠ p := by
      rintro rfl
      obtain ⟨v, o2, g2, d2⟩ := cell x c e
      obtain ⟨vs, fd⟩ := f
      rw [g] at g2
      cases g2
      rw [fd] at d2
      cases d2
    rw [upd_ne cp]
    exact freeC x c e
  · intro q hq
    obtain ⟨g1, g2, g3⟩ := pin q hq
    exact ⟨g1, by rw [upd_ne (np q hq)]; exact g2, g3⟩
  · intro b u e
    by_cases hb : b = p
    · subst hb
      rw [upd_same] at e
      obtain rfl := Option.some.inj e
      exact exk_ok g z f
    · rw [upd_ne hb] at e
      refine (hok b u e).stay (fun _ _ _ x => x) (fun c q => ?_) (fun c xs q => ?_)
      · rw [upd_ne (some_ne q)]; exact q
      · rw [upd_ne (some_ne q)]; exact q
end
/-! ### try: .. except A as e: .. except B as e: .. -/
abbrev Suite := Addr → Value → Option Addr → TS
/-- behind a suite the error is known, its name is gone -/
def endsOf (D : Ends) (i : Nat) (p : Addr) (cls : Value) (d : Option Addr) : Ends where
  nx := fun σ H => H p = none → D.nx (σ.set i none) (upd H p (exk p cls d))
  rt := D.rt
  bk := fun σ H => D.bk (σ.set i none) H
  ct := fun σ H => D.ct (σ.set i none) H
/-- what is wished of an error, clause by clause: the class, the slot of the name, the suite -/
def wTries (K : PySem.W.Frag) (W0 : WX) (D : Ends) : List (Value × Nat × Suite) → WX
  | [] => W0
  | (c, i, ts) :: r => fun cls d σ H => ∃ b, PySem.W.exmOne K cls c = some b ∧ (b = true → ∀ p, H p = none → ts p cls d (endsOf D i p cls d) (σ.set i (some (.ref p))) H) ∧ (b = false → wTries K W0 D r cls d σ H)
inductive Clauses (X : Cx) : List ExceptHandler → List (Value × Nat × Suite) → Prop
  | nil : Clauses X [] []
  | cons {x n : Str} {c : Value} {i : Nat} {ts : Suite} {b0 : Stmt} {rest : List Stmt} {np hp : Pos} {hs : List ExceptHandler} {l : List (Value × Nat × Suite)} (names : Names X x c) (slot : X.N[i]? = some n) (kind : X.env.kindOf n = some .local)
      (suite : ∀ (p : Addr) (o : Obj) (cls : Value) (d : Option Addr) (pn : List (Addr × Obj)), Zc cls d o → (∃ vs, o.data = .fields vs) → PSs (X.suite p ((p, o) :: pn)) (b0 :: rest) (ts p cls d)) (more : Clauses X hs l) :
      Clauses X (.ExceptHandler (some (.Name x np)) (some n) (b0 :: rest) hp :: hs) ((c, i, ts) :: l)
section
variable {X : Cx} {body : List Stmt} {h1 : ExceptHandler} {hs : List ExceptHandler} {l : List (Value × Nat × Suite)} {pos : Pos} {tb : WX → TS} {W0 : WX}
theorem ps_tries (hst : X.stack = X.env :: X.outer) (hfl : X.env.frame = some X.env.locals) (hnx : X.ex = []) (hN : X.N.Nodup) (tk : Takes X W0)
    (hb : ∀ (W : WX) (pn : List (Addr × Obj)) (xe : Value → Shared → Prop), Takes (X.tr pn xe) W → PassesOwn (model X.prog X.w) X.A X.env xe → PSs (X.tr pn xe) body (tb W))
    (hc : Clauses X (h1 :: hs) l) : PS X (.Try body (h1 :: hs) [] [] pos) (fun D σ H => tb (wTries X.K W0 D l) D σ H) := by
  constructor
  intro pins s σ H D I ask
  have ok := I.ok
  have fr : X.A.frames = some (X.env :: X.outer) := ok.frames.trans (congrArg some hst)
  refine wpAny_Try_except ?_
  let xe : Value → Shared → Prop := fun e s₁ => wpAny (model X.prog X.w) X.A (noteFrame e X.env) (fun _ s₂ => wpAny (model X.prog X.w) X.A (setFlight e none) (fun _ s₃ => wpAny (model X.prog X.w) X.A (handleBy e X.env (h1 :: hs)) (SP X pins D) X.xe s₃) X.xe s₂) X.xe s₁
  have air : Takes (X.tr (X.pn ++ pins) xe) (wTries X.K W0 D l) := by
    rintro u s1 ⟨p, B, sI, pins1, σ1, H1, cls, d, rfl, J0, nb, up, sky, na, os, ag, w⟩
    have J : Inv X pins σ1 H1 sI := J0.ofTry ok
    have sky : Sky B (X.env :: X.outer) p (Zc cls d) X.env.locals s1.heap := hst ▸ sky
    show wpAny (model X.prog X.w) X.A (noteFrame (.ref p) X.env) _ _ _
    refine Sky.land Zc.steady fr hfl sky fun g3 fl3 up3 => ?_
    have J3 : Inv X pins σ1 H1 { s1 with heap := g3 } := J.landed nb fl3.1 (up.trans up3) os ag
    obtain ⟨o3, v3, e3, z3, f3⟩ := fl3.there
    have far : p ∉ frs (X.env :: X.outer) := by
      intro m
      obtain ⟨_, oo, eo, nf⟩ := fl3.2.2.1.mem m
      rw [e3] at eo
      obtain rfl := Option.some.inj eo
      exact nf _ f3
    have nL : p ≠ X.env.locals := fun q => far (List.mem_filterMap.mpr ⟨X.env, List.mem_cons_self, hfl.trans (congrArg some q.symm)⟩)
    have nF : p ∉ X.fs := by
      intro m
      obtain ⟨en, he, q⟩ := List.mem_filterMap.mp m
      exact far (List.mem_filterMap.mpr ⟨en, List.mem_cons_of_mem _ he, q⟩)
    have gone : sI.heap.get? p = none := by
      cases q : sI.heap.get? p with
      | none => rfl
      | some oo =>
        have := nb p oo q (by rw [hst]; exact far)
        have nB : B.get? p = none := fl3.2.1
        rw [nB] at this
        cases this
    have n0 : X.s_0.heap.get? p = none := by
      cases q : X.s_0.heap.get? p with
      | none => rfl
      | some oo =>
        obtain ⟨o4, e4⟩ := J.base.there p oo q (by rw [hnx]; exact fun z => nomatch z)
        rw [gone] at e4
        cases e4
    have np : ∀ q ∈ X.pn ++ pins, q.1 ≠ p := by
      intro q hq e
      have := (J.pin q hq).1
      rw [e, gone] at this
      cases this
    have S3 := J3.suite e3 f3 na nL nF
    have go : ∀ {hs' : List ExceptHandler} {l' : List (Value × Nat × Suite)}, Clauses X hs' l' → wTries X.K W0 D l' cls d σ1 H1 → wpAny (model X.prog X.w) X.A (handleBy (.ref p) X.env hs') (SP X pins D) X.xe { s1 with heap := g3 } := by
      intro hs' l' cl
      induction cl with
      | nil =>
        intro w
        refine wpAny_handleBy_nil ?_
        obtain ⟨_, _, _, oe, vs, T, oT, tt, he, hz, hd, h1, _⟩ := id fl3
        unfold PySem.passOn
        refine wpAny_bind (wpAny_field he hd h1 ?_)
        rw [if_neg (by simp)]
        have rest : wpAny (model X.prog X.w) X.A (setFlight (.ref p) X.env.frame) (fun _ s4 => wpAny (model X.prog X.w) X.A (throw (.ref p) : Sem Flow) (SP X pins D) X.xe s4) X.xe { s1 with heap := g3 } := by
          rw [hfl]
          exact HandSPX.setFlight_upZ fl3 fun g4 held up4 => wpAny_throw (tk _ _ ⟨p, B, sI, pins, σ1, H1, cls, d, rfl, J, nb, (up.trans up3).trans up4, .inr (.inr (by rw [hst]; exact held)), na, os, ag, w⟩)
        first
          | exact wpAny_bind (wpAny_pure (wpAny_bind rest))
          | exact wpAny_bind rest
      | @cons x n c i ts b0 more2 np2 hp2 hs2 l2 names slot kind suite more ih =>
        intro w
        obtain ⟨b, fits, yes, no⟩ := w
        refine wpAny_handleBy_cons (codeAny_handlers_test ?_) (fun q => nomatch q)
        have LT : PySem.W.Looks (model X.prog X.w) g3 (typeOf (.ref p)) cls := fun A Q E s k q => wpAny_typeOf_ref (k _ _ e3) (z3.1.symm ▸ q)
        have LM := PySem.W.exm_one (M := model X.prog X.w) J3.kIn LT fits
        have ask : ∀ {Q : Value → Shared → Prop} {E : Value → Shared → Prop}, Q c { s1 with heap := g3 } → wpAny (model X.prog X.w) (X.A.mark (some (.ref p))) (eval (.Name x np2) X.env) Q E { s1 with heap := g3 } := by
          intro Q E q
          rcases names with ⟨gl, db, m | ⟨m, bv, nn⟩⟩
          · exact ld_glob (X := X.suite p ((p, o3) :: (X.pn ++ pins))) S3 gl m q db
          · exact ld_blt (X := X.suite p ((p, o3) :: (X.pn ++ pins))) S3 gl m bv q nn db
        refine ask (LM.here ?_)
        cases b with
        | false => exact ih (no rfl)
        | true =>
          refine codeAny_handlers_suite_as (HandSPX.lands_againZ fl3 fun g4 fl4 up4 => ?_)
          have J4 : Inv X pins σ1 H1 { s1 with heap := g4 } := J.landed nb fl4.1 ((up.trans up3).trans up4) os ag
          obtain ⟨o4, v4, e4, z4, f4⟩ := fl4.there
          have S4 := J4.suite e4 f4 na nL nF
          refine store_ok (X := X.suite p ((p, o4) :: (X.pn ++ pins))) (v := .ref p) S4 hN slot (Or.inl kind) rfl (fun s5 S5 => ?_) (.inr kind)
          refine wpAny_mono ((suite p o4 cls d (X.pn ++ pins) z4 ⟨_, f4⟩).run [] s5 _ H1 _ S5 (yes rfl p na)) ?_ (fun _ _ z => z.elim)
          intro fl s6 sp
          have bye : ∀ {σ6 : L2.St} {H6 : Hp} {Q : Shared → Prop}, Inv X pins σ6 H6 s6 → (∀ s7, Inv X pins (σ6.set i none) H6 s7 → Q s7) → wpAny (model X.prog X.w) X.A (do bindName X.env n .none; unbindBehindTheSuite X.env n hp2) (fun _ s7 => Q s7) X.xe s6 :=
            fun S6 q => gone_ok S6 hN slot kind q
          match fl, sp with
          | .next, ⟨σ6, H6, S6, q6⟩ =>
            have pin6 := S6.pin (p, o4) (List.mem_append_left _ List.mem_cons_self)
            exact bye (noteErr (S6.unsuite ok) pin6.2.1 pin6.1 z4 ⟨_, f4⟩ n0 nL np) fun s7 J7 => ⟨_, _, J7, q6 pin6.2.1⟩
          | .brk, ⟨σ6, H6, S6, q6⟩ => exact bye (S6.unsuite ok) fun s7 J7 => ⟨_, _, J7, q6⟩
          | .cont, ⟨σ6, H6, S6, q6⟩ => exact bye (S6.unsuite ok) fun s7 J7 => ⟨_, _, J7, q6⟩
          | .ret u, ⟨v6, σ6, H6, S6, r6, q6⟩ => exact bye (S6.unsuite ok) fun s7 J7 => ⟨_, _, _, J7, r6, q6⟩
    exact go hc w
  refine wpAny_mono ((hb (wTries X.K W0 D l) (X.pn ++ pins) xe air PassesOwn.looking).run [] s σ H D (I.toTry _) ask) ?_ (fun _ _ z => z)
  intro fl s1 sp
  match fl, sp with
  | .next, ⟨σ1, H1, J, q⟩ => exact wpAny_execs_nil ⟨σ1, H1, J.ofTry ok, q⟩
  | .brk, ⟨σ1, H1, J, q⟩ => exact ⟨σ1, H1, J.ofTry ok, q⟩
  | .cont, ⟨σ1, H1, J, q⟩ => exact ⟨σ1, H1, J.ofTry ok, q⟩
  | .ret u, ⟨v, σ1, H1, J, r, q⟩ => exact ⟨v, σ1, H1, J.ofTry ok, r, q⟩
end
/-! ### isinstance -/
/-- where an error's dict is: nowhere, or tracked -/
def DictAt (H : Hp) (d : Option Addr) : Prop := d = none ∨ ∃ (a : Addr) (fs : List (Str × V)), d = some a ∧ H a = some (.xd fs)
theorem dict_look {X : Cx} {pins : List (Addr × Obj)} {σ : L2.St} {H : Hp} {s : Shared} {p C : Addr} {o : Obj} {d : Option Addr} (I : Inv X pins σ H s) (g : s.heap.get? p = some o) (z : Zc (.ref C) d o) (f : ∃ vs, o.data = .fields vs) (hd : DictAt H d) :
    ∃ od, PySem.W.InstAt s.heap p o C od := by
  obtain ⟨vs, f⟩ := f
  have nc : PySem.W.notCls o = true := by unfold PySem.W.notCls; rw [f]
  rcases hd with rfl | ⟨a, fs, rfl, ha⟩
  · exact ⟨none, g, z.1, nc, by rw [z.2]; trivial⟩
  · have x : ObjOk X.prog X.w H s.heap a (.xd fs) := I.hok a _ ha
    obtain ⟨mA, hns, hr⟩ := x
    obtain ⟨od, ho, hl⟩ := lookIn_ns hns
    exact ⟨some od, g, z.1, nc, by rw [z.2]; exact ho⟩
theorem isi_err {X : Cx} {pins : List (Addr × Obj)} {σ : L2.St} {H : Hp} {s : Shared} {p D : Addr} {o : Obj} {d : Option Addr} {cv : Value} {b : Bool} {Q : VK} (I : Inv X pins σ H s) (C : ExcC X.K D) (g : s.heap.get? p = some o) (z : Zc (.ref D) d o)
    (f : ∃ vs, o.data = .fields vs) (hd : DictAt H d) (e : PySem.W.kitOne X.K (.ref D) cv = some b) (q : Q (.bl b) H) : wpAny (model X.prog X.w) X.A (call (.builtin "isinstance") [.ref p, cv]) (EP X pins σ Q) X.xe s := by
  obtain ⟨od, J⟩ := dict_look I g z f hd
  have hc : (PySem.W.clsIn X.K D).isSome = true := by
    obtain ⟨cd, hcd, _⟩ := PySem.W.any_some C.hd
    rw [hcd]; rfl
  exact PySem.W.kia_one (PySem.W.kitx_exc hc C.hg C.hk C.hs C.ha C.hn C.ht C.hm) I.kIn J e (fun z => nomatch z) fun tk => ⟨.bl b, H, I.tok tk, rfl, q⟩
/-- isinstance(e, c) of an error that is kept -/
def rIsK (K : PySem.W.Frag) : List V → Hp → VK → Prop := fun xs H Q => ∃ (p D : Addr) (d : Option Addr) (c : V) (cv : Value) (b : Bool), xs = [.ref p, c] ∧ H p = some (exk p (.ref D) d) ∧ DictAt H d ∧ ExcC K D ∧ ClsV c cv ∧ PySem.W.kitOne K (.ref D) cv = some b ∧ Q (.bl b) H
theorem call_isK {X : Cx} : CallR X (.builtin "isinstance") (rIsK X.K) := by
  intro pins s σ H xs us Q I r h
  obtain ⟨p, D, d, c, cv, b, rfl, hp, hd, C, k, e, q⟩ := h
  obtain ⟨u1, u2, rfl, r1, r2⟩ := vals2 r
  obtain rfl : u1 = Value.ref p := r1
  obtain rfl := k.eq r2
  have x : ObjOk X.prog X.w H s.heap p (.ext _) := I.hok p _ hp
  obtain ⟨⟨o, g, z, f⟩, _⟩ := x
  exact isi_err I C g z f hd e q
/-- .. of the error that a suite holds -/
def rIsS (K : PySem.W.Frag) (D p : Addr) (d : Option Addr) : List V → Hp → VK → Prop := fun xs H Q => ∃ (c : V) (cv : Value) (b : Bool), xs = [.ref p, c] ∧ DictAt H d ∧ ClsV c cv ∧ PySem.W.kitOne K (.ref D) cv = some b ∧ Q (.bl b) H
theorem call_isS {X : Cx} {p D : Addr} {o : Obj} {d : Option Addr} {pn : List (Addr × Obj)} (C : ExcC X.K D) (z : Zc (.ref D) d o) (f : ∃ vs, o.data = .fields vs) : CallR (X.suite p ((p, o) :: pn)) (.builtin "isinstance") (rIsS X.K D p d) := by
  intro pins s σ H xs us Q I r h
  obtain ⟨c, cv, b, rfl, hd, k, e, q⟩ := h
  obtain ⟨u1, u2, rfl, r1, r2⟩ := vals2 r
  obtain rfl : u1 = Value.ref p := r1
  obtain rfl := k.eq r2
  exact isi_err (X := X.suite p ((p, o) :: pn)) I C (I.pin (p, o) (List.mem_append_left _ List.mem_cons_self)).1 z f hd e q
end Ur
/-! UrY: values of any kind: what they are, what isinstance says of them, how they are shown. -/
namespace Ur
open PySem PySem.Spec PyProof.Rows L2
def keyD : Key → PyData
  | .inl i => .int i
  | .inr x => .str x
/-- no object: None, a bool, a number, a text -/
inductive Flat : V → PyData → Prop
  | non : Flat .non .none
  | bl (b : Bool) : Flat (.bl b) (.bool b)
  | int (i : Int) : Flat (.int i) (.int i)
  | str (x : Str) : Flat (.str x) (.str x)
/-- v is the data d, at most n deep; np is no part of it, nor is the table of the modules -/
def DqN (H : Hp) (np : Addr) : Nat → V → PyData → Prop
  | 0, v, d => Flat v d
  | n + 1, v, d => Flat v d ∨ (∃ (a : Addr) (xs : List V) (ds : List PyData), v = .ref a ∧ H a = some (.lst xs) ∧ a ≠ sysModules ∧ Paired (DqN H np n) xs ds ∧ d = .list ds) ∨
      (∃ (a : Addr) (xs : List V) (ds : List PyData), v = .ref a ∧ H a = some (.tup xs) ∧ Paired (DqN H np n) xs ds ∧ d = .tuple ds) ∨
      ∃ (a : Addr) (kvs : List (Key × V)) (es : List (PyData × PyData)), v = .ref a ∧ a ≠ np ∧ H a = some (.dK kvs) ∧ Paired (fun (p : Key × V) (e : PyData × PyData) => e.1 = keyD p.1 ∧ DqN H np n p.2 e.2) kvs es ∧ d = .dict es
theorem Paired.map2 {α β : Type} {R S : α → β → Prop} (f : ∀ a b, R a b → S a b) : ∀ {xs : List α} {ys : List β}, Paired R xs ys → Paired S xs ys
  | _, _, .nil => .nil
  | _, _, .cons h t => .cons (f _ _ h) (Paired.map2 f t)
theorem DqN.flat {H : Hp} {np : Addr} {v : V} {d : PyData} (f : Flat v d) : ∀ {n : Nat}, DqN H np n v d
  | 0 => f
  | _ + 1 => .inl f
/-- it stays what it is while nothing but np changes -/
theorem DqN.keep {H H' : Hp} {np : Addr} {kk : List (Key × V)} (k : Keep np H H') (hn : H np = some (.dK kk)) : ∀ {n : Nat} {v : V} {d : PyData}, DqN H np n v d → DqN H' np n v d
  | 0, _, _, h => h
  | n + 1, v, d, h => by
    rcases h with h | ⟨a, xs, ds, e, ha, ns, ps, ed⟩ | ⟨a, xs, ds, e, ha, ps, ed⟩ | ⟨a, kvs, es, e, na, ha, ps, ed⟩
    · exact .inl h
    · exact .inr (.inl ⟨a, xs, ds, e, k _ _ ha (ne_of ha hn (by intro z; cases z)), ns, Paired.map2 (fun _ _ => DqN.keep k hn) ps, ed⟩)
    · exact .inr (.inr (.inl ⟨a, xs, ds, e, k _ _ ha (ne_of ha hn (by intro z; cases z)), Paired.map2 (fun _ _ => DqN.keep k hn) ps, ed⟩))
    · exact .inr (.inr (.inr ⟨a, kvs, es, e, na, k _ _ ha na, Paired.map2 (fun _ _ q => ⟨q.1, DqN.keep k hn q.2⟩) ps, ed⟩))
theorem DqN.same {H H' : Hp} {np : Addr} (k : Same H H') : ∀ {n : Nat} {v : V} {d : PyData}, DqN H np n v d → DqN H' np n v d
  | 0, _, _, h => h
  | n + 1, v, d, h => by
    rcases h with h | ⟨a, xs, ds, e, ha, ns, ps, ed⟩ | ⟨a, xs, ds, e, ha, ps, ed⟩ | ⟨a, kvs, es, e, na, ha, ps, ed⟩
    · exact .inl h
    · exact .inr (.inl ⟨a, xs, ds, e, k _ _ ha, ns, Paired.map2 (fun _ _ => DqN.same k) ps, ed⟩)
    · exact .inr (.inr (.inl ⟨a, xs, ds, e, k _ _ ha, Paired.map2 (fun _ _ => DqN.same k) ps, ed⟩))
    · exact .inr (.inr (.inr ⟨a, kvs, es, e, na, k _ _ ha, Paired.map2 (fun _ _ q => ⟨q.1, DqN.same k q.2⟩) ps, ed⟩))
theorem DqN.up {H : Hp} {np : Addr} : ∀ {n : Nat} {v : V} {d : PyData}, DqN H np n v d → DqN H np (n + 1) v d
  | 0, _, _, h => .inl h
  | n + 1, v, d, h => by
    rcases h with h | ⟨a, xs, ds, e, ha, ns, ps, ed⟩ | ⟨a, xs, ds, e, ha, ps, ed⟩ | ⟨a, kvs, es, e, na, ha, ps, ed⟩
    · exact .inl h
    · exact .inr (.inl ⟨a, xs, ds, e, ha, ns, Paired.map2 (fun _ _ => DqN.up) ps, ed⟩)
    · exact .inr (.inr (.inl ⟨a, xs, ds, e, ha, Paired.map2 (fun _ _ => DqN.up) ps, ed⟩))
    · exact .inr (.inr (.inr ⟨a, kvs, es, e, na, ha, Paired.map2 (fun _ _ q => ⟨q.1, DqN.up q.2⟩) ps, ed⟩))
section
variable {X : Cx} {pins : List (Addr × Obj)} {σ : L2.St} {H : Hp} {s : Shared} {np : Addr}
theorem Flat.reads {v : V} {d : PyData} {u : Value} {h : Heap} (f : Flat v d) (r : RelV v u) : Reads h u d [] := by
  cases f with
  | non => obtain rfl : u = Value.none := r; exact Reads.none
  | bl b => obtain rfl : u = Value.bool b := r; exact Reads.bool b
  | int i => obtain ⟨t, rfl⟩ := (show ∃ t, u = Value.int i t from r); exact Reads.int i t
  | str x => obtain ⟨t, rfl⟩ := (show ∃ t, u = Value.str x t from r); exact Reads.str x t
theorem readsAll_of {h : Heap} {R : V → PyData → Prop} (f : ∀ v d u, R v d → RelV v u → ∃ as, Reads h u d as ∧ sysModules ∉ as) :
    ∀ {xs : List V} {ds : List PyData} {us : List Value}, Paired R xs ds → Vals xs us → ∃ as, ReadsAll h us ds as ∧ sysModules ∉ as
  | _, _, _, .nil, .nil => ⟨_, ReadsAll.nil, fun z => nomatch z⟩
  | _, _, _, .cons a b, .cons r t => by
    obtain ⟨as, q1, n1⟩ := f _ _ _ a r
    obtain ⟨bs, q2, n2⟩ := readsAll_of f b t
    exact ⟨_, ReadsAll.cons q1 q2, fun z => (List.mem_append.mp z).elim n1 n2⟩
theorem reads_keys {h : Heap} : ∀ {es : List DictEntry} {kv : List (Key × Value)}, Pairs (mixKind X.prog X.w) es kv → ReadsAll h (es.map (·.key)) (kv.map fun p => keyD p.1) []
  | _, _, .nil => ReadsAll.nil
  | _, _, .cons (e := e) (kv := p) k _ t => by
    have z := reads_keys (h := h) t
    rcases keyIs_shape k with ⟨i, tk, e1, e2⟩ | ⟨x, tk, e1, e2⟩
    · have y : Reads h e.key (keyD p.1) [] := by rw [e1, e2]; exact Reads.int i tk
      exact ReadsAll.cons y z
    · have y : Reads h e.key (keyD p.1) [] := by rw [e1, e2]; exact Reads.str x tk
      exact ReadsAll.cons y z
theorem pairs_vals : ∀ {es : List DictEntry} {kv : List (Key × Value)}, Pairs (mixKind X.prog X.w) es kv → es.map (·.val) = kv.map (·.2)
  | _, _, .nil => rfl
  | _, _, .cons _ e t => by
    rw [List.map_cons, List.map_cons, e, pairs_vals t]
theorem DqN.reads (I : Inv X pins σ H s) : ∀ (n : Nat) (v : V) (d : PyData) (u : Value), DqN H np n v d → RelV v u → ∃ as, Reads s.heap u d as ∧ sysModules ∉ as
  | 0, _, _, _, h, r => ⟨_, Flat.reads h r, fun z => nomatch z⟩
  | n + 1, v, d, u, h, r => by
    rcases h with h | ⟨a, xs, ds, rfl, ha, ns, ps, rfl⟩ | ⟨a, xs, ds, rfl, ha, ps, rfl⟩ | ⟨a, kvs, es, rfl, na, ha, ps, rfl⟩
    · exact ⟨_, Flat.reads h r, fun z => nomatch z⟩
    · obtain rfl : u = Value.ref a := r
      obtain ⟨_, its, m, rv, g⟩ := (show ObjOk X.prog X.w H s.heap a (.lst xs) from I.hok a _ ha)
      obtain ⟨as, q, nq⟩ := readsAll_of (DqN.reads I n) ps rv
      exact ⟨_, Reads.list g rfl rfl q, fun z => (List.mem_cons.mp z).elim (fun e => ns e.symm) nq⟩
    · obtain rfl : u = Value.ref a := r
      obtain ⟨_, its, rv, o, g, gc, m, gd⟩ := (show ObjOk X.prog X.w H s.heap a (.tup xs) from I.hok a _ ha)
      obtain ⟨as, q, nq⟩ := readsAll_of (DqN.reads I n) ps rv
      exact ⟨_, Reads.tuple g gc gd q, nq⟩
    · obtain rfl : u = Value.ref a := r
      obtain ⟨_, nsys, kv, rk, o, es0, ep, g, ex, gd, _, prs, _⟩ := dk_of I.hok ha
      have key : ∀ {kvs : List (Key × V)} {es : List (PyData × PyData)} {kv : List (Key × Value)}, Paired (fun (p : Key × V) (e : PyData × PyData) => e.1 = keyD p.1 ∧ DqN H np n p.2 e.2) kvs es → KV kvs kv →
          (kv.map fun p => keyD p.1) = es.map (·.1) ∧ Paired (DqN H np n) (kvs.map (·.2)) (es.map (·.2)) ∧ Vals (kvs.map (·.2)) (kv.map (·.2)) := by
        intro kvs es kv p
        induction p generalizing kv with
        | nil => intro r; cases r; exact ⟨rfl, .nil, .nil⟩
        | cons h t ih =>
          intro r
          cases r with
          | cons r1 r2 =>
            obtain ⟨e1, e2, e3⟩ := ih r2
            refine ⟨?_, .cons h.2 e2, .cons r1.2 e3⟩
            rw [List.map_cons, List.map_cons, e1, h.1, r1.1]
      obtain ⟨e1, e2, e3⟩ := key ps rk
      obtain ⟨bs, q, nq⟩ := readsAll_of (DqN.reads I n) e2 e3
      have k1 := reads_keys (X := X) (h := s.heap) prs
      rw [e1] at k1
      have v1 := pairs_vals (X := X) prs
      refine ⟨_, Reads.dict g ex.1 gd k1 (by rw [v1]; exact q), fun z => ?_⟩
      have z : sysModules ∈ a :: bs := z
      rcases List.mem_cons.mp z with z | z
      · rw [z] at nsys
        simp at nsys
      · exact nq z
end
/-- a value of any kind -/
def Any (H : Hp) (v : V) (d : PyData) : Prop := ∃ (np : Addr) (n : Nat), DqN H np n v d
/-! ### what can be shown, dicts too -/
structure ShX (d : PyData) (n k : Nat) : Prop where
  sh : d.showable = true
  dp : d.depth ≤ k
  lv : d.leavesShort 1930 = true
  wt : d.weight ≤ n
structure ShXAll (ds : List PyData) (n k : Nat) : Prop where
  sh : PyData.showableAll ds = true
  dp : PyData.depthAll ds ≤ k
  lv : PyData.leavesShortAll 1930 ds = true
  wt : PyData.weightAll ds ≤ n
theorem Shw.x {d : PyData} {n k : Nat} (s : Shw d n k) : ShX d n k := ⟨s.sh, s.dp, s.lv, s.wt⟩
theorem ShX.mono {d : PyData} {n k m j : Nat} (s : ShX d n k) (h1 : n ≤ m) (h2 : k ≤ j) : ShX d m j := ⟨s.sh, Nat.le_trans s.dp h2, s.lv, Nat.le_trans s.wt h1⟩
theorem ShXAll.nil : ShXAll [] 0 0 := ⟨rfl, Nat.le_refl _, rfl, Nat.le_refl _⟩
theorem ShXAll.cons {d : PyData} {ds : List PyData} {n k m j : Nat} (a : ShX d n k) (b : ShXAll ds m j) : ShXAll (d :: ds) (n + 1 + m) (max k j) := by
  refine ⟨?_, ?_, ?_, ?_⟩
  · show (d.showable && PyData.showableAll ds) = true
    rw [a.sh, b.sh]; rfl
  · show max d.depth (PyData.depthAll ds) ≤ max k j
    have := a.dp; have := b.dp; omega
  · show (d.leavesShort 1930 && PyData.leavesShortAll 1930 ds) = true
    rw [a.lv, b.lv]; rfl
  · show d.weight + 1 + PyData.weightAll ds ≤ n + 1 + m
    have := a.wt; have := b.wt; omega
theorem ShXAll.lst {ds : List PyData} {n k : Nat} (a : ShXAll ds n k) : ShX (.list ds) n (k + 1) := ⟨a.sh, Nat.succ_le_succ a.dp, a.lv, a.wt⟩
theorem ShX.fits {d : PyData} {n k : Nat} (s : ShX d n k) (h : n ≤ 8600) : d.shown.length ≤ sizeLine := by
  have z := PyData.shown_le 1930 (by decide) d s.lv
  have w : (1930 + 2) * d.weight ≤ 1932 * 8600 := Nat.mul_le_mul_left _ (Nat.le_trans s.wt h)
  have e : sizeLine = 16777216 := by decide
  omega
/-- repr(x) of any such value -/
def rReprQ : List V → Hp → VK → Prop := fun xs H Q => ∃ (x : V) (d : PyData) (n k : Nat), xs = [x] ∧ Any H x d ∧ ShX d n k ∧ n ≤ 8600 ∧ k ≤ 64 ∧ ∀ z : Str, z = d.shown → Q (.str z) H
section
variable {X : Cx}
theorem call_reprQ (hs : Still X.A) (hu : X.A.units + 66 < cLine) : CallR X (.builtin "repr") rReprQ := by
  intro pins s σ H xs us Q I r h
  obtain ⟨x, d, n, k, rfl, ⟨np, m, hd⟩, sh, hn, hk, q⟩ := h
  have q := q _ rfl
  have fz := sh.fits hn
  have flat : Flat x d → wpAny (model X.prog X.w) X.A (call (.builtin "repr") us) (EP X pins σ Q) X.xe s := by
    intro f
    refine call_reprF pins s σ H [x] us Q I r ?_
    cases f with
    | non => exact Or.inl ⟨rfl, q⟩
    | bl b => exact Or.inr (Or.inl ⟨b, rfl, q⟩)
    | int i => exact Or.inr (Or.inr (Or.inl ⟨i, rfl, of_decide_eq_true sh.sh, q⟩))
    | str y => exact Or.inr (Or.inr (Or.inr ⟨y, rfl, fz, q⟩))
  have dp := Nat.le_trans sh.dp hk
  obtain ⟨u, rfl, ru⟩ := vals1 r
  have big : ∀ a, x = .ref a → wpAny (model X.prog X.w) X.A (call (.builtin "repr") [u]) (EP X pins σ Q) X.xe s := by
    rintro a rfl
    obtain rfl : u = Value.ref a := ru
    obtain ⟨as, rd, ns⟩ := DqN.reads I m _ d (Value.ref a) hd rfl
    exact repr_of_reads' rd sh.sh (fun _ => ns) hs (by omega) (fun _ _ e => e) (fun h' v tk kp => ⟨.str _, H, I.kept kp, ⟨v, rfl⟩, q⟩) fz
  cases m with
  | zero => exact flat hd
  | succ m =>
    rcases hd with h | ⟨a, xs, ds, e, _⟩ | ⟨a, xs, ds, e, _⟩ | ⟨a, kvs, es, e, _⟩
    · exact flat h
    · exact big a e
    · exact big a e
    · exact big a e
end
/-! ### isinstance -/
def kindD : PyData → String
  | .none => "NoneType"
  | .bool _ => "bool"
  | .int _ => "int"
  | .str _ => "str"
  | .list _ => "list"
  | .tuple _ => "tuple"
  | .dict _ => "dict"
theorem Flat.ty {K : PySem.W.Frag} {H : Hp} {v : V} {d : PyData} (f : Flat v d) : TyX K H v (.type (kindD d)) := by
  cases f with
  | non => exact .base .non
  | bl b => exact .base (.bl b)
  | int i => exact .base (.int i)
  | str x => exact .base (.str x)
theorem DqN.ty {K : PySem.W.Frag} {H : Hp} {np : Addr} : ∀ {n : Nat} {v : V} {d : PyData}, DqN H np n v d → TyX K H v (.type (kindD d))
  | 0, _, _, h => Flat.ty h
  | n + 1, v, d, h => by
    rcases h with h | ⟨a, xs, ds, rfl, ha, ns, ps, rfl⟩ | ⟨a, xs, ds, rfl, ha, ps, rfl⟩ | ⟨a, kvs, es, rfl, na, ha, ps, rfl⟩
    · exact h.ty
    · exact .base (.lst ha)
    · exact .base (.tup ha)
    · exact .base (.dK ha)
def isIntD : PyData → Bool
  | .int _ => true
  | .bool _ => true
  | _ => false
def isBoolD : PyData → Bool
  | .bool _ => true
  | _ => false
def isStrD : PyData → Bool
  | .str _ => true
  | _ => false
theorem kit_intD {K : PySem.W.Frag} (d : PyData) : PySem.W.kitOne K (.type (kindD d)) (.type "int") = some (isIntD d) := by
  cases d with
  | none => exact kit_ty (K := K) (a := "NoneType") (b := "int") (r := false) (by decide +kernel)
  | bool _ => exact kit_ty (K := K) (a := "bool") (b := "int") (r := true) (by decide +kernel)
  | int _ => exact kit_ty (K := K) (a := "int") (b := "int") (r := true) (by decide +kernel)
  | str _ => exact kit_ty (K := K) (a := "str") (b := "int") (r := false) (by decide +kernel)
  | list _ => exact kit_ty (K := K) (a := "list") (b := "int") (r := false) (by decide +kernel)
  | tuple _ => exact kit_ty (K := K) (a := "tuple") (b := "int") (r := false) (by decide +kernel)
  | dict _ => exact kit_ty (K := K) (a := "dict") (b := "int") (r := false) (by decide +kernel)
theorem kit_boolD {K : PySem.W.Frag} (d : PyData) : PySem.W.kitOne K (.type (kindD d)) (.type "bool") = some (isBoolD d) := by
  cases d with
  | none => exact kit_ty (K := K) (a := "NoneType") (b := "bool") (r := false) (by decide +kernel)
  | bool _ => exact kit_ty (K := K) (a := "bool") (b := "bool") (r := true) (by decide +kernel)
  | int _ => exact kit_ty (K := K) (a := "int") (b := "bool") (r := false) (by decide +kernel)
  | str _ => exact kit_ty (K := K) (a := "str") (b := "bool") (r := false) (by decide +kernel)
  | list _ => exact kit_ty (K := K) (a := "list") (b := "bool") (r := false) (by decide +kernel)
  | tuple _ => exact kit_ty (K := K) (a := "tuple") (b := "bool") (r := false) (by decide +kernel)
  | dict _ => exact kit_ty (K := K) (a := "dict") (b := "bool") (r := false) (by decide +kernel)
theorem kit_strD {K : PySem.W.Frag} (d : PyData) : PySem.W.kitOne K (.type (kindD d)) (.type "str") = some (isStrD d) := by
  cases d with
  | none => exact kit_ty (K := K) (a := "NoneType") (b := "str") (r := false) (by decide +kernel)
  | bool _ => exact kit_ty (K := K) (a := "bool") (b := "str") (r := false) (by decide +kernel)
  | int _ => exact kit_ty (K := K) (a := "int") (b := "str") (r := false) (by decide +kernel)
  | str _ => exact kit_ty (K := K) (a := "str") (b := "str") (r := true) (by decide +kernel)
  | list _ => exact kit_ty (K := K) (a := "list") (b := "str") (r := false) (by decide +kernel)
  | tuple _ => exact kit_ty (K := K) (a := "tuple") (b := "str") (r := false) (by decide +kernel)
  | dict _ => exact kit_ty (K := K) (a := "dict") (b := "str") (r := false) (by decide +kernel)
/-- isinstance(x, T) of such a value -/
def rIsQ (T : String) (g : PyData → Bool) : List V → Hp → VK → Prop := fun xs H Q => ∃ (x : V) (d : PyData), xs = [x, .ty T] ∧ Any H x d ∧ Q (.bl (g d)) H
theorem call_isQ {X : Cx} {T : String} {g : PyData → Bool} (hk : ∀ d, PySem.W.kitOne X.K (.type (kindD d)) (.type T) = some (g d)) : CallR X (.builtin "isinstance") (rIsQ T g) := by
  intro pins s σ H xs us Q I r h
  obtain ⟨x, d, rfl, ⟨np, n, hd⟩, q⟩ := h
  exact call_isi pins s σ H _ us Q I r ⟨x, .ty T, _, _, g d, rfl, .ty T, hd.ty, hk d, q⟩
/-! ### a list's display: no table of the modules -/
def tLstS (t : TA) : TE := fun σ H Q => t σ H fun xs H1 => xs.length ≤ sizeLine ∧ ∀ p, H1 p = none → p ≠ sysModules → Q (.ref p) (upd H1 p (.lst xs))
theorem pe_lstS {X : Cx} {es : List Expr} {pos : Pos} {t : TA} (h : PA X es t) : PE X (.List es pos) (tLstS t) := by
  constructor
  intro pins s σ H Q I hq
  refine wpAny_List_spliced (thn (h.run pos pins s σ H _ I hq) ?_)
  rintro us s1 ⟨xs, H1, J, r, z, q⟩
  refine ⟨by rw [← r.length]; exact z, ?_⟩
  have fresh := J.hok.fresh (Nat.le_refl s1.heap.objs.size)
  have two : cStatics < s1.heap.objs.size := by
    obtain ⟨mc, hn, _⟩ := J.nolimit
    exact hn.lt
  have one : s1.heap.objs.size ≠ sysModules := by
    intro e
    rw [e] at two
    exact absurd two (by decide)
  exact ⟨.ref s1.heap.objs.size, _, J.laid (o := .lst xs) (t' := s1.toks) (fun _ _ e => Heap.get?_push_of_some _ e) (Nat.le_refl _) ⟨z, us, 0, r, Heap.get?_push_size _ rfl⟩, rfl, q _ fresh one⟩
end Ur
/-! UrZ: defs that may raise, called; own errors with one field, made and raised. -/
namespace Ur
open PySem PySem.Spec PyProof.Rows L2
/-- a name of the module that can be called and may raise -/
def CalX (P : Program) (w : World) (K : PySem.W.Frag) (mg : Str → Option Value) (base : Heap) (k : Nat) (x : Str) (ps : List Str) (sp : Sp) : Prop :=
  ∃ (f : Addr) (fd : FuncData), FnOk P w K mg base (L2.CX P w) k f fd ps sp ∧ PySem.W.keepIn K (.ref f) = true ∧ Binds K fd ps [] ∧ mg x = some (.ref f)
def MethX (P : Program) (w : World) (K : PySem.W.Frag) (mg : Str → Option Value) (base : Heap) (C : Addr) (m : Str) (k : Nat) (ps : List Str) (sp : Sp) : Prop := ∃ f fd, Meth K C m f ∧ FnOk P w K mg base (L2.CX P w) k f fd ps sp ∧ Binds K fd ps []
section
variable {P : Program} {w : World} {K : PySem.W.Frag} {mg : Str → Option Value} {base : Heap} {k : Nat} {x : Str} {ps : List Str} {sp : Sp} {st : Stmt}
theorem Dfn.calX {N : List Str} (D : Dfn K mg x st ps) (S : FnScope N ps (defScope st)) (len : ∀ vs H Q E, sp vs H Q E → vs.length = ps.length)
    (hbody : ∀ (f : Addr) (cdv : Value) (A : Around) (out : List Env) (s : Shared) (H : Hp) (vs : List V) (Q : VK) (E : XK), Room k (A.deeper (envOfC x (defScope st) s.heap.objs.size f cdv)) → sp vs H Q E →
      ∃ t, PSs (cxOf (L2.CX P w) P w K mg base N x (defScope st) f cdv A out s H E) (defBody st) t ∧ t { nx := fun _ H' => Q .non H', rt := Q } (start N vs) H) : CalX P w K mg base (k + 1) x ps sp := by
  obtain ⟨f, fd, F, b, m⟩ := D
  exact ⟨f, fd, F.okX S len (hbody f), F.kp, b, m⟩
end
section
variable {X : Cx} {k : Nat} {x m : Str} {ps : List Str} {sp : Sp} {o e : Expr} {es : List Expr} {t : TA} {ta : TE} {p pos apos : Pos} {E : XK} {C : Addr} {pl : Sem Bool}
theorem pe_calX (c : CalX X.prog X.w X.K X.mg X.base k x ps sp) (hr : Room k X.A) (hx : Passes (L2.CX X.prog X.w) X E) (ha : PA X (e :: es) t) (hg : Gl X x := by rfl) (hdb : (x == ("__debug__" : Str)) = false := by decide)
    (he : starEach (e :: es) X.env = (false, eval e X.env) :: starEach es X.env := by rfl) (hpl : (backTo pos (starEach es X.env)).any (·.1) = false := by rfl) :
    PE X (.Call (.Name x p) (e :: es) [] pos) (tCall sp [] E t) := by
  obtain ⟨f, fd, F, kp, b, mm⟩ := c
  exact pe_call F hr hg mm kp b .nil hx ha (hdb := hdb) (he := he) (hpl := hpl)
theorem pe_meX (he : PE X o ta) (c : Cls X.K C) (hm : MethX X.prog X.w X.K X.mg X.base C m k ps sp) (hr : Room k X.A) (hx : Passes (L2.CX X.prog X.w) X E) (ha : PA X (e :: es) t)
    (hst : starEach (e :: es) X.env = (false, eval e X.env) :: starEach es X.env := by rfl) (hpl : (backTo pos (starEach es X.env)).any (·.1) = false := by rfl)
    (ht : eval (.Call (.Attribute o m apos) (e :: es) [] pos) X.env = (do let ov ← eval o X.env; standAt apos.atName; let (f, first) ← holding [ov] (getMethod ov m pl); callWith pos f first (backTo pos (starEach (e :: es) X.env)) (backToKw pos (keywordEach [] X.env))) := by rfl) :
    PE X (.Call (.Attribute o m apos) (e :: es) [] pos) (tMeth C m sp [] E ta t) := by
  obtain ⟨f, fd, h1, F, b⟩ := hm
  exact pe_meth he c h1 F hr b .nil hx ha hst hpl ht
/-- what a callee lets out leaves the def too -/
theorem passD (hs : X.stack = X.env :: X.outer) (hf : X.env.frame = some X.env.locals) (hex : X.ex = []) {E₁ : Value → Shared → Prop}
    (hx : X.xe = fun e s' => wpAny (model X.prog X.w) X.A (leaving X.env e) (fun _ s'' => L2.CX X.prog X.w X.outer X.H_0 X.s_0 E e s'') E₁ s') : Passes (L2.CX X.prog X.w) X E :=
  passes_call (takes_of hs hf hex hx) fun _ _ _ _ h => h
end
/-! ### own errors with one field -/
/-- self.f = v, nothing else -/
def spXI (C : Addr) (f : Str) : Sp := fun vs H Q _ => ∃ (a : Addr) (v : V), vs = [.ref a, v] ∧ H a = some (exo a C none) ∧ ∀ dx, H dx = none → dx ≠ a → Q .non (upd (upd H dx (exd dx [(f, v)])) a (exo a C (some dx)))
/-- what the written part says of such a class: its place C, the field's name f -/
structure ErrK (K : PySem.W.Frag) (C : Addr) (f : Str) : Prop where
  o : OexC K C
  no : PySem.W.findIn K (.ref C) f = some none
  x : XfC K C
  c : ExcC K C
/-- the class at C of the name x can be made with one value -/
def ErrOk (P : Program) (w : World) (K : PySem.W.Frag) (mg : Str → Option Value) (base : Heap) (C : Addr) (x f : Str) : Prop :=
  mg x = some (.ref C) ∧ ErrK K C f ∧ ∃ (fI : Addr) (fd : FuncData) (ps : List Str), PySem.W.findIn K (.ref C) "__init__" = some (some (.ref fI)) ∧ PySem.W.typeIn K (.ref fI) = some (.type "function") ∧ FnOk P w K mg base (L2.CX P w) 1 fI fd ps (spXI C f) ∧ Binds K fd ps []
section
variable {X : Cx} {x f : Str} {C : Addr} {e : Expr} {es : List Expr} {t : TA} {p pos : Pos}
theorem pmk_err (h : ErrOk X.prog X.w X.K X.mg X.base C x f) (hr : Room 2 X.A) (ha : PA X (e :: es) t) (hg : Gl X x := by rfl)
    (hdb : (x == ("__debug__" : Str)) = false := by decide) (he : starEach (e :: es) X.env = (false, eval e X.env) :: starEach es X.env := by rfl) (hpl : (backTo pos (starEach es X.env)).any (·.1) = false := by rfl) :
    PMk X (.Call (.Name x p) (e :: es) [] pos) (tMkO C (spXI C f) [] t) := by
  obtain ⟨m, ek, fI, fd, ps, h1, h2, F, b⟩ := h
  exact pmk_oex ek.o h1 h2 F hr b .nil passL hg m ha hdb he hpl
end
theorem Un.swap {H : Hp} {a dx : Addr} {o1 o2 o3 u : HO} (ha : H a = none) (n : dx ≠ a) : upd (del (upd (upd (upd H a o1) dx o2) a o3) a) dx u = upd H dx u := by
  funext b
  by_cases hb : b = dx
  · rw [hb, upd_same, upd_same]
  · rw [upd_ne hb, upd_ne hb]
    by_cases hc : b = a
    · rw [hc, del_same, ha]
    · rw [del_ne hc, upd_ne hc, upd_ne hb, upd_ne hc]
/-- the reading of X(v) behind its value -/
theorem err_made {C : Addr} {f : Str} {v : V} {H : Hp} {Q : XK} (h : ∀ dx, H dx = none → Q (.ref C) (some dx) (upd H dx (.xd [(f, v)]))) :
    ([v] : List V).length ≤ 1000 ∧ ∀ a, H a = none → spXI C f (.ref a :: ([v] ++ [])) (upd H a (exo a C none))
      (fun u H2 => u = .non ∧ ∃ (d : Addr) (fs : List (Str × V)), H2 a = some (exo a C (some d)) ∧ H2 d = some (exd d fs) ∧ H d = none ∧ Q (.ref C) (some d) (upd (del H2 a) d (.xd fs))) (fun _ _ _ => False) := by
  refine ⟨by show 1 ≤ 1000; decide, fun a ha => ⟨a, v, rfl, upd_same, fun dx hd n => ⟨rfl, dx, [(f, v)], upd_same, ?_, ?_, ?_⟩⟩⟩
  · rw [upd_ne n, upd_same]
  · rw [upd_ne n] at hd
    exact hd
  · rw [upd_ne n] at hd
    rw [Un.swap ha n]
    exact h dx hd
/-- E of a def that lets this error out, its value v, from the heap H -/
def Lets (E : XK) (C : Addr) (f : Str) (v : V) (H : Hp) : Prop := ∀ dx, H dx = none → E (.ref C) (some dx) (upd H dx (.xd [(f, v)]))
end Ur
/-! UrT: defs that make lambdas: their code object is known; what stays while tables grow. -/
namespace Ur
open PySem PySem.Spec PyProof.Rows L2
section
variable {P : Program} {w : World} {K : PySem.W.Frag} {mg : Str → Option Value} {base : Heap} {k : Nat} {f : Addr} {fd : FuncData} {ps : List Str} {sp : Sp} {x qual : Str} {st : Stmt}
/-- as runG, for a def whose code object stands at c -/
theorem runGc {N : List Str} {c : Addr} (F : Fun K x qual st f fd) (code : fd.code = .ref c) (S : FnScope N ps (defScope st)) (len : ∀ vs H Q E, sp vs H Q E → vs.length = ps.length)
    (hbody : ∀ (A : Around) (out : List Env) (s : Shared) (H : Hp) (vs : List V) (Q : VK) (E : XK), Still A → Room k (A.deeper (envOfC qual (defScope st) s.heap.objs.size f (.ref c))) → sp vs H Q E → ∃ t, PSs (cxOf CX0 P w K mg base N qual (defScope st) f (.ref c) A out s H E).nox (defBody st) t ∧ t { nx := fun _ H' => Q .non H', rt := Q } (start N vs) H) :
    FnG P w K mg base (k + 1) f fd ps sp := by
  obtain ⟨oc, od, kV, doc, pm, an, cdv, ct, osl, efd, lk, hcd⟩ := F.ex
  subst efd
  have ec : cdv = .ref c := code
  subst ec
  constructor
  · exact len
  intro A out s H args us vs Q E still room e0 hb rel ask
  have old : ∀ b o, base.get? b = some o → s.heap.get? b = some o := fun b o e => (e0.bs b o e).1
  have kin : K.In s.heap := e0.mod.kin.keeps old
  have kinds : ∀ y ∈ ps.zip us, (defScope st).names.lookup y.1 = some .local ∨ ((defScope st).names.lookup y.1 = some .cell ∧ ((cellsFrom (s.heap.objs.size + 1) (defScope st).names []).lookup y.1).isSome = true) := by
    intro y hy
    cases S.par y.1 (List.of_mem_zip (a := y.1) (b := y.2) hy).1 with
    | inl h => exact Or.inl h
    | inr h => exact Or.inr ⟨h, PySem.W.cellsFrom_some _ _ _ (Or.inl h)⟩
  refine codeAny_call_function room.depth (kin _ _ lk) rfl S.co S.gen rfl (PySem.W.codeRec_of kin hcd) (hb _ _ _ _ (wpAny_newFunctionEnv_cells S.kind kinds fun env he s1 made => ?_))
  subst he
  refine ⟨(e0.mod.nolimit.keeps old).keeps made.toInCall.keep, codeAny_func ?_⟩
  obtain ⟨t, ht0, hq⟩ := hbody A out s H vs Q E still (room.deeper _) ask
  have J : Inv (cxOf CX0 P w K mg base N qual (defScope st) f (.ref c) A out s H E) [] (start N vs) H s1 := inv_start S room.hd e0 (len _ _ _ _ ask) rel made
  refine wpAny_mono (ht0.nox.run [] s1 (start N vs) H _ J hq) ?_ (fun _ _ z => z)
  intro fl s2 done
  match fl, done with
  | .ret u, ⟨v, σ', H', J', rv, q⟩ => exact ⟨v, H', J'.os, J'.bare, J'.base, J'.hok, rv, q⟩
  | .next, ⟨σ', H', J', q⟩ => exact ⟨V.non, H', J'.os, J'.bare, J'.base, J'.hok, rfl, q⟩
  | .brk, ⟨_, _, _, q⟩ => exact q.elim
  | .cont, ⟨_, _, _, q⟩ => exact q.elim
/-- a def of the text, where it stands, with its code object -/
def DfnT (K : PySem.W.Frag) (mg : Str → Option Value) (x : Str) (st : Stmt) (ps : List Str) (c : Addr) : Prop :=
  ∃ (f : Addr) (fd : FuncData), Fun K x x st f fd ∧ Binds K fd ps [] ∧ mg x = some (.ref f) ∧ fd.code = .ref c
theorem DfnT.calG {N : List Str} {c : Addr} (D : DfnT K mg x st ps c) (S : FnScope N ps (defScope st)) (len : ∀ vs H Q E, sp vs H Q E → vs.length = ps.length)
    (hbody : ∀ (f : Addr) (A : Around) (out : List Env) (s : Shared) (H : Hp) (vs : List V) (Q : VK) (E : XK), Still A → Room k (A.deeper (envOfC x (defScope st) s.heap.objs.size f (.ref c))) → sp vs H Q E → ∃ t, PSs (cxOf CX0 P w K mg base N x (defScope st) f (.ref c) A out s H E).nox (defBody st) t ∧ t { nx := fun _ H' => Q .non H', rt := Q } (start N vs) H) :
    CalG P w K mg base (k + 1) x ps sp := by
  obtain ⟨f, fd, F, b, m, code⟩ := D
  exact ⟨f, fd, runGc F code S len (hbody f), F.kp, b, m⟩
end
/-! ### what stays while tables grow -/
/-- all stands as it stood, but what is at p, and the tables -/
def KeepN (p : Addr) (H H' : Hp) : Prop := ∀ b o, H b = some o → b ≠ p → (∀ ps, o ≠ .tbl ps) → H' b = some o
theorem KeepN.refl {p : Addr} {H : Hp} : KeepN p H H := fun _ _ h _ _ => h
theorem KeepN.trans {p : Addr} {H H1 H2 : Hp} (a : KeepN p H H1) (b : KeepN p H1 H2) : KeepN p H H2 := fun c o h n t => b c o (a c o h n t) n t
theorem KeepN.of {p : Addr} {H H' : Hp} (k : Keep p H H') : KeepN p H H' := fun b o h n _ => k b o h n
theorem KeepN.same {p : Addr} {H H' : Hp} (s : Same H H') : KeepN p H H' := fun b o h _ _ => s b o h
theorem KeepN.ext {p : Addr} {H H' : Hp} (e : LamX.ExtN H H') : KeepN p H H' := fun b o h _ t => e b o h t
theorem KeepN.new {p a : Addr} {H H' : Hp} {o : HO} (k : KeepN p H H') (h : H' a = none) : KeepN p H (upd H' a o) := k.trans (KeepN.same (same_new h o))
theorem DqN.keepN {H H' : Hp} {np : Addr} {kk : List (Key × V)} (k : KeepN np H H') (hn : H np = some (.dK kk)) : ∀ {n : Nat} {v : V} {d : PyData}, DqN H np n v d → DqN H' np n v d
  | 0, _, _, h => h
  | n + 1, v, d, h => by
    rcases h with h | ⟨a, xs, ds, e, ha, ns, ps, ed⟩ | ⟨a, xs, ds, e, ha, ps, ed⟩ | ⟨a, kvs, es, e, na, ha, ps, ed⟩
    · exact .inl h
    · exact .inr (.inl ⟨a, xs, ds, e, k _ _ ha (ne_of ha hn (by intro z; cases z)) (fun _ z => by cases z), ns, Paired.map2 (fun _ _ => DqN.keepN k hn) ps, ed⟩)
    · exact .inr (.inr (.inl ⟨a, xs, ds, e, k _ _ ha (ne_of ha hn (by intro z; cases z)) (fun _ z => by cases z), Paired.map2 (fun _ _ => DqN.keepN k hn) ps, ed⟩))
    · exact .inr (.inr (.inr ⟨a, kvs, es, e, na, k _ _ ha na (fun _ z => by cases z), Paired.map2 (fun _ _ q => ⟨q.1, DqN.keepN k hn q.2⟩) ps, ed⟩))
theorem DqN.any {H : Hp} {np : Addr} {n : Nat} {v : V} {d : PyData} (h : DqN H np n v d) : Any H v d := ⟨np, n, h⟩
theorem Any.same {H H' : Hp} {v : V} {d : PyData} (s : Same H H') (h : Any H v d) : Any H' v d := let ⟨np, n, h⟩ := h; ⟨np, n, h.same s⟩
theorem tabs_keep {T : List (Addr × Str)} {p : Addr} {H H' : Hp} {kk : List (Key × V)} (k : Keep p H H') (hp : H p = some (.dK kk)) (t : LamX.Tabs T H) : LamX.Tabs T H' := by
  intro q hq
  obtain ⟨ps, h1, h2, h3⟩ := t q hq
  refine ⟨ps, k _ _ h1 (ne_of h1 hp (by intro z; cases z)), h2, fun pos cv hc => ?_⟩
  obtain ⟨c, e1, e2⟩ := h3 pos cv hc
  refine ⟨c, e1, k _ _ e2 (ne_of e2 hp (by intro z; unfold LamX.CodeO at z; cases z))⟩
theorem tabs_same {T : List (Addr × Str)} {H H' : Hp} (s : Same H H') (t : LamX.Tabs T H) : LamX.Tabs T H' := t.ext s
end Ur
/-! UrU: the law's own call, where defs make lambdas: their tables are tracked. -/
namespace Ur
open PySem PySem.Spec PyProof.Rows L2
theorem law_callGT {P : Program} {w : World} {K : PySem.W.Frag} {mg mb : Str → Option Value} {k : Nat} {fa a : Addr} {ct : List (Addr × Addr)} {fd : FuncData} {x : Str} {sp : Sp} {s1 : Shared} {vs : List Value} {ns : List Int}
    (kin : K.In s1.heap) (hns : s1.heap.Ns mainGlobals mg) (hb : s1.heap.Ns builtinsNs mb) (hbb : ∀ x : Str, x ≠ "__name__" → mb x = bootBuiltins x) (hlim : s1.heap.NoLimit) (hg : s1.gens = #[])
    (tabs : ∀ q ∈ ct, s1.heap.get? q.2 = some (PySem.W.tabObj #[]) ∧ K.lookup q.2 = none ∧ PySem.W.CodeHd s1.heap q.1 q.2)
    (hbm : ∃ (bm : Addr) (ob : Obj), mg "__builtins__" = some (.ref bm) ∧ bm ≠ builtinsNs ∧ s1.heap.get? bm = some ob ∧ ob.cls = .type "module" ∧ ob.dict = some builtinsNs ∧ ob.data = .plain)
    (ha : s1.heap.get? a = some { cls := .type "list", data := .seq vs.toArray }) (hi : IntsAre vs ns) (hl : ns.length ≤ sizeLine) (hr : Room k callerA)
    (F : ∀ base : Heap, K.In base → base.Ns mainGlobals mg → (∀ q ∈ ct, LamX.TabB base mg q.1 q.2) → FnG P w K mg base k fa fd [x] sp) (hbind : ∀ (s : Shared) (u : Value), BindsTo s fd ⟨[u], []⟩ [(x, u)])
    (hsp : ∀ H : Hp, (∀ q ∈ ct, H q.2 = some (.tbl #[])) → SqL K H a (ns.map V.int) → sp [.ref a] H (fun v _ => v = .bl true) fun _ _ _ => False) :
    codeAny (model P w) callerA (.call (.ref fa) ⟨[.ref a], []⟩) (fun r s' => r = .ok (.ret (.bool true)) ∧ OldK s1.heap s'.heap ∧ s'.os = s1.os ∧ AllBare s'.gens) s1 := by
  have rv : Vals (ns.map V.int) vs := vals_ints hi
  have lenV : vs.length = ns.length := hi.length
  let ob : Obj := { cls := .type "list", data := .seq vs.toArray }
  let tb : Addr → Prop := fun b => b ∈ ct.map (·.2)
  have tbAt : ∀ b, tb b → s1.heap.get? b = some (PySem.W.tabObj #[]) ∧ K.lookup b = none := by
    intro b h
    obtain ⟨q, hq, rfl⟩ := List.mem_map.mp h
    exact ⟨(tabs q hq).1, (tabs q hq).2.1⟩
  have tbOf : ∀ q ∈ ct, tb q.2 := fun q hq => List.mem_map.mpr ⟨q, hq, rfl⟩
  have aNo : ¬ tb a := by
    intro h
    have z := (tbAt a h).1
    rw [ha] at z
    cases congrArg Obj.data (Option.some.inj z)
  -- the abstract heap: the script, where it is none of the module's own objects, and the tables
  obtain ⟨H, hH, hS, hT, hN⟩ : ∃ H : Hp, (∀ b u, H b = some u → (b = a ∧ u = .frz ob (.lst (ns.map V.int)) ∧ K.lookup a = none) ∨ (tb b ∧ u = .tbl #[])) ∧ SqL K H a (ns.map V.int) ∧ (∀ b, tb b → H b = some (.tbl #[])) ∧ True := by
    classical
    cases hk : K.lookup a with
    | some o =>
      have e : s1.heap.get? a = some o := kin a o hk
      have e2 : o = ob := Option.some.inj (e.symm.trans ha)
      refine ⟨fun b => if tb b then some (.tbl #[]) else none, fun b u z => ?_, Or.inr ⟨o, vs.toArray, 0, hk, by rw [e2], by rw [e2], by rw [e2], ?_, ?_⟩, fun b h => if_pos h, trivial⟩
      · by_cases h : tb b
        · have z : (if tb b then some (HO.tbl #[]) else none) = some u := z
          rw [if_pos h] at z
          exact Or.inr ⟨h, (Option.some.inj z).symm⟩
        · have z : (if tb b then some (HO.tbl #[]) else none) = some u := z
          rw [if_neg h] at z
          cases z
      · rw [List.size_toArray, lenV]; exact hl
      · simpa using rv
    | none =>
      refine ⟨fun b => if b = a then some (.frz ob (.lst (ns.map V.int))) else if tb b then some (.tbl #[]) else none, fun b u z => ?_, Or.inl (Or.inr ⟨ob, if_pos rfl⟩), fun b h => ?_, trivial⟩
      · have z : (if b = a then some (HO.frz ob (.lst (ns.map V.int))) else if tb b then some (HO.tbl #[]) else none) = some u := z
        by_cases hba : b = a
        · rw [if_pos hba] at z
          exact Or.inl ⟨hba, (Option.some.inj z).symm, rfl⟩
        · rw [if_neg hba] at z
          by_cases h : tb b
          · rw [if_pos h] at z
            exact Or.inr ⟨h, (Option.some.inj z).symm⟩
          · rw [if_neg h] at z
            cases z
      · have nb : b ≠ a := fun e => aNo (e ▸ h)
        show (if b = a then _ else if tb b then _ else _) = _
        rw [if_neg nb, if_pos h]
  have hok : HOk P w H s1.heap := by
    intro b u z
    rcases hH b u z with ⟨rfl, rfl, _⟩ | ⟨h, rfl⟩
    · exact ⟨ha, by rw [List.length_map]; exact hl, vs, _, rv, ha⟩
    · exact (tbAt b h).1
  -- what is neither the script nor a table is not tracked
  have free : ∀ {b : Addr} {o : Obj}, s1.heap.get? b = some o → (b = a → o = ob → K.lookup a ≠ none) → o ≠ PySem.W.tabObj #[] → H b = none := by
    intro b o e n nt
    cases z : H b with
    | none => rfl
    | some u =>
      rcases hH b u z with ⟨h1, _, h3⟩ | ⟨h, _⟩
      · subst h1
        exact absurd h3 (n rfl (Option.some.inj (e.symm.trans ha)))
      · exact absurd (Option.some.inj (e.symm.trans (tbAt b h).1)) nt
  have nsB : ∀ {b : Addr} {m : Str → Option Value}, s1.heap.Ns b m → (hidT s1.heap H).Ns b m := by
    intro b m ⟨o, es, ep, e, d, r⟩
    refine ⟨o, es, ep, hidT_get e (free e (fun _ z => ?_) fun z => ?_), d, r⟩
    · rw [z] at d
      cases d
    · rw [z] at d
      cases d
  have kinB : K.In (hidT s1.heap H) := by
    intro b o e
    have g := kin b o e
    refine hidT_get g ?_
    cases z : H b with
    | none => rfl
    | some u =>
      rcases hH b u z with ⟨h1, _, h3⟩ | ⟨h, _⟩
      · subst h1
        rw [e] at h3
        cases h3
      · have := (tbAt b h).2
        rw [e] at this
        cases this
  have modB : Mod K mg (hidT s1.heap H) := by
    obtain ⟨mc, l1, l2⟩ := hlim
    exact ⟨kinB, nsB hns, ⟨mb, nsB hb, hbb⟩, ⟨mc, nsB l1, l2⟩⟩
  have TB : ∀ q ∈ ct, LamX.TabB (hidT s1.heap H) mg q.1 q.2 := by
    intro q hq
    obtain ⟨t1, t2, t3⟩ := tabs q hq
    refine ⟨?_, ?_, ?_⟩
    · obtain ⟨o, us, file, tf, flags, tg, inF, text, tt, e1, r1, r2, r3, r⟩ := t3
      refine ⟨o, us, file, tf, flags, tg, inF, text, tt, hidT_get e1 (free e1 (fun _ z => ?_) fun z => ?_), r1, r2, r3, r⟩
      · rw [z] at r2
        cases r2
      · rw [z] at r2
        have := Data.fields.inj r2
        rw [← this] at r3
        simp at r3
    · obtain ⟨bm, o, b1, b2, b3, b4, b5, b6⟩ := hbm
      refine ⟨bm, o, b1, b2, ?_, ?_, hidT_get b3 (free b3 (fun _ z => ?_) fun z => ?_), b4, b5, b6⟩
      · rintro rfl
        obtain ⟨o2, es, ep, e, hd, _⟩ := hns
        rw [e] at b3
        cases b3
        rw [hd] at b6
        cases b6
      · rintro rfl
        rw [t1] at b3
        cases b3
        cases b6
      · rw [z] at b6
        cases b6
      · rw [z] at b6
        cases b6
    · intro z
      obtain ⟨o2, es, ep, e, hd, _⟩ := hns
      rw [z, t1] at e
      cases e
      cases hd
  have none_in : ∀ b : Addr, b ∉ ([] : List Addr) := fun b z => nomatch z
  have e0 : Env0 P w K mg (hidT s1.heap H) callerA [] s1 H := ⟨rfl, modB, fun b o e => of_hidT e, Nat.le_of_eq (hidT_size _ _), trivial, fun b z => absurd z (none_in b), hok, .of_eq hg⟩
  refine codeAny_mono ((F _ kinB (nsB hns) TB).go callerA [] s1 H ⟨[.ref a], []⟩ [.ref a] [.ref a] _ _ rfl hr e0 (hbind s1 (.ref a)) (.cons rfl .nil) (hsp H (fun q hq => hT _ (tbOf q hq)) hS)) ?_
  intro r s2 h
  match r, h with
  | .error _, h => exact False.elim h
  | .ok .next, h => exact False.elim h
  | .ok .brk, h => exact False.elim h
  | .ok .cont, h => exact False.elim h
  | .ok (.ret u), h =>
    obtain ⟨v, H2, os, bare, un, hok2, rv2, q⟩ := h
    have q : v = .bl true := q
    subst q
    obtain rfl : u = Value.bool true := rv2
    have grown : ∀ b, tb b → ∃ more : Array Value, s2.heap.get? b = some (PySem.W.tabObj more) := by
      intro b h
      obtain ⟨more, z⟩ := un.tbls b #[] (hT b h)
      exact ⟨_, hok2 b _ z⟩
    have same : ∀ b o, ¬ tb b → s1.heap.get? b = some o → s2.heap.get? b = some o := by
      intro b o nt e
      cases z : H b with
      | none => exact un.keep b o e z (none_in b) (none_in b)
      | some u =>
        rcases hH b u z with ⟨rfl, rfl, _⟩ | ⟨h, _⟩
        · have z2 := un.frzs b ob _ z
          have e2 := (hok2 b _ z2).1
          rw [ha] at e
          rw [← Option.some.inj e]
          exact e2
        · exact absurd h nt
    refine ⟨rfl, ⟨fun b o e => ?_, fun b o e => ?_⟩, os, bare⟩
    · by_cases hb : tb b
      · obtain ⟨q, hq, rfl⟩ := List.mem_map.mp hb
        obtain ⟨t1, t2, t3⟩ := tabs q hq
        obtain ⟨more, g⟩ := grown q.2 hb
        rw [t1] at e
        obtain rfl := Option.some.inj e
        exact Or.inr (Or.inl ⟨(t3.tab t1).isCodeTable, rfl, #[], more, rfl, by rw [Array.empty_append]; exact g⟩)
      · exact Or.inl (same b o hb e)
    · by_cases hb : tb b
      · obtain ⟨more, g⟩ := grown b hb
        exact ⟨_, g⟩
      · exact ⟨o, same b o hb e⟩
/-- the end of a law whose defs make lambdas: xs the names of these defs -/
theorem walk_ofGT {l : PySem.W.OpenLaw} {n k : Nat} {q : Program} {loose : List Str} {XP : (Str → Option Value) → Heap → Prop} {YP : World → Heap → Prop} {d : DefRec} {K : Params → PySem.W.Frag} {x : Str} {xs : List Str}
    (hn : l.most = some n) (hn2 : n ≤ sizeLine) (hdf : d.params.defaults = []) (hr : Room k callerA) (hrec : ∀ y ∈ xs, ((recsOf q).find? fun e => e.name == y).isSome = true) (hY : ∀ (w : World) (h : Heap), YP w h → (K w.params).In h)
    (F : ∀ (w : World) (mg : Str → Option Value) (fa : Addr) (h : Heap), (K w.params).In h → h.Ns mainGlobals mg → mg d.name = some (.ref fa) →
      ∃ (fd : FuncData) (ct : List (Addr × Addr)) (sp : Sp), (∀ (s : Shared) (u : Value), BindsTo s fd ⟨[u], []⟩ [(x, u)]) ∧ (∀ q ∈ ct, (K w.params).lookup q.2 = none ∧ ∃ y ∈ xs, PySem.W.tabIn (K w.params) y = some q) ∧
        (∀ (H : Hp) (a : Addr) (ns : List Int), ns.length ≤ n → (∀ q ∈ ct, H q.2 = some (.tbl #[])) → SqL (K w.params) H a (ns.map V.int) → sp [.ref a] H (fun v _ => v = .bl true) fun _ _ _ => False) ∧
        ∀ base : Heap, (K w.params).In base → base.Ns mainGlobals mg → (∀ q ∈ ct, LamX.TabB base mg q.1 q.2) → FnG l.prog w (K w.params) mg base k fa fd [x] sp) :
    PySem.W.WalkO q loose XP YP l.row.toRowW d [] (fun f vs => PySem.call f vs) := by
  refine Att.attach_call hn hdf ?_
  intro w s0 s1 mg mb fa o pm cd doc a vs ns G Y ho hd hcd hmg hobj hints hlen hg
  have kin := hY w _ Y
  obtain ⟨fd, ct, sp, hb, hct, hsp, hF⟩ := F w mg fa _ kin G.T.g hmg
  refine law_callGT kin G.T.g G.T.b G.T.builtins G.T.nolimit hg (fun t ht => ?_) G.T.bmain hobj hints (Nat.le_trans hlen hn2) hr hF hb fun H hT hS => hsp H a ns hlen hT hS
  obtain ⟨no, y, hy, tin⟩ := hct t ht
  obtain ⟨dr, hdr⟩ := Option.isSome_iff_exists.mp (hrec y hy)
  obtain ⟨c1, c2⟩ := PySem.W.tab_of (c := t.1) (P := t.2) G.T kin hdr tin
  exact ⟨c2, no, c1⟩
end Ur
/-! K1: the law's own draws: the pen, draw, pick, around. -/
namespace Ur
open PySem PySem.Spec PyProof.Rows L2
def topS (i : Nat) : Stmt := PySem.Challenge.pw_paintposts_k02_painters_and_values_that.main.body.getD i (.Pass ⟨0, 0, 0, 0⟩)

/-- the built-in names are not the module's -/
structure Blt (mg : Str → Option Value) : Prop where
  len_ : mg "len" = none
  int_ : mg "int" = none
  abs_ : mg "abs" = none
  list_ : mg "list" = none
  range_ : mg "range" = none
  min_ : mg "min" = none
  max_ : mg "max" = none
  repr_ : mg "repr" = none
  str_ : mg "str" = none
  bool_ : mg "bool" = none
  isinstance_ : mg "isinstance" = none
  any_ : mg "any" = none
  divmod_ : mg "divmod" = none

/-! ### the pen -/
def penK (l : Addr) (b r : Int) : List (Key × V) := [(Sum.inr "cells", .ref l), (Sum.inr "begun", .int b), (Sum.inr "rest", .int r)]
theorem pen_made (l : Addr) (b r : Int) : mergeK [] [(Sum.inr "cells", V.ref l), (Sum.inr "begun", V.int b), (Sum.inr "rest", V.int r)] = penK l b r := rfl
theorem pen_cells (l : Addr) (b r : Int) : valV (penK l b r) (Sum.inr "cells") = some (.ref l) := rfl
theorem pen_begun (l : Addr) (b r : Int) : valV (penK l b r) (Sum.inr "begun") = some (.int b) := rfl
theorem pen_rest (l : Addr) (b r : Int) : valV (penK l b r) (Sum.inr "rest") = some (.int r) := rfl
theorem pen_b (l : Addr) (b r c : Int) : putK (penK l b r) (Sum.inr "begun") (.int c) = penK l c r := rfl
theorem pen_r (l : Addr) (b r c : Int) : putK (penK l b r) (Sum.inr "rest") (.int c) = penK l b c := rfl
structure Pen (H : Hp) (p l : Addr) (n : Nat) : Prop where
  ex : ∃ (cs : List Int) (b r : Int), H p = some (.dK (penK l b r)) ∧ H l = some (.lst (cs.map V.int)) ∧ cs.length ≤ 63 ∧ 0 ≤ b ∧ b ≤ (n : Int) ∧ 0 ≤ r
section
variable {H H' : Hp} {p l q : Addr} {n m : Nat} {o : HO}
theorem Pen.dk (P : Pen H p l n) : ∃ kvs, H p = some (.dK kvs) := let ⟨cs, b, r, h, _⟩ := P.ex; ⟨_, h⟩
theorem Pen.same (P : Pen H p l n) (s : Same H H') : Pen H' p l n := let ⟨cs, b, r, h, h2, z⟩ := P.ex; ⟨cs, b, r, s _ _ h, s _ _ h2, z⟩
theorem Pen.new (P : Pen H p l n) (h : H q = none) : Pen (upd H q o) p l n := P.same (same_new h o)
theorem Pen.le (P : Pen H p l n) (h : n ≤ m) : Pen H p l m := let ⟨cs, b, r, h1, h2, h3, h4, h5, h6⟩ := P.ex; ⟨cs, b, r, h1, h2, h3, h4, by omega, h6⟩
/-- a place that was free is neither of the pen's two -/
theorem Pen.ne (P : Pen H p l n) (h : H q = none) : q ≠ p := let ⟨_, e⟩ := P.dk; (ne_of_none e h).symm
theorem Pen.nl (P : Pen H p l n) (h : H q = none) : q ≠ l := let ⟨_, _, _, _, e, _⟩ := P.ex; (ne_of_none e h).symm
theorem Pen.upd (P : Pen H p l n) (h1 : q ≠ p) (h2 : q ≠ l) : Pen (upd H q o) p l n := let ⟨cs, b, r, h, h3, z⟩ := P.ex; ⟨cs, b, r, by rw [upd_ne h1.symm]; exact h, by rw [upd_ne h2.symm]; exact h3, z⟩
end
theorem cut_all {xs : List V} {n : Nat} (h : xs.length ≤ n) : cutV xs none (some (n : Int)) = xs := by
  unfold cutV
  rw [HT.sIx_none, HT.sIx_nat, Nat.min_eq_right h, List.drop_zero, Nat.sub_zero, List.take_length]
abbrev s__law_pen : Stmt := (topS 16)
abbrev N_sc__law_pen : List Str := ["_law_script"]
abbrev P__law_pen : List Str := ["_law_script"]
theorem sc__law_pen : FnScope N_sc__law_pen P__law_pen (defScope s__law_pen) := ⟨rfl, rfl, rfl, by decide +kernel, rfl, by decide +kernel, by decide +kernel⟩
def spPen (K : PySem.W.Frag) : Sp := fun vs H Q _ => ∃ (a : Addr) (ns : List Int), vs = [.ref a] ∧ SqL K H a (ns.map V.int) ∧ ns.length ≤ 63 ∧ ∀ p l H', Pen H' p l 0 → H p = none → H l = none → Same H H' → Q (.ref p) H'
section
variable {P : Program} {w : World} {K : PySem.W.Frag} {mg : Str → Option Value} {base : Heap}
theorem ok_pen (D : Dfn K mg "_law_pen" s__law_pen P__law_pen) (B : Blt mg) : Cal P w K mg base 1 "_law_pen" P__law_pen (spPen K) := by
  refine D.cal sc__law_pen (fun vs H Q E h => ?_) fun f cdv A outer s H vs Q E hr h => ?_
  · obtain ⟨a, ns, rfl, _⟩ := h
    rfl
  obtain ⟨a, ns, rfl, hS, hlen, k⟩ := h
  have hu := hu_of hr
  refine ⟨_, (pss_one (ps_ret (pe_disp (pps_cons pe_str (pe_callTy call_list_of rfl B.list_ (by decide +kernel) (pa_cons (pe_slice sl_list (pv 0) po_none (po_some pe_int)) pa_nil)) (pps_cons pe_str pe_int (pps_cons pe_str pe_int pps_nil))) (by rfl) (by rfl) (fun z => by cases z) (by decide)))), ?_⟩
  intro p hp
  refine ⟨_, rfl, 63, rfl, a, _, rfl, (same_new hp _).seq hS, fun q hq => ?_⟩
  refine ⟨q, _, rfl, .inl (SqL.of upd_same), fun l hl => ?_⟩
  have npq : p ≠ q := ne_of_none upd_same hq
  have npl : p ≠ l := by
    intro e
    rw [← e, upd_ne npq, upd_same] at hl
    cases hl
  have nql : q ≠ l := ne_of_none upd_same hl
  refine ⟨by rw [upd_ne npl, upd_ne npq, upd_same], [(Sum.inr "cells", .ref l), (Sum.inr "begun", .int 0), (Sum.inr "rest", .int 0)], rfl, (by show 3 ≤ 15; decide), ?_⟩
  have hl0 : H l = none := by
    rw [upd_ne nql.symm, upd_ne npl.symm] at hl
    exact hl
  refine k p l _ ⟨ns, 0, 0, ?_, ?_, ?_, by decide, by decide, by decide⟩ hp hl0 ?_
  · rw [pen_made]; exact upd_same
  · rw [upd_ne npl.symm, upd_same]
    exact congrArg (fun z => some (HO.lst z)) (cut_all (n := 63) (by rw [List.length_map]; exact hlen))
  · exact hlen
  · intro b o e
    have n1 := ne_of_none e hp
    have e1 : (upd H p (.dK [])) b = some o := by rw [upd_ne n1]; exact e
    have n2 := ne_of_none e1 hq
    have e2 := (by rw [upd_ne n2]; exact e1 : (upd (upd H p (.dK [])) q (.lst (cutV (ns.map V.int) none (some 63)))) b = some o)
    rw [upd_ne n1, upd_ne (ne_of_none e2 hl)]
    exact e2
end

/-! ### draw -/
abbrev s__law_draw : Stmt := (topS 17)
abbrev N_sc__law_draw : List Str := ["_law_pen_here", "_law_many", "_law_digit", "_law_site", "_law_cell", "_law_mixed"]
abbrev P__law_draw : List Str := ["_law_pen_here", "_law_many"]
theorem sc__law_draw : FnScope N_sc__law_draw P__law_draw (defScope s__law_draw) := ⟨rfl, rfl, rfl, by decide +kernel, rfl, by decide +kernel, by decide +kernel⟩
/-- the greatest bound that k further calls can serve -/
def Bd : Nat → Int
  | 0 => 60000000
  | k + 1 => 60000000 * (Bd k - 1)
def spDraw (k : Nat) : Sp := fun vs H Q _ => ∃ (p l : Addr) (many : Int) (n : Nat), vs = [.ref p, .int many] ∧ Pen H p l n ∧ n + k ≤ 2 ^ 40 ∧ 1 ≤ many ∧ many ≤ Bd k ∧ k ≤ 16 ∧
  ∀ v H', 0 ≤ v → v < many → Pen H' p l (n + (k + 1)) → Keep p H H' → Q (.int v) H'
/-- what is promised with k calls left: nothing with none -/
def spD : Nat → Sp
  | 0 => fun _ _ _ _ => False
  | k + 1 => spDraw k
theorem Dfn.none_left {P : Program} {w : World} {K : PySem.W.Frag} {mg : Str → Option Value} {base : Heap} {x : Str} {st : Stmt} {ps : List Str} (D : Dfn K mg x st ps) : Cal P w K mg base 0 x ps (fun _ _ _ _ => False) := by
  obtain ⟨f, fd, F, b, m⟩ := D
  exact ⟨f, fd, ⟨fun _ _ _ _ h => h.elim, fun _ _ _ _ _ _ _ _ _ _ _ _ _ h => h.elim⟩, F.kp, b, m⟩
theorem dpI {K : PySem.W.Frag} {H : Hp} : ∀ cs : List Int, DpAll K H (cs.map V.int) (cs.map PyData.int)
  | [] => .nil
  | c :: cs => .cons (.int c) (dpI cs)
theorem shI0 : ∀ cs : List Int, PyData.canLayAll0 (cs.map PyData.int) = true
  | [] => rfl
  | c :: cs => by
    show (PyData.canLay0 (.int c) && PyData.canLayAll0 (cs.map PyData.int)) = true
    rw [shI0 cs]
    all_goals rfl
theorem shD0 : ∀ cs : List Int, PyData.depthAll (cs.map PyData.int) = 0
  | [] => rfl
  | c :: cs => by
    show max (PyData.depth (.int c)) (PyData.depthAll (cs.map PyData.int)) = 0
    rw [shD0 cs]
    all_goals rfl
theorem shI (cs : List Int) : SeqAt.shaped (.list (cs.map PyData.int)) = true := by
  show (PyData.canLayAll0 (cs.map PyData.int) && decide (PyData.depthAll (cs.map PyData.int) + 1 ≤ 64)) = true
  rw [shI0, shD0]
  all_goals rfl
theorem get_cells {H : Hp} {p l : Addr} {b r : Int} (h : H p = some (.dK (penK l b r))) : DGet H p (.str "cells") (some (.ref l)) := DGet.k (k := Sum.inr "cells") h
theorem get_begun {H : Hp} {p l : Addr} {b r : Int} (h : H p = some (.dK (penK l b r))) : DGet H p (.str "begun") (some (.int b)) := DGet.k (k := Sum.inr "begun") h
theorem get_rest {H : Hp} {p l : Addr} {b r : Int} (h : H p = some (.dK (penK l b r))) : DGet H p (.str "rest") (some (.int r)) := DGet.k (k := Sum.inr "rest") h
theorem put_begun {H : Hp} {p l : Addr} {b r c : Int} (h : H p = some (.dK (penK l b r))) : DPut H p (.str "begun") (.int c) (upd H p (.dK (penK l c r))) := DPut.k (k := Sum.inr "begun") h (by show 3 < sizeLine; decide)
theorem put_rest {H : Hp} {p l : Addr} {b r c : Int} (h : H p = some (.dK (penK l b r))) : DPut H p (.str "rest") (.int c) (upd H p (.dK (penK l b c))) := DPut.k (k := Sum.inr "rest") h (by show 3 < sizeLine; decide)
theorem Bd_le (k : Nat) (h : k ≤ 16) : Bd k < 2 ^ 480 := by
  have : k = 0 ∨ k = 1 ∨ k = 2 ∨ k = 3 ∨ k = 4 ∨ k = 5 ∨ k = 6 ∨ k = 7 ∨ k = 8 ∨ k = 9 ∨ k = 10 ∨ k = 11 ∨ k = 12 ∨ k = 13 ∨ k = 14 ∨ k = 15 ∨ k = 16 := by omega
  rcases this with rfl | rfl | rfl | rfl | rfl | rfl | rfl | rfl | rfl | rfl | rfl | rfl | rfl | rfl | rfl | rfl | rfl <;> decide +kernel
theorem em0 (a : Int) {m : Int} (h : 0 < m) : 0 ≤ a % m := Int.emod_nonneg a (by omega)
theorem em1 (a : Int) {m : Int} (h : 0 < m) : a % m < m := Int.emod_lt_of_pos a h
section
variable {P : Program} {w : World} {K : PySem.W.Frag} {mg : Str → Option Value} {base : Heap}
set_option maxHeartbeats 16000000 in
theorem draw_step {k : Nat} (D : Dfn K mg "_law_draw" s__law_draw P__law_draw) (B : Blt mg) (G : Cal P w K mg base k "_law_draw" P__law_draw (spD k)) : Cal P w K mg base (k + 1) "_law_draw" P__law_draw (spDraw k) := by
  refine D.cal sc__law_draw (fun vs H Q E h => ?_) fun f cdv A outer s H vs Q E hr h => ?_
  · obtain ⟨p, l, many, n, rfl, _⟩ := h
    rfl
  obtain ⟨p, l, many, n, rfl, Pn, hn, h1, hm, hk, q⟩ := h
  have hu := hu_of hr
  obtain ⟨cs, b, r, hp, hl, hcs, hb0, hbn, hr0⟩ := Pn.ex
  have hm2 : many.natAbs < 2 ^ 480 := by have := Bd_le k hk; omega
  have dv : ∀ r : Int, CDivW r many := fun r => wide_div (by omega) hm2 (by decide) (by decide)
  have nlp : l ≠ p := ne_of hl hp (by intro z; cases z)
  have pw : CPow 10 18 := ⟨by decide, by decide, by decide⟩
  refine ⟨_, (pss_cons (ps_if (pt_cmpR op_gt (pe_dget hu (pv 0) pe_str (fun _ _ => rfl)) pe_int (nomark _)) (pss_cons (ps_set (i := 2) sc__law_draw.nd rfl (Or.inl rfl) (pe_op op_mod (pe_callTy call_int1 rfl B.int_ (by decide +kernel) (pa_cons (pe_dget hu (pv 0) pe_str (fun _ _ => rfl)) pa_nil)) (pv 1))) (pss_cons (ps_dput hu (pv 0) pe_str (pe_op op_fdivW (pe_dget hu (pv 0) pe_str (fun _ _ => rfl)) (pv 1)) rfl) (pss_one (ps_ret (pv 2))))) pss_nil) (pss_cons (ps_set (i := 3) sc__law_draw.nd rfl (Or.inl rfl) (pe_dget hu (pv 0) pe_str (fun _ _ => rfl))) (pss_cons (ps_dput hu (pv 0) pe_str (pe_op op_add (pv 3) pe_int) rfl) (pss_cons (ps_set (i := 4) sc__law_draw.nd rfl (Or.inl rfl) (pe_op op_add (pe_op op_mul pe_int (pv 3)) pe_int)) (C8.pss_cut (ps_if (pt_cmpR (op_neD hr.units) (pe_dget hu (pv 0) pe_str (fun _ _ => rfl)) (pe_lst pa_nil) (nomark _)) (pss_one (ps_set (i := 4) sc__law_draw.nd rfl (Or.inl rfl) (pe_ix ix_list (pe_dget hu (pv 0) pe_str (fun _ _ => rfl)) (pe_op op_mod (pe_callTy call_int1 rfl B.int_ (by decide +kernel) (pa_cons (pv 3) pa_nil)) (pe_callB call_len_seq rfl B.len_ PySem.boot_len (pa_cons (pe_dget hu (pv 0) pe_str (fun _ _ => rfl)) pa_nil))) (fun _ _ => rfl)))) pss_nil) (C8.pss_cut (ps_if (PW.pt (pw_and (pt_cmpR op_lt (pv 3) (pe_callB call_len_seq rfl B.len_ PySem.boot_len (pa_cons (pe_dget hu (pv 0) pe_str (fun _ _ => rfl)) pa_nil)) (nomark _)) (pw_and1 (pt_cmpR op_ge (pe_callB call_abs rfl B.abs_ (by decide +kernel) (pa_cons (pv 4) pa_nil)) (pe_op op_pow pe_int pe_int) (nomark _))))) (pss_cons (ps_dput hu (pv 0) pe_str (pe_op op_fdivW (pe_op op_sub (pe_callB call_abs rfl B.abs_ (by decide +kernel) (pa_cons (pv 4) pa_nil)) (pe_op op_pow pe_int pe_int)) (pv 1)) rfl) (pss_one (ps_ret (pe_op op_mod (pe_op op_sub (pe_callB call_abs rfl B.abs_ (by decide +kernel) (pa_cons (pv 4) pa_nil)) (pe_op op_pow pe_int pe_int)) (pv 1))))) pss_nil) (C8.pss_cut (ps_set (i := 5) sc__law_draw.nd rfl (Or.inl rfl) (pe_op op_mod (pe_callTy call_int1 rfl B.int_ (by decide +kernel) (pa_cons (pe_op op_add (pe_op op_add (pe_op op_mul (pe_op op_mod (pe_callTy call_int1 rfl B.int_ (by decide +kernel) (pa_cons (pv 4) pa_nil)) pe_int) pe_int) (pe_op op_mul (pe_op op_mul pe_int (pv 3)) (pv 3))) pe_int) pa_nil)) pe_int)) (C8.pss_cut (ps_set (i := 5) sc__law_draw.nd rfl (Or.inl rfl) (pe_op op_mod (pe_callTy call_int1 rfl B.int_ (by decide +kernel) (pa_cons (pe_op op_add (pe_op op_add (pe_op op_add (pe_op op_mul (pv 5) (pv 5)) (pe_op op_mul pe_int (pv 5))) (pe_op op_mul pe_int (pv 3))) pe_int) pa_nil)) pe_int)) (C8.pss_cut (ps_set (i := 5) sc__law_draw.nd rfl (Or.inl rfl) (pe_op op_fdivW (pe_op op_mod (pe_callTy call_int1 rfl B.int_ (by decide +kernel) (pa_cons (pe_op op_mul (pv 5) (pe_op op_add (pv 5) pe_int)) pa_nil)) pe_int) pe_int)) (C8.pss_cut (ps_if (pt_cmpR op_gt (pv 1) pe_int (nomark _)) (pss_one (ps_set (i := 5) sc__law_draw.nd rfl (Or.inl rfl) (pe_op op_add (pe_op op_mod (pe_callTy call_int1 rfl B.int_ (by decide +kernel) (pa_cons (pv 5) pa_nil)) pe_int) (pe_op op_mul pe_int (pe_cal G hr (pa_cons (pv 0) (pa_cons (pe_op op_add (pe_op op_fdivW (pv 1) pe_int) pe_int) pa_nil))))))) pss_nil) (pss_one (ps_ret (pe_op op_mod (pe_callTy call_int1 rfl B.int_ (by decide +kernel) (pa_cons (pv 5) pa_nil)) (pv 1)))))))))))))), ?_⟩
  refine ⟨_, rfl, p, .int r, rfl, get_rest hp, _, _, rfl, rfl, _, rfl, ?_⟩
  refine ite2 (fun c => ?_) (fun c => ?_)
  · refine ⟨_, rfl, p, .int r, rfl, get_rest hp, .inl ⟨_, rfl, _, rfl, _, _, rfl, rfl, by omega, ?_⟩⟩
    refine ⟨_, rfl, p, .int r, rfl, get_rest hp, _, rfl, _, _, rfl, rfl, dv _, _, rfl, p, _, rfl, put_rest hp, ?_⟩
    refine ⟨_, rfl, ?_⟩
    exact q _ _ (em0 _ (by omega)) (em1 _ (by omega)) ⟨cs, b, r / many, upd_same, by rw [upd_ne nlp]; exact hl, hcs, hb0, by omega, Int.ediv_nonneg hr0 (by omega)⟩ Keep.at_
  refine ⟨_, rfl, p, .int b, rfl, get_begun hp, ?_⟩
  refine ⟨_, rfl, _, _, rfl, rfl, _, rfl, p, _, rfl, put_begun hp, ?_⟩
  refine ⟨_, rfl, _, _, rfl, rfl, .inl ⟨by decide, by decide⟩, _, _, rfl, rfl, ?_⟩
  have hp1 : (upd H p (.dK (penK l (b + 1) r))) p = some (.dK (penK l (b + 1) r)) := upd_same
  have hl1 : (upd H p (.dK (penK l (b + 1) r))) l = some (.lst (cs.map V.int)) := by rw [upd_ne nlp]; exact hl
  have kp1 : Keep p H (upd H p (.dK (penK l (b + 1) r))) := Keep.at_
  generalize upd H p (.dK (penK l (b + 1) r)) = H1 at hp1 hl1 kp1 ⊢
  refine ⟨fun σ' H' => ∃ c : Int, σ' = [some (.ref p), some (.int many), none, some (.int b), some (.int c), none] ∧ H' p = some (.dK (penK l (b + 1) r)) ∧ H' l = some (.lst (cs.map V.int)) ∧ Keep p H H', ?_, ?_⟩
  · refine ⟨_, rfl, p, .ref l, rfl, get_cells hp1, (by show 0 ≤ sizeLine; decide), fun e he => ?_⟩
    have hp2 := same_new he (.lst []) _ _ hp1
    have hl2 := same_new he (.lst []) _ _ hl1
    have kp2 := kp1.new (o := .lst []) he
    refine ⟨.list (cs.map PyData.int), .list [], .lst (SqL.of hl2) (dpI cs), .lst (SqL.of upd_same) .nil, shI cs, rfl, _, rfl, ?_⟩
    generalize upd H1 e (.lst []) = H2 at hp2 hl2 kp2 ⊢
    cases hcs0 : cs with
    | nil =>
      refine iteF ?_
      exact ⟨_, rfl, hp2, by rw [← hcs0]; exact hl2, kp2⟩
    | cons c0 cr =>
      refine iteT ?_
      have hlen : 0 < ((cs.map V.int).length : Int) := by rw [List.length_map, hcs0, List.length_cons]; omega
      obtain ⟨c, hc⟩ : ∃ c, atI (cs.map V.int) (b % ((cs.map V.int).length : Int)) = some (.int c) := by
        have h0 := em0 b hlen
        have h1 := em1 b hlen
        generalize b % ((cs.map V.int).length : Int) = i at h0 h1
        obtain ⟨j, rfl⟩ : ∃ j : Nat, i = (j : Int) := ⟨i.toNat, by omega⟩
        rw [List.length_map] at h1
        have hj : j < cs.length := by omega
        exact ⟨cs[j], atI_nat (by rw [List.getElem?_map, List.getElem?_eq_getElem hj]; all_goals rfl)⟩
      refine ⟨_, rfl, p, .ref l, rfl, get_cells hp2, _, rfl, .inl ⟨_, rfl, _, rfl, p, .ref l, rfl, get_cells hp2, l, _, rfl, .inl (SqL.of hl2), _, _, rfl, rfl, hlen, l, _, _, _, rfl, rfl, SqL.of hl2, hc, ?_⟩⟩
      exact ⟨c, rfl, hp2, by rw [← hcs0]; exact hl2, kp2⟩
  rintro σ' H3 ⟨c, rfl, hp3, hl3, kp3⟩
  refine ⟨fun σ' H' => σ' = [some (.ref p), some (.int many), none, some (.int b), some (.int c), none] ∧ H' = H3, ?_, ?_⟩
  · refine ⟨_, rfl, _, rfl, p, .ref l, rfl, get_cells hp3, l, _, rfl, .inl (SqL.of hl3), _, _, rfl, rfl, _, rfl, ?_⟩
    refine ite2 (fun _ => ?_) (fun _ => ?_)
    · refine ⟨_, rfl, _, rfl, _, _, rfl, rfl, pw, _, _, rfl, rfl, _, rfl, ?_⟩
      refine ite2 (fun c2 => ?_) (fun _ => ?_)
      · refine ⟨_, rfl, _, rfl, _, _, rfl, rfl, pw, _, _, rfl, rfl, _, rfl, _, _, rfl, rfl, dv _, _, rfl, p, _, rfl, put_rest hp3, ?_⟩
        refine ⟨_, rfl, _, rfl, _, _, rfl, rfl, pw, _, _, rfl, rfl, _, rfl, _, _, rfl, rfl, by omega, ?_⟩
        have c3 := of_decide_eq_true c2
        exact q _ _ (em0 _ (by omega)) (em1 _ (by omega)) ⟨cs, b + 1, _, upd_same, by rw [upd_ne nlp]; exact hl3, hcs, by omega, by omega, Int.ediv_nonneg (by omega) (by omega)⟩ (kp3.trans Keep.at_)
      · exact ⟨rfl, rfl⟩
    · exact iteF ⟨rfl, rfl⟩
  rintro σ' H' ⟨rfl, rfl⟩
  have c1 : -(2 ^ 64) < c % 4294967279 ∧ c % 4294967279 < 2 ^ 64 := by
    have := em0 c (m := 4294967279) (by decide)
    have := em1 c (m := 4294967279) (by decide)
    omega
  have c2 : -(2 ^ 64) < 40503 * b ∧ 40503 * b < 2 ^ 64 := by omega
  refine ⟨fun σ' H'' => ∃ m : Int, σ' = [some (.ref p), some (.int many), none, some (.int b), some (.int c), some (.int m)] ∧ 0 ≤ m ∧ m < 4294967291 ∧ H'' = H', ?_, ?_⟩
  · refine ⟨_, rfl, .inl ⟨_, rfl, _, _, rfl, rfl, by omega, _, _, rfl, rfl, .inl c1, _, rfl, _, _, rfl, rfl, .inl ⟨by decide, by decide⟩, _, rfl, _, _, rfl, rfl, .inl c2, _, _, rfl, rfl, _, _, rfl, rfl, .inl ⟨_, rfl, _, _, rfl, rfl, by omega, ?_⟩⟩⟩
    exact ⟨_, rfl, em0 _ (by decide), em1 _ (by decide), rfl⟩
  rintro σ' H' ⟨m1, rfl, d0, d1, rfl⟩
  have m1b : -(2 ^ 64) < m1 ∧ m1 < 2 ^ 64 := by omega
  refine ⟨fun σ' H'' => ∃ m : Int, σ' = [some (.ref p), some (.int many), none, some (.int b), some (.int c), some (.int m)] ∧ 0 ≤ m ∧ m < 4294967291 ∧ H'' = H', ?_, ?_⟩
  · refine ⟨_, rfl, _, rfl, _, _, rfl, rfl, .inl m1b, _, rfl, _, _, rfl, rfl, .inl ⟨by decide, by decide⟩, _, _, rfl, rfl, _, rfl, _, _, rfl, rfl, .inl ⟨by decide, by decide⟩, _, _, rfl, rfl, _, _, rfl, rfl, .inl ⟨_, rfl, _, _, rfl, rfl, by omega, ?_⟩⟩
    exact ⟨_, rfl, em0 _ (by decide), Int.lt_trans (em1 _ (by decide)) (by decide), rfl⟩
  rintro σ' H' ⟨m2, rfl, e0, e1, rfl⟩
  have m2b : -(2 ^ 64) < m2 ∧ m2 < 2 ^ 64 := by omega
  refine ⟨fun σ' H'' => ∃ m : Int, σ' = [some (.ref p), some (.int many), none, some (.int b), some (.int c), some (.int m)] ∧ H'' = H', ?_, ?_⟩
  · refine ⟨_, rfl, _, rfl, _, _, rfl, rfl, _, _, rfl, rfl, .inl m2b, .inl ⟨_, rfl, _, _, rfl, rfl, by omega, _, _, rfl, rfl, wide_div (b := 7) (by decide) (by decide) (by decide) (by decide), ?_⟩⟩
    exact ⟨_, rfl, rfl⟩
  rintro σ' H' ⟨m3, rfl, rfl⟩
  refine ⟨fun σ' H' => ∃ m : Int, σ' = [some (.ref p), some (.int many), none, some (.int b), some (.int c), some (.int m)] ∧ Pen H' p l (n + (k + 1)) ∧ Keep p H H', ?_, ?_⟩
  · have P3 : Pen H' p l (n + 1) := ⟨cs, b + 1, r, hp3, hl3, hcs, by omega, by omega, hr0⟩
    refine ⟨_, rfl, _, _, rfl, rfl, _, rfl, ?_⟩
    refine ite2 (fun c4 => ?_) (fun c4 => ?_)
    · have c5 := of_decide_eq_true c4
      have dk : ∃ j, k = j + 1 := by
        cases k with
        | zero => exact absurd hm (by show ¬ many ≤ 60000000; omega)
        | succ j => exact ⟨j, rfl⟩
      obtain ⟨j, rfl⟩ := dk
      have hB : many ≤ 60000000 * (Bd j - 1) := hm
      refine ⟨_, rfl, .inl ⟨_, rfl, _, _, rfl, rfl, by omega, _, rfl, _, rfl, _, _, rfl, rfl, wide_div (b := 26) (by decide) (by decide) (by decide) (by decide), _, _, rfl, rfl, p, l, _, n + 1, rfl, P3, by omega, by omega, by omega, by omega, fun v H4 v0 v1 P4 k4 => ?_⟩⟩
      refine ⟨_, _, rfl, rfl, .inl ⟨by decide, by decide⟩, _, _, rfl, rfl, ?_⟩
      exact ⟨_, rfl, P4.le (by omega), kp3.trans k4⟩
    · exact ⟨_, rfl, P3.le (by omega), kp3⟩
  rintro σ' H5 ⟨m, rfl, P5, k5⟩
  refine ⟨_, rfl, .inl ⟨_, rfl, _, rfl, _, _, rfl, rfl, by omega, ?_⟩⟩
  exact q _ _ (em0 _ (by omega)) (em1 _ (by omega)) P5 k5
theorem ok_drawN (D : Dfn K mg "_law_draw" s__law_draw P__law_draw) (B : Blt mg) : ∀ k : Nat, Cal P w K mg base k "_law_draw" P__law_draw (spD k)
  | 0 => D.none_left
  | k + 1 => draw_step D B (ok_drawN D B k)
/-- what callers use: bounds up to 10 ^ 81 -/
def spDr : Sp := fun vs H Q _ => ∃ (p l : Addr) (many : Int) (n : Nat), vs = [.ref p, .int many] ∧ Pen H p l n ∧ n ≤ 2 ^ 39 ∧ 1 ≤ many ∧ many ≤ 10 ^ 81 ∧
  ∀ v H', 0 ≤ v → v < many → Pen H' p l (n + 12) → Keep p H H' → Q (.int v) H'
theorem ok_draw (D : Dfn K mg "_law_draw" s__law_draw P__law_draw) (B : Blt mg) : Cal P w K mg base 12 "_law_draw" P__law_draw spDr := by
  obtain ⟨f, fd, F, r⟩ := ok_drawN (P := P) (w := w) (base := base) D B 12
  refine ⟨f, fd, F.imp fun vs H Q E h => ?_, r⟩
  obtain ⟨p, l, many, n, rfl, a, b, c, d, e⟩ := h
  exact ⟨p, l, many, n, rfl, a, (by show n + 11 ≤ 2 ^ 40; omega), c, Int.le_trans d (by decide +kernel), by decide, e⟩
end
end Ur
/-! K2: pick, around, power, great, names. -/
namespace Ur
open PySem PySem.Spec PyProof.Rows L2
/-! ### pick -/
abbrev s__law_pick : Stmt := (topS 18)
abbrev N_sc__law_pick : List Str := ["_law_pen_here", "_law_options"]
abbrev P__law_pick : List Str := ["_law_pen_here", "_law_options"]
theorem sc__law_pick : FnScope N_sc__law_pick P__law_pick (defScope s__law_pick) := ⟨rfl, rfl, rfl, by decide +kernel, rfl, by decide +kernel, by decide +kernel⟩
def spPickL (K : PySem.W.Frag) : Sp := fun vs H Q _ => ∃ (p l a : Addr) (xs : List V) (n : Nat), vs = [.ref p, .ref a] ∧ Pen H p l n ∧ n ≤ 2 ^ 39 ∧ SqL K H a xs ∧ 1 ≤ xs.length ∧ xs.length ≤ 1000000 ∧
  ∀ v H', v ∈ xs → Pen H' p l (n + 12) → Keep p H H' → Q v H'
def spPickS : Sp := fun vs H Q _ => ∃ (p l : Addr) (z : Str) (n : Nat), vs = [.ref p, .str z] ∧ Pen H p l n ∧ n ≤ 2 ^ 39 ∧ 1 ≤ z.length ∧ z.length ≤ 1000000 ∧
  ∀ c H', c ∈ z.cps.toList → Pen H' p l (n + 12) → Keep p H H' → Q (.str ⟨#[c]⟩) H'
theorem at_some {α : Type} {xs : List α} {i : Int} (h0 : 0 ≤ i) (h1 : i < (xs.length : Int)) : ∃ v, atI xs i = some v ∧ v ∈ xs := by
  obtain ⟨j, rfl⟩ : ∃ j : Nat, i = (j : Int) := ⟨i.toNat, by omega⟩
  have hj : j < xs.length := by omega
  exact ⟨xs[j], atI_nat (List.getElem?_eq_getElem hj), List.getElem_mem hj⟩
section
variable {P : Program} {w : World} {K : PySem.W.Frag} {mg : Str → Option Value} {base : Heap}
theorem ok_pickL (D : Dfn K mg "_law_pick" s__law_pick P__law_pick) (B : Blt mg) (CD : Cal P w K mg base 12 "_law_draw" P__law_draw spDr) : Cal P w K mg base 13 "_law_pick" P__law_pick (spPickL K) := by
  refine D.cal sc__law_pick (fun vs H Q E h => ?_) fun f cdv A outer s H vs Q E hr h => ?_
  · obtain ⟨p, l, a, xs, n, rfl, _⟩ := h
    rfl
  obtain ⟨p, l, a, xs, n, rfl, Pn, hn, hS, h1, h2, q⟩ := h
  obtain ⟨kvs, hp⟩ := Pn.dk
  refine ⟨_, (pss_one (ps_ret (pe_ix ix_list (pv 1) (pe_cal CD (hr.mono (by decide)) (pa_cons (pv 0) (pa_cons (pe_callB call_len_seq rfl B.len_ PySem.boot_len (pa_cons (pv 1) pa_nil)) pa_nil))) (fun _ _ => rfl)))), ?_⟩
  refine ⟨_, rfl, _, rfl, _, rfl, a, _, rfl, .inl hS, p, l, _, n, rfl, Pn, hn, by omega, by omega, fun v H1 v0 v1 P1 k1 => ?_⟩
  obtain ⟨x, hx, hm⟩ := at_some v0 v1
  exact ⟨a, xs, v, x, rfl, rfl, k1.lst hp hS, hx, q _ _ hm P1 k1⟩
theorem ok_pickS (D : Dfn K mg "_law_pick" s__law_pick P__law_pick) (B : Blt mg) (CD : Cal P w K mg base 12 "_law_draw" P__law_draw spDr) : Cal P w K mg base 13 "_law_pick" P__law_pick spPickS := by
  refine D.cal sc__law_pick (fun vs H Q E h => ?_) fun f cdv A outer s H vs Q E hr h => ?_
  · obtain ⟨p, l, z, n, rfl, _⟩ := h
    rfl
  obtain ⟨p, l, z, n, rfl, Pn, hn, h1, h2, q⟩ := h
  have hz : z.length ≤ sizeLine := Nat.le_trans h2 (by decide)
  refine ⟨_, (pss_one (ps_ret (pe_ix ix_str (pv 1) (pe_cal CD (hr.mono (by decide)) (pa_cons (pv 0) (pa_cons (pe_callB call_len_str rfl B.len_ PySem.boot_len (pa_cons (pv 1) pa_nil)) pa_nil))) (fun _ _ => rfl)))), ?_⟩
  refine ⟨_, rfl, _, rfl, _, rfl, _, rfl, hz, p, l, _, n, rfl, Pn, hn, by omega, by omega, fun v H1 v0 v1 P1 k1 => ?_⟩
  have e : z.length = z.cps.toList.length := by show z.cps.size = _; rw [Array.length_toList]
  obtain ⟨x, hx, hm⟩ := at_some (xs := z.cps.toList) v0 (by omega)
  exact ⟨z, v, x, rfl, rfl, hz, hx, q _ _ hm P1 k1⟩
end
/-! ### around -/
abbrev s__law_around : Stmt := (topS 19)
abbrev N_sc__law_around : List Str := ["_law_pen_here", "_law_most"]
abbrev P__law_around : List Str := ["_law_pen_here", "_law_most"]
theorem sc__law_around : FnScope N_sc__law_around P__law_around (defScope s__law_around) := ⟨rfl, rfl, rfl, by decide +kernel, rfl, by decide +kernel, by decide +kernel⟩
def spAround : Sp := fun vs H Q _ => ∃ (p l : Addr) (most : Int) (n : Nat), vs = [.ref p, .int most] ∧ Pen H p l n ∧ n ≤ 2 ^ 39 ∧ 0 ≤ most ∧ most ≤ 10 ^ 80 ∧
  ∀ v H', -most ≤ v → v ≤ most → Pen H' p l (n + 12) → Keep p H H' → Q (.int v) H'
section
variable {P : Program} {w : World} {K : PySem.W.Frag} {mg : Str → Option Value} {base : Heap}
theorem ok_around (D : Dfn K mg "_law_around" s__law_around P__law_around) (CD : Cal P w K mg base 12 "_law_draw" P__law_draw spDr) : Cal P w K mg base 13 "_law_around" P__law_around spAround := by
  refine D.cal sc__law_around (fun vs H Q E h => ?_) fun f cdv A outer s H vs Q E hr h => ?_
  · obtain ⟨p, l, most, n, rfl, _⟩ := h
    rfl
  obtain ⟨p, l, most, n, rfl, Pn, hn, h1, h2, q⟩ := h
  refine ⟨_, (pss_one (ps_ret (pe_op op_sub (pe_cal CD (hr.mono (by decide)) (pa_cons (pv 0) (pa_cons (pe_op op_add (pe_op op_mul pe_int (pv 1)) pe_int) pa_nil))) (pv 1)))), ?_⟩
  refine ⟨_, rfl, _, rfl, _, _, rfl, rfl, .inl ⟨by decide, by decide⟩, _, _, rfl, rfl, p, l, _, n, rfl, Pn, hn, by omega, by omega, fun v H1 v0 v1 P1 k1 => ?_⟩
  exact ⟨_, rfl, _, _, rfl, rfl, q _ _ (by omega) (by omega) P1 k1⟩
end
/-! ### power, great -/
abbrev s__law_power : Stmt := (topS 20)
abbrev N_sc__law_power : List Str := ["_law_figures", "_law_found", "_law_k"]
abbrev P__law_power : List Str := ["_law_figures"]
theorem sc__law_power : FnScope N_sc__law_power P__law_power (defScope s__law_power) := ⟨rfl, rfl, rfl, by decide +kernel, rfl, by decide +kernel, by decide +kernel⟩
def spPower : Sp := fun vs H Q _ => ∃ (g : Nat), vs = [.int (g : Int)] ∧ g ≤ 100 ∧ Q (.int (10 ^ g)) H
theorem pow_bits {i : Nat} (h : i ≤ 100) : ((10 : Int) ^ i).natAbs < 2 ^ 400 := by
  have e : ((10 : Int) ^ i).natAbs = 10 ^ i := by rw [Int.natAbs_pow]; rfl
  rw [e]
  exact Nat.lt_of_le_of_lt (Nat.pow_le_pow_right (by decide) h) (by decide +kernel)
section
variable {P : Program} {w : World} {K : PySem.W.Frag} {mg : Str → Option Value} {base : Heap}
theorem ok_power (D : Dfn K mg "_law_power" s__law_power P__law_power) (B : Blt mg) : Cal P w K mg base 1 "_law_power" P__law_power spPower := by
  refine D.cal sc__law_power (fun vs H Q E h => ?_) fun f cdv A outer s H vs Q E hr h => ?_
  · obtain ⟨g, rfl, _⟩ := h
    rfl
  obtain ⟨g, rfl, hg, q⟩ := h
  refine ⟨_, (pss_cons (ps_set (i := 1) sc__law_power.nd rfl (Or.inl rfl) pe_int) (pss_cons (ps_for PassesOwn.never rfl (pi_range1 rfl B.range_ (pa_cons (pv 0) pa_nil)) (pg_name (i := 2) sc__law_power.nd rfl (Or.inl rfl)) (pss_one (ps_set (i := 1) sc__law_power.nd rfl (Or.inl rfl) (pe_op op_mulW (pv 1) pe_int)))) (pss_one (ps_ret (pv 1))))), ?_⟩
  refine ⟨_, rfl, (g : Int), rfl, by omega, by omega, for_range (lo := 0) (n := (g : Int).toNat) (fun i σ H' => i ≤ g ∧ H' = H ∧ ∃ v, σ = [some (.int (g : Int)), some (.int (10 ^ i)), v]) ⟨by omega, rfl, _, rfl⟩ ?_ ?_⟩
  · rintro i σ H' hi ⟨hi2, rfl, v, rfl⟩
    refine ⟨_, rfl, _, _, rfl, rfl, wide_mul (a := 400) (b := 4) (pow_bits (by omega)) (by decide) (by decide) (by decide) (by decide), ?_⟩
    exact ⟨by omega, rfl, _, by rw [Int.pow_succ]; rfl⟩
  · rintro σ H' ⟨hi2, rfl, v, rfl⟩
    exact ⟨_, rfl, q⟩
end
theorem pow10_le {a b : Nat} (h : a ≤ b) : (10 : Int) ^ a ≤ 10 ^ b := by
  have z := Nat.pow_le_pow_right (n := 10) (by decide) h
  exact_mod_cast z
abbrev s__law_great : Stmt := (topS 21)
abbrev N_sc__law_great : List Str := ["_law_pen_here", "_law_figures", "_law_most", "_law_some"]
abbrev P__law_great : List Str := ["_law_pen_here", "_law_figures"]
theorem sc__law_great : FnScope N_sc__law_great P__law_great (defScope s__law_great) := ⟨rfl, rfl, rfl, by decide +kernel, rfl, by decide +kernel, by decide +kernel⟩
def spGreat : Sp := fun vs H Q _ => ∃ (p l : Addr) (g n : Nat), vs = [.ref p, .int (g : Int)] ∧ Pen H p l n ∧ n + 72 ≤ 2 ^ 39 ∧ 1 ≤ g ∧ g ≤ 80 ∧
  ∀ v H', 0 ≤ v → v < 10 ^ g → Pen H' p l (n + 72) → Keep p H H' → Q (.int v) H'
section
variable {P : Program} {w : World} {K : PySem.W.Frag} {mg : Str → Option Value} {base : Heap}
theorem ok_great (D : Dfn K mg "_law_great" s__law_great P__law_great) (CW : Cal P w K mg base 1 "_law_power" P__law_power spPower) (CD : Cal P w K mg base 12 "_law_draw" P__law_draw spDr) (CP : Cal P w K mg base 13 "_law_pick" P__law_pick (spPickL K)) :
    Cal P w K mg base 14 "_law_great" P__law_great spGreat := by
  refine D.cal sc__law_great (fun vs H Q E h => ?_) fun f cdv A outer s H vs Q E hr h => ?_
  · obtain ⟨p, l, g, n, rfl, _⟩ := h
    rfl
  obtain ⟨p, l, g, n, rfl, Pn, hn, g1, g2, q⟩ := h
  obtain ⟨kvs, hp⟩ := Pn.dk
  have big : (10 : Int) ≤ 10 ^ g := pow10_le g1
  have top : (10 : Int) ^ g ≤ 10 ^ 81 := pow10_le (by omega)
  refine ⟨_, (pss_cons (ps_set (i := 2) sc__law_great.nd rfl (Or.inl rfl) (pe_cal CW (hr.mono (by decide)) (pa_cons (pv 1) pa_nil))) (pss_cons (ps_set (i := 3) sc__law_great.nd rfl (Or.inl rfl) (pe_lst (pa_cons (pe_cal CD (hr.mono (by decide)) (pa_cons (pv 0) (pa_cons pe_int pa_nil))) (pa_cons (pe_cal CD (hr.mono (by decide)) (pa_cons (pv 0) (pa_cons (pv 2) pa_nil))) (pa_cons (pe_cal CD (hr.mono (by decide)) (pa_cons (pv 0) (pa_cons (pv 2) pa_nil))) pa_nil))))) (pss_one (ps_ret (pe_cal CP (hr.mono (by decide)) (pa_cons (pv 0) (pa_cons (pe_op op_cat (pv 3) (pe_lst (pa_cons (pe_op op_add (pe_op op_fdivW (pv 2) pe_int) (pe_cal CD (hr.mono (by decide)) (pa_cons (pv 0) (pa_cons pe_int pa_nil)))) (pa_cons (pe_op op_sub (pe_op op_sub (pv 2) pe_int) (pe_cal CD (hr.mono (by decide)) (pa_cons (pv 0) (pa_cons pe_int pa_nil)))) pa_nil)))) pa_nil))))))), ?_⟩
  refine ⟨_, rfl, g, rfl, by omega, ?_⟩
  generalize (10 : Int) ^ g = most at big top q ⊢
  refine ⟨_, rfl, p, l, _, n, rfl, Pn, by omega, by omega, by omega, fun v1 H1 a1 b1 P1 k1 => ?_⟩
  refine ⟨_, rfl, _, rfl, p, l, _, _, rfl, P1, by omega, by omega, by omega, fun v2 H2 a2 b2 P2 k2 => ?_⟩
  refine ⟨_, rfl, _, rfl, p, l, _, _, rfl, P2, by omega, by omega, by omega, fun v3 H3 a3 b3 P3 k3 => ?_⟩
  refine ⟨(by show 3 ≤ sizeLine; decide), fun t ht => ?_⟩
  have P4 := P3.new (o := .lst [.int v1, .int v2, .int v3]) ht
  have k4 := ((k1.trans k2).trans k3).new (o := .lst [.int v1, .int v2, .int v3]) ht
  have ht4 : (upd H3 t (.lst [.int v1, .int v2, .int v3])) t = some (.lst [.int v1, .int v2, .int v3]) := upd_same
  have tp := P3.ne ht
  have tl := P3.nl ht
  generalize upd H3 t (.lst [.int v1, .int v2, .int v3]) = H4 at P4 k4 ht4 ⊢
  refine ⟨_, rfl, _, rfl, _, rfl, _, _, rfl, rfl, wide_div (b := 4) (by decide) (by decide) (by decide) (by decide), _, rfl, p, l, _, _, rfl, P4, by omega, by omega, by omega, fun v4 H5 a4 b4 P5 k5 => ?_⟩
  refine ⟨_, _, rfl, rfl, _, rfl, _, _, rfl, rfl, _, rfl, p, l, _, _, rfl, P5, by omega, by omega, by omega, fun v5 H6 a5 b5 P6 k6 => ?_⟩
  refine ⟨_, _, rfl, rfl, (by show 2 ≤ sizeLine; decide), fun u hu => ?_⟩
  have e6 := k6 _ _ (k5 _ _ ht4 tp) tp
  have e7 := same_new hu (.lst [.int (most / 10 + v4), .int (most - 1 - v5)]) _ _ e6
  refine ⟨t, u, _, _, rfl, rfl, e7, upd_same, (by show 5 ≤ sizeLine; decide), fun y hy => ?_⟩
  refine ⟨p, l, y, _, _, rfl, (P6.new hu).new hy, by omega, SqL.of upd_same, by show 1 ≤ 5; decide, by show 5 ≤ 1000000; decide, fun v H7 hv P7 k7 => ?_⟩
  have z : ∃ i : Int, v = .int i ∧ 0 ≤ i ∧ i < most := by
    simp only [List.mem_append, List.mem_cons, List.not_mem_nil, or_false] at hv
    rcases hv with (rfl | rfl | rfl) | (rfl | rfl) <;> exact ⟨_, rfl, by omega, by omega⟩
  obtain ⟨i, rfl, i0, i1⟩ := z
  exact q i H7 i0 i1 (P7.le (by omega)) ((((k4.trans k5).trans k6).new hu).new hy |>.trans k7)
end
end Ur
/-! K3: names. -/
namespace Ur
open PySem PySem.Spec PyProof.Rows L2
/-- small letters only -/
def LetOk (z : Str) : Prop := ∀ c ∈ z.cps.toList, 97 ≤ c ∧ c ≤ 122
def NameOk (z : Str) : Prop := 1 ≤ z.length ∧ z.length ≤ 8 ∧ LetOk z
theorem LetOk.app {a b : Str} (x : LetOk a) (y : LetOk b) : LetOk (a ++ b) := fun c h => by
  rw [Str.cps_append, Array.toList_append, List.mem_append] at h
  exact h.elim (x c) (y c)
theorem LetOk.empty : LetOk Str.empty := fun c h => by simp [Str.empty] at h
theorem LetOk.one {c : Nat} (h : 97 ≤ c ∧ c ≤ 122) : LetOk ⟨#[c]⟩ := fun d hd => by
  have e : d = c := by simpa using hd
  rw [e]; exact h
def lett : Str := Str.ofString "abcdefghijklmnopqrstuvwxyz"
theorem lett_ok : LetOk lett := by unfold LetOk; decide +kernel
theorem lett_len : lett.length = 26 := by decide +kernel
theorem lett_tl : lett.cps.toList.length = 26 := by decide +kernel
theorem join_ok : ∀ ss : List Str, (∀ z ∈ ss, z.length = 1 ∧ LetOk z) → (Txt.join Str.empty ss).length = ss.length ∧ LetOk (Txt.join Str.empty ss) := by
  intro ss h
  rw [show Txt.join Str.empty ss = Str.join Str.empty ss from PySem.StrLaws.glued_eq_join _ _]
  induction ss with
  | nil => exact ⟨rfl, LetOk.empty⟩
  | cons a r ih =>
    have ha := h a List.mem_cons_self
    have hr := ih fun z hz => h z (List.mem_cons_of_mem _ hz)
    cases r with
    | nil => exact ⟨ha.1, ha.2⟩
    | cons b r =>
      show (a ++ Str.empty ++ Str.join Str.empty (b :: r)).length = (b :: r).length + 1 ∧ LetOk (a ++ Str.empty ++ Str.join Str.empty (b :: r))
      rw [Str.append_empty, Str.length_append, hr.1, ha.1]
      exact ⟨by omega, ha.2.app hr.2⟩
theorem sum_ones : ∀ ss : List Str, (∀ z ∈ ss, z.length = 1 ∧ LetOk z) → (ss.map (·.length)).sum = ss.length
  | [], _ => rfl
  | a :: r, h => by
    rw [List.map_cons, List.sum_cons, sum_ones r fun z hz => h z (List.mem_cons_of_mem _ hz), (h a List.mem_cons_self).1, List.length_cons]
    omega
theorem mem_snoc {α : Type} {P : α → Prop} {l : List α} {a : α} (h : ∀ z ∈ l, P z) (ha : P a) : ∀ z ∈ l ++ [a], P z := fun z hz => by
  rcases List.mem_append.mp hz with q | q
  · exact h z q
  · rw [List.mem_singleton.mp q]; exact ha
abbrev s__law_names : Stmt := (topS 22)
abbrev N_sc__law_names : List Str := ["_law_pen_here", "_law_many", "_law_letters", "_law_stem", "_law_k", "_law_front", "_law_found", "_law_step", "_law_own", "_law_tail"]
abbrev P__law_names : List Str := ["_law_pen_here", "_law_many"]
theorem sc__law_names : FnScope N_sc__law_names P__law_names (defScope s__law_names) := ⟨rfl, rfl, rfl, by decide +kernel, rfl, by decide +kernel, by decide +kernel⟩
def spNames : Sp := fun vs H Q _ => ∃ (p l : Addr) (m n : Nat), vs = [.ref p, .int (m : Int)] ∧ Pen H p l n ∧ n + 12 * (m + 9) ≤ 2 ^ 39 ∧ m ≤ 1000 ∧
  ∀ (F : Addr) (ss : List Str) (H' : Hp), H' F = some (.lst (ss.map V.str)) → ss.length = m → (∀ z ∈ ss, NameOk z) → H F = none → Pen H' p l (n + 12 * (m + 9)) → Keep p H H' → Q (.ref F) H'
section
variable {P : Program} {w : World} {K : PySem.W.Frag} {mg : Str → Option Value} {base : Heap}
set_option maxHeartbeats 16000000 in
theorem ok_names (D : Dfn K mg "_law_names" s__law_names P__law_names) (B : Blt mg) (CD : Cal P w K mg base 12 "_law_draw" P__law_draw spDr) (CP : Cal P w K mg base 13 "_law_pick" P__law_pick (spPickL K)) (CS : Cal P w K mg base 13 "_law_pick" P__law_pick spPickS) :
    Cal P w K mg base 14 "_law_names" P__law_names spNames := by
  refine D.cal sc__law_names (fun vs H Q E h => ?_) fun f cdv A outer s H vs Q E hr h => ?_
  · obtain ⟨p, l, m, n, rfl, _⟩ := h
    rfl
  obtain ⟨p, l, m, n, rfl, Pn, hn, hm, q⟩ := h
  obtain ⟨kvs, hp⟩ := Pn.dk
  have small : ∀ x : Nat, x ≤ 1000 → x ≤ sizeLine := fun x h => Nat.le_trans h (by decide)
  refine ⟨_, (pss_cons (ps_set (i := 2) sc__law_names.nd rfl (Or.inr rfl) pe_str) (C8.pss_cut (ps_set (i := 3) sc__law_names.nd rfl (Or.inl rfl) (pe_join pe_str (pe_lc (own := [("_law_k", 4)]) (g := gName 4) (tt := tYes) rfl sc__law_names.nd (pi_range1 rfl B.range_ (pa_cons (pe_cal CD (hr.mono (by decide)) (pa_cons (pv 0) (pa_cons pe_int pa_nil))) pa_nil)) (blkOk_by (N := N_sc__law_names) (sc := defScope s__law_names) (by decide +kernel)) (fun _ _ _ _ _ => pg_name (i := 4) sc__law_names.nd rfl (Or.inl rfl)) (fun _ _ _ _ _ => pts_nil) (fun _ _ _ _ _ => (pe_cal CS (hr.mono (by decide)) (pa_cons (pv 0) (pa_cons (pv 2) pa_nil))))))) (pss_cons (ps_par (i := 5) (j := 6) rfl sc__law_names.nd rfl rfl (by decide) rfl rfl (pa_cons (pe_cal CD (hr.mono (by decide)) (pa_cons (pv 0) (pa_cons pe_int pa_nil))) (pa_cons (pe_lst pa_nil) pa_nil)) (by rfl)) (pss_cons (ps_set (i := 7) sc__law_names.nd rfl (Or.inl rfl) (pe_cal CP (hr.mono (by decide)) (pa_cons (pv 0) (pa_cons (pe_lst (pa_cons pe_int (pa_cons pe_int (pa_cons pe_int (pa_cons pe_int (pa_cons pe_int (pa_cons pe_int (pa_cons pe_int (pa_cons pe_int (pa_cons pe_int (pa_cons pe_int (pa_cons pe_int (pa_cons pe_int pa_nil))))))))))))) pa_nil)))) (pss_cons (ps_for PassesOwn.never rfl (pi_range1 rfl B.range_ (pa_cons (pv 1) pa_nil)) (pg_name (i := 4) sc__law_names.nd rfl (Or.inl rfl)) (pss_cons (ps_set (i := 8) sc__law_names.nd rfl (Or.inl rfl) (pe_ix ix_str (pv 2) (pe_op op_mod (pe_callTy call_int1 rfl B.int_ (by decide +kernel) (pa_cons (pe_op op_add (pv 5) (pe_op op_mul (pv 7) (pv 4))) pa_nil)) pe_int) (fun _ _ => rfl))) (C8.pss_cut (ps_set (i := 9) sc__law_names.nd rfl (Or.inl rfl) (pe_ifExp (pt_cmpR op_lt (pv 4) pe_int (nomark _)) pe_str (pe_cal CS (hr.mono (by decide)) (pa_cons (pv 0) (pa_cons (pv 2) pa_nil))))) (pss_one (ps_expr (pe_bm PySem.F.plainAttrs_list PySem.F.slot_list_append PySem.F.type_list_append mt_append (pv 6) (pa_cons (pe_op op_add_str (pe_ix ix_list (pe_lst (pa_cons (pe_op op_add_str (pv 3) (pv 8)) (pa_cons (pe_op op_add_str (pv 8) (pv 3)) pa_nil))) (pe_op op_mod (pe_callB call_len_str rfl B.len_ PySem.boot_len (pa_cons (pv 3) pa_nil)) pe_int) (fun _ _ => rfl)) (pv 9)) pa_nil))))))) (pss_one (ps_ret (pv 6)))))))), ?_⟩
  refine ⟨fun σ' H' => ∃ stem : Str, σ' = [some (.ref p), some (.int (m : Int)), some (.str lett), some (.str stem), none, none, none, none, none, none] ∧ stem.length ≤ 6 ∧ LetOk stem ∧ Pen H' p l (n + 84) ∧ Keep p H H', ?_, ?_⟩
  · refine ⟨⟨_, rfl⟩, _, rfl, p, l, 7, n, rfl, Pn, by omega, by omega, by omega, fun v0 H1 a0 b0 P1 k1 => ?_⟩
    refine ⟨v0, rfl, by omega, by omega, fun D hD => lc_range (lo := 0) (n := v0.toNat) (fun i H' => ∃ ss : List Str, H' D = some (.lst (ss.map V.str)) ∧ ss.length = i ∧ (∀ z ∈ ss, z.length = 1 ∧ LetOk z) ∧ Pen H' p l (n + 12 + 12 * i) ∧ Keep p H H')
      ⟨[], upd_same, rfl, fun z hz => absurd hz List.not_mem_nil, (P1.new hD).le (by omega), k1.new hD⟩ ?_ ?_⟩
    · rintro i H' hi ⟨ss, hs, hl, ho, Pi, ki⟩
      refine ⟨rfl, ?_⟩
      refine ⟨_, rfl, _, rfl, p, l, lett, _, rfl, Pi, by omega, by rw [lett_len]; decide, by rw [lett_len]; decide, fun c H3 hc P3 k3 => ?_⟩
      have nD := P1.ne hD
      have nDl := P1.nl hD
      have hD0 : H D = none := k1.none_of hD nD
      refine ⟨ss.map V.str, k3 _ _ hs nD, by rw [List.length_map]; exact small1000 (by omega), ss ++ [⟨#[c]⟩], by rw [upd_same, List.map_append]; rfl, by rw [List.length_append, hl]; rfl, mem_snoc ho ⟨rfl, LetOk.one (lett_ok c hc)⟩, (P3.le (by omega)).upd nD nDl, (ki.trans k3).at_new hD0⟩
    · rintro H' ⟨ss, hs, hl, ho, Pi, ki⟩
      refine ⟨_, D, ss, rfl, rfl, .inl (SqL.of hs), ?_, ?_⟩
      · rw [sum_ones ss ho]
        show ss.length + ss.length * 0 ≤ _
        omega
      · obtain ⟨j1, j2⟩ := join_ok ss ho
        exact ⟨_, rfl, by show (Txt.join Str.empty ss).length ≤ 6; omega, j2, Pi.le (by omega), ki⟩
  rintro σ' H1 ⟨stem, rfl, st1, st2, P1, k1⟩
  refine ⟨_, rfl, p, l, 26, _, rfl, P1, by omega, by omega, by omega, fun fr H2 f0 f1 P2 k2 => ?_⟩
  refine ⟨(by show 0 ≤ sizeLine; decide), fun F hF => ?_⟩
  have nF := P2.ne hF
  have nFl := P2.nl hF
  have hF0 : H F = none := (k1.trans k2).none_of hF nF
  refine ⟨_, _, rfl, ?_⟩
  refine ⟨_, rfl, (by show 12 ≤ sizeLine; decide), fun t ht => ?_⟩
  refine ⟨p, l, t, _, _, rfl, (P2.new hF).new ht, by omega, SqL.of upd_same, by show 1 ≤ 12; decide, by show 12 ≤ 1000000; decide, fun st H4 hst P4 k4 => ?_⟩
  obtain ⟨sp, hsp, rfl⟩ : ∃ i : Int, i ∈ ([1, 3, 5, 7, 9, 11, 15, 17, 19, 21, 23, 25] : List Int) ∧ V.int i = st := List.mem_map.mp (show st ∈ ([1, 3, 5, 7, 9, 11, 15, 17, 19, 21, 23, 25] : List Int).map V.int from hst)
  have sp1 : 1 ≤ sp ∧ sp ≤ 25 := (by decide : ∀ i ∈ ([1, 3, 5, 7, 9, 11, 15, 17, 19, 21, 23, 25] : List Int), 1 ≤ i ∧ i ≤ 25) sp hsp
  have hF4 : H4 F = some (.lst []) := k4 _ _ (same_new ht (.lst (([1, 3, 5, 7, 9, 11, 15, 17, 19, 21, 23, 25] : List Int).map V.int)) _ _ upd_same) nF
  have k5 : Keep p H H4 := (((k1.trans k2).new hF).new ht).trans k4
  refine ⟨_, rfl, (m : Int), rfl, by omega, by omega, for_range (lo := 0) (n := (m : Int).toNat) (fun i σ' H' => ∃ (ss : List Str) (k own tail : Option V), σ' = [some (.ref p), some (.int (m : Int)), some (.str lett), some (.str stem), k, some (.int fr), some (.ref F), some (.int sp), own, tail] ∧
      H' F = some (.lst (ss.map V.str)) ∧ ss.length = i ∧ i ≤ m ∧ (∀ z ∈ ss, NameOk z) ∧ Pen H' p l (n + 108 + 12 * i) ∧ Keep p H H') ⟨[], none, none, none, rfl, hF4, rfl, Nat.zero_le _, fun z hz => absurd hz List.not_mem_nil, P4.le (by omega), k5⟩ ?_ ?_⟩
  · rintro i σ' H' hi ⟨ss, k, own, tail, rfl, hFi, hl, him, ho, Pi, ki⟩
    have him : i < m := by omega
    obtain ⟨c, hc, hcm⟩ := at_some (xs := lett.cps.toList) (em0 (fr + sp * (0 + (i : Int))) (m := 26) (by decide)) (by rw [lett_tl]; exact em1 _ (by decide))
    refine ⟨_, rfl, _, rfl, _, rfl, _, rfl, _, _, rfl, rfl, .inl (by omega), _, _, rfl, rfl, .inl ⟨_, rfl, _, _, rfl, rfl, by omega, lett, _, c, rfl, rfl, by rw [lett_len]; decide, hc, ?_⟩⟩
    have hcl := lett_ok c hcm
    refine ⟨fun σ' H'' => ∃ t : Str, σ' = [some (.ref p), some (.int (m : Int)), some (.str lett), some (.str stem), some (.int (0 + (i : Int))), some (.int fr), some (.ref F), some (.int sp), some (.str ⟨#[c]⟩), some (.str t)] ∧ t.length ≤ 1 ∧ LetOk t ∧ Pen H'' p l (n + 108 + 12 * i + 12) ∧ Keep p H' H'', ?_, ?_⟩
    · refine ⟨_, rfl, _, _, rfl, rfl, _, rfl, ?_⟩
      refine ite2 (fun _ => ?_) (fun _ => ?_)
      · exact ⟨Str.empty, rfl, by decide, LetOk.empty, Pi.le (by omega), Keep.refl⟩
      · refine ⟨_, rfl, _, rfl, p, l, lett, _, rfl, Pi, by omega, by rw [lett_len]; decide, by rw [lett_len]; decide, fun c2 H3 hc2 P3 k3 => ?_⟩
        exact ⟨⟨#[c2]⟩, rfl, Nat.le_refl 1, LetOk.one (lett_ok c2 hc2), P3, k3⟩
    rintro σ' H3 ⟨t, rfl, t1, t2, P3, k3⟩
    have hF3 := k3 _ _ hFi nF
    have cl : (⟨#[c]⟩ : Str).length = 1 := rfl
    refine ⟨_, rfl, .inl ⟨rfl, _, SqL.of hF3⟩, ?_⟩
    refine ⟨_, rfl, _, rfl, _, _, rfl, rfl, small _ (by rw [cl]; omega), _, rfl, _, rfl, _, _, rfl, rfl, small _ (by rw [cl]; omega), (by show 2 ≤ sizeLine; decide), fun u hu => ?_⟩
    obtain ⟨v, hv, hvm⟩ := at_some (xs := [V.str (stem ++ ⟨#[c]⟩), V.str (⟨#[c]⟩ ++ stem)]) (em0 (stem.length : Int) (m := 2) (by decide)) (em1 (stem.length : Int) (m := 2) (by decide))
    obtain ⟨g, rfl, g1, g2⟩ : ∃ g : Str, v = .str g ∧ g.length = stem.length + 1 ∧ LetOk g := by
      simp only [List.mem_cons, List.not_mem_nil, or_false] at hvm
      rcases hvm with rfl | rfl
      · exact ⟨_, rfl, by rw [Str.length_append, cl], st2.app (LetOk.one hcl)⟩
      · exact ⟨_, rfl, by rw [Str.length_append, cl]; omega, (LetOk.one hcl).app st2⟩
    refine ⟨_, rfl, _, rfl, small _ (by omega), _, _, rfl, rfl, by omega, u, _, _, _, rfl, rfl, SqL.of upd_same, hv, _, rfl, _, _, rfl, rfl, small _ (by omega), ?_⟩
    have hF5 := same_new hu (.lst [V.str (stem ++ ⟨#[c]⟩), V.str (⟨#[c]⟩ ++ stem)]) _ _ hF3
    refine ⟨F, _, _, rfl, rfl, hF5, by rw [List.length_map]; exact small1000 (by omega), ?_⟩
    refine ⟨ss ++ [g ++ t], _, _, _, rfl, by rw [upd_same, List.map_append]; rfl, by rw [List.length_append, hl]; rfl, by omega, mem_snoc ho ⟨by rw [Str.length_append]; omega, by rw [Str.length_append]; omega, g2.app t2⟩, ((P3.new hu).le (by omega)).upd nF nFl, ((ki.trans k3).new hu).at_new hF0⟩
  · rintro σ' H' ⟨ss, k, own, tail, rfl, hFi, hl, him, ho, Pi, ki⟩
    refine ⟨_, rfl, ?_⟩
    exact q F ss H' hFi (by omega) ho hF0 (Pi.le (by omega)) ki
end
end Ur
/-! K4: the painter: is_integer, is_between, is_name, __init__, its fields. -/
namespace Ur
open PySem PySem.Spec PyProof.Rows L2
abbrev s_is_integer : Stmt := (topS 8)
abbrev N_sc_is_integer : List Str := ["value"]
abbrev P_is_integer : List Str := ["value"]
theorem sc_is_integer : FnScope N_sc_is_integer P_is_integer (defScope s_is_integer) := ⟨rfl, rfl, rfl, by decide +kernel, rfl, by decide +kernel, by decide +kernel⟩
def spIsInt : Sp := fun vs H Q _ => ∃ (i : Int), vs = [.int i] ∧ Q (.bl true) H
abbrev s_is_between : Stmt := (topS 9)
abbrev N_sc_is_between : List Str := ["value", "least", "most"]
abbrev P_is_between : List Str := ["value", "least", "most"]
theorem sc_is_between : FnScope N_sc_is_between P_is_between (defScope s_is_between) := ⟨rfl, rfl, rfl, by decide +kernel, rfl, by decide +kernel, by decide +kernel⟩
def spBetween : Sp := fun vs H Q _ => ∃ (v a b : Int), vs = [.int v, .int a, .int b] ∧ Q (.bl (decide (a ≤ v ∧ v ≤ b))) H
section
variable {P : Program} {w : World} {K : PySem.W.Frag} {mg : Str → Option Value} {base : Heap}
theorem ok_is_integer (D : Dfn K mg "is_integer" s_is_integer P_is_integer) (B : Blt mg) : Cal P w K mg base 1 "is_integer" P_is_integer spIsInt := by
  refine D.cal sc_is_integer (fun vs H Q E h => ?_) fun f cdv A outer s H vs Q E hr h => ?_
  · obtain ⟨i, rfl, _⟩ := h
    rfl
  obtain ⟨i, rfl, q⟩ := h
  refine ⟨_, (pss_one (ps_ret (pe_and (pe_callB call_isi rfl B.isinstance_ (by decide +kernel) (pa_cons (pv 0) (pa_cons (pe_bltn (v := .ty "int") rfl B.int_ (by decide +kernel) rfl) pa_nil))) (pe_one (pe_not (pe_callB call_isi rfl B.isinstance_ (by decide +kernel) (pa_cons (pv 0) (pa_cons (pe_bltn (v := .ty "bool") rfl B.bool_ (by decide +kernel) rfl) pa_nil)))))))), ?_⟩
  refine ⟨_, rfl, _, _, _, _, true, rfl, ClsV.ty "int", (TyX.base (TyOf.int i)), kit_ty (by decide +kernel), true, rfl, ?_⟩
  exact ⟨_, rfl, _, _, _, _, false, rfl, ClsV.ty "bool", (TyX.base (TyOf.int i)), kit_ty (by decide +kernel), false, rfl, q⟩
theorem ok_is_between (D : Dfn K mg "is_between" s_is_between P_is_between) (CI : Cal P w K mg base 1 "is_integer" P_is_integer spIsInt) : Cal P w K mg base 2 "is_between" P_is_between spBetween := by
  refine D.cal sc_is_between (fun vs H Q E h => ?_) fun f cdv A outer s H vs Q E hr h => ?_
  · obtain ⟨v, a, b, rfl, _⟩ := h
    rfl
  obtain ⟨v, a, b, rfl, q⟩ := h
  refine ⟨_, (pss_one (ps_ret (pe_and (pe_cal CI (hr.mono (by decide)) (pa_cons (pv 0) pa_nil)) (pe_one (pe_chain op_le op_le (pv 1) (pv 0) (pv 2)))))), ?_⟩
  refine ⟨_, rfl, v, rfl, true, rfl, ?_⟩
  refine ⟨_, rfl, _, rfl, _, _, rfl, rfl, _, rfl, ?_⟩
  refine ite2 (fun c => ?_) (fun c => ?_)
  · have c := of_decide_eq_true c
    refine ⟨_, rfl, _, _, rfl, rfl, ?_⟩
    have e : decide (a ≤ v ∧ v ≤ b) = decide (v ≤ b) := by simp [c]
    rw [e] at q
    exact q
  · have c : ¬ a ≤ v := of_decide_eq_false (Bool.eq_false_iff.mpr c)
    have e : decide (a ≤ v ∧ v ≤ b) = false := by simp [c]
    rw [e] at q
    exact q
end
/-! ### names -/
abbrev s_Painter_is_name : Stmt := (inClass (topS 14) 15)
abbrev N_sc_Painter_is_name : List Str := ["value"]
abbrev P_Painter_is_name : List Str := ["value"]
theorem sc_Painter_is_name : FnScope N_sc_Painter_is_name P_Painter_is_name (defScope s_Painter_is_name) := ⟨rfl, rfl, rfl, by decide +kernel, rfl, by decide +kernel, by decide +kernel⟩
theorem uni_alpha : ∀ c : Nat, 97 ≤ c → c ≤ 122 → Unicode.isAlpha c = true ∧ Unicode.isLower c = true ∧ Unicode.isUpper c = false ∧ Unicode.isTitle c = false := by
  intro c h1 h2
  have z : ∀ i : Fin 26, Unicode.isAlpha (97 + i.val) = true ∧ Unicode.isLower (97 + i.val) = true ∧ Unicode.isUpper (97 + i.val) = false ∧ Unicode.isTitle (97 + i.val) = false := by decide +kernel
  have := z ⟨c - 97, by omega⟩
  have e : 97 + (c - 97) = c := by omega
  simpa only [e] using this
theorem arr_all {a : Array Nat} {f : Nat → Bool} (h : ∀ c ∈ a.toList, f c = true) : a.all f = true := by
  rw [← Array.all_toList]
  exact List.all_eq_true.mpr h
theorem arr_none {a : Array Nat} {f : Nat → Bool} (h : ∀ c ∈ a.toList, f c = false) : a.any f = false := by
  rw [← Array.any_toList]
  exact List.any_eq_false.mpr fun x hx => by rw [h x hx]; decide
theorem arr_some {a : Array Nat} {f : Nat → Bool} (h : ∀ c ∈ a.toList, f c = true) (n : 1 ≤ a.toList.length) : a.any f = true := by
  rw [← Array.any_toList]
  cases e : a.toList with
  | nil => rw [e] at n; exact absurd n (by decide)
  | cons x r => rw [List.any_cons, h x (by rw [e]; exact List.mem_cons_self), Bool.true_or]
theorem name_len {z : Str} (h : NameOk z) : 1 ≤ z.cps.toList.length := by
  have e : z.length = z.cps.size := rfl
  have := h.1
  rw [Array.length_toList]
  omega
theorem name_ascii {z : Str} (h : NameOk z) : Txt.isascii z = true := arr_all fun c hc => decide_eq_true (by have := h.2.2 c hc; omega)
theorem name_alpha {z : Str} (h : NameOk z) : Txt.isalpha z = true := by
  show (decide (z.length > 0) && z.cps.all Unicode.isAlpha) = true
  rw [arr_all fun c hc => (uni_alpha c (h.2.2 c hc).1 (h.2.2 c hc).2).1, decide_eq_true (by have := h.1; omega)]
  rfl
theorem name_lower {z : Str} (h : NameOk z) : Txt.islower z = true := by
  show (z.cps.any Unicode.isLower && !(z.cps.any fun c => Unicode.isUpper c || Unicode.isTitle c)) = true
  rw [arr_some (fun c hc => (uni_alpha c (h.2.2 c hc).1 (h.2.2 c hc).2).2.1) (name_len h), arr_none fun c hc => by
    obtain ⟨_, _, a, b⟩ := uni_alpha c (h.2.2 c hc).1 (h.2.2 c hc).2
    rw [a, b]
    rfl]
  rfl
def spIsName : Sp := fun vs H Q _ => ∃ z : Str, vs = [.str z] ∧ NameOk z ∧ Q (.bl true) H
section
variable {P : Program} {w : World} {K : PySem.W.Frag} {mg : Str → Option Value} {base : Heap}
theorem ok_is_name {f : Addr} {fd : FuncData} (F : Fun K "is_name" "Painter.is_name" s_Painter_is_name f fd) (B : Blt mg) : FnOk P w K mg base CX0 1 f fd P_Painter_is_name spIsName := by
  refine F.ok sc_Painter_is_name (fun vs H Q E h => ?_) (fun cdv A outer s H vs Q E hr h => ?_)
  · obtain ⟨z, rfl, _⟩ := h
    rfl
  obtain ⟨z, rfl, ok, q⟩ := h
  have hl : z.length ≤ sizeLine := Nat.le_trans ok.2.1 (by decide)
  refine ⟨_, (pss_cons (ps_if (PW.pt (pw_or (pt_not (pt_val (pe_callB call_isi rfl B.isinstance_ (by decide +kernel) (pa_cons (pv 0) (pa_cons (pe_bltn (v := .ty "str") rfl B.str_ (by decide +kernel) rfl) pa_nil))))) (pw_or1 (pt_cmpR op_gt (pe_callB call_len_str rfl B.len_ PySem.boot_len (pa_cons (pv 0) pa_nil)) pe_int (nomark _))))) (pss_one (ps_ret pe_bl)) pss_nil) (pss_one (ps_ret (pe_and (pe_m0 PySem.F.slot_str_isascii PySem.F.type_str_isascii mt_isascii (pv 0)) (pe_and (pe_m0 PySem.F.slot_str_isalpha PySem.F.type_str_isalpha mt_isalpha (pv 0)) (pe_one (pe_m0 PySem.F.slot_str_islower PySem.F.type_str_islower mt_islower (pv 0)))))))), ?_⟩
  refine ⟨_, rfl, _, _, _, _, true, rfl, ClsV.ty "str", (TyX.base (TyOf.str z)), kit_ty (by decide +kernel), true, rfl, ?_⟩
  refine iteF ?_
  refine ⟨_, rfl, _, rfl, hl, _, _, rfl, rfl, _, rfl, ?_⟩
  have c : decide ((8 : Int) < (z.length : Int)) = false := decide_eq_false (by have := ok.2.1; omega)
  show (if decide ((8 : Int) < (z.length : Int)) = true then _ else _)
  rw [c]
  refine iteF ?_
  refine ⟨_, rfl, ⟨_, rfl⟩, z, rfl, rfl, trivial, true, by rw [name_ascii ok], ?_⟩
  refine ⟨_, rfl, ⟨_, rfl⟩, z, rfl, rfl, trivial, true, by rw [name_alpha ok], ?_⟩
  refine ⟨_, rfl, ⟨_, rfl⟩, z, rfl, rfl, trivial, ?_⟩
  rw [name_lower ok]
  exact q
end
/-! ### the class -/
def pfs (nm : Str) (d p s : Int) : List (Str × V) := [("_name", .str nm), ("_day", .int d), ("_post", .int p), ("_stride", .int s)]
theorem pfs_mk (nm : Str) (d p s : Int) : putF "_stride" (.int s) (putF "_post" (.int p) (putF "_day" (.int d) (putF "_name" (.str nm) []))) = pfs nm d p s := rfl
theorem pfs_name (nm : Str) (d p s : Int) : (pfs nm d p s).lookup ("_name" : Str) = some (V.str nm) := rfl
theorem pfs_day (nm : Str) (d p s : Int) : (pfs nm d p s).lookup ("_day" : Str) = some (V.int d) := rfl
theorem pfs_post (nm : Str) (d p s : Int) : (pfs nm d p s).lookup ("_post" : Str) = some (V.int p) := rfl
theorem pfs_stride (nm : Str) (d p s : Int) : (pfs nm d p s).lookup ("_stride" : Str) = some (V.int s) := rfl
structure PTxt (K : PySem.W.Frag) (mg : Str → Option Value) (C : Addr) : Prop where
  cl : Cls K C
  nN : NoAttr K C "_name"
  nD : NoAttr K C "_day"
  nP : NoAttr K C "_post"
  nS : NoAttr K C "_stride"
  mgP : mg "Painter" = some (.ref C)
  rd : ClX.CRead K C (.type "type")
  cD : ∃ u, ClX.CVal K C (.type "type") "MAX_DAY" (.int (10 ^ 30)) u
  cP : ∃ u, ClX.CVal K C (.type "type") "MAX_POST" (.int (10 ^ 30)) u
  cS : ∃ u, ClX.CVal K C (.type "type") "MAX_STRIDE" (.int (10 ^ 18)) u
/-- a painter's parts are as the document asks -/
structure PartOk (nm : Str) (d p s : Int) : Prop where
  nm : NameOk nm
  d0 : 0 ≤ d
  d1 : d ≤ 10 ^ 30
  p0 : -(10 ^ 30) ≤ p
  p1 : p ≤ 10 ^ 30
  s0 : -(10 ^ 18) ≤ s
  s1 : s ≤ 10 ^ 18
  sn : s ≠ 0
abbrev s_Painter_init : Stmt := (inClass (topS 14) 3)
abbrev N_sc_Painter_init : List Str := ["self", "name", "day", "post", "stride"]
abbrev P_Painter_init : List Str := ["self", "name", "day", "post", "stride"]
theorem sc_Painter_init : FnScope N_sc_Painter_init P_Painter_init (defScope s_Painter_init) := ⟨rfl, rfl, rfl, by decide +kernel, rfl, by decide +kernel, by decide +kernel⟩
def spInit (C : Addr) : Sp := fun vs H Q _ => ∃ (x dx : Addr) (nm : Str) (d p s : Int), vs = [.ref x, .str nm, .int d, .int p, .int s] ∧ H x = some (.ins C dx []) ∧ PartOk nm d p s ∧
  ∀ H', H' x = some (.ins C dx (pfs nm d p s)) → (∀ b o, H b = some o → b ≠ x → H' b = some o) → Q .non H'
section
variable {P : Program} {w : World} {K : PySem.W.Frag} {mg : Str → Option Value} {base : Heap}
set_option maxHeartbeats 16000000 in
theorem ok_init {C pN f fN : Addr} {fd fdN : FuncData} (F : Fun K "__init__" "Painter.__init__" s_Painter_init f fd) (T : PTxt K mg C) (smP : SMet K C (.type "type") "is_name" pN fN) (FN : FnOk P w K mg base CX0 1 fN fdN P_Painter_is_name spIsName) (bN : Binds K fdN P_Painter_is_name [])
    (CB : Cal P w K mg base 2 "is_between" P_is_between spBetween) : FnOk P w K mg base CX0 3 f fd P_Painter_init (spInit C) := by
  refine F.ok sc_Painter_init (fun vs H Q E h => ?_) (fun cdv A outer s H vs Q E hr h => ?_)
  · obtain ⟨x, dx, nm, d, p, st, rfl, _⟩ := h
    rfl
  obtain ⟨x, dx, nm, d, p, st, rfl, hx, ok, q⟩ := h
  obtain ⟨uD, cD⟩ := T.cD
  obtain ⟨uP, cP⟩ := T.cP
  obtain ⟨uS, cS⟩ := T.cS
  refine ⟨_, (pss_cons (ps_if (pt_not (pt_val (pe_smeth (pe_glob (v := .ref C) rfl T.mgP rfl) T.rd smP FN bN (hr.mono (by decide)) pass0 (pa_cons (pv 1) pa_nil)))) (pss_one ps_never) pss_nil) (pss_cons (ps_if (pt_not (pt_val (pe_cal CB (hr.mono (by decide)) (pa_cons (pv 2) (pa_cons pe_int (pa_cons (ClX.pe_cval (pe_glob (v := .ref C) rfl T.mgP rfl)) pa_nil)))))) (pss_one ps_never) pss_nil) (pss_cons (ps_if (pt_not (pt_val (pe_cal CB (hr.mono (by decide)) (pa_cons (pv 3) (pa_cons (pe_un un_neg (ClX.pe_cval (pe_glob (v := .ref C) rfl T.mgP rfl))) (pa_cons (ClX.pe_cval (pe_glob (v := .ref C) rfl T.mgP rfl)) pa_nil)))))) (pss_one ps_never) pss_nil) (pss_cons (ps_if (PW.pt (pw_or (pt_not (pt_val (pe_cal CB (hr.mono (by decide)) (pa_cons (pv 4) (pa_cons (pe_un un_neg (ClX.pe_cval (pe_glob (v := .ref C) rfl T.mgP rfl))) (pa_cons (ClX.pe_cval (pe_glob (v := .ref C) rfl T.mgP rfl)) pa_nil)))))) (pw_or1 (pt_cmpR op_eq (pv 4) pe_int (nomark _))))) (pss_one ps_never) pss_nil) (pss_cons (ps_fld (pv 0) (pv 1) rfl) (pss_cons (ps_fld (pv 0) (pv 2) rfl) (pss_cons (ps_fld (pv 0) (pv 3) rfl) (pss_one (ps_fld (pv 0) (pv 4) rfl))))))))), ?_⟩
  refine ⟨rfl, _, rfl, nm, rfl, ok.nm, true, rfl, iteF ?_⟩
  refine ⟨_, rfl, C, _, _, _, rfl, T.rd, cD, d, _, _, rfl, _, rfl, iteNS ⟨ok.d0, ok.d1⟩ ?_⟩
  refine ⟨_, rfl, C, _, _, _, rfl, T.rd, cP, _, rfl, C, _, _, _, rfl, T.rd, cP, p, _, _, rfl, _, rfl, iteNS ⟨ok.p0, ok.p1⟩ ?_⟩
  refine ⟨_, rfl, C, _, _, _, rfl, T.rd, cS, _, rfl, C, _, _, _, rfl, T.rd, cS, st, _, _, rfl, _, rfl, iteNS ⟨ok.s0, ok.s1⟩ ?_⟩
  have c : decide (V.int st = V.int 0) = false := decide_eq_false fun e => ok.sn (V.int.inj e)
  refine ⟨_, rfl, rfl, _, rfl, ?_⟩
  show (if decide (V.int st = V.int 0) = true then _ else _)
  rw [c]
  refine iteF ?_
  refine ⟨_, rfl, _, rfl, x, C, dx, [], rfl, hx, T.cl, T.nN, (by show 0 < 1000; decide), ?_⟩
  refine ⟨_, rfl, _, rfl, x, C, dx, _, rfl, upd_same, T.cl, T.nD, (by show 1 < 1000; decide), ?_⟩
  refine ⟨_, rfl, _, rfl, x, C, dx, _, rfl, upd_same, T.cl, T.nP, (by show 2 < 1000; decide), ?_⟩
  refine ⟨_, rfl, _, rfl, x, C, dx, _, rfl, upd_same, T.cl, T.nS, (by show 3 < 1000; decide), ?_⟩
  refine q _ upd_same fun b o e hb => ?_
  rw [upd_ne hb, upd_ne hb, upd_ne hb, upd_ne hb]
  exact e
/-- a painter stands at a -/
def PnAt (C : Addr) (H : Hp) (a : Addr) (nm : Str) (d p s : Int) : Prop := ∃ dx, H a = some (.ins C dx (pfs nm d p s))
/-- what is made and what it promises: Painter(..) -/
def MkP (P : Program) (w : World) (K : PySem.W.Frag) (mg : Str → Option Value) (base : Heap) (C : Addr) : Prop := ∃ f fd, Mk K C f ∧ FnOk P w K mg base CX0 3 f fd P_Painter_init (spInit C) ∧ Binds K fd P_Painter_init []
/-- a property that hands out the attribute -/
def PropC (P : Program) (w : World) (K : PySem.W.Frag) (mg : Str → Option Value) (base : Heap) (C : Addr) (f a : Str) : Prop := ∃ p g fd, PropOf K C f p g ∧ FnOk P w K mg base CX0 1 g fd ["self"] (getSp C a) ∧ Binds K fd ["self"] []
end
section
variable {X : Cx} {C : Addr} {e : Expr} {es : List Expr} {pos p : Pos} {ta : TE} {t : TA} {f a : Str}
theorem pe_prC (he : PE X e ta) (c : Cls X.K C) (hp : PropC X.prog X.w X.K X.mg X.base C f a) (hr : Room 2 X.A) (hab : attributeBase e f X.env (eval e X.env) = eval e X.env := by rfl) : PE X (.Attribute e f pos) (tProp C (getSp C a) [] E0 ta) := by
  obtain ⟨p, g, fd, h1, F, b⟩ := hp
  exact pe_prop he c h1 F hr b .nil pass0 hab
theorem pe_mkP (hp : MkP X.prog X.w X.K X.mg X.base C) (T : PTxt X.K X.mg C) (hr : Room 4 X.A) (ha : PA X (e :: es) t) (hg : Gl X "Painter" := by rfl)
    (he : starEach (e :: es) X.env = (false, eval e X.env) :: starEach es X.env := by rfl) (hpl : (backTo pos (starEach es X.env)).any (·.1) = false := by rfl) : PE X (.Call (.Name "Painter" p) (e :: es) [] pos) (tMake C (spInit C) [] E0 t) := by
  obtain ⟨f, fd, M, F, b⟩ := hp
  exact pe_make M F hr hg T.mgP b .nil pass0 ha (he := he) (hpl := hpl)
end
def AnyR (d p s : Int) : Prop := 0 ≤ d ∧ d ≤ 10 ^ 30 ∧ -(10 ^ 30) ≤ p ∧ p ≤ 10 ^ 30 ∧ -(10 ^ 18) ≤ s ∧ s ≤ 10 ^ 18 ∧ s ≠ 0
theorem AnyR.ok {nm : Str} {d p s : Int} (h : AnyR d p s) (z : NameOk nm) : PartOk nm d p s := by unfold AnyR at h; exact ⟨z, by omega, by omega, by omega, by omega, by omega, by omega, by omega⟩
end Ur
/-! K4B: picks of whole numbers, rows. -/
namespace Ur
open PySem PySem.Spec PyProof.Rows L2
/-- a pick out of whole numbers -/
def spPickI (K : PySem.W.Frag) : Sp := fun vs H Q _ => ∃ (p l a : Addr) (ns : List Int) (n : Nat), vs = [.ref p, .ref a] ∧ Pen H p l n ∧ n ≤ 2 ^ 39 ∧ SqL K H a (ns.map V.int) ∧ 1 ≤ ns.length ∧ ns.length ≤ 1000000 ∧
  ∀ i H', i ∈ ns → Pen H' p l (n + 12) → Keep p H H' → Q (.int i) H'
/-- one painter's row: a tuple of four -/
def Row (H : Hp) (t : Addr) (R : Int → Int → Int → Prop) : Prop := ∃ nm d p s, H t = some (.tup [.str nm, .int d, .int p, .int s]) ∧ NameOk nm ∧ R d p s
theorem Row.same {H H' : Hp} {t : Addr} {R : Int → Int → Int → Prop} (r : Row H t R) (h : Same H H') : Row H' t R := let ⟨nm, d, p, s, e, z⟩ := r; ⟨nm, d, p, s, h _ _ e, z⟩
theorem Row.keep {H H' : Hp} {t p : Addr} {R : Int → Int → Int → Prop} {kvs : List (Key × V)} (r : Row H t R) (k : Keep p H H') (hp : H p = some (.dK kvs)) : Row H' t R :=
  let ⟨nm, d, q, s, e, z⟩ := r; ⟨nm, d, q, s, k _ _ e (ne_of e hp (by intro z; cases z)), z⟩
theorem Row.updL {H : Hp} {t F : Addr} {R : Int → Int → Int → Prop} {xs ys : List V} (r : Row H t R) (hF : H F = some (.lst xs)) : Row (upd H F (.lst ys)) t R :=
  let ⟨nm, d, q, s, e, z⟩ := r; ⟨nm, d, q, s, by rw [upd_ne (ne_of e hF (by intro z; cases z))]; exact e, z⟩
theorem cut_mem {xs : List V} {lo hi : Option Int} {v : V} (h : v ∈ cutV xs lo hi) : v ∈ xs := List.mem_of_mem_drop (List.mem_of_mem_take h)
theorem cut_last {xs : List V} (h : 1 ≤ xs.length) : (cutV xs none (some (-1))).length = xs.length - 1 := by
  unfold cutV
  rw [HT.sIx_none, List.drop_zero, Nat.sub_zero, List.length_take]
  show min (if (-1 : Int) < 0 then (-1 + (xs.length : Int)).toNat else min (-1 : Int).toNat xs.length) xs.length = _
  rw [if_pos (by decide)]
  omega
theorem ix_last {n : Nat} (h : 1 ≤ n) : ixN n (-1) = some (n - 1) := by
  unfold ixN
  rw [if_neg (by decide), if_pos (by omega)]
  congr 1
  omega
theorem mem_set_or {α : Type} : ∀ {l : List α} {j : Nat} {a x : α}, x ∈ l.set j a → x = a ∨ x ∈ l := fun h => (List.mem_or_eq_of_mem_set h).elim Or.inr Or.inl
section
variable {P : Program} {w : World} {K : PySem.W.Frag} {mg : Str → Option Value} {base : Heap}
theorem ok_pickI (C : Cal P w K mg base 13 "_law_pick" P__law_pick (spPickL K)) : Cal P w K mg base 13 "_law_pick" P__law_pick (spPickI K) := by
  obtain ⟨f, fd, F, r⟩ := C
  refine ⟨f, fd, F.imp fun vs H Q E h => ?_, r⟩
  obtain ⟨p, l, a, ns, n, rfl, h1, h2, h3, h4, h5, q⟩ := h
  refine ⟨p, l, a, _, n, rfl, h1, h2, h3, by rw [List.length_map]; exact h4, by rw [List.length_map]; exact h5, fun v H' hv P' k' => ?_⟩
  obtain ⟨i, hi, rfl⟩ := List.mem_map.mp hv
  exact q i H' hi P' k'
end
theorem iteDT {c A B : Prop} [Decidable c] (hc : c) (h : A) : if decide c = true then A else B := by
  rw [decide_eq_true hc]
  exact iteT h
theorem iteDF {c A B : Prop} [Decidable c] (hc : ¬ c) (h : B) : if decide c = true then A else B := by
  rw [decide_eq_false hc]
  exact iteF h
theorem iteNN {c A B : Prop} [Decidable c] (hc : ¬ c) (h : A) : if (!decide c) = true then A else B := by
  rw [decide_eq_false hc]
  exact iteT h
theorem at_last {α : Type} (ws : List α) (x : α) : atI (ws ++ [x]) (-1) = some x := by
  unfold atI
  rw [ix_last (by rw [List.length_append]; exact Nat.le_add_left _ _), List.length_append]
  show (ws ++ [x])[ws.length + 1 - 1]? = some x
  rw [Nat.add_sub_cancel, List.getElem?_append_right (Nat.le_refl _), Nat.sub_self]
  rfl
end Ur
/-! K5: rows of painters: small. -/
namespace Ur
open PySem PySem.Spec PyProof.Rows L2
/-- what small, aimed and lined promise: a list of rows -/
def spRows (R : Int → Int → Int → Prop) : Sp := fun vs H Q _ => ∃ (p l : Addr) (most n : Nat), vs = [.ref p, .int (most : Int)] ∧ Pen H p l n ∧ n + 100000 ≤ 2 ^ 39 ∧ 1 ≤ most ∧ most ≤ 40 ∧
  ∀ (F : Addr) (ts : List Addr) (H' : Hp), H' F = some (.lst (ts.map V.ref)) → 1 ≤ ts.length → ts.length ≤ most → (∀ t ∈ ts, Row H' t R) → H F = none → Pen H' p l (n + 100000) → Keep p H H' → Q (.ref F) H'
/-- small numbers -/
def SmallR (d p s : Int) : Prop := 0 ≤ d ∧ d ≤ 6 ∧ -8 ≤ p ∧ p ≤ 8 ∧ -6 ≤ s ∧ s ≤ 6 ∧ s ≠ 0
abbrev s__law_small : Stmt := (topS 23)
abbrev N_sc__law_small : List Str := ["_law_pen_here", "_law_most", "_law_found", "_law_many", "_law_label", "_law_pace", "_law_date"]
abbrev P__law_small : List Str := ["_law_pen_here", "_law_most"]
theorem sc__law_small : FnScope N_sc__law_small P__law_small (defScope s__law_small) := ⟨rfl, rfl, rfl, by decide +kernel, rfl, by decide +kernel, by decide +kernel⟩
section
variable {P : Program} {w : World} {K : PySem.W.Frag} {mg : Str → Option Value} {base : Heap}
set_option maxHeartbeats 40000000 in
theorem ok_small (D : Dfn K mg "_law_small" s__law_small P__law_small) (B : Blt mg) (CD : Cal P w K mg base 12 "_law_draw" P__law_draw spDr) (CI : Cal P w K mg base 13 "_law_pick" P__law_pick (spPickI K)) (CP : Cal P w K mg base 13 "_law_pick" P__law_pick (spPickL K)) (CA : Cal P w K mg base 13 "_law_around" P__law_around spAround)
    (CN : Cal P w K mg base 14 "_law_names" P__law_names spNames) : Cal P w K mg base 15 "_law_small" P__law_small (spRows SmallR) := by
  refine D.cal sc__law_small (fun vs H Q E h => ?_) fun f cdv A outer s H vs Q E hr h => ?_
  · obtain ⟨p, l, most, n, rfl, _⟩ := h
    rfl
  obtain ⟨p, l, most, n, rfl, Pn, hn, m1, m2, q⟩ := h
  obtain ⟨kvs, hp⟩ := Pn.dk
  refine ⟨_, (pss_cons (ps_par (i := 2) (j := 3) rfl sc__law_small.nd rfl rfl (by decide) rfl rfl (pa_cons (pe_lst pa_nil) (pa_cons (pe_op op_add pe_int (pe_cal CD (hr.mono (by decide)) (pa_cons (pv 0) (pa_cons (pv 1) pa_nil)))) pa_nil)) (by rfl)) (pss_cons (ps_for PassesOwn.never rfl (pi_list (pe_cal CN (hr.mono (by decide)) (pa_cons (pv 0) (pa_cons (pv 3) pa_nil)))) (pg_name (i := 4) sc__law_small.nd rfl (Or.inl rfl)) (pss_cons (ps_set (i := 5) sc__law_small.nd rfl (Or.inl rfl) (pe_op op_add pe_int (pe_cal CI (hr.mono (by decide)) (pa_cons (pv 0) (pa_cons (pe_lst (pa_cons (pe_cal CD (hr.mono (by decide)) (pa_cons (pv 0) (pa_cons pe_int pa_nil))) (pa_cons (pe_cal CD (hr.mono (by decide)) (pa_cons (pv 0) (pa_cons pe_int pa_nil))) pa_nil))) pa_nil))))) (pss_cons (ps_set (i := 5) sc__law_small.nd rfl (Or.inl rfl) (pe_op op_mul (pv 5) (pe_cal CI (hr.mono (by decide)) (pa_cons (pv 0) (pa_cons (pe_lst (pa_cons pe_int (pa_cons (pe_un un_neg pe_int) pa_nil))) pa_nil))))) (pss_cons (ps_set (i := 6) sc__law_small.nd rfl (Or.inl rfl) (pe_cal CI (hr.mono (by decide)) (pa_cons (pv 0) (pa_cons (pe_lst (pa_cons pe_int (pa_cons pe_int (pa_cons (pe_cal CD (hr.mono (by decide)) (pa_cons (pv 0) (pa_cons pe_int pa_nil))) pa_nil)))) pa_nil)))) (pss_cons (ps_expr (pe_bm PySem.F.plainAttrs_list PySem.F.slot_list_append PySem.F.type_list_append mt_append (pv 2) (pa_cons (pe_tup (pa_cons (pv 4) (pa_cons (pv 6) (pa_cons (pe_cal CA (hr.mono (by decide)) (pa_cons (pv 0) (pa_cons pe_int pa_nil))) (pa_cons (pv 5) pa_nil))))) pa_nil))) (pss_one (ps_if (PW.pt (pw_and (pt_cmpR op_gt (pe_callB call_len_seq rfl B.len_ PySem.boot_len (pa_cons (pv 2) pa_nil)) pe_int (nomark _)) (pw_and1 (pt_cmpR op_eq (pe_cal CD (hr.mono (by decide)) (pa_cons (pv 0) (pa_cons pe_int pa_nil))) pe_int (nomark _))))) (pss_one (ps_asg (pe_op op_catT (pe_tup (pa_cons (pv 4) pa_nil)) (pe_slice sl_tup (pe_cal CP (hr.mono (by decide)) (pa_cons (pv 0) (pa_cons (pe_slice sl_list (pv 2) po_none (po_some (pe_un un_neg pe_int))) pa_nil))) (po_some pe_int) po_none)) (pg_sub (pv 2) (pe_un un_neg pe_int) set_list))) pss_nil))))))) (pss_one (ps_ret (pv 2))))), ?_⟩
  -- found, many = [], 1 + draw
  refine ⟨(by show 0 ≤ sizeLine; decide), fun F hF => ?_⟩
  have nF := Pn.ne hF
  have nFl := Pn.nl hF
  refine ⟨_, rfl, _, rfl, p, l, most, n, rfl, Pn.new hF, by omega, by omega, by omega, fun v0 H1 a0 b0 P1 k1 => ?_⟩
  have hF1 : H1 F = some (.lst []) := k1 _ _ upd_same nF
  have K1 : Keep p H H1 := (Keep.refl.new hF).trans k1
  refine ⟨_, _, rfl, rfl, _, _, rfl, ?_⟩
  -- for label in names(pen, many)
  obtain ⟨m, hm⟩ : ∃ m : Nat, 1 + v0 = (m : Int) := ⟨(1 + v0).toNat, by omega⟩
  refine ⟨_, rfl, _, rfl, p, l, m, _, by show [V.ref p, V.int (1 + v0)] = [V.ref p, V.int (m : Int)]; rw [hm], P1, by omega, by omega, fun L ss H2 hL hss hok hL0 P2 k2 => ?_⟩
  have hF2 := k2 _ _ hF1 nF
  have nLF : L ≠ F := fun e => by rw [e, hF1] at hL0; cases hL0
  have nL : L ≠ p := P1.ne hL0
  refine ⟨L, rfl, ⟨_, SqL.of hL⟩, for_list (K := K) (a := L) (xs := ss.map V.str) (fun i σ' H' => ∃ (ts : List Addr) (a b c : Option V), σ' = [some (.ref p), some (.int (most : Int)), some (.ref F), some (.int (1 + v0)), a, b, c] ∧
      H' F = some (.lst (ts.map V.ref)) ∧ ts.length = i ∧ i ≤ m ∧ (∀ t ∈ ts, Row H' t SmallR) ∧ H' L = some (.lst (ss.map V.str)) ∧ Pen H' p l (n + 12 + 12 * (m + 9) + 144 * i) ∧ Keep p H H') ⟨[], none, none, none, rfl, hF2, rfl, Nat.zero_le _, fun t ht => absurd ht List.not_mem_nil, hL, P2, K1.trans k2⟩ (fun i σ' H' _ ⟨_, _, _, _, _, _, _, _, _, h, _⟩ => SqL.of h) ?_ ?_⟩
  · rintro i x σ' H' hx ⟨ts, a, b, c, rfl, hFi, hl, him, hrow, hLi, Pi, ki⟩
    obtain ⟨kvi, hpi⟩ := Pi.dk
    have him : i < m := by
      have := (List.getElem?_eq_some_iff.mp hx).1
      rw [List.length_map] at this
      omega
    obtain ⟨z, hz, rfl⟩ : ∃ z, z ∈ ss ∧ V.str z = x := List.mem_map.mp (List.mem_of_getElem? hx)
    have zok := hok z hz
    -- pace = 1 + pick
    refine ⟨_, rfl, _, rfl, p, l, 6, _, rfl, Pi, by omega, by omega, by omega, fun a1 H3 c1 d1 P3 k3 => ?_⟩
    refine ⟨_, rfl, p, l, 2, _, rfl, P3, by omega, by omega, by omega, fun a2 H4 c2 d2 P4 k4 => ?_⟩
    refine ⟨(by show 2 ≤ sizeLine; decide), fun t1 h1 => ?_⟩
    refine ⟨p, l, t1, [a1, a2], _, rfl, P4.new h1, by omega, SqL.of upd_same, by show 1 ≤ 2; decide, by show 2 ≤ 1000000; decide, fun v1 H5 hv1 P5 k5 => ?_⟩
    have v1b : 0 ≤ v1 ∧ v1 ≤ 5 := by
      simp only [List.mem_cons, List.not_mem_nil, or_false] at hv1
      omega
    refine ⟨_, _, rfl, rfl, ?_⟩
    -- pace = pace * pick
    refine ⟨_, rfl, _, rfl, _, rfl, (by show 2 ≤ sizeLine; decide), fun t2 h2 => ?_⟩
    refine ⟨p, l, t2, [1, -1], _, rfl, P5.new h2, by omega, SqL.of upd_same, by decide, by decide, fun v2 H6 hv2 P6 k6 => ?_⟩
    have v2b : v2 = 1 ∨ v2 = -1 := by simpa only [List.mem_cons, List.not_mem_nil, or_false] using hv2
    refine ⟨_, _, rfl, rfl, .inl (by omega), ?_⟩
    obtain ⟨pace, hpace, pb⟩ : ∃ pace, (1 + v1) * v2 = pace ∧ -6 ≤ pace ∧ pace ≤ 6 ∧ pace ≠ 0 := ⟨_, rfl, by rcases v2b with rfl | rfl <;> omega⟩
    -- date = pick
    refine ⟨_, rfl, _, rfl, p, l, 7, _, rfl, P6, by omega, by omega, by omega, fun a3 H7 c3 d3 P7 k7 => ?_⟩
    refine ⟨(by show 3 ≤ sizeLine; decide), fun t3 h3 => ?_⟩
    refine ⟨p, l, t3, [0, 0, a3], _, rfl, P7.new h3, by omega, SqL.of upd_same, by show 1 ≤ 3; decide, by show 3 ≤ 1000000; decide, fun dt H8 hdt P8 k8 => ?_⟩
    have dtb : 0 ≤ dt ∧ dt ≤ 6 := by
      simp only [List.mem_cons, List.not_mem_nil, or_false] at hdt
      omega
    have kk : Keep p H' H8 := ((((((k3.trans k4).new h1).trans k5).new h2).trans k6).trans k7 |>.new h3).trans k8
    have hF8 := kk _ _ hFi nF
    -- found.append
    refine ⟨_, rfl, .inl ⟨rfl, _, SqL.of hF8⟩, ?_⟩
    refine ⟨_, rfl, _, rfl, _, rfl, p, l, 8, _, rfl, P8, by omega, by omega, by omega, fun ps H9 c4 d4 P9 k9 => ?_⟩
    refine ⟨_, rfl, (by show 4 ≤ sizeLine; decide), fun t4 h4 => ?_⟩
    have hF9 := same_new h4 (.tup [.str z, .int dt, .int ps, .int ((1 + v1) * v2)]) _ _ (k9 _ _ hF8 nF)
    refine ⟨F, _, _, rfl, rfl, hF9, by rw [List.length_map]; exact small1000 (by omega), ?_⟩
    have k10 := (kk.trans k9).new (o := .tup [.str z, .int dt, .int ps, .int ((1 + v1) * v2)]) h4
    have nt4 : t4 ≠ F := (ne_of_none (k9 _ _ hF8 nF) h4).symm
    have row4 : Row (upd H9 t4 (.tup [.str z, .int dt, .int ps, .int ((1 + v1) * v2)])) t4 SmallR := ⟨z, dt, ps, _, upd_same, zok, by rw [hpace]; unfold SmallR; omega⟩
    have hL10 := k10 _ _ hLi nL
    have rows10 : ∀ t ∈ ts ++ [t4], Row (upd H9 t4 (.tup [.str z, .int dt, .int ps, .int ((1 + v1) * v2)])) t SmallR := mem_snoc (fun t ht => (hrow t ht).keep k10 hpi) row4
    have P10 := P9.new (o := .tup [.str z, .int dt, .int ps, .int ((1 + v1) * v2)]) h4
    generalize upd H9 t4 (.tup [.str z, .int dt, .int ps, .int ((1 + v1) * v2)]) = H10 at hF9 k10 row4 hL10 rows10 P10 ⊢
    have hF0 : H F = none := hF
    -- the cut: with or without another's parts
    have hF11 : (upd H10 F (.lst (ts.map V.ref ++ [.ref t4]))) F = some (.lst ((ts ++ [t4]).map V.ref)) := by rw [upd_same, List.map_append]; rfl
    have P11 := P10.upd (o := .lst (ts.map V.ref ++ [.ref t4])) nF nFl
    have k11 := (ki.trans k10).at_new (o := .lst (ts.map V.ref ++ [.ref t4])) hF0
    have rows11 : ∀ t ∈ ts ++ [t4], Row (upd H10 F (.lst (ts.map V.ref ++ [.ref t4]))) t SmallR := fun t ht => (rows10 t ht).updL hF9
    have hL11 : (upd H10 F (.lst (ts.map V.ref ++ [.ref t4]))) L = some (.lst (ss.map V.str)) := by rw [upd_ne nLF]; exact hL10
    generalize upd H10 F (.lst (ts.map V.ref ++ [.ref t4])) = H11 at hF11 P11 k11 rows11 hL11 ⊢
    have lts : (ts ++ [t4]).length = i + 1 := by rw [List.length_append, hl]; rfl
    generalize ts ++ [t4] = us at hF11 rows11 lts
    obtain ⟨kv11, hp11⟩ := P11.dk
    refine ⟨_, rfl, F, _, rfl, .inl (SqL.of hF11), _, _, rfl, rfl, _, rfl, ?_⟩
    refine ite2 (fun c1 => ?_) (fun _ => iteF ⟨us, _, _, _, rfl, hF11, lts, by omega, rows11, hL11, P11.le (by omega), k11⟩)
    have c1 : (1 : Int) < ((us.map V.ref).length : Nat) := of_decide_eq_true c1
    refine ⟨_, rfl, p, l, 7, _, rfl, P11, by omega, by omega, by omega, fun v7 H12 a7 b7 P12 k12 => ?_⟩
    have hF12 := k12 _ _ hF11 nF
    have hL12 := k12 _ _ hL11 nL
    have rows12 : ∀ t ∈ us, Row H12 t SmallR := fun t ht => (rows11 t ht).keep k12 hp11
    obtain ⟨kv12, hp12⟩ := P12.dk
    refine ⟨rfl, _, rfl, ?_⟩
    refine ite2 (fun _ => ?_) (fun _ => ⟨us, _, _, _, rfl, hF12, lts, by omega, rows12, hL12, P12.le (by omega), k11.trans k12⟩)
    refine ⟨_, rfl, (by show 1 ≤ sizeLine; decide), fun t5 h5 => ?_⟩
    have hF13 := same_new h5 (.tup [.str z]) _ _ hF12
    refine ⟨_, rfl, _, rfl, _, rfl, _, rfl, F, _, rfl, SqL.of hF13, fun u hu => ?_⟩
    refine ⟨p, l, u, _, _, rfl, (P12.new h5).new hu, by omega, SqL.of upd_same, by rw [cut_last (by omega)]; omega, by rw [cut_last (by omega), List.length_map]; omega, fun v8 H14 hv8 P14 k14 => ?_⟩
    obtain ⟨t0, ht0, rfl⟩ := List.mem_map.mp (cut_mem hv8)
    have k13 : Keep p H12 H14 := ((Keep.refl.new h5).new hu).trans k14
    obtain ⟨nm0, d0, p0, s0, e0, ok0, R0⟩ := (rows12 t0 ht0).keep k13 hp12
    refine ⟨_, rfl, t0, _, rfl, SqT.of e0, fun z => absurd z.1 (by show ¬ (1 = 0); decide), fun y1 hy1 => ?_⟩
    have nt5 : t5 ≠ p := P12.ne h5
    have ht5 := same_new hy1 (.tup (cutV [.str nm0, .int d0, .int p0, .int s0] (some 1) none)) _ _ (k14 _ _ (same_new hu (.lst (cutV (us.map V.ref) none (some (-1)))) _ _ upd_same) nt5)
    refine ⟨t5, y1, [.str z], [.int d0, .int p0, .int s0], rfl, rfl, SqT.of ht5, SqT.of upd_same, (fun e => by cases e), (by show 4 ≤ sizeLine; decide), (fun e => by cases e), fun _ y hy => ?_⟩
    have k15 := (k13.new hy1).new (o := .tup ([.str z] ++ [.int d0, .int p0, .int s0])) hy
    have hF15 := k15 _ _ hF12 nF
    have lus : (us.map V.ref).length = i + 1 := by rw [List.length_map, lts]
    refine ⟨_, rfl, _, rfl, F, _, _, i, rfl, rfl, hF15, by rw [ix_last (by omega), lus]; rfl, ?_⟩
    refine ⟨us.set i y, _, _, _, rfl, by rw [upd_same, List.map_set], by rw [List.length_set, lts], by omega, fun t ht => ?_, by rw [upd_ne nLF]; exact k15 _ _ hL12 nL, (((P14.new hy1).new hy).upd nF nFl).le (by omega), ((k11.trans k12).trans k15).at_new hF0⟩
    rcases mem_set_or ht with rfl | ht
    · exact Row.updL ⟨z, d0, p0, s0, upd_same, zok, R0⟩ hF15
    · exact ((rows12 t ht).keep k15 hp12).updL hF15
  · rintro σ' H' ⟨ts, a, b, c, rfl, hFi, hl, him, hrow, hLi, Pi, ki⟩
    rw [List.length_map, hss] at hl
    refine ⟨_, rfl, ?_⟩
    exact q F ts H' hFi (by omega) (by omega) hrow hF (Pi.le (by omega)) ki
end
end Ur
/-! K6: rows of painters with great numbers: aimed, lined. -/
namespace Ur
open PySem PySem.Spec PyProof.Rows L2
def AimR (d p s : Int) : Prop := 0 ≤ d ∧ d ≤ 2 * 10 ^ 29 ∧ -(3 * 10 ^ 28) ≤ p ∧ p ≤ 3 * 10 ^ 28 ∧ -(10 ^ 17) ≤ s ∧ s ≤ 10 ^ 17 ∧ s ≠ 0
def LineR (d p s : Int) : Prop := 0 ≤ d ∧ d ≤ 10 ^ 29 ∧ -(2 * 10 ^ 29) ≤ p ∧ p ≤ 2 * 10 ^ 29 ∧ -(12 * 10 ^ 16) ≤ s ∧ s ≤ 12 * 10 ^ 16 ∧ s ≠ 0
def HubAt (H : Hp) (t : Addr) : Prop := ∃ D S : Int, H t = some (.tup [.int D, .int S]) ∧ 10 ^ 12 ≤ D ∧ D ≤ 10 ^ 12 + 10 ^ 29 ∧ -(10 ^ 28) ≤ S ∧ S ≤ 10 ^ 28
theorem HubAt.keep {H H' : Hp} {t p : Addr} {kvs : List (Key × V)} (r : HubAt H t) (k : Keep p H H') (hp : H p = some (.dK kvs)) : HubAt H' t := let ⟨D, S, e, z⟩ := r; ⟨D, S, k _ _ e (ne_of e hp (by intro z; cases z)), z⟩
theorem HubAt.updL {H : Hp} {t F : Addr} {xs ys : List V} (r : HubAt H t) (hF : H F = some (.lst xs)) : HubAt (upd H F (.lst ys)) t := let ⟨D, S, e, z⟩ := r; ⟨D, S, by rw [upd_ne (ne_of e hF (by intro z; cases z))]; exact e, z⟩
abbrev s__law_lined : Stmt := (topS 25)
abbrev N_sc__law_lined : List Str := ["_law_pen_here", "_law_most", "_law_found", "_law_many", "_law_lot", "_law_base", "_law_label", "_law_pace", "_law_spot", "_law_date"]
abbrev P__law_lined : List Str := ["_law_pen_here", "_law_most"]
theorem sc__law_lined : FnScope N_sc__law_lined P__law_lined (defScope s__law_lined) := ⟨rfl, rfl, rfl, by decide +kernel, rfl, by decide +kernel, by decide +kernel⟩
abbrev s__law_aimed : Stmt := (topS 24)
abbrev N_sc__law_aimed : List Str := ["_law_pen_here", "_law_most", "_law_found", "_law_many", "_law_hubs", "_law_k", "_law_spot", "_law_lot", "_law_label", "_law_date", "_law_some", "_law_pace", "_law_steps"]
abbrev P__law_aimed : List Str := ["_law_pen_here", "_law_most"]
theorem sc__law_aimed : FnScope N_sc__law_aimed P__law_aimed (defScope s__law_aimed) := ⟨rfl, rfl, rfl, by decide +kernel, rfl, by decide +kernel, by decide +kernel⟩
section
variable {P : Program} {w : World} {K : PySem.W.Frag} {mg : Str → Option Value} {base : Heap}
set_option maxHeartbeats 40000000 in
theorem ok_aimed (D : Dfn K mg "_law_aimed" s__law_aimed P__law_aimed) (B : Blt mg) (CD : Cal P w K mg base 12 "_law_draw" P__law_draw spDr) (CI : Cal P w K mg base 13 "_law_pick" P__law_pick (spPickI K)) (CP : Cal P w K mg base 13 "_law_pick" P__law_pick (spPickL K))
    (CG : Cal P w K mg base 14 "_law_great" P__law_great spGreat) (CN : Cal P w K mg base 14 "_law_names" P__law_names spNames) : Cal P w K mg base 15 "_law_aimed" P__law_aimed (spRows AimR) := by
  refine D.cal sc__law_aimed (fun vs H Q E h => ?_) fun f cdv A outer s H vs Q E hr h => ?_
  · obtain ⟨p, l, most, n, rfl, _⟩ := h
    rfl
  obtain ⟨p, l, most, n, rfl, Pn, hn, m1, m2, q⟩ := h
  obtain ⟨kvs, hp⟩ := Pn.dk
  have pw12 : CPow 10 12 := ⟨by decide, by decide, by decide⟩
  have e12 : (10 : Int) ^ (12 : Int).toNat = 10 ^ 12 := rfl
  refine ⟨_, (pss_cons (ps_par (i := 2) (j := 3) rfl sc__law_aimed.nd rfl rfl (by decide) rfl rfl (pa_cons (pe_lst pa_nil) (pa_cons (pe_op op_add pe_int (pe_cal CD (hr.mono (by decide)) (pa_cons (pv 0) (pa_cons (pv 1) pa_nil)))) pa_nil)) (by rfl)) (pss_cons (ps_set (i := 4) sc__law_aimed.nd rfl (Or.inl rfl) (pe_lst pa_nil)) (pss_cons (ps_for PassesOwn.never rfl (pi_range1 rfl B.range_ (pa_cons pe_int pa_nil)) (pg_name (i := 5) sc__law_aimed.nd rfl (Or.inl rfl)) (pss_cons (ps_set (i := 6) sc__law_aimed.nd rfl (Or.inl rfl) (pe_op op_mul (pe_cal CG (hr.mono (by decide)) (pa_cons (pv 0) (pa_cons pe_int pa_nil))) (pe_cal CI (hr.mono (by decide)) (pa_cons (pv 0) (pa_cons (pe_lst (pa_cons pe_int (pa_cons (pe_un un_neg pe_int) pa_nil))) pa_nil))))) (pss_one (ps_expr (pe_bm PySem.F.plainAttrs_list PySem.F.slot_list_append PySem.F.type_list_append mt_append (pv 4) (pa_cons (pe_tup (pa_cons (pe_op op_add (pe_op op_pow pe_int pe_int) (pe_cal CG (hr.mono (by decide)) (pa_cons (pv 0) (pa_cons pe_int pa_nil)))) (pa_cons (pv 6) pa_nil))) pa_nil)))))) (pss_cons (ps_set (i := 7) sc__law_aimed.nd rfl (Or.inl rfl) (pe_op op_add pe_int (pe_cal CG (hr.mono (by decide)) (pa_cons (pv 0) (pa_cons pe_int pa_nil))))) (pss_cons (ps_for PassesOwn.never rfl (pi_list (pe_cal CN (hr.mono (by decide)) (pa_cons (pv 0) (pa_cons (pv 3) pa_nil)))) (pg_name (i := 8) sc__law_aimed.nd rfl (Or.inl rfl)) (pss_cons (ps_asg (pe_cal CP (hr.mono (by decide)) (pa_cons (pv 0) (pa_cons (pv 4) pa_nil))) (pg_tup rfl (pgs_cons (pg_name (i := 9) sc__law_aimed.nd rfl (Or.inl rfl)) (pgs_cons (pg_name (i := 6) sc__law_aimed.nd rfl (Or.inl rfl)) pgs_nil)))) (pss_cons (ps_set (i := 10) sc__law_aimed.nd rfl (Or.inl rfl) (pe_lst (pa_cons (pe_cal CG (hr.mono (by decide)) (pa_cons (pv 0) (pa_cons pe_int pa_nil))) (pa_cons (pe_op op_mul (pv 7) (pe_op op_add pe_int (pe_cal CD (hr.mono (by decide)) (pa_cons (pv 0) (pa_cons pe_int pa_nil))))) (pa_cons (pe_cal CD (hr.mono (by decide)) (pa_cons (pv 0) (pa_cons pe_int pa_nil))) pa_nil))))) (pss_cons (ps_set (i := 11) sc__law_aimed.nd rfl (Or.inl rfl) (pe_op op_mul (pe_op op_add pe_int (pe_cal CI (hr.mono (by decide)) (pa_cons (pv 0) (pa_cons (pv 10) pa_nil)))) (pe_cal CI (hr.mono (by decide)) (pa_cons (pv 0) (pa_cons (pe_lst (pa_cons pe_int (pa_cons (pe_un un_neg pe_int) pa_nil))) pa_nil))))) (pss_cons (ps_set (i := 12) sc__law_aimed.nd rfl (Or.inl rfl) (pe_cal CI (hr.mono (by decide)) (pa_cons (pv 0) (pa_cons (pe_lst (pa_cons (pe_cal CD (hr.mono (by decide)) (pa_cons (pv 0) (pa_cons pe_int pa_nil))) (pa_cons (pe_cal CG (hr.mono (by decide)) (pa_cons (pv 0) (pa_cons pe_int pa_nil))) (pa_cons (pe_cal CG (hr.mono (by decide)) (pa_cons (pv 0) (pa_cons pe_int pa_nil))) pa_nil)))) pa_nil)))) (pss_cons (ps_set (i := 9) sc__law_aimed.nd rfl (Or.inl rfl) (pe_op op_sub (pe_op op_add (pv 9) (pe_cal CI (hr.mono (by decide)) (pa_cons (pv 0) (pa_cons (pe_lst (pa_cons pe_int (pa_cons pe_int (pa_cons (pe_cal CD (hr.mono (by decide)) (pa_cons (pv 0) (pa_cons pe_int pa_nil))) pa_nil)))) pa_nil)))) (pv 12))) (pss_cons (ps_expr (pe_bm PySem.F.plainAttrs_list PySem.F.slot_list_append PySem.F.type_list_append mt_append (pv 2) (pa_cons (pe_tup (pa_cons (pv 8) (pa_cons (pv 9) (pa_cons (pe_op op_sub (pv 6) (pe_op op_mul (pv 12) (pv 11))) (pa_cons (pv 11) pa_nil))))) pa_nil))) (pss_one (ps_if (PW.pt (pw_and (pt_cmpR op_gt (pe_callB call_len_seq rfl B.len_ PySem.boot_len (pa_cons (pv 2) pa_nil)) pe_int (nomark _)) (pw_and1 (pt_cmpR op_eq (pe_cal CD (hr.mono (by decide)) (pa_cons (pv 0) (pa_cons pe_int pa_nil))) pe_int (nomark _))))) (pss_one (ps_asg (pe_op op_catT (pe_tup (pa_cons (pv 8) pa_nil)) (pe_slice sl_tup (pe_cal CP (hr.mono (by decide)) (pa_cons (pv 0) (pa_cons (pe_slice sl_list (pv 2) po_none (po_some (pe_un un_neg pe_int))) pa_nil))) (po_some pe_int) po_none)) (pg_sub (pv 2) (pe_un un_neg pe_int) set_list))) pss_nil))))))))) (pss_one (ps_ret (pv 2)))))))), ?_⟩
  refine ⟨(by show 0 ≤ sizeLine; decide), fun F hF => ?_⟩
  have nF := Pn.ne hF
  have nFl := Pn.nl hF
  refine ⟨_, rfl, _, rfl, p, l, most, n, rfl, Pn.new hF, by omega, by omega, by omega, fun v0 H1 a0 b0 P1 k1 => ?_⟩
  have hF1 : H1 F = some (.lst []) := k1 _ _ upd_same nF
  have K1 : Keep p H H1 := (Keep.refl.new hF).trans k1
  refine ⟨_, _, rfl, rfl, _, _, rfl, ?_⟩
  -- hubs
  refine ⟨(by show 0 ≤ sizeLine; decide), fun U hU => ?_⟩
  have nU := P1.ne hU
  have nUl := P1.nl hU
  have nUF : U ≠ F := (ne_of_none hF1 hU).symm
  have hU0 : H U = none := K1.none_of hU nU
  refine ⟨3, rfl, by decide, by decide, for_range (lo := 0) (n := 3) (fun i σ' H' => ∃ (hs : List Addr) (a b : Option V), σ' = [some (.ref p), some (.int (most : Int)), some (.ref F), some (.int (1 + v0)), some (.ref U), a, b, none, none, none, none, none, none] ∧
      H' U = some (.lst (hs.map V.ref)) ∧ hs.length = i ∧ i ≤ 3 ∧ (∀ t ∈ hs, HubAt H' t) ∧ H' F = some (.lst []) ∧ Pen H' p l (n + 12 + 200 * i) ∧ Keep p H H') ⟨[], none, none, rfl, upd_same, rfl, by decide, fun t ht => absurd ht List.not_mem_nil, same_new hU _ _ _ hF1, (P1.new hU).le (by omega), K1.new hU⟩ ?_ ?_⟩
  · rintro i σ' H' hi ⟨hs, a, b, rfl, hUi, hl, _, hrow, hFi, Pi, ki⟩
    obtain ⟨kvi, hpi⟩ := Pi.dk
    refine ⟨_, rfl, p, l, 28, _, rfl, Pi, by omega, by decide, by decide, fun v1 H3 c1 d1 P3 k3 => ?_⟩
    refine ⟨_, rfl, _, rfl, (by show 2 ≤ sizeLine; decide), fun t2 h2 => ?_⟩
    refine ⟨p, l, t2, [1, -1], _, rfl, P3.new h2, by omega, SqL.of upd_same, by decide, by decide, fun v2 H4 hv2 P4 k4 => ?_⟩
    have v2b : v2 = 1 ∨ v2 = -1 := by simpa only [List.mem_cons, List.not_mem_nil, or_false] using hv2
    refine ⟨_, _, rfl, rfl, .inr (by omega), ?_⟩
    have sp : -(10 ^ 28) ≤ v1 * v2 ∧ v1 * v2 ≤ 10 ^ 28 := by rcases v2b with rfl | rfl <;> omega
    have kk : Keep p H' H4 := (k3.new h2).trans k4
    have hU4 := kk _ _ hUi nU
    refine ⟨_, rfl, .inl ⟨rfl, _, SqL.of hU4⟩, ?_⟩
    refine ⟨_, _, rfl, rfl, pw12, _, rfl, p, l, 29, _, rfl, P4, by omega, by decide, by decide, fun v3 H5 c3 d3 P5 k5 => ?_⟩
    refine ⟨_, _, rfl, rfl, _, rfl, (by show 2 ≤ sizeLine; decide), fun t3 h3 => ?_⟩
    have k6 := (kk.trans k5).new (o := .tup [.int (10 ^ (12 : Int).toNat + v3), .int (v1 * v2)]) h3
    have hU6 := k6 _ _ hUi nU
    have hF6 := k6 _ _ hFi nF
    refine ⟨U, _, _, rfl, rfl, hU6, by rw [List.length_map]; exact small1000 (by omega), ?_⟩
    have hub : HubAt (upd H5 t3 (.tup [.int (10 ^ (12 : Int).toNat + v3), .int (v1 * v2)])) t3 := ⟨_, _, upd_same, by rw [e12]; omega, by rw [e12]; omega, sp.1, sp.2⟩
    refine ⟨hs ++ [t3], _, _, rfl, by rw [upd_same, List.map_append]; rfl, by rw [List.length_append, hl]; rfl, by omega, fun t ht => ?_, by rw [upd_ne nUF.symm]; exact hF6, ((P5.new h3).upd nU nUl).le (by omega), (ki.trans k6).at_new hU0⟩
    exact HubAt.updL (mem_snoc (P := HubAt (upd H5 t3 (.tup [.int (10 ^ (12 : Int).toNat + v3), .int (v1 * v2)]))) (fun t ht => (hrow t ht).keep k6 hpi) hub t ht) hU6
  rintro σ' H2 ⟨hs, a, b, rfl, hU2, hs3, _, hub2, hF2, P2, k2⟩
  -- lot
  refine ⟨_, rfl, p, l, 9, _, rfl, P2, by omega, by decide, by decide, fun v3 H3 a3 b3 P3 k3 => ?_⟩
  obtain ⟨kv2, hp2⟩ := P2.dk
  refine ⟨_, _, rfl, rfl, ?_⟩
  have hU3 := k3 _ _ hU2 nU
  have hF3 := k3 _ _ hF2 nF
  have hub3 : ∀ t ∈ hs, HubAt H3 t := fun t ht => (hub2 t ht).keep k3 hp2
  have K3 := k2.trans k3
  obtain ⟨lot, hlot, l0, l1⟩ : ∃ lot : Int, 1 + v3 = lot ∧ 1 ≤ lot ∧ lot ≤ 10 ^ 9 := ⟨_, rfl, by omega, by omega⟩
  -- for label in names(pen, many)
  obtain ⟨m, hm⟩ : ∃ m : Nat, 1 + v0 = (m : Int) := ⟨(1 + v0).toNat, by omega⟩
  refine ⟨_, rfl, _, rfl, p, l, m, _, by show [V.ref p, V.int (1 + v0)] = [V.ref p, V.int (m : Int)]; rw [hm], P3, by omega, by omega, fun L ss H4 hL hss hok hL0 P4 k4 => ?_⟩
  have hU4 := k4 _ _ hU3 nU
  have hF4 := k4 _ _ hF3 nF
  obtain ⟨kv3, hp3⟩ := P3.dk
  have hub4 : ∀ t ∈ hs, HubAt H4 t := fun t ht => (hub3 t ht).keep k4 hp3
  have nLF : L ≠ F := fun e => by rw [e, hF3] at hL0; cases hL0
  have nLU : L ≠ U := fun e => by rw [e, hU3] at hL0; cases hL0
  have nL : L ≠ p := P3.ne hL0
  refine ⟨L, rfl, ⟨_, SqL.of hL⟩, for_list (K := K) (a := L) (xs := ss.map V.str) (fun i σ' H' => ∃ (ts : List Addr) (k b6 b8 b9 b10 b11 b12 : Option V), σ' = [some (.ref p), some (.int (most : Int)), some (.ref F), some (.int (1 + v0)), some (.ref U), k, b6, some (.int (1 + v3)), b8, b9, b10, b11, b12] ∧
      H' F = some (.lst (ts.map V.ref)) ∧ ts.length = i ∧ i ≤ m ∧ (∀ t ∈ ts, Row H' t AimR) ∧ H' L = some (.lst (ss.map V.str)) ∧ Pen H' p l (n + 2000 + 12 * (m + 9) + 800 * i) ∧ Keep p H H' ∧ H' U = some (.lst (hs.map V.ref)) ∧ (∀ t ∈ hs, HubAt H' t)) ⟨[], _, _, none, none, none, none, none, rfl, hF4, rfl, Nat.zero_le _, fun t ht => absurd ht List.not_mem_nil, hL, P4.le (by omega), K3.trans k4, hU4, hub4⟩ (fun i σ' H' _ ⟨_, _, _, _, _, _, _, _, _, _, _, _, _, h, _⟩ => SqL.of h) ?_ ?_⟩
  · rintro i x σ' H' hx ⟨ts, k, b6, b8, b9, b10, b11, b12, rfl, hFi, hl, him, hrow, hLi, Pi, ki, hUi, hubi⟩
    obtain ⟨kvi, hpi⟩ := Pi.dk
    have him : i < m := by
      have := (List.getElem?_eq_some_iff.mp hx).1
      rw [List.length_map] at this
      omega
    obtain ⟨z, hz, rfl⟩ : ∃ z, z ∈ ss ∧ V.str z = x := List.mem_map.mp (List.mem_of_getElem? hx)
    have zok := hok z hz
    -- date, spot = pick(hubs)
    refine ⟨_, rfl, _, rfl, p, l, U, _, _, rfl, Pi, by omega, SqL.of hUi, by rw [List.length_map, hs3]; decide, by rw [List.length_map, hs3]; decide, fun v1 H5 hv1 P5 k5 => ?_⟩
    obtain ⟨t0, ht0, rfl⟩ := List.mem_map.mp hv1
    obtain ⟨D, S, e0, D0, D1, S0, S1⟩ := (hubi t0 ht0).keep k5 hpi
    refine ⟨t0, _, rfl, SqT.of e0, rfl, _, _, rfl, _, _, rfl, rfl, ?_⟩
    -- some
    refine ⟨_, rfl, p, l, 17, _, rfl, P5, by omega, by decide, by decide, fun a1 H6 c1 d1 P6 k6 => ?_⟩
    refine ⟨_, rfl, _, rfl, p, l, 6, _, rfl, P6, by omega, by omega, by omega, fun a2 H7 c2 d2 P7 k7 => ?_⟩
    refine ⟨_, _, rfl, rfl, _, _, rfl, rfl, .inl (by omega), _, rfl, p, l, 9, _, rfl, P7, by omega, by omega, by omega, fun a3 H8 c3 d3 P8 k8 => ?_⟩
    refine ⟨(by show 3 ≤ sizeLine; decide), fun W hW => ?_⟩
    -- pace
    refine ⟨_, rfl, _, rfl, p, l, W, [a1, (1 + v3) * (1 + a2), a3], _, rfl, P8.new hW, by omega, SqL.of upd_same, by show 1 ≤ 3; decide, by show 3 ≤ 1000000; decide, fun b1 H9 hb1 P9 k9 => ?_⟩
    have lb := mul_bd (a := 1 + v3) (b := 1 + a2) (A := 10 ^ 9) (B := 6) (by omega) (by omega) (by omega) (by omega) (by decide)
    have lb1 := mul_pos1 (a := 1 + v3) (b := 1 + a2) (by omega) (by omega)
    have b1b : 0 ≤ b1 ∧ b1 < 10 ^ 17 := by
      simp only [List.mem_cons, List.not_mem_nil, or_false] at hb1
      rcases hb1 with rfl | rfl | rfl <;> omega
    refine ⟨_, _, rfl, rfl, ?_⟩
    refine ⟨_, rfl, _, rfl, (by show 2 ≤ sizeLine; decide), fun t2 h2 => ?_⟩
    refine ⟨p, l, t2, [1, -1], _, rfl, P9.new h2, by omega, SqL.of upd_same, by decide, by decide, fun v2 H10 hv2 P10 k10 => ?_⟩
    have v2b : v2 = 1 ∨ v2 = -1 := by simpa only [List.mem_cons, List.not_mem_nil, or_false] using hv2
    refine ⟨_, _, rfl, rfl, .inr (by omega), ?_⟩
    have pb : -(10 ^ 17) ≤ (1 + b1) * v2 ∧ (1 + b1) * v2 ≤ 10 ^ 17 ∧ (1 + b1) * v2 ≠ 0 := by rcases v2b with rfl | rfl <;> omega
    -- steps
    refine ⟨_, rfl, _, rfl, p, l, 4, _, rfl, P10, by omega, by omega, by omega, fun a4 H11 c4 d4 P11 k11 => ?_⟩
    refine ⟨_, rfl, p, l, 11, _, rfl, P11, by omega, by decide, by decide, fun a5 H12 c5 d5 P12 k12 => ?_⟩
    refine ⟨_, rfl, p, l, 11, _, rfl, P12, by omega, by decide, by decide, fun a6 H13 c6 d6 P13 k13 => ?_⟩
    refine ⟨(by show 3 ≤ sizeLine; decide), fun t3 h3 => ?_⟩
    refine ⟨p, l, t3, [a4, a5, a6], _, rfl, P13.new h3, by omega, SqL.of upd_same, by show 1 ≤ 3; decide, by show 3 ≤ 1000000; decide, fun st H14 hst P14 k14 => ?_⟩
    have stb : 0 ≤ st ∧ st < 10 ^ 11 := by
      simp only [List.mem_cons, List.not_mem_nil, or_false] at hst
      rcases hst with rfl | rfl | rfl <;> omega
    -- date
    refine ⟨_, rfl, _, rfl, _, rfl, p, l, 4, _, rfl, P14, by omega, by omega, by omega, fun a7 H15 c7 d7 P15 k15 => ?_⟩
    refine ⟨(by show 3 ≤ sizeLine; decide), fun t4 h4 => ?_⟩
    refine ⟨p, l, t4, [0, 0, a7], _, rfl, P15.new h4, by omega, SqL.of upd_same, by show 1 ≤ 3; decide, by show 3 ≤ 1000000; decide, fun dt H16 hdt P16 k16 => ?_⟩
    have dtb : 0 ≤ dt ∧ dt ≤ 3 := by
      simp only [List.mem_cons, List.not_mem_nil, or_false] at hdt
      omega
    refine ⟨_, _, rfl, rfl, _, rfl, _, _, rfl, rfl, ?_⟩
    have kk : Keep p H' H16 := (((((((((((k5.trans k6).trans k7).trans k8).new hW).trans k9).new h2).trans k10).trans k11).trans k12).trans k13 |>.new h3).trans k14 |>.trans k15 |>.new h4).trans k16
    have hF16 := kk _ _ hFi nF
    have mb := mul_bd (a := st) (b := (1 + b1) * v2) (A := 10 ^ 11) (B := 10 ^ 17) (by omega) (by omega) pb.1 pb.2.1 (by decide)
    -- append
    refine ⟨_, rfl, .inl ⟨rfl, _, SqL.of hF16⟩, ?_⟩
    refine ⟨_, rfl, _, rfl, _, rfl, _, rfl, _, rfl, _, _, rfl, rfl, .inl (by omega), _, _, rfl, rfl, _, rfl, (by show 4 ≤ sizeLine; decide), fun t5 h5 => ?_⟩
    obtain ⟨od, hod⟩ : ∃ o : HO, o = .tup [.str z, .int (D + dt - st), .int (S - st * ((1 + b1) * v2)), .int ((1 + b1) * v2)] := ⟨_, rfl⟩
    rw [← hod]
    have hF17 := same_new h5 od _ _ hF16
    refine ⟨F, _, _, rfl, rfl, hF17, by rw [List.length_map]; exact small1000 (by omega), ?_⟩
    have k17 := kk.new (o := od) h5
    have nt5 : t5 ≠ F := (ne_of_none hF16 h5).symm
    have row5 : Row (upd H16 t5 od) t5 AimR := ⟨z, D + dt - st, S - st * ((1 + b1) * v2), (1 + b1) * v2, by rw [upd_same, hod], zok, by unfold AimR; refine ⟨by omega, by omega, by omega, by omega, pb⟩⟩
    have hL17 := k17 _ _ hLi nL
    have hU17 := k17 _ _ hUi nU
    have hub17 : ∀ t ∈ hs, HubAt (upd H16 t5 od) t := fun t ht => (hubi t ht).keep k17 hpi
    have rows17 : ∀ t ∈ ts ++ [t5], Row (upd H16 t5 od) t AimR := mem_snoc (fun t ht => (hrow t ht).keep k17 hpi) row5
    have P17 := P16.new (o := od) h5
    generalize upd H16 t5 od = H17 at hF17 k17 row5 hL17 rows17 P17 hU17 hub17 ⊢
    have hF18 : (upd H17 F (.lst (ts.map V.ref ++ [.ref t5]))) F = some (.lst ((ts ++ [t5]).map V.ref)) := by rw [upd_same, List.map_append]; rfl
    have P18 := P17.upd (o := .lst (ts.map V.ref ++ [.ref t5])) nF nFl
    have k18 := (ki.trans k17).at_new (o := .lst (ts.map V.ref ++ [.ref t5])) hF
    have rows18 : ∀ t ∈ ts ++ [t5], Row (upd H17 F (.lst (ts.map V.ref ++ [.ref t5]))) t AimR := fun t ht => (rows17 t ht).updL hF17
    have hL18 : (upd H17 F (.lst (ts.map V.ref ++ [.ref t5]))) L = some (.lst (ss.map V.str)) := by rw [upd_ne nLF]; exact hL17
    have hU18 : (upd H17 F (.lst (ts.map V.ref ++ [.ref t5]))) U = some (.lst (hs.map V.ref)) := by rw [upd_ne nUF]; exact hU17
    have hub18 : ∀ t ∈ hs, HubAt (upd H17 F (.lst (ts.map V.ref ++ [.ref t5]))) t := fun t ht => (hub17 t ht).updL hF17
    generalize upd H17 F (.lst (ts.map V.ref ++ [.ref t5])) = H18 at hF18 P18 k18 rows18 hL18 hU18 hub18 ⊢
    have lts : (ts ++ [t5]).length = i + 1 := by rw [List.length_append, hl]; rfl
    generalize ts ++ [t5] = us at hF18 rows18 lts
    obtain ⟨kv18, hp18⟩ := P18.dk
    refine ⟨_, rfl, F, _, rfl, .inl (SqL.of hF18), _, _, rfl, rfl, _, rfl, ?_⟩
    refine ite2 (fun c1 => ?_) (fun _ => iteF ⟨us, _, _, _, _, _, _, _, rfl, hF18, lts, by omega, rows18, hL18, P18.le (by omega), k18, hU18, hub18⟩)
    have c1 : (1 : Int) < ((us.map V.ref).length : Nat) := of_decide_eq_true c1
    refine ⟨_, rfl, p, l, 7, _, rfl, P18, by omega, by omega, by omega, fun v7 H19 a7 b7 P19 k19 => ?_⟩
    have hF19 := k19 _ _ hF18 nF
    have hL19 := k19 _ _ hL18 nL
    have hU19 := k19 _ _ hU18 nU
    have hub19 : ∀ t ∈ hs, HubAt H19 t := fun t ht => (hub18 t ht).keep k19 hp18
    have rows19 : ∀ t ∈ us, Row H19 t AimR := fun t ht => (rows18 t ht).keep k19 hp18
    obtain ⟨kv19, hp19⟩ := P19.dk
    refine ⟨rfl, _, rfl, ?_⟩
    refine ite2 (fun _ => ?_) (fun _ => ⟨us, _, _, _, _, _, _, _, rfl, hF19, lts, by omega, rows19, hL19, P19.le (by omega), k18.trans k19, hU19, hub19⟩)
    refine ⟨_, rfl, (by show 1 ≤ sizeLine; decide), fun t6 h6 => ?_⟩
    have hF20 := same_new h6 (.tup [.str z]) _ _ hF19
    refine ⟨_, rfl, _, rfl, _, rfl, _, rfl, F, _, rfl, SqL.of hF20, fun u hu => ?_⟩
    refine ⟨p, l, u, _, _, rfl, (P19.new h6).new hu, by omega, SqL.of upd_same, by rw [cut_last (by omega)]; omega, by rw [cut_last (by omega), List.length_map]; omega, fun v8 H21 hv8 P21 k21 => ?_⟩
    obtain ⟨t0, ht0, rfl⟩ := List.mem_map.mp (cut_mem hv8)
    have k20 : Keep p H19 H21 := ((Keep.refl.new h6).new hu).trans k21
    obtain ⟨nm0, d0, p0, s0, e0, ok0, R0⟩ := (rows19 t0 ht0).keep k20 hp19
    refine ⟨_, rfl, t0, _, rfl, SqT.of e0, fun z => absurd z.1 (by show ¬ (1 = 0); decide), fun y1 hy1 => ?_⟩
    have nt6 : t6 ≠ p := P19.ne h6
    have ht6 := same_new hy1 (.tup (cutV [.str nm0, .int d0, .int p0, .int s0] (some 1) none)) _ _ (k21 _ _ (same_new hu (.lst (cutV (us.map V.ref) none (some (-1)))) _ _ upd_same) nt6)
    refine ⟨t6, y1, [.str z], [.int d0, .int p0, .int s0], rfl, rfl, SqT.of ht6, SqT.of upd_same, (fun e => by cases e), (by show 4 ≤ sizeLine; decide), (fun e => by cases e), fun _ y hy => ?_⟩
    have k22 := (k20.new hy1).new (o := .tup ([.str z] ++ [.int d0, .int p0, .int s0])) hy
    have hF22 := k22 _ _ hF19 nF
    have lus : (us.map V.ref).length = i + 1 := by rw [List.length_map, lts]
    refine ⟨_, rfl, _, rfl, F, _, _, i, rfl, rfl, hF22, by rw [ix_last (by omega), lus]; rfl, ?_⟩
    refine ⟨us.set i y, _, _, _, _, _, _, _, rfl, by rw [upd_same, List.map_set], by rw [List.length_set, lts], by omega, fun t ht => ?_, by rw [upd_ne nLF]; exact k22 _ _ hL19 nL, (((P21.new hy1).new hy).upd nF nFl).le (by omega), ((k18.trans k19).trans k22).at_new hF, by rw [upd_ne nUF]; exact k22 _ _ hU19 nU, fun t ht => ((hub19 t ht).keep k22 hp19).updL hF22⟩
    rcases mem_set_or ht with rfl | ht
    · exact Row.updL ⟨z, d0, p0, s0, upd_same, zok, R0⟩ hF22
    · exact ((rows19 t ht).keep k22 hp19).updL hF22
  · rintro σ' H' ⟨ts, k, b6, b8, b9, b10, b11, b12, rfl, hFi, hl, him, hrow, hLi, Pi, ki, _, _⟩
    rw [List.length_map, hss] at hl
    refine ⟨_, rfl, ?_⟩
    exact q F ts H' hFi (by omega) (by omega) hrow hF (Pi.le (by omega)) ki
end
end Ur
/-! K7: lined, painters. -/
namespace Ur
open PySem PySem.Spec PyProof.Rows L2
section
variable {P : Program} {w : World} {K : PySem.W.Frag} {mg : Str → Option Value} {base : Heap}
set_option maxHeartbeats 40000000 in
theorem ok_lined (D : Dfn K mg "_law_lined" s__law_lined P__law_lined) (B : Blt mg) (CD : Cal P w K mg base 12 "_law_draw" P__law_draw spDr) (CI : Cal P w K mg base 13 "_law_pick" P__law_pick (spPickI K)) (CA : Cal P w K mg base 13 "_law_around" P__law_around spAround)
    (CG : Cal P w K mg base 14 "_law_great" P__law_great spGreat) (CN : Cal P w K mg base 14 "_law_names" P__law_names spNames) : Cal P w K mg base 15 "_law_lined" P__law_lined (spRows LineR) := by
  refine D.cal sc__law_lined (fun vs H Q E h => ?_) fun f cdv A outer s H vs Q E hr h => ?_
  · obtain ⟨p, l, most, n, rfl, _⟩ := h
    rfl
  obtain ⟨p, l, most, n, rfl, Pn, hn, m1, m2, q⟩ := h
  obtain ⟨kvs, hp⟩ := Pn.dk
  have pw12 : CPow 10 12 := ⟨by decide, by decide, by decide⟩
  have e12 : (10 : Int) ^ (12 : Int).toNat = 10 ^ 12 := rfl
  refine ⟨_, (pss_cons (ps_par (i := 2) (j := 3) rfl sc__law_lined.nd rfl rfl (by decide) rfl rfl (pa_cons (pe_lst pa_nil) (pa_cons (pe_op op_add pe_int (pe_cal CD (hr.mono (by decide)) (pa_cons (pv 0) (pa_cons (pv 1) pa_nil)))) pa_nil)) (by rfl)) (pss_cons (ps_par (i := 4) (j := 5) rfl sc__law_lined.nd rfl rfl (by decide) rfl rfl (pa_cons (pe_op op_add pe_int (pe_cal CG (hr.mono (by decide)) (pa_cons (pv 0) (pa_cons pe_int pa_nil)))) (pa_cons (pe_op op_mul (pe_cal CG (hr.mono (by decide)) (pa_cons (pv 0) (pa_cons pe_int pa_nil))) (pe_cal CI (hr.mono (by decide)) (pa_cons (pv 0) (pa_cons (pe_lst (pa_cons pe_int (pa_cons (pe_un un_neg pe_int) pa_nil))) pa_nil)))) pa_nil)) (by rfl)) (pss_cons (ps_for PassesOwn.never rfl (pi_list (pe_cal CN (hr.mono (by decide)) (pa_cons (pv 0) (pa_cons (pv 3) pa_nil)))) (pg_name (i := 6) sc__law_lined.nd rfl (Or.inl rfl)) (pss_cons (ps_set (i := 7) sc__law_lined.nd rfl (Or.inl rfl) (pe_op op_mul (pe_op op_mul (pv 4) (pe_op op_add pe_int (pe_cal CD (hr.mono (by decide)) (pa_cons (pv 0) (pa_cons pe_int pa_nil))))) (pe_cal CI (hr.mono (by decide)) (pa_cons (pv 0) (pa_cons (pe_lst (pa_cons pe_int (pa_cons pe_int (pa_cons (pe_un un_neg pe_int) pa_nil)))) pa_nil))))) (pss_cons (ps_set (i := 8) sc__law_lined.nd rfl (Or.inl rfl) (pe_op op_add (pv 5) (pe_cal CD (hr.mono (by decide)) (pa_cons (pv 0) (pa_cons (pe_callB (call_min2 rfl) rfl B.min_ (by decide +kernel) (pa_cons (pv 4) (pa_cons pe_int pa_nil))) pa_nil))))) (pss_cons (ps_set (i := 8) sc__law_lined.nd rfl (Or.inl rfl) (pe_op op_add (pv 8) (pe_op op_mul (pv 4) (pe_cal CA (hr.mono (by decide)) (pa_cons (pv 0) (pa_cons (pe_cal CI (hr.mono (by decide)) (pa_cons (pv 0) (pa_cons (pe_lst (pa_cons pe_int (pa_cons pe_int (pa_cons (pe_op op_pow pe_int pe_int) pa_nil)))) pa_nil))) pa_nil)))))) (pss_cons (ps_set (i := 9) sc__law_lined.nd rfl (Or.inl rfl) (pe_cal CI (hr.mono (by decide)) (pa_cons (pv 0) (pa_cons (pe_lst (pa_cons pe_int (pa_cons (pe_cal CD (hr.mono (by decide)) (pa_cons (pv 0) (pa_cons pe_int pa_nil))) (pa_cons (pe_cal CG (hr.mono (by decide)) (pa_cons (pv 0) (pa_cons pe_int pa_nil))) pa_nil)))) pa_nil)))) (pss_one (ps_expr (pe_bm PySem.F.plainAttrs_list PySem.F.slot_list_append PySem.F.type_list_append mt_append (pv 2) (pa_cons (pe_tup (pa_cons (pv 6) (pa_cons (pv 9) (pa_cons (pv 8) (pa_cons (pv 7) pa_nil))))) pa_nil))))))))) (pss_one (ps_ret (pv 2)))))), ?_⟩
  refine ⟨(by show 0 ≤ sizeLine; decide), fun F hF => ?_⟩
  have nF := Pn.ne hF
  have nFl := Pn.nl hF
  refine ⟨_, rfl, _, rfl, p, l, most, n, rfl, Pn.new hF, by omega, by omega, by omega, fun v0 H1 a0 b0 P1 k1 => ?_⟩
  have hF1 : H1 F = some (.lst []) := k1 _ _ upd_same nF
  have K1 : Keep p H H1 := (Keep.refl.new hF).trans k1
  refine ⟨_, _, rfl, rfl, _, _, rfl, ?_⟩
  -- lot, base
  refine ⟨_, rfl, p, l, 16, _, rfl, P1, by omega, by decide, by decide, fun v1 H2 a1 b1 P2 k2 => ?_⟩
  refine ⟨_, _, rfl, rfl, _, rfl, p, l, 29, _, rfl, P2, by omega, by decide, by decide, fun v2 H3 a2 b2 P3 k3 => ?_⟩
  refine ⟨_, rfl, _, rfl, (by show 2 ≤ sizeLine; decide), fun t1 h1 => ?_⟩
  refine ⟨p, l, t1, [1, -1], _, rfl, P3.new h1, by omega, SqL.of upd_same, by decide, by decide, fun v3 H4 hv3 P4 k4 => ?_⟩
  have v3b : v3 = 1 ∨ v3 = -1 := by simpa only [List.mem_cons, List.not_mem_nil, or_false] using hv3
  refine ⟨_, _, rfl, rfl, .inr (by omega), _, _, rfl, ?_⟩
  have bb : -(10 ^ 29) ≤ v2 * v3 ∧ v2 * v3 ≤ 10 ^ 29 := by rcases v3b with rfl | rfl <;> omega
  have K4 := K1.trans (((k2.trans k3).new h1).trans k4)
  have hF4 := (((k2.trans k3).new h1).trans k4) _ _ hF1 nF
  -- for label in names(pen, many)
  obtain ⟨m, hm⟩ : ∃ m : Nat, 1 + v0 = (m : Int) := ⟨(1 + v0).toNat, by omega⟩
  refine ⟨_, rfl, _, rfl, p, l, m, _, by show [V.ref p, V.int (1 + v0)] = [V.ref p, V.int (m : Int)]; rw [hm], P4, by omega, by omega, fun L ss H5 hL hss hok hL0 P5 k5 => ?_⟩
  have hF5 := k5 _ _ hF4 nF
  have nLF : L ≠ F := fun e => by rw [e, hF4] at hL0; cases hL0
  have nL : L ≠ p := P4.ne hL0
  refine ⟨L, rfl, ⟨_, SqL.of hL⟩, for_list (K := K) (a := L) (xs := ss.map V.str) (fun i σ' H' => ∃ (ts : List Addr) (b6 b7 b8 b9 : Option V), σ' = [some (.ref p), some (.int (most : Int)), some (.ref F), some (.int (1 + v0)), some (.int (1 + v1)), some (.int (v2 * v3)), b6, b7, b8, b9] ∧
      H' F = some (.lst (ts.map V.ref)) ∧ ts.length = i ∧ i ≤ m ∧ (∀ t ∈ ts, Row H' t LineR) ∧ H' L = some (.lst (ss.map V.str)) ∧ Pen H' p l (n + 2000 + 12 * (m + 9) + 800 * i) ∧ Keep p H H') ⟨[], none, none, none, none, rfl, hF5, rfl, Nat.zero_le _, fun t ht => absurd ht List.not_mem_nil, hL, P5.le (by omega), K4.trans k5⟩ (fun i σ' H' _ ⟨_, _, _, _, _, _, _, _, _, _, h, _⟩ => SqL.of h) ?_ ?_⟩
  · rintro i x σ' H' hx ⟨ts, b6, b7, b8, b9, rfl, hFi, hl, him, hrow, hLi, Pi, ki⟩
    obtain ⟨kvi, hpi⟩ := Pi.dk
    have him : i < m := by
      have := (List.getElem?_eq_some_iff.mp hx).1
      rw [List.length_map] at this
      omega
    obtain ⟨z, hz, rfl⟩ : ∃ z, z ∈ ss ∧ V.str z = x := List.mem_map.mp (List.mem_of_getElem? hx)
    have zok := hok z hz
    -- pace
    refine ⟨_, rfl, _, rfl, p, l, 12, _, rfl, Pi, by omega, by omega, by omega, fun c1 H6 x1 y1 P6 k6 => ?_⟩
    refine ⟨_, _, rfl, rfl, _, _, rfl, rfl, .inl (by omega), _, rfl, _, rfl, (by show 3 ≤ sizeLine; decide), fun t2 h2 => ?_⟩
    refine ⟨p, l, t2, [1, 1, -1], _, rfl, P6.new h2, by omega, SqL.of upd_same, by decide, by decide, fun c2 H7 hc2 P7 k7 => ?_⟩
    have c2b : c2 = 1 ∨ c2 = -1 := by
      simp only [List.mem_cons, List.not_mem_nil, or_false] at hc2
      omega
    have lb := mul_bd (a := 1 + v1) (b := 1 + c1) (A := 10 ^ 16) (B := 12) (by omega) (by omega) (by omega) (by omega) (by decide)
    have lb1 := mul_pos1 (a := 1 + v1) (b := 1 + c1) (by omega) (by omega)
    refine ⟨_, _, rfl, rfl, .inr (by omega), ?_⟩
    have pb : -(12 * 10 ^ 16) ≤ (1 + v1) * (1 + c1) * c2 ∧ (1 + v1) * (1 + c1) * c2 ≤ 12 * 10 ^ 16 ∧ (1 + v1) * (1 + c1) * c2 ≠ 0 := by rcases c2b with rfl | rfl <;> omega
    -- spot
    refine ⟨_, rfl, _, rfl, _, rfl, _, _, rfl, p, l, _, _, rfl, P7, by omega, by split <;> omega, by split <;> omega, fun c3 H8 x3 y3 P8 k8 => ?_⟩
    have y3 : c3 < 2 := by split at y3 <;> omega
    refine ⟨_, _, rfl, rfl, ?_⟩
    refine ⟨_, rfl, _, rfl, _, rfl, _, rfl, _, _, rfl, rfl, pw12, (by show 3 ≤ sizeLine; decide), fun t3 h3 => ?_⟩
    refine ⟨p, l, t3, [3, 40, 10 ^ (12 : Int).toNat], _, rfl, P8.new h3, by omega, SqL.of upd_same, by decide, by decide, fun c4 H9 hc4 P9 k9 => ?_⟩
    have c4b : 0 ≤ c4 ∧ c4 ≤ 10 ^ 12 := by
      simp only [List.mem_cons, List.not_mem_nil, or_false] at hc4
      omega
    refine ⟨p, l, c4, _, rfl, P9, by omega, by omega, by omega, fun c5 H10 x5 y5 P10 k10 => ?_⟩
    have ab := mul_bd (a := 1 + v1) (b := c5) (A := 10 ^ 16) (B := 10 ^ 12) (by omega) (by omega) (by omega) (by omega) (by decide)
    refine ⟨_, _, rfl, rfl, .inl (by omega), _, _, rfl, rfl, ?_⟩
    -- date
    refine ⟨_, rfl, _, rfl, p, l, 30, _, rfl, P10, by omega, by omega, by omega, fun c6 H11 x6 y6 P11 k11 => ?_⟩
    refine ⟨_, rfl, p, l, 29, _, rfl, P11, by omega, by decide, by decide, fun c7 H12 x7 y7 P12 k12 => ?_⟩
    refine ⟨(by show 3 ≤ sizeLine; decide), fun t4 h4 => ?_⟩
    refine ⟨p, l, t4, [0, c6, c7], _, rfl, P12.new h4, by omega, SqL.of upd_same, by show 1 ≤ 3; decide, by show 3 ≤ 1000000; decide, fun dt H13 hdt P13 k13 => ?_⟩
    have dtb : 0 ≤ dt ∧ dt ≤ 10 ^ 29 := by
      simp only [List.mem_cons, List.not_mem_nil, or_false] at hdt
      rcases hdt with rfl | rfl | rfl <;> omega
    have kk : Keep p H' H13 := ((((k6.new h2).trans k7).trans k8 |>.new h3).trans k9 |>.trans k10 |>.trans k11 |>.trans k12 |>.new h4).trans k13
    have hF13 := kk _ _ hFi nF
    refine ⟨_, rfl, .inl ⟨rfl, _, SqL.of hF13⟩, ?_⟩
    refine ⟨_, rfl, _, rfl, _, rfl, _, rfl, (by show 4 ≤ sizeLine; decide), fun t5 h5 => ?_⟩
    obtain ⟨od, hod⟩ : ∃ o : HO, o = .tup [.str z, .int dt, .int (v2 * v3 + c3 + (1 + v1) * c5), .int ((1 + v1) * (1 + c1) * c2)] := ⟨_, rfl⟩
    rw [← hod]
    have hF14 := same_new h5 od _ _ hF13
    refine ⟨F, _, _, rfl, rfl, hF14, by rw [List.length_map]; exact small1000 (by omega), ?_⟩
    have k14 := kk.new (o := od) h5
    have row5 : Row (upd H13 t5 od) t5 LineR := ⟨z, dt, v2 * v3 + c3 + (1 + v1) * c5, (1 + v1) * (1 + c1) * c2, by rw [upd_same, hod], zok, by unfold LineR; refine ⟨by omega, by omega, by omega, by omega, pb⟩⟩
    have rows14 : ∀ t ∈ ts ++ [t5], Row (upd H13 t5 od) t LineR := mem_snoc (fun t ht => (hrow t ht).keep k14 hpi) row5
    refine ⟨ts ++ [t5], _, _, _, _, rfl, by rw [upd_same, List.map_append]; rfl, by rw [List.length_append, hl]; rfl, by omega, fun t ht => (rows14 t ht).updL hF14, by rw [upd_ne nLF]; exact k14 _ _ hLi nL, ((P13.new h5).le (by omega)).upd nF nFl, (ki.trans k14).at_new hF⟩
  · rintro σ' H' ⟨ts, b6, b7, b8, b9, rfl, hFi, hl, him, hrow, hLi, Pi, ki⟩
    rw [List.length_map, hss] at hl
    refine ⟨_, rfl, ?_⟩
    exact q F ts H' hFi (by omega) (by omega) hrow hF (Pi.le (by omega)) ki
end
/-! ### painters: none, or rows of one of the three kinds -/
theorem small_any {d p s : Int} (h : SmallR d p s) : AnyR d p s := by unfold SmallR at h; unfold AnyR; omega
theorem aim_any {d p s : Int} (h : AimR d p s) : AnyR d p s := by unfold AimR at h; unfold AnyR; omega
theorem line_any {d p s : Int} (h : LineR d p s) : AnyR d p s := by unfold LineR at h; unfold AnyR; omega
theorem Row.imp {H : Hp} {t : Addr} {R S : Int → Int → Int → Prop} (r : Row H t R) (h : ∀ d p s, R d p s → S d p s) : Row H t S := let ⟨nm, d, p, s, e, z, y⟩ := r; ⟨nm, d, p, s, e, z, h _ _ _ y⟩
abbrev s__law_painters : Stmt := (topS 29)
abbrev N_sc__law_painters : List Str := ["_law_pen_here", "_law_way"]
abbrev P__law_painters : List Str := ["_law_pen_here"]
theorem sc__law_painters : FnScope N_sc__law_painters P__law_painters (defScope s__law_painters) := ⟨rfl, rfl, rfl, by decide +kernel, rfl, by decide +kernel, by decide +kernel⟩
def spPainters : Sp := fun vs H Q _ => ∃ (p l : Addr) (n : Nat), vs = [.ref p] ∧ Pen H p l n ∧ n + 100012 ≤ 2 ^ 39 ∧
  ∀ (F : Addr) (ts : List Addr) (H' : Hp), H' F = some (.lst (ts.map V.ref)) → ts.length ≤ 6 → (∀ t ∈ ts, Row H' t AnyR) → H F = none → Pen H' p l (n + 100012) → Keep p H H' → Q (.ref F) H'
section
variable {P : Program} {w : World} {K : PySem.W.Frag} {mg : Str → Option Value} {base : Heap}
theorem ok_painters (D : Dfn K mg "_law_painters" s__law_painters P__law_painters) (CD : Cal P w K mg base 12 "_law_draw" P__law_draw spDr) (CS : Cal P w K mg base 15 "_law_small" P__law_small (spRows SmallR)) (CM : Cal P w K mg base 15 "_law_aimed" P__law_aimed (spRows AimR)) (CL : Cal P w K mg base 15 "_law_lined" P__law_lined (spRows LineR)) :
    Cal P w K mg base 16 "_law_painters" P__law_painters spPainters := by
  refine D.cal sc__law_painters (fun vs H Q E h => ?_) fun f cdv A outer s H vs Q E hr h => ?_
  · obtain ⟨p, l, n, rfl, _⟩ := h
    rfl
  obtain ⟨p, l, n, rfl, Pn, hn, q⟩ := h
  refine ⟨_, (pss_cons (ps_set (i := 1) sc__law_painters.nd rfl (Or.inl rfl) (pe_cal CD (hr.mono (by decide)) (pa_cons (pv 0) (pa_cons pe_int pa_nil)))) (pss_cons (ps_if (pt_cmpR op_eq (pv 1) pe_int (nomark _)) (pss_one (ps_ret (pe_lst pa_nil))) pss_nil) (pss_cons (ps_if (pt_cmpR op_lt (pv 1) pe_int (nomark _)) (pss_one (ps_ret (pe_cal CS (hr.mono (by decide)) (pa_cons (pv 0) (pa_cons pe_int pa_nil))))) pss_nil) (pss_one (ps_ret (pe_ifExp (pt_cmpR op_lt (pv 1) pe_int (nomark _)) (pe_cal CM (hr.mono (by decide)) (pa_cons (pv 0) (pa_cons pe_int pa_nil))) (pe_cal CL (hr.mono (by decide)) (pa_cons (pv 0) (pa_cons pe_int pa_nil))))))))), ?_⟩
  refine ⟨_, rfl, p, l, 10, n, rfl, Pn, by omega, by omega, by omega, fun v H1 a1 b1 P1 k1 => ?_⟩
  refine ⟨_, rfl, rfl, _, rfl, ?_⟩
  refine ite2 (fun _ => ?_) (fun _ => ?_)
  · refine ⟨(by show 0 ≤ sizeLine; decide), fun F hF => ?_⟩
    exact q F [] _ upd_same (by decide) (fun t ht => absurd ht List.not_mem_nil) (k1.none_of hF (P1.ne hF)) ((P1.new hF).le (by omega)) (k1.new hF)
  refine ⟨_, rfl, _, _, rfl, rfl, _, rfl, ?_⟩
  refine ite2 (fun _ => ?_) (fun _ => ?_)
  · exact ⟨_, rfl, p, l, 6, _, rfl, P1, by omega, by decide, by decide, fun F ts H2 hF l1 l2 rows hF0 P2 k2 => q F ts H2 hF l2 (fun t ht => (rows t ht).imp fun _ _ _ => small_any) (k1.none_of hF0 (P1.ne hF0)) (P2.le (by omega)) (k1.trans k2)⟩
  refine ⟨_, rfl, _, _, rfl, rfl, _, rfl, ?_⟩
  refine ite2 (fun _ => ?_) (fun _ => ?_)
  · exact ⟨_, rfl, p, l, 6, _, rfl, P1, by omega, by decide, by decide, fun F ts H2 hF l1 l2 rows hF0 P2 k2 => q F ts H2 hF l2 (fun t ht => (rows t ht).imp fun _ _ _ => aim_any) (k1.none_of hF0 (P1.ne hF0)) (P2.le (by omega)) (k1.trans k2)⟩
  · exact ⟨_, rfl, p, l, 6, _, rfl, P1, by omega, by decide, by decide, fun F ts H2 hF l1 l2 rows hF0 P2 k2 => q F ts H2 hF l2 (fun t ht => (rows t ht).imp fun _ _ _ => line_any) (k1.none_of hF0 (P1.ne hF0)) (P2.le (by omega)) (k1.trans k2)⟩
end
end Ur
/-! KX1: the painter with values of any kind: is_integer, is_between, is_name; the errors; Painter(..). -/
namespace Ur
open PySem PySem.Spec PyProof.Rows L2
/-- a whole number within bounds, no truth value -/
def isI : PyData → Bool
  | .int _ => true
  | _ => false
def betw (d : PyData) (a b : Int) : Bool := match d with
  | .int i => decide (a ≤ i ∧ i ≤ b)
  | _ => false
theorem isI_eq (d : PyData) : isI d = (isIntD d && !isBoolD d) := by cases d <;> rfl
theorem Flat.toI {v : V} {i : Int} (f : Flat v (.int i)) : v = .int i := by cases f; rfl
theorem Flat.str_ {v : V} {z : Str} (f : Flat v (.str z)) : v = .str z := by cases f; rfl
theorem DqN.int {H : Hp} {np : Addr} {i : Int} : ∀ {n : Nat} {v : V}, DqN H np n v (.int i) → v = .int i
  | 0, _, h => Flat.toI h
  | n + 1, v, h => by
    rcases h with h | ⟨a, xs, ds, _, _, _, _, e⟩ | ⟨a, xs, ds, _, _, _, e⟩ | ⟨a, kvs, es, _, _, _, _, e⟩
    · exact h.toI
    · cases e
    · cases e
    · cases e
theorem DqN.str {H : Hp} {np : Addr} {z : Str} : ∀ {n : Nat} {v : V}, DqN H np n v (.str z) → v = .str z
  | 0, _, h => Flat.str_ h
  | n + 1, v, h => by
    rcases h with h | ⟨a, xs, ds, _, _, _, _, e⟩ | ⟨a, xs, ds, _, _, _, e⟩ | ⟨a, kvs, es, _, _, _, _, e⟩
    · exact h.str_
    · cases e
    · cases e
    · cases e
def spIsIntX : Sp := fun vs H Q _ => ∃ (v : V) (d : PyData), vs = [v] ∧ Any H v d ∧ Q (.bl (isI d)) H
def spBetweenX : Sp := fun vs H Q _ => ∃ (v : V) (d : PyData) (a b : Int), vs = [v, .int a, .int b] ∧ Any H v d ∧ Q (.bl (betw d a b)) H
section
variable {P : Program} {w : World} {K : PySem.W.Frag} {mg : Str → Option Value} {base : Heap}
theorem ok_is_integerX (D : Dfn K mg "is_integer" s_is_integer P_is_integer) (B : Blt mg) : Cal P w K mg base 1 "is_integer" P_is_integer spIsIntX := by
  refine D.cal sc_is_integer (fun vs H Q E h => ?_) fun f cdv A outer s H vs Q E hr h => ?_
  · obtain ⟨v, d, rfl, _⟩ := h
    rfl
  obtain ⟨v, d, rfl, hd, q⟩ := h
  refine ⟨_, (pss_one (ps_ret (pe_and (pe_callB (call_isQ kit_intD) rfl B.isinstance_ (by decide +kernel) (pa_cons (pv 0) (pa_cons (pe_bltn (v := .ty "int") rfl B.int_ (by decide +kernel) rfl) pa_nil))) (pe_one (pe_not (pe_callB (call_isQ kit_boolD) rfl B.isinstance_ (by decide +kernel) (pa_cons (pv 0) (pa_cons (pe_bltn (v := .ty "bool") rfl B.bool_ (by decide +kernel) rfl) pa_nil)))))))), ?_⟩
  rw [isI_eq] at q
  refine ⟨_, rfl, v, d, rfl, hd, isIntD d, rfl, ?_⟩
  cases e : isIntD d with
  | false =>
    rw [e] at q
    exact iteF q
  | true =>
    rw [e] at q
    exact iteT ⟨_, rfl, v, d, rfl, hd, isBoolD d, rfl, q⟩
theorem ok_is_betweenX (D : Dfn K mg "is_between" s_is_between P_is_between) (CI : Cal P w K mg base 1 "is_integer" P_is_integer spIsIntX) : Cal P w K mg base 2 "is_between" P_is_between spBetweenX := by
  refine D.cal sc_is_between (fun vs H Q E h => ?_) fun f cdv A outer s H vs Q E hr h => ?_
  · obtain ⟨v, d, a, b, rfl, _⟩ := h
    rfl
  obtain ⟨v, d, a, b, rfl, hd, q⟩ := h
  refine ⟨_, (pss_one (ps_ret (pe_and (pe_cal CI (hr.mono (by decide)) (pa_cons (pv 0) pa_nil)) (pe_one (pe_chain op_le op_le (pv 1) (pv 0) (pv 2)))))), ?_⟩
  refine ⟨_, rfl, v, d, rfl, hd, isI d, rfl, ?_⟩
  have no : isI d = false → betw d a b = false := by
    intro e
    cases d with
    | int i => cases e
    | _ => rfl
  cases e : isI d with
  | false =>
    rw [no e] at q
    exact iteF q
  | true =>
    cases d with
    | int i =>
      obtain ⟨np, n, hd⟩ := hd
      obtain rfl := hd.int
      refine iteT ⟨_, rfl, _, rfl, _, _, rfl, rfl, _, rfl, ?_⟩
      refine ite2 (fun c => ?_) (fun c => ?_)
      · have c := of_decide_eq_true c
        refine ⟨_, rfl, _, _, rfl, rfl, ?_⟩
        have e : betw (.int i) a b = decide (i ≤ b) := by simp [betw, c]
        rw [e] at q
        exact q
      · have c : ¬ a ≤ i := of_decide_eq_false (Bool.eq_false_iff.mpr c)
        have e : betw (.int i) a b = false := by simp [betw, c]
        rw [e] at q
        exact q
    | _ => cases e
end
/-! ### names -/
theorem uni_low : ∀ c : Nat, c < 128 → Unicode.isAlpha c = true → Unicode.isUpper c = false → 97 ≤ c ∧ c ≤ 122 := by
  intro c h
  have z : ∀ i : Fin 128, Unicode.isAlpha i.val = true → Unicode.isUpper i.val = false → 97 ≤ i.val ∧ i.val ≤ 122 := by decide +kernel
  exact z ⟨c, h⟩
def nameS (z : Str) : Bool := Txt.isascii z && (Txt.isalpha z && Txt.islower z)
theorem nameS_iff {z : Str} (h : z.length ≤ 8) : nameS z = true ↔ NameOk z := by
  constructor
  · intro e
    obtain ⟨e1, e⟩ := Bool.and_eq_true_iff.mp e
    obtain ⟨e2, e3⟩ := Bool.and_eq_true_iff.mp e
    have e1 : (z.cps.all fun c => decide (c < 128)) = true := e1
    have e2 : (decide (z.length > 0) && z.cps.all Unicode.isAlpha) = true := e2
    have e3 : (z.cps.any Unicode.isLower && !(z.cps.any fun c => Unicode.isUpper c || Unicode.isTitle c)) = true := e3
    obtain ⟨e2, e4⟩ := Bool.and_eq_true_iff.mp e2
    obtain ⟨_, e5⟩ := Bool.and_eq_true_iff.mp e3
    rw [← Array.all_toList, List.all_eq_true] at e1 e4
    rw [← Array.any_toList, Bool.not_eq_true', List.any_eq_false] at e5
    refine ⟨of_decide_eq_true e2, h, fun c hc => ?_⟩
    have u : Unicode.isUpper c = false := by
      have := e5 c hc
      cases q : Unicode.isUpper c with
      | false => rfl
      | true =>
        rw [q] at this
        exact absurd rfl this
    exact uni_low c (of_decide_eq_true (e1 c hc)) (e4 c hc) u
  · intro ok
    unfold nameS
    rw [name_ascii ok, name_alpha ok, name_lower ok]
    rfl
/-- whether a value is a name -/
def nameB : PyData → Bool
  | .str z => decide (z.length ≤ 8) && nameS z
  | _ => false
def spIsNameX : Sp := fun vs H Q _ => ∃ (v : V) (d : PyData), vs = [v] ∧ Any H v d ∧ (∀ z, d = .str z → z.length ≤ sizeLine) ∧ Q (.bl (nameB d)) H
section
variable {P : Program} {w : World} {K : PySem.W.Frag} {mg : Str → Option Value} {base : Heap}
theorem ok_is_nameX {f : Addr} {fd : FuncData} (F : Fun K "is_name" "Painter.is_name" s_Painter_is_name f fd) (B : Blt mg) : FnOk P w K mg base CX0 1 f fd P_Painter_is_name spIsNameX := by
  refine F.ok sc_Painter_is_name (fun vs H Q E h => ?_) (fun cdv A outer s H vs Q E hr h => ?_)
  · obtain ⟨v, d, rfl, _⟩ := h
    rfl
  obtain ⟨v, d, rfl, hd, hz, q⟩ := h
  refine ⟨_, (pss_cons (ps_if (PW.pt (pw_or (pt_not (pt_val (pe_callB (call_isQ kit_strD) rfl B.isinstance_ (by decide +kernel) (pa_cons (pv 0) (pa_cons (pe_bltn (v := .ty "str") rfl B.str_ (by decide +kernel) rfl) pa_nil))))) (pw_or1 (pt_cmpR op_gt (pe_callB call_len_str rfl B.len_ PySem.boot_len (pa_cons (pv 0) pa_nil)) pe_int (nomark _))))) (pss_one (ps_ret pe_bl)) pss_nil) (pss_one (ps_ret (pe_and (pe_m0 PySem.F.slot_str_isascii PySem.F.type_str_isascii mt_isascii (pv 0)) (pe_and (pe_m0 PySem.F.slot_str_isalpha PySem.F.type_str_isalpha mt_isalpha (pv 0)) (pe_one (pe_m0 PySem.F.slot_str_islower PySem.F.type_str_islower mt_islower (pv 0)))))))), ?_⟩
  refine ⟨_, rfl, v, d, rfl, hd, isStrD d, rfl, ?_⟩
  cases d with
  | str z =>
    obtain ⟨np, n, hd⟩ := hd
    obtain rfl := hd.str
    have hl : z.length ≤ sizeLine := hz z rfl
    refine iteF ?_
    refine ⟨_, rfl, _, rfl, hl, _, _, rfl, rfl, _, rfl, ?_⟩
    by_cases h8 : z.length ≤ 8
    · have c : decide ((8 : Int) < (z.length : Int)) = false := decide_eq_false (by omega)
      show (if decide ((8 : Int) < (z.length : Int)) = true then _ else _)
      rw [c]
      have e : nameB (.str z) = nameS z := by
        show (decide (z.length ≤ 8) && nameS z) = nameS z
        rw [decide_eq_true h8]; rfl
      rw [e] at q
      refine iteF ⟨_, rfl, ⟨_, rfl⟩, z, rfl, rfl, trivial, Txt.isascii z, rfl, ?_⟩
      unfold nameS at q
      cases e1 : Txt.isascii z with
      | false =>
        rw [e1] at q
        exact iteF q
      | true =>
        rw [e1] at q
        refine iteT ⟨_, rfl, ⟨_, rfl⟩, z, rfl, rfl, trivial, Txt.isalpha z, rfl, ?_⟩
        cases e2 : Txt.isalpha z with
        | false =>
          rw [e2] at q
          exact iteF q
        | true =>
          rw [e2] at q
          exact iteT ⟨_, rfl, ⟨_, rfl⟩, z, rfl, rfl, trivial, q⟩
    · have c : decide ((8 : Int) < (z.length : Int)) = true := decide_eq_true (by omega)
      show (if decide ((8 : Int) < (z.length : Int)) = true then _ else _)
      rw [c]
      have e : nameB (.str z) = false := by
        show (decide (z.length ≤ 8) && nameS z) = false
        rw [decide_eq_false h8]; rfl
      rw [e] at q
      exact iteT q
  | _ => exact iteT q
end
/-! ### the errors -/
abbrev s_InvalidPainter_init : Stmt := (inClass (topS 1) 0)
abbrev N_sc_InvalidPainter_init : List Str := ["self", "reason"]
abbrev P_InvalidPainter_init : List Str := ["self", "reason"]
theorem sc_InvalidPainter_init : FnScope N_sc_InvalidPainter_init P_InvalidPainter_init (defScope s_InvalidPainter_init) := ⟨rfl, rfl, rfl, by decide +kernel, rfl, by decide +kernel, by decide +kernel⟩
abbrev s_InvalidCount_init : Stmt := (inClass (topS 3) 0)
abbrev N_sc_InvalidCount_init : List Str := ["self", "value"]
abbrev P_InvalidCount_init : List Str := ["self", "value"]
theorem sc_InvalidCount_init : FnScope N_sc_InvalidCount_init P_InvalidCount_init (defScope s_InvalidCount_init) := ⟨rfl, rfl, rfl, by decide +kernel, rfl, by decide +kernel, by decide +kernel⟩
abbrev s_InvalidPost_init : Stmt := (inClass (topS 2) 0)
abbrev N_sc_InvalidPost_init : List Str := ["self", "value"]
abbrev P_InvalidPost_init : List Str := ["self", "value"]
theorem sc_InvalidPost_init : FnScope N_sc_InvalidPost_init P_InvalidPost_init (defScope s_InvalidPost_init) := ⟨rfl, rfl, rfl, by decide +kernel, rfl, by decide +kernel, by decide +kernel⟩
section
variable {P : Program} {w : World} {K : PySem.W.Frag} {mg : Str → Option Value} {base : Heap} {C f : Addr} {fd : FuncData}
theorem ok_errI (F : Fun K "__init__" "InvalidPainter.__init__" s_InvalidPainter_init f fd) (T : ErrK K C "reason") : FnOk P w K mg base (L2.CX P w) 1 f fd P_InvalidPainter_init (spXI C "reason") := by
  refine F.okX sc_InvalidPainter_init (fun vs H Q E h => ?_) (fun cdv A outer s H vs Q E hr h => ?_)
  · obtain ⟨a, v, rfl, _⟩ := h
    rfl
  obtain ⟨a, v, rfl, ha, q⟩ := h
  exact ⟨_, pss_one (ps_ost (pv 0) (pv 1)), _, rfl, _, rfl, a, C, rfl, T.o, T.no, .inl ⟨ha, fun dx n ne => q dx n ne⟩⟩
theorem ok_errC (F : Fun K "__init__" "InvalidCount.__init__" s_InvalidCount_init f fd) (T : ErrK K C "value") : FnOk P w K mg base (L2.CX P w) 1 f fd P_InvalidCount_init (spXI C "value") := by
  refine F.okX sc_InvalidCount_init (fun vs H Q E h => ?_) (fun cdv A outer s H vs Q E hr h => ?_)
  · obtain ⟨a, v, rfl, _⟩ := h
    rfl
  obtain ⟨a, v, rfl, ha, q⟩ := h
  exact ⟨_, pss_one (ps_ost (pv 0) (pv 1)), _, rfl, _, rfl, a, C, rfl, T.o, T.no, .inl ⟨ha, fun dx n ne => q dx n ne⟩⟩
theorem ok_errP (F : Fun K "__init__" "InvalidPost.__init__" s_InvalidPost_init f fd) (T : ErrK K C "value") : FnOk P w K mg base (L2.CX P w) 1 f fd P_InvalidPost_init (spXI C "value") := by
  refine F.okX sc_InvalidPost_init (fun vs H Q E h => ?_) (fun cdv A outer s H vs Q E hr h => ?_)
  · obtain ⟨a, v, rfl, _⟩ := h
    rfl
  obtain ⟨a, v, rfl, ha, q⟩ := h
  exact ⟨_, pss_one (ps_ost (pv 0) (pv 1)), _, rfl, _, rfl, a, C, rfl, T.o, T.no, .inl ⟨ha, fun dx n ne => q dx n ne⟩⟩
end
/-! ### Painter(..) with any values -/
def STEP_ : Int := 10 ^ 18
def isZ : PyData → Bool
  | .int i => decide (i = 0)
  | _ => false
/-- the reason of the first part that is not as it should be -/
def dueD (n d p s : PyData) : Option Str :=
  if nameB n = true then
    if betw d 0 (10 ^ 30) = true then
      if betw p (-(10 ^ 30)) (10 ^ 30) = true then
        if betw s (-(10 ^ 18)) (10 ^ 18) = true ∧ isZ s = false then none else some "stride"
      else some "post"
    else some "day"
  else some "name"
def ShortS (d : PyData) : Prop := ∀ z, d = .str z → z.length ≤ sizeLine
def spInitX (C CI : Addr) : Sp := fun vs H Q E => ∃ (x dx : Addr) (v1 v2 v3 v4 : V) (d1 d2 d3 d4 : PyData), vs = [.ref x, v1, v2, v3, v4] ∧ H x = some (.ins C dx []) ∧ Any H v1 d1 ∧ Any H v2 d2 ∧ Any H v3 d3 ∧ Any H v4 d4 ∧ ShortS d1 ∧
  match dueD d1 d2 d3 d4 with
  | none => ∀ H', (∀ b o, H b = some o → b ≠ x → H' b = some o) → Q .non H'
  | some r => Lets E CI "reason" (.str r) H
section
variable {P : Program} {w : World} {K : PySem.W.Frag} {mg : Str → Option Value} {base : Heap}
set_option maxHeartbeats 16000000 in
theorem ok_initX {C CI pN f fN : Addr} {fd fdN : FuncData} (F : Fun K "__init__" "Painter.__init__" s_Painter_init f fd) (T : PTxt K mg C) (smP : SMet K C (.type "type") "is_name" pN fN) (FN : FnOk P w K mg base CX0 1 fN fdN P_Painter_is_name spIsNameX) (bN : Binds K fdN P_Painter_is_name [])
    (CB : Cal P w K mg base 2 "is_between" P_is_between spBetweenX) (EI : ErrOk P w K mg base CI "InvalidPainter" "reason") : FnOk P w K mg base (L2.CX P w) 3 f fd P_Painter_init (spInitX C CI) := by
  refine F.okX sc_Painter_init (fun vs H Q E h => ?_) (fun cdv A outer s H vs Q E hr h => ?_)
  · obtain ⟨x, dx, v1, v2, v3, v4, d1, d2, d3, d4, rfl, _⟩ := h
    rfl
  obtain ⟨x, dx, v1, v2, v3, v4, d1, d2, d3, d4, rfl, hx, a1, a2, a3, a4, ss, q⟩ := h
  obtain ⟨uD, cD⟩ := T.cD
  obtain ⟨uP, cP⟩ := T.cP
  obtain ⟨uS, cS⟩ := T.cS
  unfold dueD at q
  refine ⟨_, (pss_cons (ps_if (pt_not (pt_val (pe_smeth (pe_glob (v := .ref C) rfl T.mgP rfl) T.rd smP FN bN (hr.mono (by decide)) pass0 (pa_cons (pv 1) pa_nil)))) (pss_one (ps_raise rfl (takes_of rfl rfl rfl rfl) (pmk_err EI (hr.mono (by decide)) (pa_cons pe_str pa_nil)))) pss_nil) (pss_cons (ps_if (pt_not (pt_val (pe_cal CB (hr.mono (by decide)) (pa_cons (pv 2) (pa_cons pe_int (pa_cons (ClX.pe_cval (pe_glob (v := .ref C) rfl T.mgP rfl)) pa_nil)))))) (pss_one (ps_raise rfl (takes_of rfl rfl rfl rfl) (pmk_err EI (hr.mono (by decide)) (pa_cons pe_str pa_nil)))) pss_nil) (pss_cons (ps_if (pt_not (pt_val (pe_cal CB (hr.mono (by decide)) (pa_cons (pv 3) (pa_cons (pe_un un_neg (ClX.pe_cval (pe_glob (v := .ref C) rfl T.mgP rfl))) (pa_cons (ClX.pe_cval (pe_glob (v := .ref C) rfl T.mgP rfl)) pa_nil)))))) (pss_one (ps_raise rfl (takes_of rfl rfl rfl rfl) (pmk_err EI (hr.mono (by decide)) (pa_cons pe_str pa_nil)))) pss_nil) (pss_cons (ps_if (PW.pt (pw_or (pt_not (pt_val (pe_cal CB (hr.mono (by decide)) (pa_cons (pv 4) (pa_cons (pe_un un_neg (ClX.pe_cval (pe_glob (v := .ref C) rfl T.mgP rfl))) (pa_cons (ClX.pe_cval (pe_glob (v := .ref C) rfl T.mgP rfl)) pa_nil)))))) (pw_or1 (pt_cmpR op_eq (pv 4) pe_int (nomark _))))) (pss_one (ps_raise rfl (takes_of rfl rfl rfl rfl) (pmk_err EI (hr.mono (by decide)) (pa_cons pe_str pa_nil)))) pss_nil) (pss_cons (ps_fld (pv 0) (pv 1) rfl) (pss_cons (ps_fld (pv 0) (pv 2) rfl) (pss_cons (ps_fld (pv 0) (pv 3) rfl) (pss_one (ps_fld (pv 0) (pv 4) rfl))))))))), ?_⟩
  refine ⟨rfl, _, rfl, v1, d1, rfl, a1, ss, nameB d1, rfl, ?_⟩
  by_cases c1 : nameB d1 = true
  case neg =>
    rw [if_neg c1] at q
    rw [Bool.not_eq_true] at c1
    rw [c1]
    exact iteT (err_made q)
  rw [if_pos c1] at q
  rw [c1]
  refine iteF ?_
  refine ⟨_, rfl, C, _, _, _, rfl, T.rd, cD, v2, d2, _, _, rfl, a2, betw d2 0 (10 ^ 30), rfl, ?_⟩
  by_cases c2 : betw d2 0 (10 ^ 30) = true
  case neg =>
    rw [if_neg c2] at q
    rw [Bool.not_eq_true] at c2
    rw [c2]
    exact iteT (err_made q)
  rw [if_pos c2] at q
  rw [c2]
  refine iteF ?_
  refine ⟨_, rfl, C, _, _, _, rfl, T.rd, cP, _, rfl, C, _, _, _, rfl, T.rd, cP, v3, d3, _, _, rfl, a3, betw d3 (-(10 ^ 30)) (10 ^ 30), rfl, ?_⟩
  by_cases c3 : betw d3 (-(10 ^ 30)) (10 ^ 30) = true
  case neg =>
    rw [if_neg c3] at q
    rw [Bool.not_eq_true] at c3
    rw [c3]
    exact iteT (err_made q)
  rw [if_pos c3] at q
  rw [c3]
  refine iteF ?_
  refine ⟨_, rfl, C, _, _, _, rfl, T.rd, cS, _, rfl, C, _, _, _, rfl, T.rd, cS, v4, d4, _, _, rfl, a4, betw d4 (-(10 ^ 18)) (10 ^ 18), rfl, ?_⟩
  by_cases c4 : betw d4 (-(10 ^ 18)) (10 ^ 18) = true
  case neg =>
    rw [if_neg (fun z => c4 z.1)] at q
    rw [Bool.not_eq_true] at c4
    rw [c4]
    exact iteT (err_made q)
  rw [c4]
  refine iteF ?_
  obtain ⟨st, rfl⟩ : ∃ st, d4 = .int st := by
    cases d4 with
    | int i => exact ⟨i, rfl⟩
    | _ => cases c4
  obtain ⟨np, n, a4⟩ := a4
  obtain rfl := a4.int
  refine ⟨_, rfl, rfl, _, rfl, ?_⟩
  by_cases c5 : st = 0
  case pos =>
    subst c5
    rw [if_neg (fun z => by have := z.2; cases this)] at q
    exact iteT (err_made q)
  rw [if_pos ⟨c4, decide_eq_false c5⟩] at q
  have c : decide (V.int st = V.int 0) = false := decide_eq_false fun e => c5 (V.int.inj e)
  show (if decide (V.int st = V.int 0) = true then _ else _)
  rw [c]
  refine iteF ?_
  refine ⟨_, rfl, _, rfl, x, C, dx, [], rfl, hx, T.cl, T.nN, (by show 0 < 1000; decide), ?_⟩
  refine ⟨_, rfl, _, rfl, x, C, dx, _, rfl, upd_same, T.cl, T.nD, (by show 1 < 1000; decide), ?_⟩
  refine ⟨_, rfl, _, rfl, x, C, dx, _, rfl, upd_same, T.cl, T.nP, (by show 2 < 1000; decide), ?_⟩
  refine ⟨_, rfl, _, rfl, x, C, dx, _, rfl, upd_same, T.cl, T.nS, (by show 3 < 1000; decide), ?_⟩
  refine q _ fun b o e hb => ?_
  rw [upd_ne hb, upd_ne hb, upd_ne hb, upd_ne hb]
  exact e
end
end Ur
/-! KX2: check_count, check_post, post_after, count_at, day_at with values of any kind. -/
namespace Ur
open PySem PySem.Spec PyProof.Rows L2
/-- divmod by any divisor but 0: a new tuple -/
theorem call_divmodQ {X : Cx} : CallR X (.builtin "divmod") (fun xs H Q => ∃ i j, xs = [.int i, .int j] ∧ CDivX i j ∧ ∀ p, H p = none → Q (.ref p) (upd H p (.tup [.int (i.fdiv j), .int (i.fmod j)]))) := by
  intro pins s σ H xs us Q I r h
  obtain ⟨i, j, rfl, hc, q⟩ := h
  obtain ⟨u, w', rfl, ⟨t, rfl⟩, ⟨t', rfl⟩⟩ := vals2 r
  refine PyProof.Rows.divmod_int hc.1 ?_ (.inl (PyProof.noPylong_of_log2 hc.2))
  have free : H s.heap.objs.size = none := I.hok.fresh (Nat.le_refl _)
  refine ⟨.ref s.heap.objs.size, upd H s.heap.objs.size (.tup [.int (i.fdiv j), .int (i.fmod j)]), I.laid (fun b o e => Heap.get?_push_of_some _ e) (Nat.le_refl _) ⟨(by show 2 ≤ sizeLine; decide), [.int (i.fdiv j) s.toks, .int (i.fmod j) (s.toks + 1)], .cons ⟨_, rfl⟩ (.cons ⟨_, rfl⟩ .nil), ⟨_, Heap.get?_push_size s.heap rfl, rfl, 0, rfl⟩⟩, rfl, q _ free⟩
abbrev s_check_count : Stmt := (topS 11)
abbrev N_sc_check_count : List Str := ["value"]
abbrev P_check_count : List Str := ["value"]
theorem sc_check_count : FnScope N_sc_check_count P_check_count (defScope s_check_count) := ⟨rfl, rfl, rfl, by decide +kernel, rfl, by decide +kernel, by decide +kernel⟩
abbrev s_check_post : Stmt := (topS 10)
abbrev N_sc_check_post : List Str := ["value"]
abbrev P_check_post : List Str := ["value"]
theorem sc_check_post : FnScope N_sc_check_post P_check_post (defScope s_check_post) := ⟨rfl, rfl, rfl, by decide +kernel, rfl, by decide +kernel, by decide +kernel⟩
def spCountX (CC : Addr) : Sp := fun vs H Q E => ∃ (v : V) (d : PyData), vs = [v] ∧ Any H v d ∧ if betw d 0 (10 ^ 80) = true then Q .non H else Lets E CC "value" v H
def spCkPostX (CP : Addr) : Sp := fun vs H Q E => ∃ (v : V) (d : PyData), vs = [v] ∧ Any H v d ∧ if betw d (-(10 ^ 80)) (10 ^ 80) = true then Q .non H else Lets E CP "value" v H
section
variable {P : Program} {w : World} {K : PySem.W.Frag} {mg : Str → Option Value} {base : Heap} {CC CP : Addr}
theorem ok_check_countX (D : Dfn K mg "check_count" s_check_count P_check_count) {uM : Value} (hM : mg "MAX_ARGUMENT" = some uM) (rM : L2.RelV (.int (10 ^ 80)) uM) (CB : Cal P w K mg base 2 "is_between" P_is_between spBetweenX)
    (EC : ErrOk P w K mg base CC "InvalidCount" "value") : CalX P w K mg base 3 "check_count" P_check_count (spCountX CC) := by
  refine D.calX sc_check_count (fun vs H Q E h => ?_) fun f cdv A outer s H vs Q E hr h => ?_
  · obtain ⟨c, d, rfl, _⟩ := h
    rfl
  obtain ⟨v, d, rfl, hd, q⟩ := h
  refine ⟨_, (pss_one (ps_if (pt_not (pt_val (pe_cal CB (hr.mono (by decide)) (pa_cons (pv 0) (pa_cons pe_int (pa_cons (pe_glob (v := .int (10 ^ 80)) rfl hM rM) pa_nil)))))) (pss_one (ps_raise rfl (takes_of rfl rfl rfl rfl) (pmk_err EC (hr.mono (by decide)) (pa_cons (pv 0) pa_nil)))) pss_nil)), ?_⟩
  refine ⟨_, rfl, v, d, _, _, rfl, hd, betw d 0 (10 ^ 80), rfl, ?_⟩
  cases e : betw d 0 (10 ^ 80) with
  | true =>
    rw [if_pos e] at q
    exact iteF q
  | false =>
    rw [if_neg (by rw [e]; decide)] at q
    exact iteT ⟨_, rfl, err_made q⟩
theorem ok_check_postX (D : Dfn K mg "check_post" s_check_post P_check_post) {uM : Value} (hM : mg "MAX_ARGUMENT" = some uM) (rM : L2.RelV (.int (10 ^ 80)) uM) (CB : Cal P w K mg base 2 "is_between" P_is_between spBetweenX)
    (EP_ : ErrOk P w K mg base CP "InvalidPost" "value") : CalX P w K mg base 3 "check_post" P_check_post (spCkPostX CP) := by
  refine D.calX sc_check_post (fun vs H Q E h => ?_) fun f cdv A outer s H vs Q E hr h => ?_
  · obtain ⟨c, d, rfl, _⟩ := h
    rfl
  obtain ⟨v, d, rfl, hd, q⟩ := h
  refine ⟨_, (pss_one (ps_if (pt_not (pt_val (pe_cal CB (hr.mono (by decide)) (pa_cons (pv 0) (pa_cons (pe_un un_neg (pe_glob (v := .int (10 ^ 80)) rfl hM rM)) (pa_cons (pe_glob (v := .int (10 ^ 80)) rfl hM rM) pa_nil)))))) (pss_one (ps_raise rfl (takes_of rfl rfl rfl rfl) (pmk_err EP_ (hr.mono (by decide)) (pa_cons (pv 0) pa_nil)))) pss_nil)), ?_⟩
  refine ⟨_, rfl, _, rfl, v, d, _, _, rfl, hd, betw d (-(10 ^ 80)) (10 ^ 80), rfl, ?_⟩
  cases e : betw d (-(10 ^ 80)) (10 ^ 80) with
  | true =>
    rw [if_pos e] at q
    exact iteF q
  | false =>
    rw [if_neg (by rw [e]; decide)] at q
    exact iteT ⟨_, rfl, err_made q⟩
end
/-! ### the methods: what they return is not told -/
abbrev s_Painter_post_after : Stmt := (inClass (topS 14) 9)
abbrev N_sc_Painter_post_after : List Str := ["self", "count"]
abbrev P_Painter_post_after : List Str := ["self", "count"]
theorem sc_Painter_post_after : FnScope N_sc_Painter_post_after P_Painter_post_after (defScope s_Painter_post_after) := ⟨rfl, rfl, rfl, by decide +kernel, rfl, by decide +kernel, by decide +kernel⟩
abbrev s_Painter_count_at : Stmt := (inClass (topS 14) 10)
abbrev N_sc_Painter_count_at : List Str := ["self", "post", "count", "rest"]
abbrev P_Painter_count_at : List Str := ["self", "post"]
theorem sc_Painter_count_at : FnScope N_sc_Painter_count_at P_Painter_count_at (defScope s_Painter_count_at) := ⟨rfl, rfl, rfl, by decide +kernel, rfl, by decide +kernel, by decide +kernel⟩
abbrev s_Painter_day_at : Stmt := (inClass (topS 14) 11)
abbrev N_sc_Painter_day_at : List Str := ["self", "post", "count"]
abbrev P_Painter_day_at : List Str := ["self", "post"]
theorem sc_Painter_day_at : FnScope N_sc_Painter_day_at P_Painter_day_at (defScope s_Painter_day_at) := ⟨rfl, rfl, rfl, by decide +kernel, rfl, by decide +kernel, by decide +kernel⟩
/-- a method that asks for a value with bounds: some answer, or the error -/
def spAsk (C CE : Addr) (lo hi : Int) : Sp := fun vs H Q E => ∃ (a : Addr) (nm : Str) (d p s : Int) (v : V) (dd : PyData), vs = [.ref a, v] ∧ PnAt C H a nm d p s ∧ s ≠ 0 ∧ -(10 ^ 18) ≤ s ∧ s ≤ 10 ^ 18 ∧ Any H v dd ∧
  if betw dd lo hi = true then ∀ u H', (u = .non ∨ ∃ i, u = .int i) → Same H H' → Q u H' else Lets E CE "value" v H
theorem betw_int {d : PyData} {a b : Int} (h : betw d a b = true) : ∃ i, d = .int i ∧ a ≤ i ∧ i ≤ b := by
  cases d with
  | int i => exact ⟨i, rfl, of_decide_eq_true h⟩
  | _ => cases h
section
variable {P : Program} {w : World} {K : PySem.W.Frag} {mg : Str → Option Value} {base : Heap} {C CC CP f : Addr} {fd : FuncData}
theorem ok_post_afterX (F : Fun K "post_after" "Painter.post_after" s_Painter_post_after f fd) (T : PTxt K mg C) (CC_ : CalX P w K mg base 3 "check_count" P_check_count (spCountX CC)) : FnOk P w K mg base (L2.CX P w) 4 f fd P_Painter_post_after (spAsk C CC 0 (10 ^ 80)) := by
  have CC := CC_
  refine F.okX sc_Painter_post_after (fun vs H Q E h => ?_) (fun cdv A outer s H vs Q E hr h => ?_)
  · obtain ⟨a, nm, d, p, st, v, dd, rfl, _⟩ := h
    rfl
  obtain ⟨a, nm, d, p, st, v, dd, rfl, ⟨dx, ha⟩, sn, s0, s1, hv, q⟩ := h
  refine ⟨_, (pss_cons (ps_expr (pe_calX CC (hr.mono (by decide)) (passD rfl rfl rfl rfl) (pa_cons (pv 1) pa_nil))) (pss_one (ps_ret (pe_op op_add (pe_fld (pv 0) rfl) (pe_op op_mulW (pv 1) (pe_fld (pv 0) rfl)))))), ?_⟩
  refine ⟨_, rfl, v, dd, rfl, hv, ?_⟩
  by_cases e : betw dd 0 (10 ^ 80) = true
  · rw [if_pos e] at q
    rw [if_pos e]
    obtain ⟨c, rfl, c0, c1⟩ := betw_int e
    obtain ⟨np, n, hv⟩ := hv
    obtain rfl := hv.int
    refine ⟨_, rfl, a, C, dx, _, _, rfl, ha, T.cl, T.nP, pfs_post _ _ _ _, _, rfl, _, rfl, a, C, dx, _, _, rfl, ha, T.cl, T.nS, pfs_stride _ _ _ _, _, _, rfl, rfl, wide_mul (a := 300) (b := 64) (by omega) (by omega) (by decide) (by decide) (by decide), _, _, rfl, rfl, q _ _ (.inr ⟨_, rfl⟩) (Same.refl _)⟩
  · rw [if_neg e] at q
    rw [if_neg e]
    exact q
theorem ok_count_atX (F : Fun K "count_at" "Painter.count_at" s_Painter_count_at f fd) (B : Blt mg) (T : PTxt K mg C) (CKP : CalX P w K mg base 3 "check_post" P_check_post (spCkPostX CP)) : FnOk P w K mg base (L2.CX P w) 4 f fd P_Painter_count_at (spAsk C CP (-(10 ^ 80)) (10 ^ 80)) := by
  refine F.okX sc_Painter_count_at (fun vs H Q E h => ?_) (fun cdv A outer s H vs Q E hr h => ?_)
  · obtain ⟨a, nm, d, p, st, v, dd, rfl, _⟩ := h
    rfl
  obtain ⟨a, nm, d, p, st, v, dd, rfl, ⟨dx, ha⟩, sn, s0, s1, hv, k⟩ := h
  have dv : ∀ c, CDivX c st := fun c => ⟨sn, Nat.lt_of_lt_of_le (PySem.Flt.log2_lt_of (k := 64) (by decide) (by omega)) (by decide)⟩
  refine ⟨_, (pss_cons (ps_expr (pe_calX CKP (hr.mono (by decide)) (passD rfl rfl rfl rfl) (pa_cons (pv 1) pa_nil))) (pss_cons (ps_asg (pe_callB call_divmodQ rfl B.divmod_ (by decide +kernel) (pa_cons (pe_op op_sub (pv 1) (pe_fld (pv 0) rfl)) (pa_cons (pe_fld (pv 0) rfl) pa_nil))) (pg_tup rfl (pgs_cons (pg_name (i := 2) sc_Painter_count_at.nd rfl (Or.inl rfl)) (pgs_cons (pg_name (i := 3) sc_Painter_count_at.nd rfl (Or.inl rfl)) pgs_nil)))) (pss_one (ps_ret (pe_ifExp (PW.pt (pw_and (pt_cmpR op_eq (pv 3) pe_int (nomark _)) (pw_and1 (pt_cmpR op_ge (pv 2) pe_int (nomark _))))) (pv 2) pe_non))))), ?_⟩
  refine ⟨_, rfl, v, dd, rfl, hv, ?_⟩
  by_cases e : betw dd (-(10 ^ 80)) (10 ^ 80) = true
  case neg =>
    rw [if_neg e] at k
    rw [if_neg e]
    exact k
  rw [if_pos e] at k
  rw [if_pos e]
  obtain ⟨c, rfl, c0, c1⟩ := betw_int e
  obtain ⟨np, n, hv⟩ := hv
  obtain rfl := hv.int
  refine ⟨_, rfl, _, rfl, a, C, dx, _, _, rfl, ha, T.cl, T.nP, pfs_post _ _ _ _, _, _, rfl, rfl, _, rfl, a, C, dx, _, _, rfl, ha, T.cl, T.nS, pfs_stride _ _ _ _, _, _, rfl, dv _, fun t ht => ?_⟩
  refine ⟨t, _, rfl, SqT.of upd_same, rfl, _, _, rfl, _, _, rfl, rfl, ?_⟩
  have sm := same_new ht (.tup [.int ((c - p).fdiv st), .int ((c - p).fmod st)])
  refine ⟨_, rfl, rfl, _, rfl, ?_⟩
  by_cases e : (c - p).fmod st = 0
  · refine iteDT (by rw [e]) ?_
    refine ⟨_, rfl, _, _, rfl, rfl, _, rfl, ?_⟩
    by_cases e2 : 0 ≤ (c - p).fdiv st
    · exact iteDT e2 ⟨_, rfl, k _ _ (.inr ⟨_, rfl⟩) sm⟩
    · exact iteDF e2 (k _ _ (.inl rfl) sm)
  · refine iteDF (fun z => e (V.int.inj z)) ?_
    exact iteF (k _ _ (.inl rfl) sm)
theorem ok_day_atX (F : Fun K "day_at" "Painter.day_at" s_Painter_day_at f fd) (T : PTxt K mg C) (hCA : MethX P w K mg base C "count_at" 4 P_Painter_count_at (spAsk C CP (-(10 ^ 80)) (10 ^ 80))) : FnOk P w K mg base (L2.CX P w) 5 f fd P_Painter_day_at (spAsk C CP (-(10 ^ 80)) (10 ^ 80)) := by
  refine F.okX sc_Painter_day_at (fun vs H Q E h => ?_) (fun cdv A outer s H vs Q E hr h => ?_)
  · obtain ⟨a, nm, d, p, st, v, dd, rfl, _⟩ := h
    rfl
  obtain ⟨a, nm, d, p, st, v, dd, rfl, ⟨dx, ha⟩, sn, s0, s1, hv, k⟩ := h
  refine ⟨_, (pss_cons (ps_set (i := 2) sc_Painter_day_at.nd rfl (Or.inl rfl) (pe_meX (pv 0) T.cl hCA (hr.mono (by decide)) (passD rfl rfl rfl rfl) (pa_cons (pv 1) pa_nil))) (pss_one (ps_ret (pe_ifExp (pt_cmpR op_isN (pv 2) pe_non (nomark _)) pe_non (pe_op op_add (pe_fld (pv 0) rfl) (pv 2)))))), ?_⟩
  refine ⟨_, rfl, a, dx, _, rfl, ha, rfl, _, rfl, a, nm, d, p, st, v, dd, rfl, ⟨dx, ha⟩, sn, s0, s1, hv, ?_⟩
  by_cases e : betw dd (-(10 ^ 80)) (10 ^ 80) = true
  case neg =>
    rw [if_neg e] at k
    rw [if_neg e]
    exact k
  rw [if_pos e] at k
  rw [if_pos e]
  rintro u H' hu sm
  rcases hu with rfl | ⟨i, rfl⟩
  · exact ⟨_, rfl, rfl, _, rfl, iteT (k _ _ (.inl rfl) sm)⟩
  · exact ⟨_, rfl, rfl, _, rfl, iteF ⟨_, rfl, a, C, dx, _, _, rfl, sm _ _ ha, T.cl, T.nD, pfs_day _ _ _ _, _, rfl, _, _, rfl, rfl, k _ _ (.inr ⟨_, rfl⟩) sm⟩⟩
end
end Ur
/-! KX3: the law's own tests of values: _law_is_int, _law_is_name, _law_due; values of any kind, drawn: _law_odd. -/
namespace Ur
open PySem PySem.Spec PyProof.Rows L2
abbrev s__law_is_int : Stmt := (topS 27)
abbrev N_sc__law_is_int : List Str := ["_law_thing", "_law_low", "_law_high"]
abbrev P__law_is_int : List Str := ["_law_thing", "_law_low", "_law_high"]
theorem sc__law_is_int : FnScope N_sc__law_is_int P__law_is_int (defScope s__law_is_int) := ⟨rfl, rfl, rfl, by decide +kernel, rfl, by decide +kernel, by decide +kernel⟩
def spLIsInt : Sp := fun vs H Q _ => ∃ (v : V) (d : PyData) (a b : Int), vs = [v, .int a, .int b] ∧ Any H v d ∧ Q (.bl (betw d a b)) H
section
variable {P : Program} {w : World} {K : PySem.W.Frag} {mg : Str → Option Value} {base : Heap}
theorem ok_lisint (D : Dfn K mg "_law_is_int" s__law_is_int P__law_is_int) (B : Blt mg) : Cal P w K mg base 1 "_law_is_int" P__law_is_int spLIsInt := by
  refine D.cal sc__law_is_int (fun vs H Q E h => ?_) fun f cdv A outer s H vs Q E hr h => ?_
  · obtain ⟨v, d, a, b, rfl, _⟩ := h
    rfl
  obtain ⟨v, d, a, b, rfl, hd, q⟩ := h
  refine ⟨_, (pss_one (ps_ret (pe_and (pe_callB (call_isQ kit_intD) rfl B.isinstance_ (by decide +kernel) (pa_cons (pv 0) (pa_cons (pe_bltn (v := .ty "int") rfl B.int_ (by decide +kernel) rfl) pa_nil))) (pe_and (pe_not (pe_callB (call_isQ kit_boolD) rfl B.isinstance_ (by decide +kernel) (pa_cons (pv 0) (pa_cons (pe_bltn (v := .ty "bool") rfl B.bool_ (by decide +kernel) rfl) pa_nil)))) (pe_one (pe_chain op_le op_le (pv 1) (pv 0) (pv 2))))))), ?_⟩
  refine ⟨_, rfl, v, d, rfl, hd, isIntD d, rfl, ?_⟩
  cases e1 : isIntD d with
  | false =>
    have e : betw d a b = false := by cases d <;> first | rfl | cases e1
    rw [e] at q
    exact iteF q
  | true =>
    refine iteT ⟨_, rfl, v, d, rfl, hd, isBoolD d, rfl, !isBoolD d, rfl, ?_⟩
    cases e2 : isBoolD d with
    | true =>
      have e : betw d a b = false := by cases d <;> first | rfl | cases e2
      rw [e] at q
      exact iteF q
    | false =>
      obtain ⟨i, rfl⟩ : ∃ i, d = .int i := by
        cases d with
        | int i => exact ⟨i, rfl⟩
        | bool b => cases e2
        | _ => cases e1
      obtain ⟨np, n, hd⟩ := hd
      obtain rfl := hd.int
      refine iteT ⟨_, rfl, _, rfl, _, _, rfl, rfl, _, rfl, ?_⟩
      refine ite2 (fun c => ?_) (fun c => ?_)
      · have c := of_decide_eq_true c
        refine ⟨_, rfl, _, _, rfl, rfl, ?_⟩
        have e : betw (.int i) a b = decide (i ≤ b) := by simp [betw, c]
        rw [e] at q
        exact q
      · have c : ¬ a ≤ i := of_decide_eq_false (Bool.eq_false_iff.mpr c)
        have e : betw (.int i) a b = false := by simp [betw, c]
        rw [e] at q
        exact q
end
/-! ### names -/
abbrev s__law_is_name : Stmt := (topS 28)
abbrev N_sc__law_is_name : List Str := ["_law_thing", "_law_letter"]
abbrev P__law_is_name : List Str := ["_law_thing"]
theorem sc__law_is_name : FnScope N_sc__law_is_name P__law_is_name (defScope s__law_is_name) := ⟨rfl, rfl, rfl, by decide +kernel, rfl, by decide +kernel, by decide +kernel⟩
theorem lett_iff (c : Nat) : c ∈ lett.cps.toList ↔ 97 ≤ c ∧ c ≤ 122 := by
  constructor
  · exact fun h => lett_ok c h
  · rintro ⟨h1, h2⟩
    have z : ∀ i : Fin 26, 97 + i.val ∈ lett.cps.toList := by decide +kernel
    have := z ⟨c - 97, by omega⟩
    have e : 97 + (c - 97) = c := by omega
    simpa only [e] using this
/-- the signs that are no small letters, of the first i -/
def badS (z : Str) (i : Nat) : List Str := ((z.cps.toList.take i).filter fun c => !decide (c ∈ lett.cps.toList)).map fun c => ⟨#[c]⟩
theorem badS_snoc {z : Str} {i : Nat} {c : Nat} (h : z.cps[i]? = some c) : badS z (i + 1) = badS z i ++ if (!decide (c ∈ lett.cps.toList)) = true then [⟨#[c]⟩] else [] := by
  have e : z.cps.toList.take (i + 1) = z.cps.toList.take i ++ [c] := by
    rw [List.take_add_one, Array.getElem?_toList, h]
    rfl
  unfold badS
  rw [e, List.filter_append, List.map_append]
  congr 1
  by_cases q : (!decide (c ∈ lett.cps.toList)) = true
  · rw [if_pos q]
    have e2 : List.filter (fun c => !decide (c ∈ lett.cps.toList)) [c] = [c] := by simp only [List.filter_cons, q, if_true, List.filter_nil]
    rw [e2]; rfl
  · rw [if_neg q]
    have e2 : List.filter (fun c => !decide (c ∈ lett.cps.toList)) [c] = [] := by
      rw [Bool.not_eq_true] at q
      simp only [List.filter_cons, q, if_false, List.filter_nil]
      rfl
    rw [e2]; rfl
theorem badS_len (z : Str) (i : Nat) : (badS z i).length ≤ z.length := by
  unfold badS
  rw [List.length_map]
  refine Nat.le_trans (List.length_filter_le _ _) (Nat.le_trans (List.length_take_le' _ _) ?_)
  rw [Array.length_toList]
  exact Nat.le_refl _
theorem badS_nil (z : Str) : badS z z.cps.size = [] ↔ LetOk z := by
  unfold badS LetOk
  rw [List.map_eq_nil_iff, List.filter_eq_nil_iff, List.take_of_length_le (by rw [Array.length_toList]; exact Nat.le_refl _)]
  constructor
  · intro h c hc
    have := h c hc
    rw [← lett_iff]
    cases q : decide (c ∈ lett.cps.toList) with
    | true => exact of_decide_eq_true q
    | false =>
      rw [q] at this
      exact absurd rfl this
  · intro h c hc
    rw [decide_eq_true ((lett_iff c).mpr (h c hc))]
    decide
theorem dpStrs {K : PySem.W.Frag} {H : Hp} : ∀ (ss : List Str), DpAll K H (ss.map V.str) (ss.map PyData.str)
  | [] => .nil
  | s :: r => .cons (.str s) (dpStrs r)
theorem shaped_strs {ss : List Str} (h : ∀ z ∈ ss, PyData.strOk z = true) : SeqAt.shaped (.list (ss.map PyData.str)) = true := by
  have d : ∀ ss : List Str, PyData.depthAll (ss.map PyData.str) = 0 := by
    intro ss
    induction ss with
    | nil => rfl
    | cons a r ih =>
      show max 0 (PyData.depthAll (r.map PyData.str)) = 0
      rw [ih]; rfl
  show (PyData.canLayAll0 (ss.map PyData.str) && decide (PyData.depthAll (ss.map PyData.str) + 1 ≤ 64)) = true
  have c : ∀ ss : List Str, (∀ z ∈ ss, PyData.strOk z = true) → PyData.canLayAll0 (ss.map PyData.str) = true := by
    intro ss h
    induction ss with
    | nil => rfl
    | cons a r ih =>
      show (PyData.strOk a && PyData.canLayAll0 (r.map PyData.str)) = true
      rw [h a List.mem_cons_self, ih fun z hz => h z (List.mem_cons_of_mem _ hz)]
      rfl
  rw [d, c ss h]
  rfl
theorem badS_ok {z : Str} (h : PyData.strOk z = true) (i : Nat) : ∀ s ∈ badS z i, PyData.strOk s = true := by
  intro s hs
  obtain ⟨c, hc, rfl⟩ := List.mem_map.mp hs
  have hc := List.mem_of_mem_take (List.mem_filter.mp hc).1
  have h : z.cps.all (fun c => decide (c < 0x110000)) = true := h
  rw [← Array.all_toList, List.all_eq_true] at h
  have := h c hc
  show ((#[c] : Array Nat).all fun c => decide (c < 0x110000)) = true
  simpa using this
/-- a text of a length that can be had, of signs that there are -/
def StrS (d : PyData) : Prop := ∀ z, d = .str z → z.length ≤ 1000 ∧ PyData.strOk z = true
theorem StrS.short {d : PyData} (h : StrS d) : ShortS d := fun z e => Nat.le_trans (h z e).1 (by decide)
/-- a drawn value of any kind: what is known of it -/
structure OddD (d : PyData) : Prop where
  sx : ShX d 400 2
  st : StrS d
  so : PyData.strOk d.shown = true
def strB : PyData → Bool
  | .str z => decide (z.length ≤ 1000) && PyData.strOk z
  | _ => true
theorem strB_ok {d : PyData} (h : strB d = true) : StrS d := by
  rintro z rfl
  obtain ⟨a, b⟩ := Bool.and_eq_true_iff.mp (show (decide (z.length ≤ 1000) && PyData.strOk z) = true from h)
  exact ⟨of_decide_eq_true a, b⟩
theorem OddD.closed {d : PyData} (h : (d.showable && (decide (d.depth ≤ 2) && (d.leavesShort 1930 && (decide (d.weight ≤ 400) && (strB d && PyData.strOk d.shown))))) = true) : OddD d := by
  obtain ⟨h1, h⟩ := Bool.and_eq_true_iff.mp h
  obtain ⟨h2, h⟩ := Bool.and_eq_true_iff.mp h
  obtain ⟨h3, h⟩ := Bool.and_eq_true_iff.mp h
  obtain ⟨h4, h⟩ := Bool.and_eq_true_iff.mp h
  obtain ⟨h5, h6⟩ := Bool.and_eq_true_iff.mp h
  exact ⟨⟨h1, of_decide_eq_true h2, h3, of_decide_eq_true h4⟩, strB_ok h5, h6⟩
theorem int_strOk (i : Int) : PyData.strOk ((toString i : String) : Str) = true := by
  show Array.all _ _ = true
  rw [← Array.all_toList]
  refine List.all_eq_true.mpr fun c hc => decide_eq_true ?_
  by_cases h : c ≠ 45 ∧ (c < 48 ∨ 57 < c)
  · exact absurd hc (PyProof.Rows.int_text_free' c h i)
  · omega
theorem OddD.int {i : Int} (h : i.natAbs < 2 ^ 390) : OddD (.int i) := by
  refine ⟨(Shw.intb (b := 390) h (by decide) (by decide)).x.mono (by decide) (by decide), (fun z e => by cases e), ?_⟩
  have e : PyData.shown (.int i) = Str.ofString (toString i) := by simp only [PyData.shown]
  rw [e]
  exact int_strOk i
theorem sameAt1 {H H' : Hp} {a : Addr} {o : HO} (k : Same H H') (h : H a = none) : Same H (upd H' a o) := fun b u e => by rw [upd_ne (ne_of_none e h)]; exact k b u e
theorem sameAt2 {H H' : Hp} {a : Addr} {o : HO} (k : Same H H') (h : H' a = none) : Same H (upd H' a o) := k.trans (same_new h o)
def spLIsName : Sp := fun vs H Q _ => ∃ (v : V) (d : PyData), vs = [v] ∧ Any H v d ∧ StrS d ∧ ∀ H', Same H H' → Q (.bl (nameB d)) H'
section
variable {P : Program} {w : World} {K : PySem.W.Frag} {mg : Str → Option Value} {base : Heap}
theorem ok_lisname (D : Dfn K mg "_law_is_name" s__law_is_name P__law_is_name) (B : Blt mg) : Cal P w K mg base 1 "_law_is_name" P__law_is_name spLIsName := by
  refine D.cal sc__law_is_name (fun vs H Q E h => ?_) fun f cdv A outer s H vs Q E hr h => ?_
  · obtain ⟨v, d, rfl, _⟩ := h
    rfl
  obtain ⟨v, d, rfl, hd, hz, q⟩ := h
  refine ⟨_, (pss_cons (ps_if (PW.pt (pw_or (pt_not (pt_val (pe_callB (call_isQ kit_strD) rfl B.isinstance_ (by decide +kernel) (pa_cons (pv 0) (pa_cons (pe_bltn (v := .ty "str") rfl B.str_ (by decide +kernel) rfl) pa_nil))))) (pw_or1 (pt_not (pt_chain op_lt op_lt pe_int (pe_callB call_len_str rfl B.len_ PySem.boot_len (pa_cons (pv 0) pa_nil)) pe_int))))) (pss_one (ps_ret pe_bl)) pss_nil) (pss_one (ps_ret (pe_cmpR (op_eqD hr.units) (pe_lc (own := [("_law_letter", 1)]) (g := gName 1) rfl sc__law_is_name.nd (pi_str (pv 0)) (blkOk_by (N := N_sc__law_is_name) (sc := defScope s__law_is_name) (by decide +kernel)) (fun _ _ _ _ _ => pg_name (i := 1) sc__law_is_name.nd rfl (Or.inl rfl)) (fun _ _ _ _ _ => pts_one (pt_cmpR op_notIn_sign (pv 1) pe_str (by rfl))) (fun _ _ _ _ _ => (pv 1))) (pe_lst pa_nil) (nomark _))))), ?_⟩
  refine ⟨_, rfl, v, d, rfl, hd, isStrD d, rfl, ?_⟩
  cases d with
  | str z =>
    have hl : z.length ≤ sizeLine := hz.short z rfl
    obtain ⟨np, n, hd⟩ := hd
    obtain rfl := hd.str
    refine iteF ⟨_, rfl, _, rfl, hl, _, _, rfl, rfl, _, rfl, ?_⟩
    refine ite2 (fun c => ?_) (fun c => ?_)
    · have c : (0 : Int) < (z.length : Int) := of_decide_eq_true c
      refine ⟨_, _, rfl, rfl, _, rfl, ?_⟩
      by_cases h8 : (z.length : Int) < 9
      case neg =>
        have e : nameB (.str z) = false := by
          show (decide (z.length ≤ 8) && nameS z) = false
          rw [decide_eq_false (by omega)]; rfl
        rw [e] at q
        exact iteNN h8 (q H (Same.refl _))
      refine iteNS h8 ?_
      have e : nameB (.str z) = decide (badS z z.cps.size = []) := by
        show (decide (z.length ≤ 8) && nameS z) = _
        rw [decide_eq_true (show z.length ≤ 8 by omega), Bool.true_and]
        have i1 := nameS_iff (z := z) (by omega)
        have i2 := badS_nil z
        have i3 : NameOk z ↔ LetOk z := ⟨fun x => x.2.2, fun x => ⟨by omega, by omega, x⟩⟩
        by_cases k : badS z z.cps.size = []
        · rw [decide_eq_true k, i1.mpr (i3.mpr (i2.mp k))]
        · rw [decide_eq_false k]
          cases y : nameS z with
          | false => rfl
          | true => exact absurd (i2.mpr (i3.mp (i1.mp y))) k
      refine ⟨_, rfl, z, rfl, fun D hD => ?_⟩
      refine lc_it (walk_str (z := z)) (fun i H' => H' D = some (.lst ((badS z i).map V.str)) ∧ Same H H') ⟨upd_same, same_new hD _⟩ (fun _ _ _ _ => True.intro) ?_ ?_
      · rintro i x H1 H2 hi ⟨hD1, sm⟩ ⟨rfl, c, hc, rfl⟩
        refine ⟨rfl, _, rfl, c, _, rfl, rfl, _, rfl, ?_⟩
        have bs := badS_snoc hc
        show (if (!decide (c ∈ lett.cps.toList)) = true then _ else _)
        cases k : (!decide (c ∈ lett.cps.toList)) with
        | true =>
          rw [if_pos k] at bs
          refine iteT ⟨_, rfl, _, hD1, ?_, ?_, sameAt1 sm hD⟩
          · rw [List.length_map]
            have := badS_len z i
            have : sizeLine = 16777216 := by decide
            omega
          · rw [upd_same, bs, List.map_append]
            rfl
        | false =>
          rw [if_neg (by rw [k]; decide), List.append_nil] at bs
          rw [← bs] at hD1
          exact iteF ⟨hD1, sm⟩
      · rintro H1 ⟨hD1, sm⟩
        refine ⟨by show 0 ≤ sizeLine; decide, fun l hl => ?_⟩
        refine ⟨_, _, .lst (SqL.of (by rw [upd_ne (ne_of_none hD1 hl)]; exact hD1)) (dpStrs _), .lst (SqL.of upd_same) .nil, shaped_strs (badS_ok (hz z rfl).2 _), shaped_strs (ss := []) (fun _ h => nomatch h), ?_⟩
        have e2 : PyData.eqv (.list ((badS z z.cps.size).map PyData.str)) (.list []) = decide (badS z z.cps.size = []) := by
          cases badS z z.cps.size with
          | nil => rfl
          | cons a r => rfl
        rw [e2, ← e]
        exact q _ (sameAt2 sm hl)
    · have c : ¬ (0 : Int) < (z.length : Int) := of_decide_eq_false (Bool.eq_false_iff.mpr c)
      have e : nameB (.str z) = false := by
        show (decide (z.length ≤ 8) && nameS z) = false
        cases y : nameS z with
        | false => rw [Bool.and_false]
        | true =>
          have := ((nameS_iff (z := z) (by omega)).mp y).1
          omega
      rw [e] at q
      exact ⟨_, rfl, iteT (q H (Same.refl _))⟩
  | _ => exact iteT (q H (Same.refl _))
end
/-! ### the reason that is due -/
abbrev s__law_due : Stmt := (topS 30)
abbrev N_sc__law_due : List Str := ["_law_word", "_law_begin", "_law_place", "_law_step"]
abbrev P__law_due : List Str := ["_law_word", "_law_begin", "_law_place", "_law_step"]
theorem sc__law_due : FnScope N_sc__law_due P__law_due (defScope s__law_due) := ⟨rfl, rfl, rfl, by decide +kernel, rfl, by decide +kernel, by decide +kernel⟩
def optS : Option Str → V
  | none => .non
  | some r => .str r
def spDue : Sp := fun vs H Q _ => ∃ (v1 v2 v3 v4 : V) (d1 d2 d3 d4 : PyData), vs = [v1, v2, v3, v4] ∧ (∀ H', Same H H' → Any H' v1 d1 ∧ Any H' v2 d2 ∧ Any H' v3 d3 ∧ Any H' v4 d4) ∧ StrS d1 ∧ ∀ H', Same H H' → Q (optS (dueD d1 d2 d3 d4)) H'
section
variable {P : Program} {w : World} {K : PySem.W.Frag} {mg : Str → Option Value} {base : Heap}
theorem ok_due (D : Dfn K mg "_law_due" s__law_due P__law_due) (LI : Cal P w K mg base 1 "_law_is_int" P__law_is_int spLIsInt) (LN : Cal P w K mg base 1 "_law_is_name" P__law_is_name spLIsName) : Cal P w K mg base 2 "_law_due" P__law_due spDue := by
  refine D.cal sc__law_due (fun vs H Q E h => ?_) fun f cdv A outer s H vs Q E hr h => ?_
  · obtain ⟨v1, v2, v3, v4, d1, d2, d3, d4, rfl, _⟩ := h
    rfl
  obtain ⟨v1, v2, v3, v4, d1, d2, d3, d4, rfl, an, ss, q⟩ := h
  refine ⟨_, (pss_cons (ps_if (pt_not (pt_val (pe_cal LN (hr.mono (by decide)) (pa_cons (pv 0) pa_nil)))) (pss_one (ps_ret pe_str)) pss_nil) (pss_cons (ps_if (pt_not (pt_val (pe_cal LI (hr.mono (by decide)) (pa_cons (pv 1) (pa_cons pe_int (pa_cons (pe_op op_pow pe_int pe_int) pa_nil)))))) (pss_one (ps_ret pe_str)) pss_nil) (pss_cons (ps_if (pt_not (pt_val (pe_cal LI (hr.mono (by decide)) (pa_cons (pv 2) (pa_cons (pe_un un_neg (pe_op op_pow pe_int pe_int)) (pa_cons (pe_op op_pow pe_int pe_int) pa_nil)))))) (pss_one (ps_ret pe_str)) pss_nil) (pss_one (ps_ret (pe_ifExp (PW.pt (pw_or (pt_not (pt_val (pe_cal LI (hr.mono (by decide)) (pa_cons (pv 3) (pa_cons (pe_un un_neg (pe_op op_pow pe_int pe_int)) (pa_cons (pe_op op_pow pe_int pe_int) pa_nil)))))) (pw_or1 (pt_cmpR op_eq (pv 3) pe_int (nomark _))))) pe_str pe_non)))))), ?_⟩
  refine ⟨_, rfl, v1, d1, rfl, (an H (Same.refl _)).1, ss, fun H1 sm => ?_⟩
  obtain ⟨_, a2, a3, a4⟩ := an H1 sm
  have q := q H1 sm
  unfold dueD at q
  refine ⟨nameB d1, rfl, ?_⟩
  by_cases c1 : nameB d1 = true
  case neg =>
    rw [if_neg c1] at q
    rw [Bool.not_eq_true] at c1
    rw [c1]
    exact iteT q
  rw [if_pos c1] at q
  rw [c1]
  refine iteF ⟨_, rfl, _, _, rfl, rfl, ⟨by decide, by decide, by decide⟩, v2, d2, _, _, rfl, a2, betw d2 0 (10 ^ 30), rfl, ?_⟩
  by_cases c2 : betw d2 0 (10 ^ 30) = true
  case neg =>
    rw [if_neg c2] at q
    rw [Bool.not_eq_true] at c2
    rw [c2]
    exact iteT q
  rw [if_pos c2] at q
  rw [c2]
  refine iteF ⟨_, rfl, _, _, rfl, rfl, ⟨by decide, by decide, by decide⟩, _, rfl, _, _, rfl, rfl, ⟨by decide, by decide, by decide⟩, v3, d3, _, _, rfl, a3, betw d3 (-(10 ^ 30)) (10 ^ 30), rfl, ?_⟩
  by_cases c3 : betw d3 (-(10 ^ 30)) (10 ^ 30) = true
  case neg =>
    rw [if_neg c3] at q
    rw [Bool.not_eq_true] at c3
    rw [c3]
    exact iteT q
  rw [if_pos c3] at q
  rw [c3]
  refine iteF ⟨_, rfl, _, _, rfl, rfl, ⟨by decide, by decide, by decide⟩, _, rfl, _, _, rfl, rfl, ⟨by decide, by decide, by decide⟩, v4, d4, _, _, rfl, a4, betw d4 (-(10 ^ 18)) (10 ^ 18), rfl, ?_⟩
  by_cases c4 : betw d4 (-(10 ^ 18)) (10 ^ 18) = true
  case neg =>
    rw [if_neg (fun z => c4 z.1)] at q
    rw [Bool.not_eq_true] at c4
    rw [c4]
    exact iteT q
  rw [c4]
  obtain ⟨st, rfl⟩ : ∃ st, d4 = .int st := by
    cases d4 with
    | int i => exact ⟨i, rfl⟩
    | _ => cases c4
  obtain ⟨np, n, a4⟩ := a4
  obtain rfl := a4.int
  refine iteF ⟨_, rfl, rfl, _, rfl, ?_⟩
  by_cases c5 : st = 0
  case pos =>
    subst c5
    rw [if_neg (fun z => by have := z.2; cases this)] at q
    exact iteT q
  rw [if_pos ⟨c4, decide_eq_false c5⟩] at q
  have c : decide (V.int st = V.int 0) = false := decide_eq_false fun e => c5 (V.int.inj e)
  show (if decide (V.int st = V.int 0) = true then _ else _)
  rw [c]
  exact iteF q
end
/-! ### values of any kind, drawn -/
abbrev s__law_odd : Stmt := (topS 26)
abbrev N_sc__law_odd : List Str := ["_law_pen_here", "_law_some"]
abbrev P__law_odd : List Str := ["_law_pen_here"]
theorem sc__law_odd : FnScope N_sc__law_odd P__law_odd (defScope s__law_odd) := ⟨rfl, rfl, rfl, by decide +kernel, rfl, by decide +kernel, by decide +kernel⟩
theorem same_twice {H : Hp} {p : Addr} {o u : HO} (h : H p = none) : Same H (upd (upd H p o) p u) := by
  rw [upd_upd]
  exact same_new h u
theorem ne_new {H H' : Hp} {a d : Addr} {o : HO} (s : Same H H') (h : H a = some o) (n : H' d = none) : d ≠ a := by
  rintro rfl
  have := s _ _ h
  rw [n] at this
  cases this
theorem odd_all {F : Hp} {p t0 l0 d0 t1 l2 t2 d1 l3 : Addr} (et0 : F t0 = some (.tup [])) (el0 : F l0 = some (.lst [])) (nl0 : l0 ≠ sysModules) (ed0 : F d0 = some (.dK [])) (nd0 : d0 ≠ p) (et1 : F t1 = some (.tup [.str "a"]))
    (el2 : F l2 = some (.lst [.str "a"])) (nl2 : l2 ≠ sysModules) (et2 : F t2 = some (.tup [.int 0, .int 1])) (ed1 : F d1 = some (.dK [(Sum.inr "a", .int 1)])) (nd1 : d1 ≠ p) (el3 : F l3 = some (.lst [.non])) (nl3 : l3 ≠ sysModules) :
    ∀ v ∈ (([.non, .bl true, .bl false, .int 0, .int 1, .int (-1), .int 2, .int 7, .int (10 ^ 18 + 1), .int (10 ^ 30), .int (10 ^ 30 + 1), .int (-(10 ^ 30) - 1)] ++ [.int (10 ^ 50 * 10 ^ 40), .str "", .str "a", .str "0", .str "zz z", .str "A", .str "abcdefghi", .ref t0, .ref l0, .ref d0, .ref t1, .ref l2, .ref t2]) ++ [.ref d1, .ref l3] : List V), ∃ d, DqN F p 1 v d ∧ OddD d := by
  have fl : ∀ {v : V} {d : PyData}, Flat v d → OddD d → ∃ d, DqN F p 1 v d ∧ OddD d := fun f o => ⟨_, DqN.flat f, o⟩
  refine List.forall_mem_append.mpr ⟨List.forall_mem_append.mpr ⟨?_, ?_⟩, ?_⟩
  · refine List.forall_mem_cons.mpr ⟨fl .non (.closed (by decide +kernel)), ?_⟩
    refine List.forall_mem_cons.mpr ⟨fl (.bl true) (.closed (by decide +kernel)), ?_⟩
    refine List.forall_mem_cons.mpr ⟨fl (.bl false) (.closed (by decide +kernel)), ?_⟩
    refine List.forall_mem_cons.mpr ⟨fl (.int 0) (.closed (by decide +kernel)), ?_⟩
    refine List.forall_mem_cons.mpr ⟨fl (.int 1) (.closed (by decide +kernel)), ?_⟩
    refine List.forall_mem_cons.mpr ⟨fl (.int (-1)) (.closed (by decide +kernel)), ?_⟩
    refine List.forall_mem_cons.mpr ⟨fl (.int 2) (.closed (by decide +kernel)), ?_⟩
    refine List.forall_mem_cons.mpr ⟨fl (.int 7) (.closed (by decide +kernel)), ?_⟩
    refine List.forall_mem_cons.mpr ⟨fl (.int (10 ^ 18 + 1)) (.closed (by decide +kernel)), ?_⟩
    refine List.forall_mem_cons.mpr ⟨fl (.int (10 ^ 30)) (.closed (by decide +kernel)), ?_⟩
    refine List.forall_mem_cons.mpr ⟨fl (.int (10 ^ 30 + 1)) (.closed (by decide +kernel)), ?_⟩
    exact List.forall_mem_cons.mpr ⟨fl (.int (-(10 ^ 30) - 1)) (.closed (by decide +kernel)), fun _ h => nomatch h⟩
  · refine List.forall_mem_cons.mpr ⟨fl (.int (10 ^ 50 * 10 ^ 40)) (.closed (by decide +kernel)), ?_⟩
    refine List.forall_mem_cons.mpr ⟨fl (.str "") (.closed (by decide +kernel)), ?_⟩
    refine List.forall_mem_cons.mpr ⟨fl (.str "a") (.closed (by decide +kernel)), ?_⟩
    refine List.forall_mem_cons.mpr ⟨fl (.str "0") (.closed (by decide +kernel)), ?_⟩
    refine List.forall_mem_cons.mpr ⟨fl (.str "zz z") (.closed (by decide +kernel)), ?_⟩
    refine List.forall_mem_cons.mpr ⟨fl (.str "A") (.closed (by decide +kernel)), ?_⟩
    refine List.forall_mem_cons.mpr ⟨fl (.str "abcdefghi") (.closed (by decide +kernel)), ?_⟩
    refine List.forall_mem_cons.mpr ⟨⟨.tuple [], .inr (.inr (.inl ⟨t0, [], [], rfl, et0, .nil, rfl⟩)), .closed (by decide +kernel)⟩, ?_⟩
    refine List.forall_mem_cons.mpr ⟨⟨.list [], .inr (.inl ⟨l0, [], [], rfl, el0, nl0, .nil, rfl⟩), .closed (by decide +kernel)⟩, ?_⟩
    refine List.forall_mem_cons.mpr ⟨⟨.dict [], .inr (.inr (.inr ⟨d0, [], [], rfl, nd0, ed0, .nil, rfl⟩)), .closed (by decide +kernel)⟩, ?_⟩
    refine List.forall_mem_cons.mpr ⟨⟨.tuple [.str "a"], .inr (.inr (.inl ⟨t1, _, _, rfl, et1, .cons (Flat.str "a") .nil, rfl⟩)), .closed (by decide +kernel)⟩, ?_⟩
    refine List.forall_mem_cons.mpr ⟨⟨.list [.str "a"], .inr (.inl ⟨l2, _, _, rfl, el2, nl2, .cons (Flat.str "a") .nil, rfl⟩), .closed (by decide +kernel)⟩, ?_⟩
    exact List.forall_mem_cons.mpr ⟨⟨.tuple [.int 0, .int 1], .inr (.inr (.inl ⟨t2, _, _, rfl, et2, .cons (Flat.int 0) (.cons (Flat.int 1) .nil), rfl⟩)), .closed (by decide +kernel)⟩, fun _ h => nomatch h⟩
  · refine List.forall_mem_cons.mpr ⟨⟨.dict [(.str "a", .int 1)], .inr (.inr (.inr ⟨d1, [(Sum.inr "a", .int 1)], [(.str "a", .int 1)], rfl, nd1, ed1, .cons ⟨rfl, Flat.int 1⟩ .nil, rfl⟩)), .closed (by decide +kernel)⟩, ?_⟩
    exact List.forall_mem_cons.mpr ⟨⟨.list [.none], .inr (.inl ⟨l3, _, _, rfl, el3, nl3, .cons Flat.non .nil, rfl⟩), .closed (by decide +kernel)⟩, fun _ h => nomatch h⟩
def spOdd : Sp := fun vs H Q _ => ∃ (p l : Addr) (n : Nat), vs = [.ref p] ∧ Pen H p l n ∧ n ≤ 2 ^ 39 ∧ ∀ v d H', DqN H' p 1 v d → OddD d → Pen H' p l (n + 12) → Keep p H H' → Q v H'
section
variable {P : Program} {w : World} {K : PySem.W.Frag} {mg : Str → Option Value} {base : Heap}
set_option maxHeartbeats 16000000 in
theorem ok_odd (D : Dfn K mg "_law_odd" s__law_odd P__law_odd) (B : Blt mg) (CP : Cal P w K mg base 13 "_law_pick" P__law_pick (spPickL K)) : Cal P w K mg base 14 "_law_odd" P__law_odd spOdd := by
  refine D.cal sc__law_odd (fun vs H Q E h => ?_) fun f cdv A outer s H vs Q E hr h => ?_
  · obtain ⟨p, l, n, rfl, _⟩ := h
    rfl
  obtain ⟨p, l, n, rfl, Pn, hn, q⟩ := h
  obtain ⟨kvs, hp⟩ := Pn.dk
  have pw : ∀ j : Int, 0 ≤ j → j ≤ 1000000 → (0 ≤ j ∧ j ≤ 1000000 ∧ (10 : Int).natAbs < 2 ^ 64) := fun j a b => ⟨a, b, by decide⟩
  refine ⟨_, (pss_cons (ps_set (i := 1) sc__law_odd.nd rfl (Or.inl rfl) (pe_lstS (pa_cons pe_non (pa_cons pe_bl (pa_cons pe_bl (pa_cons pe_int (pa_cons pe_int (pa_cons (pe_un un_neg pe_int) (pa_cons pe_int (pa_cons pe_int (pa_cons (pe_op op_add (pe_op op_pow pe_int pe_int) pe_int) (pa_cons (pe_op op_pow pe_int pe_int) (pa_cons (pe_op op_add (pe_op op_pow pe_int pe_int) pe_int) (pa_cons (pe_op op_sub (pe_un un_neg (pe_op op_pow pe_int pe_int)) pe_int) pa_nil)))))))))))))) (pss_cons (ps_set (i := 1) sc__law_odd.nd rfl (Or.inl rfl) (pe_op op_cat (pv 1) (pe_lstS (pa_cons (pe_op op_mulW (pe_op op_pow pe_int pe_int) (pe_op op_pow pe_int pe_int)) (pa_cons pe_str (pa_cons pe_str (pa_cons pe_str (pa_cons pe_str (pa_cons pe_str (pa_cons pe_str (pa_cons (pe_tup pa_nil) (pa_cons (pe_lstS pa_nil) (pa_cons pe_dnewK (pa_cons (pe_tup (pa_cons pe_str pa_nil)) (pa_cons (pe_lstS (pa_cons pe_str pa_nil)) (pa_cons (pe_tup (pa_cons pe_int (pa_cons pe_int pa_nil))) pa_nil)))))))))))))))) (pss_one (ps_ret (pe_cal CP (hr.mono (by decide)) (pa_cons (pv 0) (pa_cons (pe_op op_cat (pv 1) (pe_lstS (pa_cons (pe_disp (pps_cons pe_str pe_int pps_nil) (by rfl) (by rfl) (fun z => by cases z) (by decide)) (pa_cons (pe_lstS (pa_cons pe_non pa_nil)) pa_nil)))) pa_nil))))))), ?_⟩
  refine ⟨_, rfl, _, _, rfl, rfl, pw _ (by decide) (by decide), _, _, rfl, rfl, _, _, rfl, rfl, pw _ (by decide) (by decide), _, _, rfl, rfl, pw _ (by decide) (by decide), _, _, rfl, rfl, _, _, rfl, rfl, pw _ (by decide) (by decide), _, rfl, _, _, rfl, rfl, (by show 12 ≤ sizeLine; decide), fun l1 h1 n1 => ?_⟩
  refine ⟨_, rfl, _, _, rfl, rfl, pw _ (by decide) (by decide), _, _, rfl, rfl, pw _ (by decide) (by decide), _, _, rfl, rfl, wide_mul (a := 200) (b := 200) (by decide) (by decide) (by decide) (by decide) (by decide), ?_⟩
  refine ⟨by show 0 ≤ sizeLine; decide, fun t0 ht0 => ⟨by show 0 ≤ sizeLine; decide, fun l0 hl0 nl0 d0 hd0 => ⟨by show 1 ≤ sizeLine; decide, fun t1 ht1 => ⟨by show 1 ≤ sizeLine; decide, fun l2 hl2 nl2 => ⟨by show 2 ≤ sizeLine; decide, fun t2 ht2 => ⟨by show 13 ≤ sizeLine; decide, fun lB hlB nlB => ?_⟩⟩⟩⟩⟩⟩
  have s1 := same_new h1 (.lst [.non, .bl true, .bl false, .int 0, .int 1, .int (-1), .int 2, .int 7, .int (10 ^ 18 + 1), .int (10 ^ 30), .int (10 ^ 30 + 1), .int (-(10 ^ 30) - 1)])
  have s2 := same_new ht0 (.tup [])
  have s3 := same_new hl0 (.lst [])
  have s4 := same_new hd0 (.dK [])
  have s5 := same_new ht1 (.tup [.str "a"])
  have s6 := same_new hl2 (.lst [.str "a"])
  have s7 := same_new ht2 (.tup [.int 0, .int 1])
  have s8 := same_new hlB (.lst [.int (10 ^ 50 * 10 ^ 40), .str "", .str "a", .str "0", .str "zz z", .str "A", .str "abcdefghi", .ref t0, .ref l0, .ref d0, .ref t1, .ref l2, .ref t2])
  have p8 := s7.trans s8
  have p7 := s6.trans p8
  have p6 := s5.trans p7
  have p5 := s4.trans p6
  have p4 := s3.trans p5
  have p3 := s2.trans p4
  refine ⟨l1, lB, _, _, rfl, rfl, p3 _ _ upd_same, upd_same, by show 12 + 13 ≤ sizeLine; decide, fun lC hlC => ?_⟩
  have s9 := same_new hlC (.lst ([.non, .bl true, .bl false, .int 0, .int 1, .int (-1), .int 2, .int 7, .int (10 ^ 18 + 1), .int (10 ^ 30), .int (10 ^ 30 + 1), .int (-(10 ^ 30) - 1)] ++ [.int (10 ^ 50 * 10 ^ 40), .str "", .str "a", .str "0", .str "zz z", .str "A", .str "abcdefghi", .ref t0, .ref l0, .ref d0, .ref t1, .ref l2, .ref t2]))
  refine ⟨_, rfl, _, rfl, fun d1 hd1 => ⟨upd_same, [(Sum.inr "a", .int 1)], rfl, by show 1 ≤ 15; decide, ?_⟩⟩
  refine ⟨by show 1 ≤ sizeLine; decide, fun l3 hl3 nl3 => ⟨by show 2 ≤ sizeLine; decide, fun lD hlD nlD => ?_⟩⟩
  have s10 := same_twice (o := .dK []) (u := .dK (mergeK [] [(Sum.inr "a", .int 1)])) hd1
  have s11 := same_new hl3 (.lst [.non])
  have s12 := same_new hlD (.lst [.ref d1, .ref l3])
  have q12 := s11.trans s12
  have q11 := s10.trans q12
  have q10 := s9.trans q11
  refine ⟨lC, lD, _, _, rfl, rfl, q11 _ _ upd_same, upd_same, by show 25 + 2 ≤ sizeLine; decide, fun lE hlE => ?_⟩
  have s13 := same_new hlE (.lst (([.non, .bl true, .bl false, .int 0, .int 1, .int (-1), .int 2, .int 7, .int (10 ^ 18 + 1), .int (10 ^ 30), .int (10 ^ 30 + 1), .int (-(10 ^ 30) - 1)] ++ [.int (10 ^ 50 * 10 ^ 40), .str "", .str "a", .str "0", .str "zz z", .str "A", .str "abcdefghi", .ref t0, .ref l0, .ref d0, .ref t1, .ref l2, .ref t2]) ++ [.ref d1, .ref l3]))
  have r12 := s12.trans s13
  have r11 := s11.trans r12
  have r10 := s10.trans r11
  have r9 := s9.trans r10
  have r8 := s8.trans r9
  have r7 := s7.trans r8
  have r6 := s6.trans r7
  have r5 := s5.trans r6
  have r4 := s4.trans r5
  have r3 := s3.trans r4
  have r2 := s2.trans r3
  have r1 := s1.trans r2
  have et0 := r3 _ _ upd_same
  have el0 := r4 _ _ upd_same
  have ed0 := r5 _ _ upd_same
  have et1 := r6 _ _ upd_same
  have el2 := r7 _ _ upd_same
  have et2 := r8 _ _ upd_same
  have ed1 := r11 _ _ upd_same
  have el3 := r12 _ _ upd_same
  have P2 := Pn.same r1
  have hpF := r1 _ _ hp
  have nd0 : d0 ≠ p := ne_new (s1.trans (s2.trans s3)) hp hd0
  have nd1 : d1 ≠ p := ne_new (s1.trans (p3.trans s9)) hp hd1
  refine ⟨p, l, lE, _, n, rfl, P2, hn, SqL.of upd_same, by show 1 ≤ 27; decide, by show 27 ≤ 1000000; decide, fun v H' hv P' k => ?_⟩
  have all := odd_all et0 el0 nl0 ed0 nd0 et1 el2 nl2 et2 ed1 nd1 el3 nl3 v hv
  clear s1 s2 s3 s4 s5 s6 s7 s8 s9 s10 s11 s12 s13 p3 p4 p5 p6 p7 p8 q10 q11 q12 r2 r3 r4 r5 r6 r7 r8 r9 r10 r11 r12 et0 el0 ed0 et1 el2 et2 ed1 el3
  obtain ⟨d, hd, od⟩ := all
  exact q v d H' (hd.keep k hpF) od P' ((Keep.of r1).trans k)
end
end Ur
/-! KX4: _law_refused: what a call lets out, told as a value. -/
namespace Ur
open PySem PySem.Spec PyProof.Rows L2
abbrev s__law_refused : Stmt := (topS 31)
abbrev N_sc__law_refused : List Str := ["_law_call", "_law_caught", "_law_found", "e"]
abbrev P__law_refused : List Str := ["_law_call"]
theorem sc__law_refused : FnScope N_sc__law_refused P__law_refused (defScope s__law_refused) := ⟨rfl, rfl, rfl, by decide +kernel, rfl, by decide +kernel, by decide +kernel⟩
/-- what is known of the classes of the errors: CI, CC, CP; CE another one -/
structure RefK (K : PySem.W.Frag) (mg : Str → Option Value) (CI CC CP CE : Addr) : Prop where
  mI : mg "InvalidPainter" = some (.ref CI)
  mC : mg "InvalidCount" = some (.ref CC)
  mP : mg "InvalidPost" = some (.ref CP)
  mE : mg "ParseError" = some (.ref CE)
  mV : mg "ValueError" = none
  kI : ErrK K CI "reason"
  kC : ErrK K CC "value"
  kP : ErrK K CP "value"
  eII : PySem.W.exmOne K (.ref CI) (.ref CI) = some true
  eCI : PySem.W.exmOne K (.ref CC) (.ref CI) = some false
  eCC : PySem.W.exmOne K (.ref CC) (.ref CC) = some true
  ePI : PySem.W.exmOne K (.ref CP) (.ref CI) = some false
  ePC : PySem.W.exmOne K (.ref CP) (.ref CC) = some false
  ePP : PySem.W.exmOne K (.ref CP) (.ref CP) = some true
  vI : PySem.W.kitOne K (.ref CI) (.type "ValueError") = some true
  vC : PySem.W.kitOne K (.ref CC) (.type "ValueError") = some true
  vP : PySem.W.kitOne K (.ref CP) (.type "ValueError") = some true
  nI : PySem.W.kitOne K (.ref CI) (.ref CE) = some false
  nC : PySem.W.kitOne K (.ref CC) (.ref CE) = some false
  nP : PySem.W.kitOne K (.ref CP) (.ref CE) = some false
/-- an error that is let out, and what is to hold of what it is told as -/
def RefW (CI CC CP : Addr) (Q : VK) : XK := fun cls d H =>
  (∃ (dd : Addr) (r : Str), cls = .ref CI ∧ d = some dd ∧ H dd = some (.xd [("reason", .str r)]) ∧ ∀ H2, Same H H2 → Q (.str r) H2) ∨
  ∃ (w : Str) (C dd : Addr) (v : V) (da : PyData) (n k : Nat), ((C = CC ∧ w = "count") ∨ (C = CP ∧ w = "post")) ∧ cls = .ref C ∧ d = some dd ∧ H dd = some (.xd [("value", v)]) ∧ Any H v da ∧ ShX da n k ∧ n ≤ 8600 ∧ k ≤ 64 ∧
    ∀ t H2, H2 t = some (.tup [.str w, .str da.shown]) → Same H H2 → Q (.ref t) H2
/-- .. of a call -/
def TTref (CI CC CP : Addr) : (XK → Hp → VK → Prop) → Hp → VK → Prop := fun tl H Q => ∃ E : XK, (∀ cls d H', E cls d H' → RefW CI CC CP Q cls d H') ∧ ∀ R : VK, (∀ v H', Q .non H' → R v H') → tl E H R
theorem takes_len {X : Cx} {W : WX} (tk : Takes X W) : Takes X (fun c d σ H => σ.length = X.N.length → W c d σ H) := by
  rintro u s' ⟨a, B, sI, pins, σ, H, cls, d, rfl, I, nb, up, sky, na, os, ag, w⟩
  exact tk _ _ ⟨a, B, sI, pins, σ, H, cls, d, rfl, I, nb, up, sky, na, os, ag, w I.len⟩
/-- the call in the try -/
def tAct (f c' : Addr) (q : Str) (tl : XK → Hp → VK → Prop) (W : WX) : TS := fun D σ H => ∃ E : XK, (∀ cls d (σ' : L2.St) H', E cls d H' → σ'.length = 4 → W cls d σ' H') ∧ σ[0]? = some (some (.ref f)) ∧ H c' = some (LamX.CodeO c' q) ∧ tl E H fun _ H' => D.nx σ H'
theorem body_act {Z : Cx} {f c' : Addr} {q a : Str} {tl : XK → Hp → VK → Prop} {W : WX} {pn : List (Addr × Obj)} {xe : Value → Shared → Prop} {p1 p2 p3 : Pos} (h4 : Z.N.length = 4) (tk : Takes (Z.tr pn xe) W)
    (act : ∀ (W : WX) (E : XK), Takes (Z.tr pn xe) W → (∀ cls d σ' H', E cls d H' → W cls d σ' H') → PE (Z.tr pn xe) (.Call (.Name a p1) [] [] p2) (fun σZ HZ Q => σZ[0]? = some (some (.ref f)) ∧ HZ c' = some (LamX.CodeO c' q) ∧ tl E HZ Q)) :
    PSs (Z.tr pn xe) [.Expr (.Call (.Name a p1) [] [] p2) p3] (tAct f c' q tl W) := by
  constructor
  intro pins s σ H D I h
  obtain ⟨E, hE, h1, h2, h3⟩ := h
  have call := act (fun c d σ H => σ.length = (Z.tr pn xe).N.length → W c d σ H) E (takes_len tk) fun cls d σ' H' e l => hE cls d σ' H' e (l.trans h4)
  exact (pss_one (ps_expr (pos := p3) call)).run pins s σ H D I ⟨h1, h2, h3⟩
section
variable {X : Cx} {CI CC CP CE : Addr}
theorem Same.tup2 {H H' : Hp} (s : Same H H') {t : Addr} {xs : List V} (h : H t = some (.tup xs)) : H' t = some (.tup xs) := s _ _ h
set_option maxHeartbeats 16000000 in
theorem refused_gives {g : Addr} {cdg : Value} {q : Str} (B : Blt X.mg) (R : RefK X.K X.mg CI CC CP CE) (hs : Still X.A) (hr : Room 3 X.A) :
    LamX.GivesTo X N_sc__law_refused "_law_refused" (defScope s__law_refused) g cdg (defBody s__law_refused) "_law_call" q (TTref CI CC CP) := by
  intro f c' s H Q tl act hc h
  obtain ⟨E, hE, h⟩ := h
  have hu : ((cxOf C8.CX0 X.prog X.w X.K X.mg X.base N_sc__law_refused "_law_refused" (defScope s__law_refused) g cdg X.A X.stack s H C8.E0).nox).A.units + 66 < cLine := by
    have := (hr.deeper (envOfC "_law_refused" (defScope s__law_refused) s.heap.objs.size g cdg)).un
    show (X.A.deeper _).units + 66 < cLine
    omega
  have hst : Still ((cxOf C8.CX0 X.prog X.w X.K X.mg X.base N_sc__law_refused "_law_refused" (defScope s__law_refused) g cdg X.A X.stack s H C8.E0).nox).A := hs
  refine ⟨_, pss_cons (ps_set (i := 1) sc__law_refused.nd rfl (Or.inl rfl) pe_non) (pss_cons (ps_set (i := 2) sc__law_refused.nd rfl (Or.inl rfl) pe_non)
    (pss_cons (ps_tries (tb := tAct f c' q tl) rfl rfl rfl sc__law_refused.nd takes0 (fun W pn xe tk _ => body_act rfl tk (fun W E t1 t2 => act W pn xe E _ _ t1 t2))
      (.cons (i := 3) ⟨rfl, by decide, .inl R.mI⟩ rfl rfl (fun p o cls d pn z fo => pss_cons (ps_set (i := 1) sc__law_refused.nd rfl (Or.inl rfl) (pv 3)) (pss_one (ps_set (i := 2) sc__law_refused.nd rfl (Or.inl rfl) (pe_xf R.kI.x R.kI.no z fo (pv 3)))))
      (.cons (i := 3) ⟨rfl, by decide, .inl R.mC⟩ rfl rfl (fun p o cls d pn z fo => pss_cons (ps_set (i := 1) sc__law_refused.nd rfl (Or.inl rfl) (pv 3)) (pss_one (ps_set (i := 2) sc__law_refused.nd rfl (Or.inl rfl)
        (pe_tup (pa_cons pe_str (pa_cons (pe_callB (call_reprQ hst hu) rfl B.repr_ (by decide +kernel) (pa_cons (pe_xf R.kC.x R.kC.no z fo (pv 3)) pa_nil)) pa_nil))))))
      (.cons (i := 3) ⟨rfl, by decide, .inl R.mP⟩ rfl rfl (fun p o cls d pn z fo => pss_cons (ps_set (i := 1) sc__law_refused.nd rfl (Or.inl rfl) (pv 3)) (pss_one (ps_set (i := 2) sc__law_refused.nd rfl (Or.inl rfl)
        (pe_tup (pa_cons pe_str (pa_cons (pe_callB (call_reprQ hst hu) rfl B.repr_ (by decide +kernel) (pa_cons (pe_xf R.kP.x R.kP.no z fo (pv 3)) pa_nil)) pa_nil)))))) .nil))))
    (pss_cons (ps_if (PW.pt (pw_and (pt_cmpR op_notN (pv 1) pe_non (nomark _)) (pw_and1 (PW.pt (pw_or (pt_not (pt_val (pe_callB call_isK rfl B.isinstance_ (by decide +kernel) (pa_cons (pv 1) (pa_cons (pe_bltn (v := .ty "ValueError") rfl R.mV (by decide +kernel) rfl) pa_nil)))))
      (pw_or1 (pt_val (pe_callB call_isK rfl B.isinstance_ (by decide +kernel) (pa_cons (pv 1) (pa_cons (pe_glob (v := .ref CE) rfl R.mE rfl) pa_nil)))))))))) (pss_one (ps_ret pe_str)) pss_nil)
    (pss_one (ps_ret (pv 2)))))), ?_⟩
  refine ⟨E, ?_, rfl, hc, h _ fun v H' q => ⟨_, rfl, rfl, _, rfl, iteF ⟨_, rfl, q⟩⟩⟩
  intro cls d σ' H' e l4
  obtain ⟨s0, s1, s2, s3, rfl⟩ : ∃ s0 s1 s2 s3, σ' = [s0, s1, s2, s3] := by
    match σ', l4 with
    | [a, b, c, d], _ => exact ⟨a, b, c, d, rfl⟩
  rcases hE _ _ _ e with ⟨dd, r, rfl, rfl, hdd, q⟩ | ⟨w, C, dd, v, da, n, k, hC, rfl, rfl, hdd, hv, sh, hn, hk, q⟩
  · refine ⟨true, R.eII, fun _ p hp => ?_, fun z => nomatch z⟩
    refine ⟨_, rfl, _, rfl, rfl, rfl, dd, _, _, rfl, hdd, rfl, fun hp6 => ?_⟩
    have nd : dd ≠ p := ne_of_none hdd hp6
    refine ⟨_, rfl, rfl, _, rfl, iteT ?_⟩
    refine ⟨_, rfl, p, CI, some dd, _, _, true, rfl, upd_same, .inr ⟨dd, _, rfl, by rw [upd_ne nd]; exact hdd⟩, R.kI.c, .ty "ValueError", R.vI, true, rfl, iteF ?_⟩
    refine ⟨_, rfl, p, CI, some dd, _, _, false, rfl, upd_same, .inr ⟨dd, _, rfl, by rw [upd_ne nd]; exact hdd⟩, R.kI.c, .own CE, R.nI, false, rfl, iteF ?_⟩
    exact ⟨_, rfl, q _ (same_new hp6 _)⟩
  · rcases hC with ⟨rfl, rfl⟩ | ⟨rfl, rfl⟩
    · refine ⟨false, R.eCI, (fun z => nomatch z), fun _ => ⟨true, R.eCC, fun _ p hp => ?_, fun z => nomatch z⟩⟩
      refine ⟨_, rfl, _, rfl, rfl, rfl, dd, _, _, rfl, hdd, rfl, _, da, n, k, rfl, hv, sh, hn, hk, fun z ez => ?_⟩
      subst ez
      refine ⟨by show 2 ≤ sizeLine; decide, fun t ht hp6 => ?_⟩
      have sm := (same_new ht (.tup [.str "count", .str da.shown])).trans (same_new hp6 (exk p (.ref C) (some dd)))
      have hd2 := sm _ _ hdd
      have ht2 := (same_new hp6 (exk p (.ref C) (some dd))) _ _ upd_same
      refine ⟨_, rfl, rfl, _, rfl, iteT ?_⟩
      refine ⟨_, rfl, p, C, some dd, _, _, true, rfl, upd_same, .inr ⟨dd, _, rfl, hd2⟩, R.kC.c, .ty "ValueError", R.vC, true, rfl, iteF ?_⟩
      refine ⟨_, rfl, p, C, some dd, _, _, false, rfl, upd_same, .inr ⟨dd, _, rfl, hd2⟩, R.kC.c, .own CE, R.nC, false, rfl, iteF ?_⟩
      exact ⟨_, rfl, q _ _ ht2 sm⟩
    · refine ⟨false, R.ePI, (fun z => nomatch z), fun _ => ⟨false, R.ePC, (fun z => nomatch z), fun _ => ⟨true, R.ePP, fun _ p hp => ?_, fun z => nomatch z⟩⟩⟩
      refine ⟨_, rfl, _, rfl, rfl, rfl, dd, _, _, rfl, hdd, rfl, _, da, n, k, rfl, hv, sh, hn, hk, fun z ez => ?_⟩
      subst ez
      refine ⟨by show 2 ≤ sizeLine; decide, fun t ht hp6 => ?_⟩
      have sm := (same_new ht (.tup [.str "post", .str da.shown])).trans (same_new hp6 (exk p (.ref C) (some dd)))
      have hd2 := sm _ _ hdd
      have ht2 := (same_new hp6 (exk p (.ref C) (some dd))) _ _ upd_same
      refine ⟨_, rfl, rfl, _, rfl, iteT ?_⟩
      refine ⟨_, rfl, p, C, some dd, _, _, true, rfl, upd_same, .inr ⟨dd, _, rfl, hd2⟩, R.kP.c, .ty "ValueError", R.vP, true, rfl, iteF ?_⟩
      refine ⟨_, rfl, p, C, some dd, _, _, false, rfl, upd_same, .inr ⟨dd, _, rfl, hd2⟩, R.kP.c, .own CE, R.nP, false, rfl, iteF ?_⟩
      exact ⟨_, rfl, q _ _ ht2 sm⟩
end
end Ur
/-! KX5: a lambda handed to _law_refused; _law_answers_right. -/
namespace Ur
open PySem PySem.Spec PyProof.Rows L2
section
variable {X : Cx} {CI CC CP CE : Addr}
/-- _law_refused(lambda: ..) -/
theorem pe_ref {T : List (Addr × Str)} {c Pt : Addr} {k : Nat} {params : Arguments} {body : Expr} {scope : Scope} {t : XK → TE} {p lpos pos : Pos} (D : Dfn X.K X.mg "_law_refused" s__law_refused P__law_refused) (B : Blt X.mg) (R : RefK X.K X.mg CI CC CP CE) (hs : Still X.A)
    (TB : LamX.TabB X.base X.mg c Pt) (hcode : X.env.code = .ref c) (hmT : (Pt, X.env.qual ++ "<lambda>") ∈ T) (hu : ∀ p ∈ T, p.1 = Pt → p.2 = X.env.qual ++ "<lambda>") (hr : Room (k + 3) X.A) (L : LamX.LamS X.env.scope scope) (hdef : defaultsOf params X.env = ([], []))
    (hbind : ∀ (q : Str) (cl : List (Str × Addr)) (pm cv ctv : Value), bindArgs (PySem.W.kla_fn "<lambda>" q params body scope cl pm cv ctv) ⟨[], []⟩ = pure [])
    (hbody : ∀ (A : Around) (outer : List Env) (s : Shared) (H : Hp) (E : XK) (f c' : Addr), Room (k + 1) (A.deeper (LamX.lamEnv X scope s.heap.objs.size f c')) → PE (LamX.lamCx X A outer s H E scope f c') body (t E)) (hg : Gl X "_law_refused" := by rfl) :
    PE X (.Call (.Name "_law_refused" p) [.Lambda params body scope lpos] [] pos) (LamX.tLam T (TTref CI CC CP) t) := by
  obtain ⟨f, fd, F, b, m⟩ := D
  obtain ⟨oc, od, kV, doc, pm, an, cdv, ct, osl, efd, lk, hcd⟩ := F.ex
  subst efd
  exact LamX.pe_lamcall (k := k + 1) hg m F.kp lk hcd b sc__law_refused rfl (Or.inl rfl) (refused_gives B R hs (hr.mono (by omega))) TB hcode hmT hu hr L hdef hbind hbody
end
/-- the name under which a def's lambdas go -/
def lamQ (x : Str) (st : Stmt) : Str := (envOfC x (defScope st) 0 0 .none).qual ++ "<lambda>"
abbrev s__law_answers_right : Stmt := (topS 32)
abbrev N_sc__law_answers_right : List Str := ["_law_pen_here", "_law_made", "_law_most", "_law_ends", "_law_thing", "_law_kept", "_law_due_here"]
abbrev P__law_answers_right : List Str := ["_law_pen_here", "_law_made"]
theorem sc__law_answers_right : FnScope N_sc__law_answers_right P__law_answers_right (defScope s__law_answers_right) := ⟨rfl, rfl, rfl, by decide +kernel, rfl, by decide +kernel, by decide +kernel⟩
/-- the tables of the two defs that make lambdas -/
def TT2 (PL PA : Addr) (qL : Str) : List (Addr × Str) := [(PL, qL), (PA, lamQ "_law_answers_right" s__law_answers_right)]
/-- a drawn value that stands -/
def Drawn1 (H : Hp) (p : Addr) (v : V) : Prop := ∃ d, DqN H p 1 v d ∧ OddD d
theorem Drawn1.int {H : Hp} {p : Addr} {i : Int} (h : i.natAbs < 2 ^ 390) : Drawn1 H p (.int i) := ⟨_, DqN.flat (.int i), OddD.int h⟩
theorem Drawn1.keepN {H H' : Hp} {p : Addr} {v : V} {kk : List (Key × V)} (k : KeepN p H H') (hp : H p = some (.dK kk)) (h : Drawn1 H p v) : Drawn1 H' p v := let ⟨d, a, b⟩ := h; ⟨d, a.keepN k hp, b⟩
/-- what stands all the while -/
structure All (C : Addr) (T : List (Addr × Str)) (H : Hp) (p l a : Addr) (n : Nat) (nm : Str) (d q s : Int) : Prop where
  pen : Pen H p l n
  pn : PnAt C H a nm d q s
  tb : LamX.Tabs T H
/-- what is due, or was told: nothing, or the word and the text of the value -/
def RefV (H : Hp) (v : V) (w : Str) (z : Str) (b : Bool) : Prop := (b = true ∧ v = .non) ∨ (b = false ∧ ∃ t, v = .ref t ∧ H t = some (.tup [.str w, .str z]))
def refD (w : Str) (z : Str) (b : Bool) : PyData := match b with
  | true => .none
  | false => .tuple [.str w, .str z]
theorem RefV.dp {K : PySem.W.Frag} {H : Hp} {v : V} {w z : Str} {b : Bool} (h : RefV H v w z b) : Dp K H v (refD w z b) := by
  rcases h with ⟨rfl, rfl⟩ | ⟨rfl, t, rfl, ht⟩
  · exact .non
  · exact .tup (SqT.of ht) (.cons (.str _) (.cons (.str _) .nil))
theorem RefV.keepN {H H' : Hp} {p : Addr} {v : V} {w z : Str} {b : Bool} {kk : List (Key × V)} (k : KeepN p H H') (hp : H p = some (.dK kk)) (h : RefV H v w z b) : RefV H' v w z b := by
  rcases h with ⟨rfl, rfl⟩ | ⟨rfl, t, rfl, ht⟩
  · exact .inl ⟨rfl, rfl⟩
  · exact .inr ⟨rfl, t, rfl, k _ _ ht (ne_of ht hp (by intro z; cases z)) (fun _ z => by cases z)⟩
theorem refD_shaped {w z : Str} {b : Bool} (h1 : PyData.strOk w = true) (h2 : PyData.strOk z = true) : SeqAt.shaped (refD w z b) = true := by
  cases b with
  | true => rfl
  | false =>
    show ((PyData.strOk w && (PyData.strOk z && true)) && decide (max 0 (max 0 0) + 1 ≤ 64)) = true
    rw [h1, h2]
    rfl
theorem refD_eqv {w z : Str} {b : Bool} : PyData.eqv (refD w z b) (refD w z b) = true := by
  cases b with
  | true => rfl
  | false =>
    show ((w == w) && ((z == z) && true)) = true
    simp
theorem Pen.ext {H H' : Hp} {p l : Addr} {n : Nat} (e : LamX.ExtN H H') (P : Pen H p l n) : Pen H' p l n := by
  obtain ⟨cs, b, r, h1, h2, z⟩ := P.ex
  exact ⟨cs, b, r, e _ _ h1 (fun _ z => by cases z), e _ _ h2 (fun _ z => by cases z), z⟩
theorem ask_read {T : List (Addr × Str)} {C CI CC CPo CE p l a : Addr} {n : Nat} {nm : Str} {d q s lo hi : Int} {H : Hp} {Qc : VK} {w m : Str} {v : V} {dd : PyData} {σ : L2.St} {ta tb : TE} (al : All C T H p l a n nm d q s) (sn : s ≠ 0) (s0 : -(10 ^ 18) ≤ s) (s1 : s ≤ 10 ^ 18)
    (hv : DqN H p 1 v dd) (od : OddD dd) (hC : (CE = CC ∧ w = "count") ∨ (CE = CPo ∧ w = "post")) (hm : (pfs nm d q s).lookup m = none) (hta : ∀ H Q, Q (.ref a) H → ta σ H Q) (htb : ∀ H Q, Q v H → tb σ H Q)
    (h : ∀ x H2, RefV H2 x w dd.shown (betw dd lo hi) → KeepN p H H2 → Pen H2 p l n → LamX.Tabs T H2 → Qc x H2) :
    LamX.tLam T (TTref CI CC CPo) (fun E => tMeth C m (spAsk C CE lo hi) [] E ta (tCons tb tNil)) σ H Qc := by
  obtain ⟨kvs, hp⟩ := al.pen.dk
  refine ⟨al.tb, fun H1 eN T1 => ⟨RefW CI CC CPo Qc, fun _ _ _ z => z, fun R hR => hta _ _ ?_⟩⟩
  obtain ⟨dx, ha⟩ := al.pn
  have ha1 := eN _ _ ha (fun _ z => by cases z)
  have P1 := al.pen.ext eN
  have k1 : KeepN p H H1 := KeepN.ext eN
  have hv1 := hv.keepN k1 hp
  refine ⟨a, dx, _, rfl, ha1, hm, htb _ _ ⟨a, nm, d, q, s, v, dd, rfl, ⟨dx, ha1⟩, sn, s0, s1, hv1.any, ?_⟩⟩
  by_cases b : betw dd lo hi = true
  · rw [if_pos b]
    exact fun u H2 _ sm => hR _ _ (h _ _ (.inl ⟨b, rfl⟩) (k1.trans (KeepN.same sm)) (P1.same sm) (tabs_same sm T1))
  · rw [if_neg b]
    rw [Bool.not_eq_true] at b
    intro e he
    have sm0 := same_new he (.xd [("value", v)])
    exact .inr ⟨w, CE, e, v, dd, 400, 2, hC, rfl, rfl, upd_same, (hv1.same sm0).any, od.sx, by decide, by decide, fun t H2 ht sm =>
      h _ _ (.inr ⟨b, t, rfl, ht⟩) (k1.trans (KeepN.same (sm0.trans sm))) (P1.same (sm0.trans sm)) (tabs_same (sm0.trans sm) T1)⟩
/-- in a turn: what stands -/
structure Turn (C : Addr) (T : List (Addr × Str)) (H0 H : Hp) (p l a : Addr) (n : Nat) (nm : Str) (d q s : Int) (Lx : Addr) (xs : List V) : Prop where
  al : All C T H p l a n nm d q s
  lx : H Lx = some (.lst xs)
  dr : ∀ v ∈ xs, Drawn1 H p v
  kp : KeepN p H0 H
theorem Turn.on {C : Addr} {T : List (Addr × Str)} {H0 H H' : Hp} {p l a : Addr} {n : Nat} {nm : Str} {d q s : Int} {Lx : Addr} {xs : List V} (t : Turn C T H0 H p l a n nm d q s Lx xs) (k : KeepN p H H') (P : Pen H' p l n) (tb : LamX.Tabs T H') : Turn C T H0 H' p l a n nm d q s Lx xs := by
  obtain ⟨kvs, hp⟩ := t.al.pen.dk
  obtain ⟨dx, ha⟩ := t.al.pn
  exact ⟨⟨P, ⟨dx, k _ _ ha (ne_of ha hp (by intro z; cases z)) (fun _ z => by cases z)⟩, tb⟩, k _ _ t.lx (ne_of t.lx hp (by intro z; cases z)) (fun _ z => by cases z), fun v hv => (t.dr v hv).keepN k hp, t.kp.trans k⟩
theorem Turn.new {C : Addr} {T : List (Addr × Str)} {H0 H : Hp} {p l a b : Addr} {n : Nat} {nm : Str} {d q s : Int} {Lx : Addr} {xs : List V} {o : HO} (t : Turn C T H0 H p l a n nm d q s Lx xs) (h : H b = none) : Turn C T H0 (upd H b o) p l a n nm d q s Lx xs :=
  t.on (KeepN.same (same_new h o)) (t.al.pen.same (same_new h o)) (tabs_same (same_new h o) t.al.tb)
theorem big_most : (10 : Int) ^ 40 * 10 ^ 40 = 10 ^ 80 := by decide +kernel
def spAR (C : Addr) (T : List (Addr × Str)) : Sp := fun vs H Q _ => ∃ (p l a : Addr) (n : Nat) (nm : Str) (d q s : Int), vs = [.ref p, .ref a] ∧ All C T H p l a n nm d q s ∧ n ≤ 2 ^ 38 ∧ s ≠ 0 ∧ -(10 ^ 18) ≤ s ∧ s ≤ 10 ^ 18 ∧
  ∀ H', Pen H' p l (n + 200) → KeepN p H H' → LamX.Tabs T H' → Q (.bl true) H'
section
variable {P : Program} {w : World} {K : PySem.W.Frag} {mg : Str → Option Value} {base : Heap} {C CI CC CPo CE cA PL PA : Addr} {qL : Str}
set_option maxHeartbeats 40000000 in
theorem ok_ar (D : DfnT K mg "_law_answers_right" s__law_answers_right P__law_answers_right cA) (B : Blt mg) (T : PTxt K mg C) (R : RefK K mg CI CC CPo CE) (DR : Dfn K mg "_law_refused" s__law_refused P__law_refused) (TB : LamX.TabB base mg cA PA) (nP : PL ≠ PA)
    (CO : Cal P w K mg base 14 "_law_odd" P__law_odd spOdd) (CG : Cal P w K mg base 14 "_law_great" P__law_great spGreat) (CP : Cal P w K mg base 13 "_law_pick" P__law_pick (spPickL K)) (LI : Cal P w K mg base 1 "_law_is_int" P__law_is_int spLIsInt)
    (hPA : MethX P w K mg base C "post_after" 4 P_Painter_post_after (spAsk C CC 0 (10 ^ 80))) (hCA : MethX P w K mg base C "count_at" 4 P_Painter_count_at (spAsk C CPo (-(10 ^ 80)) (10 ^ 80))) (hDA : MethX P w K mg base C "day_at" 5 P_Painter_day_at (spAsk C CPo (-(10 ^ 80)) (10 ^ 80))) :
    CalG P w K mg base 21 "_law_answers_right" P__law_answers_right (spAR C (TT2 PL PA qL)) := by
  refine D.calG sc__law_answers_right (fun vs H Q E h => ?_) fun f A outer s H vs Q E hs hr h => ?_
  · obtain ⟨p, l, a, n, nm, d, q, s, rfl, _⟩ := h
    rfl
  obtain ⟨p, l, a, n, nm, d, q0, st, rfl, al, hn, sn, s0, s1, q⟩ := h
  have hs : Still (A.deeper (envOfC "_law_answers_right" (defScope s__law_answers_right) s.heap.objs.size f (.ref cA))) := hs
  have hu6 : (A.deeper (envOfC "_law_answers_right" (defScope s__law_answers_right) s.heap.objs.size f (.ref cA))).units + 66 < cLine := by have := hr.un; omega
  have hmT : (PA, (envOfC "_law_answers_right" (defScope s__law_answers_right) s.heap.objs.size f (.ref cA)).qual ++ "<lambda>") ∈ TT2 PL PA qL := List.mem_cons_of_mem _ List.mem_cons_self
  have huT : ∀ p ∈ TT2 PL PA qL, p.1 = PA → p.2 = (envOfC "_law_answers_right" (defScope s__law_answers_right) s.heap.objs.size f (.ref cA)).qual ++ "<lambda>" := by
    intro p hp e
    rcases List.mem_cons.mp hp with rfl | hp
    · exact absurd e nP
    · rw [List.mem_singleton.mp hp]
      rfl
  refine ⟨_, (pss_cons (ps_set (i := 2) sc__law_answers_right.nd rfl (Or.inl rfl) (pe_op op_mulW (pe_op op_pow pe_int pe_int) (pe_op op_pow pe_int pe_int))) (pss_cons (ps_set (i := 3) sc__law_answers_right.nd rfl (Or.inl rfl) (pe_lst (pa_cons (pv 2) (pa_cons (pe_op op_add (pv 2) pe_int) (pa_cons (pe_un un_neg pe_int) (pa_cons (pe_op op_sub pe_int (pv 2)) (pa_cons (pe_op op_sub (pe_op op_sub pe_int (pv 2)) pe_int) (pa_cons pe_int (pa_cons (pe_cal CG (hr.mono (by decide)) (pa_cons (pv 0) (pa_cons pe_int pa_nil))) pa_nil))))))))) (pss_cons (ps_for PassesOwn.never rfl (pi_list (pe_lst (pa_cons (pe_cal CO (hr.mono (by decide)) (pa_cons (pv 0) pa_nil)) (pa_cons (pe_cal CP (hr.mono (by decide)) (pa_cons (pv 0) (pa_cons (pv 3) pa_nil))) (pa_cons (pe_cal CP (hr.mono (by decide)) (pa_cons (pv 0) (pa_cons (pv 3) pa_nil))) pa_nil))))) (pg_name (i := 4) sc__law_answers_right.nd rfl (Or.inr rfl)) (pss_cons (ps_set (i := 5) sc__law_answers_right.nd rfl (Or.inl rfl) (pe_callB (call_reprQ hs hu6) rfl B.repr_ (by decide +kernel) (pa_cons (pv 4) pa_nil))) (C8.pss_cut (ps_set (i := 6) sc__law_answers_right.nd rfl (Or.inl rfl) (pe_ifExp (pt_val (pe_cal LI (hr.mono (by decide)) (pa_cons (pv 4) (pa_cons pe_int (pa_cons (pv 2) pa_nil))))) pe_non (pe_tup (pa_cons pe_str (pa_cons (pv 5) pa_nil))))) (C8.pss_cut (ps_if (pt_cmpR (op_neD hr.units) (pe_ref (k := 6) DR B R hs TB rfl hmT huT (hr.mono (by decide)) (show LamX.LamS (defScope s__law_answers_right) _ from LamX.lamS_by (by decide +kernel)) rfl (fun _ _ _ _ _ => rfl) (fun A o s H E f c' hr => pe_meX (pv 1) T.cl hPA (hr.mono (by decide)) (passD rfl rfl rfl rfl) (pa_cons (pv 4) pa_nil))) (pv 6) (nomark _)) (pss_one (ps_ret pe_bl)) pss_nil) (C8.pss_cut (ps_set (i := 6) sc__law_answers_right.nd rfl (Or.inl rfl) (pe_ifExp (pt_val (pe_cal LI (hr.mono (by decide)) (pa_cons (pv 4) (pa_cons (pe_op op_sub pe_int (pv 2)) (pa_cons (pv 2) pa_nil))))) pe_non (pe_tup (pa_cons pe_str (pa_cons (pv 5) pa_nil))))) (C8.pss_cut (ps_if (pt_cmpR (op_neD hr.units) (pe_ref (k := 6) DR B R hs TB rfl hmT huT (hr.mono (by decide)) (show LamX.LamS (defScope s__law_answers_right) _ from LamX.lamS_by (by decide +kernel)) rfl (fun _ _ _ _ _ => rfl) (fun A o s H E f c' hr => pe_meX (pv 1) T.cl hCA (hr.mono (by decide)) (passD rfl rfl rfl rfl) (pa_cons (pv 4) pa_nil))) (pv 6) (nomark _)) (pss_one (ps_ret pe_bl)) pss_nil) (pss_one (ps_if (PW.pt (pw_or (pt_cmpR (op_neD hr.units) (pe_ref (k := 6) DR B R hs TB rfl hmT huT (hr.mono (by decide)) (show LamX.LamS (defScope s__law_answers_right) _ from LamX.lamS_by (by decide +kernel)) rfl (fun _ _ _ _ _ => rfl) (fun A o s H E f c' hr => pe_meX (pv 1) T.cl hDA (hr.mono (by decide)) (passD rfl rfl rfl rfl) (pa_cons (pv 4) pa_nil))) (pv 6) (nomark _)) (pw_or1 (pt_cmpR op_ne (pe_callB (call_reprQ hs hu6) rfl B.repr_ (by decide +kernel) (pa_cons (pv 4) pa_nil)) (pv 5) (nomark _))))) (pss_one (ps_ret pe_bl)) pss_nil)))))))) (pss_one (ps_ret pe_bl))))), ?_⟩
  have pw : ∀ j : Int, 0 ≤ j → j ≤ 1000000 → (0 ≤ j ∧ j ≤ 1000000 ∧ (10 : Int).natAbs < 2 ^ 64) := fun j a b => ⟨a, b, by decide⟩
  refine ⟨_, _, rfl, rfl, pw _ (by decide) (by decide), _, _, rfl, rfl, pw _ (by decide) (by decide), _, _, rfl, rfl, wide_mul (a := 200) (b := 200) (by decide) (by decide) (by decide) (by decide) (by decide), ?_⟩
  refine ⟨_, rfl, _, rfl, _, _, rfl, rfl, _, rfl, _, rfl, _, _, rfl, rfl, _, rfl, _, _, rfl, rfl, _, _, rfl, rfl, _, rfl, p, l, 80, n, rfl, al.pen, by omega, by decide, by decide, fun vg H1 g0 g1 P1 k1 => ⟨by show 7 ≤ sizeLine; decide, fun L hL => ?_⟩⟩
  obtain ⟨kvs, hp⟩ := al.pen.dk
  have P2 := P1.new (o := .lst [.int (10 ^ 40 * 10 ^ 40), .int (10 ^ 40 * 10 ^ 40 + 1), .int (-1), .int (0 - 10 ^ 40 * 10 ^ 40), .int (0 - 10 ^ 40 * 10 ^ 40 - 1), .int 0, .int vg]) hL
  have K1 : Keep p H (upd H1 L (.lst [.int (10 ^ 40 * 10 ^ 40), .int (10 ^ 40 * 10 ^ 40 + 1), .int (-1), .int (0 - 10 ^ 40 * 10 ^ 40), .int (0 - 10 ^ 40 * 10 ^ 40 - 1), .int 0, .int vg])) := k1.new hL
  have hL1 : (upd H1 L (.lst [.int (10 ^ 40 * 10 ^ 40), .int (10 ^ 40 * 10 ^ 40 + 1), .int (-1), .int (0 - 10 ^ 40 * 10 ^ 40), .int (0 - 10 ^ 40 * 10 ^ 40 - 1), .int 0, .int vg])) L = some (.lst [.int (10 ^ 40 * 10 ^ 40), .int (10 ^ 40 * 10 ^ 40 + 1), .int (-1), .int (0 - 10 ^ 40 * 10 ^ 40), .int (0 - 10 ^ 40 * 10 ^ 40 - 1), .int 0, .int vg]) := upd_same
  have ends : ∀ v ∈ ([.int (10 ^ 40 * 10 ^ 40), .int (10 ^ 40 * 10 ^ 40 + 1), .int (-1), .int (0 - 10 ^ 40 * 10 ^ 40), .int (0 - 10 ^ 40 * 10 ^ 40 - 1), .int 0, .int vg] : List V), ∃ i : Int, v = .int i ∧ i.natAbs < 2 ^ 390 := by
    refine List.forall_mem_cons.mpr ⟨⟨_, rfl, by decide +kernel⟩, ?_⟩
    refine List.forall_mem_cons.mpr ⟨⟨_, rfl, by decide +kernel⟩, ?_⟩
    refine List.forall_mem_cons.mpr ⟨⟨_, rfl, by decide +kernel⟩, ?_⟩
    refine List.forall_mem_cons.mpr ⟨⟨_, rfl, by decide +kernel⟩, ?_⟩
    refine List.forall_mem_cons.mpr ⟨⟨_, rfl, by decide +kernel⟩, ?_⟩
    refine List.forall_mem_cons.mpr ⟨⟨_, rfl, by decide +kernel⟩, ?_⟩
    exact List.forall_mem_cons.mpr ⟨⟨_, rfl, by omega⟩, fun _ h => nomatch h⟩
  refine ⟨_, rfl, p, l, _, rfl, P2, by omega, fun v1 d1 H3 hd1 od1 P3 k3 => ?_⟩
  have hp2 := P2.dk
  obtain ⟨kv2, hp2⟩ := hp2
  obtain ⟨kv3, hp3⟩ := P3.dk
  have nL := (ne_of hL1 hp2 (by intro z; cases z))
  refine ⟨_, rfl, _, rfl, p, l, L, _, _, rfl, P3, by omega, SqL.of (k3 _ _ hL1 nL), by show 1 ≤ 7; decide, by show 7 ≤ 1000000; decide, fun v2 H4 m2 P4 k4 => ?_⟩
  obtain ⟨kv4, hp4⟩ := P4.dk
  refine ⟨_, rfl, _, rfl, p, l, L, _, _, rfl, P4, by omega, SqL.of (k4 _ _ (k3 _ _ hL1 nL) nL), by show 1 ≤ 7; decide, by show 7 ≤ 1000000; decide, fun v3 H5 m3 P5 k5 => ?_⟩
  refine ⟨by show 3 ≤ sizeLine; decide, fun Lx hLx => ⟨Lx, rfl, ⟨_, SqL.of upd_same⟩, ?_⟩⟩
  obtain ⟨kv5, hp5⟩ := P5.dk
  obtain ⟨i2, rfl, b2⟩ := ends v2 m2
  obtain ⟨i3, rfl, b3⟩ := ends v3 m3
  have KK : Keep p H H5 := ((K1.trans k3).trans k4).trans k5
  have sL := same_new hLx (.lst [v1, .int i2, .int i3])
  obtain ⟨dx, ha⟩ := al.pn
  have T0 : Turn C (TT2 PL PA qL) H (upd H5 Lx (.lst [v1, .int i2, .int i3])) p l a (n + 108) nm d q0 st Lx [v1, .int i2, .int i3] := by
    refine ⟨⟨(P5.same sL).le (by omega), ⟨dx, sL _ _ (KK _ _ ha (ne_of ha hp (by intro z; cases z)))⟩, tabs_same sL (tabs_keep KK hp al.tb)⟩, upd_same, ?_, (KeepN.of KK).trans (KeepN.same sL)⟩
    refine List.forall_mem_cons.mpr ⟨⟨d1, ((hd1.keep k4 hp3).keep k5 hp4).same sL, od1⟩, ?_⟩
    exact List.forall_mem_cons.mpr ⟨Drawn1.int b2, List.forall_mem_cons.mpr ⟨Drawn1.int b3, fun _ h => nomatch h⟩⟩
  clear k3 k4 k5 K1 hL1 hp3 hp4 hp5 hp2 P2 P3 P4 P5 KK sL ends
  refine for_list (K := K) (a := Lx) (xs := [v1, .int i2, .int i3]) (fun i σ' H' => ∃ (o4 o5 o6 : Option V), σ' = [some (.ref p), some (.ref a), some (.int (10 ^ 40 * 10 ^ 40)), some (.ref L), o4, o5, o6] ∧ Turn C (TT2 PL PA qL) H H' p l a (n + 108) nm d q0 st Lx [v1, .int i2, .int i3])
    ⟨none, none, none, rfl, T0⟩ (fun i σ' H' _ ⟨_, _, _, _, t⟩ => SqL.of t.lx) ?_ ?_
  · rintro i v σ' H6 hx ⟨o4, o5, o6, rfl, T6⟩
    have hxm : v ∈ [v1, .int i2, .int i3] := List.mem_of_getElem? hx
    obtain ⟨dd, hv, od⟩ := T6.dr v hxm
    have sk : PyData.strOk dd.shown = true := od.so
    refine ⟨_, rfl, v, dd, 400, 2, rfl, hv.any, od.sx, by decide, by decide, fun z ez => ?_⟩
    subst ez
    -- what is due of post_after
    refine ⟨fun σ' H' => ∃ due, σ' = [some (.ref p), some (.ref a), some (.int (10 ^ 40 * 10 ^ 40)), some (.ref L), some v, some (.str dd.shown), some due] ∧ RefV H' due "count" dd.shown (betw dd 0 (10 ^ 80)) ∧ DqN H' p 1 v dd ∧ Turn C (TT2 PL PA qL) H H' p l a (n + 108) nm d q0 st Lx [v1, .int i2, .int i3], ?_, ?_⟩
    · refine ⟨_, rfl, _, rfl, v, dd, _, _, rfl, hv.any, betw dd 0 (10 ^ 80), by rw [← big_most], ?_⟩
      cases b : betw dd 0 (10 ^ 80) with
      | true => exact iteT ⟨.non, rfl, .inl ⟨rfl, rfl⟩, hv, T6⟩
      | false => exact iteF ⟨_, rfl, by show 2 ≤ sizeLine; decide, fun t ht => ⟨.ref t, rfl, .inr ⟨rfl, t, rfl, upd_same⟩, hv.same (same_new ht _), T6.new ht⟩⟩
    rintro σ' H7 ⟨due, rfl, rv, hv7, T7⟩
    obtain ⟨kv7, hp7⟩ := T7.al.pen.dk
    -- post_after
    refine ⟨fun σ' H' => σ' = [some (.ref p), some (.ref a), some (.int (10 ^ 40 * 10 ^ 40)), some (.ref L), some v, some (.str dd.shown), some due] ∧ DqN H' p 1 v dd ∧ Turn C (TT2 PL PA qL) H H' p l a (n + 108) nm d q0 st Lx [v1, .int i2, .int i3], ?_, ?_⟩
    · refine ask_read T7.al sn s0 s1 hv7 od (.inl ⟨rfl, rfl⟩) rfl (fun H Q q => ⟨_, rfl, q⟩) (fun H Q q => ⟨_, rfl, q⟩) fun x H8 rx k8 P8 T8 => ?_
      have rd := rv.keepN k8 hp7
      refine ⟨_, rfl, _, _, rx.dp, rd.dp, refD_shaped (by decide +kernel) sk, refD_shaped (by decide +kernel) sk, _, rfl, ?_⟩
      rw [refD_eqv]
      exact iteF ⟨rfl, hv7.keepN k8 hp7, T7.on k8 P8 T8⟩
    rintro σ' H9 ⟨rfl, hv9, T9⟩
    -- what is due of count_at and day_at
    have e0 : (0 : Int) - 10 ^ 40 * 10 ^ 40 = -(10 ^ 80) := by decide +kernel
    refine ⟨fun σ' H' => ∃ due, σ' = [some (.ref p), some (.ref a), some (.int (10 ^ 40 * 10 ^ 40)), some (.ref L), some v, some (.str dd.shown), some due] ∧ RefV H' due "post" dd.shown (betw dd (-(10 ^ 80)) (10 ^ 80)) ∧ DqN H' p 1 v dd ∧ Turn C (TT2 PL PA qL) H H' p l a (n + 108) nm d q0 st Lx [v1, .int i2, .int i3], ?_, ?_⟩
    · refine ⟨_, rfl, _, rfl, _, _, rfl, rfl, _, rfl, v, dd, _, _, rfl, hv9.any, betw dd (-(10 ^ 80)) (10 ^ 80), by rw [← e0, ← big_most], ?_⟩
      cases b : betw dd (-(10 ^ 80)) (10 ^ 80) with
      | true => exact iteT ⟨.non, rfl, .inl ⟨rfl, rfl⟩, hv9, T9⟩
      | false => exact iteF ⟨_, rfl, by show 2 ≤ sizeLine; decide, fun t ht => ⟨.ref t, rfl, .inr ⟨rfl, t, rfl, upd_same⟩, hv9.same (same_new ht _), T9.new ht⟩⟩
    rintro σ' H10 ⟨due2, rfl, rv2, hv10, T10⟩
    obtain ⟨kv10, hp10⟩ := T10.al.pen.dk
    -- count_at
    refine ⟨fun σ' H' => σ' = [some (.ref p), some (.ref a), some (.int (10 ^ 40 * 10 ^ 40)), some (.ref L), some v, some (.str dd.shown), some due2] ∧ RefV H' due2 "post" dd.shown (betw dd (-(10 ^ 80)) (10 ^ 80)) ∧ DqN H' p 1 v dd ∧ Turn C (TT2 PL PA qL) H H' p l a (n + 108) nm d q0 st Lx [v1, .int i2, .int i3], ?_, ?_⟩
    · refine ask_read T10.al sn s0 s1 hv10 od (.inr ⟨rfl, rfl⟩) rfl (fun H Q q => ⟨_, rfl, q⟩) (fun H Q q => ⟨_, rfl, q⟩) fun x H11 rx k11 P11 T11 => ?_
      have rd := rv2.keepN k11 hp10
      refine ⟨_, rfl, _, _, rx.dp, rd.dp, refD_shaped (by decide +kernel) sk, refD_shaped (by decide +kernel) sk, _, rfl, ?_⟩
      rw [refD_eqv]
      exact iteF ⟨rfl, rd, hv10.keepN k11 hp10, T10.on k11 P11 T11⟩
    rintro σ' H12 ⟨rfl, rv12, hv12, T12⟩
    obtain ⟨kv12, hp12⟩ := T12.al.pen.dk
    -- day_at
    refine ask_read T12.al sn s0 s1 hv12 od (.inr ⟨rfl, rfl⟩) rfl (fun H Q q => ⟨_, rfl, q⟩) (fun H Q q => ⟨_, rfl, q⟩) fun x H13 rx k13 P13 T13 => ?_
    have rd := rv12.keepN k13 hp12
    have hv13 := hv12.keepN k13 hp12
    refine ⟨_, rfl, _, _, rx.dp, rd.dp, refD_shaped (by decide +kernel) sk, refD_shaped (by decide +kernel) sk, _, rfl, ?_⟩
    rw [refD_eqv]
    refine iteF ⟨_, rfl, v, dd, 400, 2, rfl, hv13.any, od.sx, by decide, by decide, fun z ez => ⟨_, rfl, rfl, _, rfl, ?_⟩⟩
    subst ez
    have en : (!decide (V.str dd.shown = V.str dd.shown)) = false := by rw [decide_eq_true rfl]; rfl
    rw [en]
    exact iteF ⟨_, _, _, rfl, T12.on k13 P13 T13⟩
  · rintro σ' H6 ⟨o4, o5, o6, rfl, T6⟩
    exact q H6 (T6.al.pen.le (by omega)) T6.kp T6.al.tb
end
end Ur
/-! KX6: Painter(..) by position and by name, in a lambda. -/
namespace Ur
open PySem PySem.Spec PyProof.Rows L2
/-- the values by position, then those by name, the other way round -/
def gRev {α : Type} (us ws : List α) : List α := us ++ ws.reverse
theorem vals_rev_ {xs : List V} {us : List Value} (r : Vals xs us) : Vals xs.reverse us.reverse := by
  induction r with
  | nil => exact .nil
  | cons h t ih =>
    rw [List.reverse_cons, List.reverse_cons]
    exact ih.append (.cons h .nil)
theorem kbn_rev {K : PySem.W.Frag} {x qual : Str} {st : Stmt} {f : Addr} {fd : FuncData} {ps ks : List Str} {n : Nat} (F : Fun K x qual st f fd)
    (h : ∀ (kV doc pm : Value) (an : Option Addr) (cdv ct : Value) (us ws : List Value), us.length = n → ws.length = ks.length → bindArgs (PySem.W.fnOf x qual (defArgs st) (defBody st) (defScope st) .none kV doc pm an cdv ct) ⟨us, ks.zip ws⟩ = pure (ps.zip (gRev us ws))) :
    KBn K fd ps n ks gRev gRev := by
  obtain ⟨oc, od, kV, doc, pm, an, cdv, ct, osl, e, lk, hcd⟩ := F.ex
  subst e
  refine ⟨fun s us ws _ l1 l2 => BindsTo.of_looks fun M => .of_pure (h kV doc pm an cdv ct us ws l1 l2), fun r z => r.append (vals_rev_ z)⟩
/-- what makes a painter, of any values -/
def MkX (P : Program) (w : World) (K : PySem.W.Frag) (mg : Str → Option Value) (base : Heap) (C CI : Addr) : Prop :=
  ∃ f fd, Mk K C f ∧ FnOk P w K mg base (L2.CX P w) 3 f fd P_Painter_init (spInitX C CI) ∧ Binds K fd P_Painter_init [] ∧ KBn K fd P_Painter_init 1 ["stride", "post", "day", "name"] gRev gRev
theorem made_any {C CI CC CPo x dx : Addr} {H1 : Hp} {Qc R : VK} {v1 v2 v3 v4 : V} {d1 d2 d3 d4 : PyData} (a1 : Any H1 v1 d1) (a2 : Any H1 v2 d2) (a3 : Any H1 v3 d3) (a4 : Any H1 v4 d4) (ss : StrS d1) (hx : H1 x = none) (hd : H1 dx = none) (nd : dx ≠ x)
    (hR : ∀ v H', Qc .non H' → R v H') (h : ∀ H2, Same H1 H2 → Qc (optS (dueD d1 d2 d3 d4)) H2) :
    spInitX C CI [.ref x, v1, v2, v3, v4] (upd (upd H1 dx (.own x)) x (.ins C dx [])) (fun v H2 => v = .non ∧ R (.ref x) H2) (RefW CI CC CPo Qc) := by
  have sm : Same H1 (upd (upd H1 dx (.own x)) x (.ins C dx [])) := fun b o e => by
    rw [upd_ne (ne_of_none e hx), upd_ne (ne_of_none e hd)]
    exact e
  refine ⟨x, dx, v1, v2, v3, v4, d1, d2, d3, d4, rfl, upd_same, a1.same sm, a2.same sm, a3.same sm, a4.same sm, ss.short, ?_⟩
  cases e : dueD d1 d2 d3 d4 with
  | none =>
    rw [e] at h
    intro H' k
    refine ⟨rfl, hR _ _ (h H' fun b o z => k b o (sm _ _ z) (ne_of_none z hx))⟩
  | some r =>
    rw [e] at h
    intro q hq
    exact .inl ⟨q, r, rfl, rfl, upd_same, fun H2 s2 => h H2 ((sm.trans (same_new hq _)).trans s2)⟩
theorem ask_make {T : List (Addr × Str)} {C CI CC CPo p l : Addr} {n : Nat} {H : Hp} {Qc : VK} {v1 v2 v3 v4 : V} {d1 d2 d3 d4 : PyData} {σ : L2.St} {t1 t2 t3 t4 : TE} (pen : Pen H p l n) (tb : LamX.Tabs T H)
    (a1 : DqN H p 1 v1 d1) (a2 : DqN H p 1 v2 d2) (a3 : DqN H p 1 v3 d3) (a4 : DqN H p 1 v4 d4) (ss : StrS d1) (h1 : ∀ H Q, Q v1 H → t1 σ H Q) (h2 : ∀ H Q, Q v2 H → t2 σ H Q) (h3 : ∀ H Q, Q v3 H → t3 σ H Q) (h4 : ∀ H Q, Q v4 H → t4 σ H Q)
    (h : ∀ H2, KeepN p H H2 → Pen H2 p l n → LamX.Tabs T H2 → Qc (optS (dueD d1 d2 d3 d4)) H2) :
    LamX.tLam T (TTref CI CC CPo) (fun E => tMake C (spInitX C CI) [] E (tCons t1 (tCons t2 (tCons t3 (tCons t4 tNil))))) σ H Qc := by
  obtain ⟨kvs, hp⟩ := pen.dk
  refine ⟨tb, fun H1 eN T1 => ⟨RefW CI CC CPo Qc, fun _ _ _ z => z, fun R hR => h1 _ _ (h2 _ _ (h3 _ _ (h4 _ _ fun x dx hx hd nd => ?_)))⟩⟩
  have k1 : KeepN p H H1 := KeepN.ext eN
  exact made_any (a1.keepN k1 hp).any (a2.keepN k1 hp).any (a3.keepN k1 hp).any (a4.keepN k1 hp).any ss hx hd nd hR fun H2 sm => h H2 (k1.trans (KeepN.same sm)) ((pen.ext eN).same sm) (tabs_same sm T1)
theorem ask_makeK {T : List (Addr × Str)} {C CI CC CPo p l : Addr} {n : Nat} {H : Hp} {Qc : VK} {v1 v2 v3 v4 : V} {d1 d2 d3 d4 : PyData} {σ : L2.St} {t1 t2 t3 t4 : TE} (pen : Pen H p l n) (tb : LamX.Tabs T H)
    (a1 : DqN H p 1 v1 d1) (a2 : DqN H p 1 v2 d2) (a3 : DqN H p 1 v3 d3) (a4 : DqN H p 1 v4 d4) (ss : StrS d1) (h1 : ∀ H Q, Q v1 H → t1 σ H Q) (h2 : ∀ H Q, Q v2 H → t2 σ H Q) (h3 : ∀ H Q, Q v3 H → t3 σ H Q) (h4 : ∀ H Q, Q v4 H → t4 σ H Q)
    (h : ∀ H2, KeepN p H H2 → Pen H2 p l n → LamX.Tabs T H2 → Qc (optS (dueD d1 d2 d3 d4)) H2) :
    LamX.tLam T (TTref CI CC CPo) (fun E => tMakeK C 0 4 (spInitX C CI) gRev E tNil (tCons t4 (tCons t3 (tCons t2 (tCons t1 tNil))))) σ H Qc := by
  obtain ⟨kvs, hp⟩ := pen.dk
  refine ⟨tb, fun H1 eN T1 => ⟨RefW CI CC CPo Qc, fun _ _ _ z => z, fun R hR => h4 _ _ (h3 _ _ (h2 _ _ (h1 _ _ ⟨rfl, rfl, fun x dx hx hd nd => ?_⟩)))⟩⟩
  have k1 : KeepN p H H1 := KeepN.ext eN
  exact made_any (a1.keepN k1 hp).any (a2.keepN k1 hp).any (a3.keepN k1 hp).any (a4.keepN k1 hp).any ss hx hd nd hR fun H2 sm => h H2 (k1.trans (KeepN.same sm)) ((pen.ext eN).same sm) (tabs_same sm T1)
theorem optS_ne {r : Option Str} : scal (optS r) (optS r) = true := by cases r <;> rfl
theorem Row.keepN {H H' : Hp} {t p : Addr} {R : Int → Int → Int → Prop} {kvs : List (Key × V)} (r : Row H t R) (k : KeepN p H H') (hp : H p = some (.dK kvs)) : Row H' t R :=
  let ⟨nm, d, q, s, e, z⟩ := r; ⟨nm, d, q, s, k _ _ e (ne_of e hp (by intro z; cases z)) (fun _ z => by cases z), z⟩
end Ur
/-! L02: the law. -/
namespace Ur
open PySem PySem.Spec PyProof.Rows L2
abbrev s_law : Stmt := (topS 33)
abbrev N_sc_law : List Str := ["_law_script", "_law_pen_here", "_law_turn", "_law_some", "_law_word", "_law_begin", "_law_place", "_law_step", "_law_kept", "_law_due_here", "_law_thing", "_law_part"]
abbrev P_law : List Str := ["_law_script"]
theorem sc_law : FnScope N_sc_law P_law (defScope s_law) := ⟨rfl, rfl, rfl, by decide +kernel, rfl, by decide +kernel, by decide +kernel⟩
def spLaw (K : PySem.W.Frag) (T : List (Addr × Str)) : Sp := fun vs H Q _ => ∃ (a : Addr) (ns : List Int), vs = [.ref a] ∧ SqL K H a (ns.map V.int) ∧ ns.length ≤ 63 ∧ LamX.Tabs T H ∧ ∀ H', Q (.bl true) H'
/-- a drawn argument -/
structure ArgD (H : Hp) (p : Addr) (v : V) (d : PyData) : Prop where
  dq : DqN H p 1 v d
  sx : ShX d 400 2
  st : StrS d
theorem ArgD.keepN {H H' : Hp} {p : Addr} {v : V} {d : PyData} {kk : List (Key × V)} (k : KeepN p H H') (hp : H p = some (.dK kk)) (h : ArgD H p v d) : ArgD H' p v d := ⟨h.dq.keepN k hp, h.sx, h.st⟩
theorem ArgD.odd {H : Hp} {p : Addr} {v : V} {d : PyData} (h : DqN H p 1 v d) (o : OddD d) : ArgD H p v d := ⟨h, o.sx, o.st⟩
theorem ArgD.int {H : Hp} {p : Addr} {i : Int} (h : i.natAbs < 2 ^ 390) : ArgD H p (.int i) (.int i) := .odd (DqN.flat (.int i)) (OddD.int h)
theorem ArgD.flat {H : Hp} {p : Addr} {v : V} {d : PyData} (f : Flat v d) (h : (d.showable && (decide (d.depth ≤ 2) && (d.leavesShort 1930 && (decide (d.weight ≤ 400) && (strB d && PyData.strOk d.shown))))) = true) : ArgD H p v d := .odd (DqN.flat f) (.closed h)
theorem let_strOk {z : Str} (h : LetOk z) : PyData.strOk z = true := arr_all fun c hc => decide_eq_true (by have := h c hc; omega)
theorem ArgD.name {H : Hp} {p : Addr} {z : Str} (h : NameOk z) : ArgD H p (.str z) (.str z) := by
  refine ⟨DqN.flat (.str z), (Shw.str fun c hc => by have := h.2.2 c hc; omega).x.mono (Nat.le_trans h.2.1 (by decide)) (by decide), ?_⟩
  intro y e
  obtain rfl := PyData.str.inj e
  exact ⟨Nat.le_trans h.2.1 (by decide), let_strOk h.2.2⟩
theorem arg_pick {H H' : Hp} {p : Addr} {xs : List V} {v : V} {kk : List (Key × V)} (all : ∀ v ∈ xs, ∃ d, ArgD H p v d) (m : v ∈ xs) (k : Keep p H H') (hp : H p = some (.dK kk)) : ∃ d, ArgD H' p v d :=
  let ⟨d, h⟩ := all v m
  ⟨d, h.keepN (KeepN.of k) hp⟩
section
variable {P : Program} {w : World} {K : PySem.W.Frag} {mg : Str → Option Value} {base : Heap} {C CI CC CPo CE cL PL PA : Addr}
set_option pp.deepTerms false in
set_option pp.maxSteps 300 in
set_option maxHeartbeats 40000000 in
theorem ok_law {f pN fN : Addr} {fd fdN : FuncData} (F : Fun K "law" "law" s_law f fd) (code : fd.code = .ref cL) (B : Blt mg) (T : PTxt K mg C) (R : RefK K mg CI CC CPo CE) (DR : Dfn K mg "_law_refused" s__law_refused P__law_refused) (TB : LamX.TabB base mg cL PL) (nP : PL ≠ PA)
    (smP : SMet K C (.type "type") "is_name" pN fN) (FN : FnOk P w K mg base CX0 1 fN fdN P_Painter_is_name spIsNameX) (bN : Binds K fdN P_Painter_is_name []) (hMk : MkP P w K mg base C) (hMkX : MkX P w K mg base C CI)
    (CPen : Cal P w K mg base 1 "_law_pen" P__law_pen (spPen K)) (CN : Cal P w K mg base 14 "_law_names" P__law_names spNames) (CO : Cal P w K mg base 14 "_law_odd" P__law_odd spOdd) (CP : Cal P w K mg base 13 "_law_pick" P__law_pick (spPickL K)) (CG : Cal P w K mg base 14 "_law_great" P__law_great spGreat)
    (CDue : Cal P w K mg base 2 "_law_due" P__law_due spDue) (LN : Cal P w K mg base 1 "_law_is_name" P__law_is_name spLIsName) (CPs : Cal P w K mg base 16 "_law_painters" P__law_painters spPainters) (CAR : CalG P w K mg base 21 "_law_answers_right" P__law_answers_right (spAR C (TT2 PL PA (lamQ "law" s_law)))) :
    FnG P w K mg base 40 f fd P_law (spLaw K (TT2 PL PA (lamQ "law" s_law))) := by
  refine runGc F code sc_law (fun vs H Q E h => ?_) (fun A outer s H vs Q E hs hr h => ?_)
  · obtain ⟨a, ns, rfl, _⟩ := h
    rfl
  obtain ⟨a, ns, rfl, hS, hlen, tb0, q⟩ := h
  have hs : Still (A.deeper (envOfC "law" (defScope s_law) s.heap.objs.size f (.ref cL))) := hs
  have hu6 : (A.deeper (envOfC "law" (defScope s_law) s.heap.objs.size f (.ref cL))).units + 66 < cLine := by have := hr.un; omega
  have hmT : (PL, (envOfC "law" (defScope s_law) s.heap.objs.size f (.ref cL)).qual ++ "<lambda>") ∈ TT2 PL PA (lamQ "law" s_law) := List.mem_cons_self
  have huT : ∀ p ∈ TT2 PL PA (lamQ "law" s_law), p.1 = PL → p.2 = (envOfC "law" (defScope s_law) s.heap.objs.size f (.ref cL)).qual ++ "<lambda>" := by
    intro p hp e
    rcases List.mem_cons.mp hp with rfl | hp
    · rfl
    · rw [List.mem_singleton.mp hp] at e
      exact absurd e.symm nP
  obtain ⟨f1, fd1, M1, F1, b1, kb1⟩ := hMkX
  have pw : ∀ k : Int, 0 ≤ k → k ≤ 1000000 → CPow 10 k := fun k h0 h1 => ⟨h0, h1, by decide⟩
  refine ⟨_, (pss_cons (ps_set (i := 1) sc_law.nd rfl (Or.inl rfl) (pe_cal CPen (hr.mono (by decide)) (pa_cons (pv 0) pa_nil))) (pss_cons (ps_for PassesOwn.never rfl (pi_range1 rfl B.range_ (pa_cons pe_int pa_nil)) (pg_name (i := 2) sc_law.nd rfl (Or.inl rfl)) (pss_cons (ps_set (i := 3) sc_law.nd rfl (Or.inl rfl) (pe_lstS (pa_cons (pe_ix ix_list (pe_cal CN (hr.mono (by decide)) (pa_cons (pv 1) (pa_cons pe_int pa_nil))) pe_int (fun _ _ => rfl)) (pa_cons pe_str (pa_cons pe_str (pa_cons pe_str (pa_cons pe_str (pa_cons pe_str (pa_cons pe_str (pa_cons pe_str (pa_cons (pe_cal CO (hr.mono (by decide)) (pa_cons (pv 1) pa_nil)) pa_nil))))))))))) (C8.pss_cut (ps_set (i := 4) sc_law.nd rfl (Or.inr rfl) (pe_cal CP (hr.mono (by decide)) (pa_cons (pv 1) (pa_cons (pv 3) pa_nil)))) (C8.pss_cut (ps_set (i := 5) sc_law.nd rfl (Or.inr rfl) (pe_cal CP (hr.mono (by decide)) (pa_cons (pv 1) (pa_cons (pe_lstS (pa_cons pe_int (pa_cons (pe_op op_pow pe_int pe_int) (pa_cons (pe_cal CG (hr.mono (by decide)) (pa_cons (pv 1) (pa_cons pe_int pa_nil))) (pa_cons (pe_un un_neg pe_int) (pa_cons (pe_op op_add (pe_op op_pow pe_int pe_int) pe_int) (pa_cons pe_bl (pa_cons (pe_cal CO (hr.mono (by decide)) (pa_cons (pv 1) pa_nil)) pa_nil)))))))) pa_nil)))) (pss_cons (ps_set (i := 3) sc_law.nd rfl (Or.inl rfl) (pe_lstS (pa_cons (pe_un un_neg (pe_op op_pow pe_int pe_int)) (pa_cons (pe_op op_pow pe_int pe_int) (pa_cons pe_int (pa_cons (pe_cal CG (hr.mono (by decide)) (pa_cons (pv 1) (pa_cons pe_int pa_nil))) (pa_cons (pe_op op_add (pe_op op_pow pe_int pe_int) pe_int) (pa_cons (pe_op op_sub (pe_un un_neg (pe_op op_pow pe_int pe_int)) pe_int) (pa_cons (pe_cal CO (hr.mono (by decide)) (pa_cons (pv 1) pa_nil)) pa_nil))))))))) (C8.pss_cut (ps_set (i := 6) sc_law.nd rfl (Or.inr rfl) (pe_cal CP (hr.mono (by decide)) (pa_cons (pv 1) (pa_cons (pv 3) pa_nil)))) (pss_cons (ps_set (i := 3) sc_law.nd rfl (Or.inl rfl) (pe_lstS (pa_cons (pe_op op_pow pe_int pe_int) (pa_cons (pe_un un_neg (pe_op op_pow pe_int pe_int)) (pa_cons pe_int (pa_cons (pe_un un_neg pe_int) (pa_cons (pe_op op_add (pe_cal CG (hr.mono (by decide)) (pa_cons (pv 1) (pa_cons pe_int pa_nil))) pe_int) (pa_cons pe_int (pa_cons (pe_op op_add (pe_op op_pow pe_int pe_int) pe_int) (pa_cons (pe_cal CO (hr.mono (by decide)) (pa_cons (pv 1) pa_nil)) pa_nil)))))))))) (C8.pss_cut (ps_set (i := 7) sc_law.nd rfl (Or.inr rfl) (pe_cal CP (hr.mono (by decide)) (pa_cons (pv 1) (pa_cons (pv 3) pa_nil)))) (C8.pss_cut (ps_par (i := 8) (j := 9) rfl sc_law.nd rfl rfl (by decide) rfl rfl (pa_cons (pe_callB (call_reprQ hs hu6) rfl B.repr_ (by decide +kernel) (pa_cons (pe_lstS (pa_cons (pv 4) (pa_cons (pv 5) (pa_cons (pv 6) (pa_cons (pv 7) pa_nil))))) pa_nil)) (pa_cons (pe_cal CDue (hr.mono (by decide)) (pa_cons (pv 4) (pa_cons (pv 5) (pa_cons (pv 6) (pa_cons (pv 7) pa_nil))))) pa_nil)) (by rfl)) (C8.pss_cut (ps_if (pt_cmpR op_ne (pe_ref (k := 6) DR B R hs TB rfl hmT huT (hr.mono (by decide)) (show LamX.LamS (defScope s_law) _ from LamX.lamS_by (by decide +kernel)) rfl (fun _ _ _ _ _ => rfl) (fun A o s H E f c' hr => pe_make M1 F1 (hr.mono (by decide)) rfl T.mgP b1 .nil (passD rfl rfl rfl rfl) (pa_cons (pv 4) (pa_cons (pv 5) (pa_cons (pv 6) (pa_cons (pv 7) pa_nil)))))) (pv 9) (nomark _)) (pss_one (ps_ret pe_bl)) pss_nil) (C8.pss_cut (ps_if (pt_cmpR op_ne (pe_ref (k := 6) DR B R hs TB rfl hmT huT (hr.mono (by decide)) (show LamX.LamS (defScope s_law) _ from LamX.lamS_by (by decide +kernel)) rfl (fun _ _ _ _ _ => rfl) (fun A o s H E f c' hr => pe_makeK0 M1 F1 (hr.mono (by decide)) rfl T.mgP kb1 (passD rfl rfl rfl rfl) (pk_cons (pv 7) (pk_cons (pv 6) (pk_cons (pv 5) (pk_cons (pv 4) pk_nil)))))) (pv 9) (nomark _)) (pss_one (ps_ret pe_bl)) pss_nil) (C8.pss_cut (ps_if (pt_cmpR op_ne (pe_callB (call_reprQ hs hu6) rfl B.repr_ (by decide +kernel) (pa_cons (pe_lstS (pa_cons (pv 4) (pa_cons (pv 5) (pa_cons (pv 6) (pa_cons (pv 7) pa_nil))))) pa_nil)) (pv 8) (nomark _)) (pss_one (ps_ret pe_bl)) pss_nil) (pss_one (ps_for PassesOwn.never rfl (pi_list (pe_lstS (pa_cons (pv 4) (pa_cons (pv 5) (pa_cons (pe_cal CO (hr.mono (by decide)) (pa_cons (pv 1) pa_nil)) pa_nil))))) (pg_name (i := 10) sc_law.nd rfl (Or.inl rfl)) (pss_one (ps_if (pt_cmpR op_ne (pe_callB (call_reprQ hs hu6) rfl B.repr_ (by decide +kernel) (pa_cons (pe_smeth (pe_glob (v := .ref C) rfl T.mgP rfl) T.rd smP FN bN (hr.mono (by decide)) pass0 (pa_cons (pv 10) pa_nil)) pa_nil)) (pe_callB (call_reprQ hs hu6) rfl B.repr_ (by decide +kernel) (pa_cons (pe_cal LN (hr.mono (by decide)) (pa_cons (pv 10) pa_nil)) pa_nil)) (nomark _)) (pss_one (ps_ret pe_bl)) pss_nil)))))))))))))))) (pss_cons (ps_for PassesOwn.never rfl (pi_list (pe_op op_cat (pe_op op_cat (pe_cal CPs (hr.mono (by decide)) (pa_cons (pv 1) pa_nil)) (pe_cal CPs (hr.mono (by decide)) (pa_cons (pv 1) pa_nil))) (pe_lstS (pa_cons (pe_tup (pa_cons pe_str (pa_cons pe_int (pa_cons pe_int (pa_cons pe_int pa_nil))))) pa_nil)))) (pg_name (i := 11) sc_law.nd rfl (Or.inl rfl)) (pss_one (ps_if (pt_not (pt_val (pe_calG CAR hs (hr.mono (by decide)) (pa_cons (pv 1) (pa_cons (pe_mkP hMk T (hr.mono (by decide)) (pa_cons (pe_ix (show IxR _ (rIxT K) from ix_tup) (pv 11) pe_int (fun _ _ => rfl)) (pa_cons (pe_ix (show IxR _ (rIxT K) from ix_tup) (pv 11) pe_int (fun _ _ => rfl)) (pa_cons (pe_ix (show IxR _ (rIxT K) from ix_tup) (pv 11) pe_int (fun _ _ => rfl)) (pa_cons (pe_ix (show IxR _ (rIxT K) from ix_tup) (pv 11) pe_int (fun _ _ => rfl)) pa_nil))))) pa_nil))))) (pss_one (ps_ret pe_bl)) pss_nil))) (pss_one (ps_ret pe_bl))))), ?_⟩
  refine ⟨_, rfl, a, ns, rfl, hS, hlen, fun p l H1 P1 hp0 hl0 s1 => ?_⟩
  have pwi : ∀ j : Int, 0 ≤ j → j ≤ 1000000 → (0 ≤ j ∧ j ≤ 1000000 ∧ (10 : Int).natAbs < 2 ^ 64) := fun j a b => ⟨a, b, by decide⟩
  have tb1 := tabs_same s1 tb0
  refine ⟨50, rfl, by decide, by decide, for_range (lo := 0) (n := 50) (fun i σ' H' => ∃ (o2 o3 o4 o5 o6 o7 o8 o9 o10 o11 : Option V), σ' = [some (.ref a), some (.ref p), o2, o3, o4, o5, o6, o7, o8, o9, o10, o11] ∧ Pen H' p l (1000 * i) ∧ LamX.Tabs (TT2 PL PA (lamQ "law" s_law)) H') ⟨none, none, none, none, none, none, none, none, none, none, rfl, P1, tb1⟩ ?_ ?_⟩
  · rintro i σ' H3 hi ⟨o2, o3, o4, o5, o6, o7, o8, o9, o10, o11, rfl, P3, tb3⟩
    obtain ⟨kv3, hp3⟩ := P3.dk
    -- the word
    refine ⟨_, rfl, p, l, 1, _, rfl, P3, by omega, by decide, fun F ss H4 hF ln ok hF0 P4 k4 => ?_⟩
    obtain ⟨z, rfl⟩ : ∃ z, ss = [z] := by
      match ss, ln with
      | [z], _ => exact ⟨z, rfl⟩
    have nz := ok z List.mem_cons_self
    obtain ⟨kv4, hp4⟩ := P4.dk
    refine ⟨F, _, _, .str z, rfl, rfl, SqL.of hF, rfl, ?_⟩
    refine ⟨_, rfl, p, l, _, rfl, P4, by omega, fun vo do_ H5 hdo odo P5 k5 => ⟨by show 9 ≤ sizeLine; decide, fun L hL nL => ?_⟩⟩
    obtain ⟨kv5, hp5⟩ := P5.dk
    have tb5 : LamX.Tabs (TT2 PL PA (lamQ "law" s_law)) H5 := tabs_keep k5 hp4 (tabs_keep k4 hp3 tb3)
    refine ⟨fun σ' H' => ∃ (o3 : Option V) (v1 : V) (d1 : PyData), σ' = [some (.ref a), some (.ref p), some (.int (0 + (i : Int))), o3, some v1, o5, o6, o7, o8, o9, o10, o11] ∧ ArgD H' p v1 d1 ∧ Pen H' p l (1000 * i + 200) ∧ LamX.Tabs (TT2 PL PA (lamQ "law" s_law)) H', ?_, ?_⟩
    · have P6 := P5.new (o := .lst [.str z, .str "a", .str "abcdefgh", .str "abcdefghi", .str "", .str "aB", .str "a1", .str "a b", vo]) hL
      have s6 := same_new hL (.lst [.str z, .str "a", .str "abcdefgh", .str "abcdefghi", .str "", .str "aB", .str "a1", .str "a b", vo])
      have hp6 := s6 _ _ hp5
      refine ⟨_, rfl, _, rfl, p, l, L, _, _, rfl, P6, by omega, SqL.of upd_same, by show 1 ≤ 9; decide, by show 9 ≤ 1000000; decide, fun v1 H7 m7 P7 k7 => ?_⟩
      obtain ⟨d1, a1⟩ := arg_pick (H := upd H5 L (.lst [.str z, .str "a", .str "abcdefgh", .str "abcdefghi", .str "", .str "aB", .str "a1", .str "a b", vo])) (by
        refine List.forall_mem_cons.mpr ⟨⟨_, ArgD.name nz⟩, ?_⟩
        refine List.forall_mem_cons.mpr ⟨⟨_, ArgD.flat (.str "a") (by decide +kernel)⟩, ?_⟩
        refine List.forall_mem_cons.mpr ⟨⟨_, ArgD.flat (.str "abcdefgh") (by decide +kernel)⟩, ?_⟩
        refine List.forall_mem_cons.mpr ⟨⟨_, ArgD.flat (.str "abcdefghi") (by decide +kernel)⟩, ?_⟩
        refine List.forall_mem_cons.mpr ⟨⟨_, ArgD.flat (.str "") (by decide +kernel)⟩, ?_⟩
        refine List.forall_mem_cons.mpr ⟨⟨_, ArgD.flat (.str "aB") (by decide +kernel)⟩, ?_⟩
        refine List.forall_mem_cons.mpr ⟨⟨_, ArgD.flat (.str "a1") (by decide +kernel)⟩, ?_⟩
        refine List.forall_mem_cons.mpr ⟨⟨_, ArgD.flat (.str "a b") (by decide +kernel)⟩, ?_⟩
        exact List.forall_mem_cons.mpr ⟨⟨_, ArgD.odd (hdo.same s6) odo⟩, fun _ h => nomatch h⟩) m7 k7 hp6
      exact ⟨_, v1, d1, rfl, a1, P7.le (by omega), tabs_keep k7 hp6 (tabs_same s6 tb5)⟩
    clear hp5 tb5 k5 hdo P5 P4 k4 hp4 tb3 hp3 P3 hF hF0 hL
    rintro σ' H3 ⟨o3, v1, d1, rfl, a1, P3, tb3⟩
    obtain ⟨kv3, hp3⟩ := P3.dk
    -- the day
    refine ⟨fun σ' H' => ∃ (o3 : Option V) (v1 v2 : V) (d1 d2 : PyData), σ' = [some (.ref a), some (.ref p), some (.int (0 + (i : Int))), o3, some v1, some v2, o6, o7, o8, o9, o10, o11] ∧ ArgD H' p v1 d1 ∧ ArgD H' p v2 d2 ∧ Pen H' p l (1000 * i + 400) ∧ LamX.Tabs (TT2 PL PA (lamQ "law" s_law)) H', ?_, ?_⟩
    · refine ⟨_, rfl, _, _, rfl, rfl, pwi _ (by decide) (by decide), _, rfl, p, l, 30, _, rfl, P3, by omega, by decide, by decide, fun vg H4 g0 g1 P4 k4 => ?_⟩
      obtain ⟨kv4, hp4⟩ := P4.dk
      refine ⟨_, rfl, _, _, rfl, rfl, pwi _ (by decide) (by decide), _, _, rfl, rfl, _, rfl, p, l, _, rfl, P4, by omega, fun vo do_ H5 hdo odo P5 k5 => ⟨by show 7 ≤ sizeLine; decide, fun L hL nL => ?_⟩⟩
      obtain ⟨kv5, hp5⟩ := P5.dk
      have tb5 : LamX.Tabs (TT2 PL PA (lamQ "law" s_law)) H5 := tabs_keep k5 hp4 (tabs_keep k4 hp3 tb3)
      have P6 := P5.new (o := .lst [.int 0, .int (10 ^ 30), .int vg, .int (-1), .int (10 ^ 30 + 1), .bl true, vo]) hL
      have s6 := same_new hL (.lst [.int 0, .int (10 ^ 30), .int vg, .int (-1), .int (10 ^ 30 + 1), .bl true, vo])
      have hp6 := s6 _ _ hp5
      have kk : KeepN p H3 (upd H5 L (.lst [.int 0, .int (10 ^ 30), .int vg, .int (-1), .int (10 ^ 30 + 1), .bl true, vo])) := (KeepN.of (k4.trans k5)).trans (KeepN.same s6)
      refine ⟨p, l, L, _, _, rfl, P6, by omega, SqL.of upd_same, by show 1 ≤ 7; decide, by show 7 ≤ 1000000; decide, fun vn H7 m7 P7 k7 => ?_⟩
      obtain ⟨dn, an⟩ := arg_pick (H := upd H5 L (.lst [.int 0, .int (10 ^ 30), .int vg, .int (-1), .int (10 ^ 30 + 1), .bl true, vo])) (by
        refine List.forall_mem_cons.mpr ⟨⟨_, ArgD.int (i := 0) (by decide +kernel)⟩, ?_⟩
        refine List.forall_mem_cons.mpr ⟨⟨_, ArgD.int (i := 10 ^ 30) (by decide +kernel)⟩, ?_⟩
        refine List.forall_mem_cons.mpr ⟨⟨_, ArgD.int (i := vg) (by omega)⟩, ?_⟩
        refine List.forall_mem_cons.mpr ⟨⟨_, ArgD.int (i := -1) (by decide +kernel)⟩, ?_⟩
        refine List.forall_mem_cons.mpr ⟨⟨_, ArgD.int (i := 10 ^ 30 + 1) (by decide +kernel)⟩, ?_⟩
        refine List.forall_mem_cons.mpr ⟨⟨_, ArgD.flat (.bl true) (by decide +kernel)⟩, ?_⟩
        exact List.forall_mem_cons.mpr ⟨⟨_, ArgD.odd (hdo.same s6) odo⟩, fun _ h => nomatch h⟩) m7 k7 hp6
      have k37 : KeepN p H3 H7 := kk.trans (KeepN.of k7)
      exact ⟨_, v1, vn, d1, dn, rfl, a1.keepN k37 hp3, an, P7.le (by omega), tabs_keep k7 hp6 (tabs_same s6 tb5)⟩
    clear hp3
    rintro σ' H3 ⟨o3, v1, v2, d1, d2, rfl, a1, a2, P3, tb3⟩
    obtain ⟨kv3, hp3⟩ := P3.dk
    -- the post
    refine ⟨_, _, rfl, rfl, pwi _ (by decide) (by decide), _, rfl, _, _, rfl, rfl, pwi _ (by decide) (by decide), _, rfl, p, l, 30, _, rfl, P3, by omega, by decide, by decide, fun vg H4 g0 g1 P4 k4 => ?_⟩
    obtain ⟨kv4, hp4⟩ := P4.dk
    refine ⟨_, _, rfl, rfl, pwi _ (by decide) (by decide), _, _, rfl, rfl, _, _, rfl, rfl, pwi _ (by decide) (by decide), _, rfl, _, _, rfl, rfl, _, rfl, p, l, _, rfl, P4, by omega, fun vo do_ H5 hdo odo P5 k5 => ⟨by show 7 ≤ sizeLine; decide, fun L hL nL => ?_⟩⟩
    refine ⟨fun σ' H' => ∃ (o3 : Option V) (v1 v2 v3 : V) (d1 d2 d3 : PyData), σ' = [some (.ref a), some (.ref p), some (.int (0 + (i : Int))), o3, some v1, some v2, some v3, o7, o8, o9, o10, o11] ∧ ArgD H' p v1 d1 ∧ ArgD H' p v2 d2 ∧ ArgD H' p v3 d3 ∧ Pen H' p l (1000 * i + 600) ∧ LamX.Tabs (TT2 PL PA (lamQ "law" s_law)) H', ?_, ?_⟩
    · skip
      obtain ⟨kv5, hp5⟩ := P5.dk
      have tb5 : LamX.Tabs (TT2 PL PA (lamQ "law" s_law)) H5 := tabs_keep k5 hp4 (tabs_keep k4 hp3 tb3)
      have P6 := P5.new (o := .lst [.int (-(10 ^ 30)), .int (10 ^ 30), .int 0, .int vg, .int (10 ^ 30 + 1), .int (-(10 ^ 30) - 1), vo]) hL
      have s6 := same_new hL (.lst [.int (-(10 ^ 30)), .int (10 ^ 30), .int 0, .int vg, .int (10 ^ 30 + 1), .int (-(10 ^ 30) - 1), vo])
      have hp6 := s6 _ _ hp5
      have kk : KeepN p H3 (upd H5 L (.lst [.int (-(10 ^ 30)), .int (10 ^ 30), .int 0, .int vg, .int (10 ^ 30 + 1), .int (-(10 ^ 30) - 1), vo])) := (KeepN.of (k4.trans k5)).trans (KeepN.same s6)
      refine ⟨_, rfl, _, rfl, p, l, L, _, _, rfl, P6, by omega, SqL.of upd_same, by show 1 ≤ 7; decide, by show 7 ≤ 1000000; decide, fun vn H7 m7 P7 k7 => ?_⟩
      obtain ⟨dn, an⟩ := arg_pick (H := upd H5 L (.lst [.int (-(10 ^ 30)), .int (10 ^ 30), .int 0, .int vg, .int (10 ^ 30 + 1), .int (-(10 ^ 30) - 1), vo])) (by
        refine List.forall_mem_cons.mpr ⟨⟨_, ArgD.int (i := -(10 ^ 30)) (by decide +kernel)⟩, ?_⟩
        refine List.forall_mem_cons.mpr ⟨⟨_, ArgD.int (i := 10 ^ 30) (by decide +kernel)⟩, ?_⟩
        refine List.forall_mem_cons.mpr ⟨⟨_, ArgD.int (i := 0) (by decide +kernel)⟩, ?_⟩
        refine List.forall_mem_cons.mpr ⟨⟨_, ArgD.int (i := vg) (by omega)⟩, ?_⟩
        refine List.forall_mem_cons.mpr ⟨⟨_, ArgD.int (i := 10 ^ 30 + 1) (by decide +kernel)⟩, ?_⟩
        refine List.forall_mem_cons.mpr ⟨⟨_, ArgD.int (i := -(10 ^ 30) - 1) (by decide +kernel)⟩, ?_⟩
        exact List.forall_mem_cons.mpr ⟨⟨_, ArgD.odd (hdo.same s6) odo⟩, fun _ h => nomatch h⟩) m7 k7 hp6
      have k37 : KeepN p H3 H7 := kk.trans (KeepN.of k7)
      exact ⟨_, v1, v2, vn, d1, d2, dn, rfl, a1.keepN k37 hp3, a2.keepN k37 hp3, an, P7.le (by omega), tabs_keep k7 hp6 (tabs_same s6 tb5)⟩
    clear hp3 hp4 k4 k5 hdo hL P4 P5 P3 tb3 a1 a2
    rintro σ' H3 ⟨o3, v1, v2, v3, d1, d2, d3, rfl, a1, a2, a3, P3, tb3⟩
    obtain ⟨kv3, hp3⟩ := P3.dk
    -- the stride
    refine ⟨_, _, rfl, rfl, pwi _ (by decide) (by decide), _, _, rfl, rfl, pwi _ (by decide) (by decide), _, rfl, _, rfl, _, rfl, p, l, 18, _, rfl, P3, by omega, by decide, by decide, fun vg H4 g0 g1 P4 k4 => ?_⟩
    obtain ⟨kv4, hp4⟩ := P4.dk
    refine ⟨_, _, rfl, rfl, _, _, rfl, rfl, pwi _ (by decide) (by decide), _, _, rfl, rfl, _, rfl, p, l, _, rfl, P4, by omega, fun vo do_ H5 hdo odo P5 k5 => ⟨by show 8 ≤ sizeLine; decide, fun L hL nL => ?_⟩⟩
    refine ⟨fun σ' H' => ∃ (o3 : Option V) (v1 v2 v3 v4 : V) (d1 d2 d3 d4 : PyData), σ' = [some (.ref a), some (.ref p), some (.int (0 + (i : Int))), o3, some v1, some v2, some v3, some v4, o8, o9, o10, o11] ∧ ArgD H' p v1 d1 ∧ ArgD H' p v2 d2 ∧ ArgD H' p v3 d3 ∧ ArgD H' p v4 d4 ∧ Pen H' p l (1000 * i + 800) ∧ LamX.Tabs (TT2 PL PA (lamQ "law" s_law)) H', ?_, ?_⟩
    · skip
      obtain ⟨kv5, hp5⟩ := P5.dk
      have tb5 : LamX.Tabs (TT2 PL PA (lamQ "law" s_law)) H5 := tabs_keep k5 hp4 (tabs_keep k4 hp3 tb3)
      have P6 := P5.new (o := .lst [.int (10 ^ 18), .int (-(10 ^ 18)), .int 1, .int (-1), .int (vg + 1), .int 0, .int (10 ^ 18 + 1), vo]) hL
      have s6 := same_new hL (.lst [.int (10 ^ 18), .int (-(10 ^ 18)), .int 1, .int (-1), .int (vg + 1), .int 0, .int (10 ^ 18 + 1), vo])
      have hp6 := s6 _ _ hp5
      have kk : KeepN p H3 (upd H5 L (.lst [.int (10 ^ 18), .int (-(10 ^ 18)), .int 1, .int (-1), .int (vg + 1), .int 0, .int (10 ^ 18 + 1), vo])) := (KeepN.of (k4.trans k5)).trans (KeepN.same s6)
      refine ⟨_, rfl, _, rfl, p, l, L, _, _, rfl, P6, by omega, SqL.of upd_same, by show 1 ≤ 8; decide, by show 8 ≤ 1000000; decide, fun vn H7 m7 P7 k7 => ?_⟩
      obtain ⟨dn, an⟩ := arg_pick (H := upd H5 L (.lst [.int (10 ^ 18), .int (-(10 ^ 18)), .int 1, .int (-1), .int (vg + 1), .int 0, .int (10 ^ 18 + 1), vo])) (by
        refine List.forall_mem_cons.mpr ⟨⟨_, ArgD.int (i := 10 ^ 18) (by decide +kernel)⟩, ?_⟩
        refine List.forall_mem_cons.mpr ⟨⟨_, ArgD.int (i := -(10 ^ 18)) (by decide +kernel)⟩, ?_⟩
        refine List.forall_mem_cons.mpr ⟨⟨_, ArgD.int (i := 1) (by decide +kernel)⟩, ?_⟩
        refine List.forall_mem_cons.mpr ⟨⟨_, ArgD.int (i := -1) (by decide +kernel)⟩, ?_⟩
        refine List.forall_mem_cons.mpr ⟨⟨_, ArgD.int (i := vg + 1) (by omega)⟩, ?_⟩
        refine List.forall_mem_cons.mpr ⟨⟨_, ArgD.int (i := 0) (by decide +kernel)⟩, ?_⟩
        refine List.forall_mem_cons.mpr ⟨⟨_, ArgD.int (i := 10 ^ 18 + 1) (by decide +kernel)⟩, ?_⟩
        exact List.forall_mem_cons.mpr ⟨⟨_, ArgD.odd (hdo.same s6) odo⟩, fun _ h => nomatch h⟩) m7 k7 hp6
      have k37 : KeepN p H3 H7 := kk.trans (KeepN.of k7)
      exact ⟨_, v1, v2, v3, vn, d1, d2, d3, dn, rfl, a1.keepN k37 hp3, a2.keepN k37 hp3, a3.keepN k37 hp3, an, P7.le (by omega), tabs_keep k7 hp6 (tabs_same s6 tb5)⟩
    clear hp3 hp4 k4 k5 hdo hL P4 P5 P3 tb3 a1 a2 a3
    rintro σ' H3 ⟨o3, v1, v2, v3, v4, d1, d2, d3, d4, rfl, a1, a2, a3, a4, P3, tb3⟩
    obtain ⟨kv3, hp3⟩ := P3.dk
    have shx : ShX (.list [d1, d2, d3, d4]) (400 + 1 + (400 + 1 + (400 + 1 + (400 + 1 + 0)))) (max 2 (max 2 (max 2 (max 2 0))) + 1) := ShXAll.lst (.cons a1.sx (.cons a2.sx (.cons a3.sx (.cons a4.sx .nil))))
    -- what is kept, what is due
    refine ⟨fun σ' H' => σ' = [some (.ref a), some (.ref p), some (.int (0 + (i : Int))), o3, some v1, some v2, some v3, some v4, some (.str (PyData.list [d1, d2, d3, d4]).shown), some (optS (dueD d1 d2 d3 d4)), o10, o11] ∧ ArgD H' p v1 d1 ∧ ArgD H' p v2 d2 ∧ ArgD H' p v3 d3 ∧ ArgD H' p v4 d4 ∧ Pen H' p l (1000 * i + 800) ∧ LamX.Tabs (TT2 PL PA (lamQ "law" s_law)) H', ?_, ?_⟩
    · refine ⟨_, rfl, _, rfl, _, rfl, _, rfl, by show 4 ≤ sizeLine; decide, fun L hL nL => ?_⟩
      have sm := same_new hL (.lst [v1, v2, v3, v4])
      have b1 := a1.keepN (KeepN.same sm) hp3
      have b2 := a2.keepN (KeepN.same sm) hp3
      have b3 := a3.keepN (KeepN.same sm) hp3
      have b4 := a4.keepN (KeepN.same sm) hp3
      refine ⟨.ref L, .list [d1, d2, d3, d4], _, _, rfl, ⟨p, 2, .inr (.inl ⟨L, [v1, v2, v3, v4], [d1, d2, d3, d4], rfl, upd_same, nL, .cons b1.dq (.cons b2.dq (.cons b3.dq (.cons b4.dq .nil))), rfl⟩)⟩, shx, by decide, by decide, fun z ez => ?_⟩
      subst ez
      refine ⟨_, rfl, _, rfl, _, rfl, _, rfl, v1, v2, v3, v4, d1, d2, d3, d4, rfl, fun H' s' => ⟨(b1.dq.same s').any, (b2.dq.same s').any, (b3.dq.same s').any, (b4.dq.same s').any⟩, a1.st, fun H' s' => ?_⟩
      have k : KeepN p H3 H' := (KeepN.same sm).trans (KeepN.same s')
      exact ⟨_, _, rfl, rfl, a1.keepN k hp3, a2.keepN k hp3, a3.keepN k hp3, a4.keepN k hp3, (P3.same sm).same s', tabs_same s' (tabs_same sm tb3)⟩
    clear a1 a2 a3 a4 P3 tb3 hp3
    rintro σ' H3 ⟨rfl, a1, a2, a3, a4, P3, tb3⟩
    obtain ⟨kv3, hp3⟩ := P3.dk
    have en : ∀ r : Option Str, (!decide (optS r = optS r)) = false := fun r => by rw [decide_eq_true rfl]; rfl
    -- by position
    refine ⟨fun σ' H' => σ' = [some (.ref a), some (.ref p), some (.int (0 + (i : Int))), o3, some v1, some v2, some v3, some v4, some (.str (PyData.list [d1, d2, d3, d4]).shown), some (optS (dueD d1 d2 d3 d4)), o10, o11] ∧ ArgD H' p v1 d1 ∧ ArgD H' p v2 d2 ∧ ArgD H' p v3 d3 ∧ ArgD H' p v4 d4 ∧ Pen H' p l (1000 * i + 800) ∧ LamX.Tabs (TT2 PL PA (lamQ "law" s_law)) H', ?_, ?_⟩
    · refine ask_make P3 tb3 a1.dq a2.dq a3.dq a4.dq a1.st (fun H Q q => ⟨_, rfl, q⟩) (fun H Q q => ⟨_, rfl, q⟩) (fun H Q q => ⟨_, rfl, q⟩) (fun H Q q => ⟨_, rfl, q⟩) fun H4 k4 P4 tb4 => ?_
      exact ⟨_, rfl, optS_ne, false, congrArg V.bl (en _), iteF ⟨rfl, a1.keepN k4 hp3, a2.keepN k4 hp3, a3.keepN k4 hp3, a4.keepN k4 hp3, P4, tb4⟩⟩
    clear a1 a2 a3 a4 P3 tb3 hp3
    rintro σ' H3 ⟨rfl, a1, a2, a3, a4, P3, tb3⟩
    obtain ⟨kv3, hp3⟩ := P3.dk
    -- by name
    refine ⟨fun σ' H' => σ' = [some (.ref a), some (.ref p), some (.int (0 + (i : Int))), o3, some v1, some v2, some v3, some v4, some (.str (PyData.list [d1, d2, d3, d4]).shown), some (optS (dueD d1 d2 d3 d4)), o10, o11] ∧ ArgD H' p v1 d1 ∧ ArgD H' p v2 d2 ∧ ArgD H' p v3 d3 ∧ ArgD H' p v4 d4 ∧ Pen H' p l (1000 * i + 800) ∧ LamX.Tabs (TT2 PL PA (lamQ "law" s_law)) H', ?_, ?_⟩
    · refine ask_makeK P3 tb3 a1.dq a2.dq a3.dq a4.dq a1.st (fun H Q q => ⟨_, rfl, q⟩) (fun H Q q => ⟨_, rfl, q⟩) (fun H Q q => ⟨_, rfl, q⟩) (fun H Q q => ⟨_, rfl, q⟩) fun H4 k4 P4 tb4 => ?_
      exact ⟨_, rfl, optS_ne, false, congrArg V.bl (en _), iteF ⟨rfl, a1.keepN k4 hp3, a2.keepN k4 hp3, a3.keepN k4 hp3, a4.keepN k4 hp3, P4, tb4⟩⟩
    clear a1 a2 a3 a4 P3 tb3 hp3
    rintro σ' H3 ⟨rfl, a1, a2, a3, a4, P3, tb3⟩
    obtain ⟨kv3, hp3⟩ := P3.dk
    -- nothing has changed
    refine ⟨fun σ' H' => σ' = [some (.ref a), some (.ref p), some (.int (0 + (i : Int))), o3, some v1, some v2, some v3, some v4, some (.str (PyData.list [d1, d2, d3, d4]).shown), some (optS (dueD d1 d2 d3 d4)), o10, o11] ∧ ArgD H' p v1 d1 ∧ ArgD H' p v2 d2 ∧ ArgD H' p v3 d3 ∧ ArgD H' p v4 d4 ∧ Pen H' p l (1000 * i + 800) ∧ LamX.Tabs (TT2 PL PA (lamQ "law" s_law)) H', ?_, ?_⟩
    · refine ⟨_, rfl, _, rfl, _, rfl, _, rfl, by show 4 ≤ sizeLine; decide, fun L hL nL => ?_⟩
      have sm := same_new hL (.lst [v1, v2, v3, v4])
      have b1 := a1.keepN (KeepN.same sm) hp3
      have b2 := a2.keepN (KeepN.same sm) hp3
      have b3 := a3.keepN (KeepN.same sm) hp3
      have b4 := a4.keepN (KeepN.same sm) hp3
      refine ⟨.ref L, .list [d1, d2, d3, d4], _, _, rfl, ⟨p, 2, .inr (.inl ⟨L, [v1, v2, v3, v4], [d1, d2, d3, d4], rfl, upd_same, nL, .cons b1.dq (.cons b2.dq (.cons b3.dq (.cons b4.dq .nil))), rfl⟩)⟩, shx, by decide, by decide, fun z ez => ?_⟩
      subst ez
      exact ⟨_, rfl, rfl, false, congrArg V.bl (by rw [decide_eq_true rfl]; rfl), iteF ⟨rfl, b1, b2, b3, b4, P3.same sm, tabs_same sm tb3⟩⟩
    clear a1 a2 a3 a4 P3 tb3 hp3
    rintro σ' H3 ⟨rfl, a1, a2, a3, a4, P3, tb3⟩
    obtain ⟨kv3, hp3⟩ := P3.dk
    -- names
    refine ⟨_, rfl, _, rfl, _, rfl, p, l, _, rfl, P3, by omega, fun vo do_ H5 hdo odo P5 k5 => ⟨by show 3 ≤ sizeLine; decide, fun L hL nL => ⟨L, rfl, ⟨_, SqL.of upd_same⟩, ?_⟩⟩⟩
    obtain ⟨kv5, hp5⟩ := P5.dk
    have s6 := same_new hL (.lst [v1, v2, vo])
    have kk : KeepN p H3 (upd H5 L (.lst [v1, v2, vo])) := (KeepN.of k5).trans (KeepN.same s6)
    refine for_list (K := K) (a := L) (xs := [v1, v2, vo]) (fun j σ' H' => ∃ (o2 o3 o4 o5 o6 o7 o8 o9 o10 o11 : Option V), σ' = [some (.ref a), some (.ref p), o2, o3, o4, o5, o6, o7, o8, o9, o10, o11] ∧ H' L = some (.lst [v1, v2, vo]) ∧ (∀ v ∈ [v1, v2, vo], ∃ d, ArgD H' p v d) ∧ Pen H' p l (1000 * i + 812) ∧ LamX.Tabs (TT2 PL PA (lamQ "law" s_law)) H')
      ⟨_, _, _, _, _, _, _, _, _, _, rfl, upd_same, ?_, P5.same s6, tabs_same s6 (tabs_keep k5 hp3 tb3)⟩ (fun j σ' H' _ ⟨_, _, _, _, _, _, _, _, _, _, _, h, _⟩ => SqL.of h) ?_ ?_
    · refine List.forall_mem_cons.mpr ⟨⟨_, a1.keepN kk hp3⟩, ?_⟩
      refine List.forall_mem_cons.mpr ⟨⟨_, a2.keepN kk hp3⟩, ?_⟩
      exact List.forall_mem_cons.mpr ⟨⟨_, ArgD.odd (hdo.same s6) odo⟩, fun _ h => nomatch h⟩
    · rintro j v σ' H6 hx ⟨o2, o3, o4, o5, o6, o7, o8, o9, o10, o11, rfl, hL6, al6, P6, tb6⟩
      obtain ⟨d, ad⟩ := al6 v (List.mem_of_getElem? hx)
      obtain ⟨kv6, hp6⟩ := P6.dk
      refine ⟨rfl, _, rfl, v, d, rfl, ad.dq.any, ad.st.short, .bl (nameB d), .bool (nameB d), 0, 0, rfl, ⟨p, 0, .bl _⟩, (Shw.bl _).x, by decide, by decide, fun z ez => ?_⟩
      refine ⟨_, rfl, v, d, rfl, ad.dq.any, ad.st, fun H7 s7 => ⟨.bl (nameB d), .bool (nameB d), 0, 0, rfl, ⟨p, 0, .bl _⟩, (Shw.bl _).x, by decide, by decide, fun z2 ez2 => ?_⟩⟩
      subst ez
      subst ez2
      exact ⟨rfl, false, congrArg V.bl (by rw [decide_eq_true rfl]; rfl), iteF ⟨_, _, _, _, _, _, _, _, _, _, rfl, s7 _ _ hL6, fun v hv => let ⟨d, h⟩ := al6 v hv; ⟨d, h.keepN (KeepN.same s7) hp6⟩, P6.same s7, tabs_same s7 tb6⟩⟩
    · rintro σ' H6 ⟨o2, o3, o4, o5, o6, o7, o8, o9, o10, o11, rfl, hL6, al6, P6, tb6⟩
      exact ⟨_, _, _, _, _, _, _, _, _, _, rfl, P6.le (by omega), tb6⟩
  · rintro σ' H3 ⟨o2, o3, o4, o5, o6, o7, o8, o9, o10, o11, rfl, P3, tb3⟩
    obtain ⟨kv3, hp3⟩ := P3.dk
    refine ⟨_, rfl, p, l, _, rfl, P3, by omega, fun F1 ts1 H4 hF1 l1 rows1 nF1 P4 k4 => ?_⟩
    obtain ⟨kv4, hp4⟩ := P4.dk
    refine ⟨_, rfl, p, l, _, rfl, P4, by omega, fun F2 ts2 H5 hF2 l2 rows2 nF2 P5 k5 => ?_⟩
    obtain ⟨kv5, hp5⟩ := P5.dk
    have hF1' := k5 _ _ hF1 (ne_of hF1 hp4 (by intro z; cases z))
    refine ⟨F1, F2, _, _, rfl, rfl, hF1', hF2, by rw [List.length_map, List.length_map]; exact Nat.le_trans (by omega) (by decide : 12 ≤ sizeLine), fun Z hZ => ?_⟩
    refine ⟨by show 4 ≤ sizeLine; decide, fun tl htl => ⟨by show 1 ≤ sizeLine; decide, fun L hL nL => ?_⟩⟩
    have sZ := same_new hZ (.lst (ts1.map V.ref ++ ts2.map V.ref))
    have sT := same_new htl (.tup [.str "a", .int 0, .int 0, .int 1])
    have sL := same_new hL (.lst [.ref tl])
    refine ⟨Z, L, _, _, rfl, rfl, (sT.trans sL) _ _ upd_same, upd_same, by rw [List.length_append, List.length_map, List.length_map]; exact Nat.le_trans (by show ts1.length + ts2.length + 1 ≤ 13; omega) (by decide : 13 ≤ sizeLine), fun Y hY => ⟨Y, rfl, ⟨_, SqL.of upd_same⟩, ?_⟩⟩
    have sY := same_new hY (.lst ((ts1.map V.ref ++ ts2.map V.ref) ++ [.ref tl]))
    have sAll := ((sZ.trans sT).trans sL).trans sY
    have tb5 : LamX.Tabs (TT2 PL PA (lamQ "law" s_law)) H5 := tabs_keep k5 hp4 (tabs_keep k4 hp3 tb3)
    obtain ⟨ys, hys, lys, rows⟩ : ∃ ys : List Addr, (ts1.map V.ref ++ ts2.map V.ref) ++ [V.ref tl] = ys.map V.ref ∧ ys.length ≤ 13 ∧ ∀ t ∈ ys, Row (upd (upd (upd (upd H5 Z (.lst (ts1.map V.ref ++ ts2.map V.ref))) tl (.tup [.str "a", .int 0, .int 0, .int 1])) L (.lst [.ref tl])) Y (.lst ((ts1.map V.ref ++ ts2.map V.ref) ++ [.ref tl]))) t AnyR := by
      refine ⟨(ts1 ++ ts2) ++ [tl], by rw [List.map_append, List.map_append]; rfl, by rw [List.length_append, List.length_append]; show ts1.length + ts2.length + 1 ≤ 13; omega, fun t ht => ?_⟩
      rcases List.mem_append.mp ht with ht | ht
      · rcases List.mem_append.mp ht with ht | ht
        · exact ((rows1 t ht).keep k5 hp4).same sAll
        · exact (rows2 t ht).same sAll
      · rw [List.mem_singleton.mp ht]
        exact ⟨"a", 0, 0, 1, (sL.trans sY) _ _ upd_same, by unfold NameOk LetOk; decide +kernel, by unfold AnyR; decide⟩
    refine for_list (K := K) (a := Y) (xs := (ts1.map V.ref ++ ts2.map V.ref) ++ [.ref tl]) (fun j σ' H' => ∃ (o2 o3 o4 o5 o6 o7 o8 o9 o10 o11 : Option V), σ' = [some (.ref a), some (.ref p), o2, o3, o4, o5, o6, o7, o8, o9, o10, o11] ∧ H' Y = some (.lst ((ts1.map V.ref ++ ts2.map V.ref) ++ [.ref tl])) ∧ (∀ t ∈ ys, Row H' t AnyR) ∧ Pen H' p l (300000 + 200 * j) ∧ LamX.Tabs (TT2 PL PA (lamQ "law" s_law)) H')
      ⟨_, _, _, _, _, _, _, _, _, _, rfl, upd_same, rows, (P5.same sAll).le (by omega), tabs_same sAll tb5⟩ (fun j σ' H' _ ⟨_, _, _, _, _, _, _, _, _, _, _, h, _⟩ => SqL.of h) ?_ ?_
    · clear sZ sT sL sY sAll hF1' hF1 hF2 hZ htl hL rows1 rows2 rows P4 P5 k4 k5 hp4 hp5 tb5
      rintro j x σ' H6 hx ⟨o2, o3, o4, o5, o6, o7, o8, o9, o10, o11, rfl, hY6, rows6, P6, tb6⟩
      have hj : j < 13 := by
        have := (List.getElem?_eq_some_iff.mp hx).1
        rw [hys, List.length_map] at this
        omega
      rw [hys] at hx
      obtain ⟨t, ht, rfl⟩ : ∃ t, t ∈ ys ∧ V.ref t = x := List.mem_map.mp (List.mem_of_getElem? hx)
      obtain ⟨nm, d, ps, st, et, zok, R0⟩ := rows6 t ht
      obtain ⟨kv6, hp6⟩ := P6.dk
      have ok := R0.ok zok
      have hs6 : SqT K H6 t [.str nm, .int d, .int ps, .int st] := SqT.of et
      refine ⟨_, rfl, _, rfl, t, _, _, _, rfl, rfl, hs6, rfl, _, rfl, t, _, _, _, rfl, rfl, hs6, rfl, _, rfl, t, _, _, _, rfl, rfl, hs6, rfl, _, rfl, t, _, _, _, rfl, rfl, hs6, rfl, fun xn dx nx ndx nex => ?_⟩
      refine ⟨xn, dx, nm, d, ps, st, rfl, upd_same, ok, fun H7 hx7 kp7 => ⟨rfl, ?_⟩⟩
      have sm7 : Same H6 H7 := fun b o e => kp7 b o (by rw [upd_ne (ne_of_none e nx), upd_ne (ne_of_none e ndx)]; exact e) (ne_of_none e nx)
      refine ⟨p, l, xn, _, nm, d, ps, st, rfl, ⟨P6.same sm7, ⟨dx, hx7⟩, tabs_same sm7 tb6⟩, by omega, ok.sn, ok.s0, ok.s1, fun H8 P8 k8 tb8 => ?_⟩
      have kk : KeepN p H6 H8 := (KeepN.same sm7).trans k8
      exact ⟨true, rfl, iteF ⟨_, _, _, _, _, _, _, _, _, _, rfl, kk _ _ hY6 (ne_of hY6 hp6 (by intro z; cases z)) (fun _ z => by cases z), fun u hu => (rows6 u hu).keepN kk hp6, P8.le (by omega), tb8⟩⟩
    · rintro σ' H6 _
      exact q H6
end
end Ur
/-! E02: the end. -/
namespace Ur
open PySem PySem.Spec PyProof.Rows L2
theorem kit_typ {K : PySem.W.Frag} {C : Addr} {T : String} {b : Bool} (m : PySem.W.kitMeta T = true) (h : PySem.W.subIn K (.ref C) (.type T) = some b) : PySem.W.kitOne K (.ref C) (.type T) = some b := by
  show (if (Value.ref C == Value.type T) = true then some true else if PySem.W.kitMeta T = true then PySem.W.subIn K (.ref C) (.type T) else none) = some b
  rw [if_neg (show ¬ ((Value.ref C == Value.type T) = true) from fun z => by have := beq_iff_eq.mp z; cases this), if_pos m]
  exact h
theorem kit_not {K : PySem.W.Frag} {C E : Addr} (i : PySem.W.isClsIn K E = true) (t : PySem.W.typeIn K (.ref E) = some (.type "type")) (h : PySem.W.subIn K (.ref C) (.ref E) = some false) (self : PySem.W.subIn K (.ref C) (.ref C) = some true) : PySem.W.kitOne K (.ref C) (.ref E) = some false := by
  have ne : C ≠ E := by
    rintro rfl
    rw [self] at h
    cases h
  have e2 : ((PySem.W.clsIn K E).isSome && PySem.W.typeIn K (.ref E) == some (.type "type")) = true := by
    have i2 : (PySem.W.clsIn K E).isSome = true := i
    rw [i2, t] <;> rfl
  show (if (Value.ref C == Value.ref E) = true then some true else if ((PySem.W.clsIn K E).isSome && PySem.W.typeIn K (.ref E) == some (.type "type")) = true then PySem.W.subIn K (.ref C) (.ref E) else none) = some false
  rw [if_neg (fun z => ne (Value.ref.inj (beq_iff_eq.mp z))), if_pos e2]
  exact h
theorem tab_mk {K : PySem.W.Frag} {x : Str} {f c Pt : Addr} {oc e : Value} {od dd : Option Addr} {fd : FuncData} {sl s2 : Array (Option Value)} {vs : Array Value} (a : PySem.W.nsIn K mainGlobals x = some (some (.ref f))) (l : K.lookup f = some ⟨oc, od, .func fd, sl⟩) (r : fd.code = .ref c)
    (v : K.lookup c = some ⟨e, dd, .fields vs, s2⟩) (w : (vs[11]? : Option Value) = some (.ref Pt)) : PySem.W.tabIn K x = some (c, Pt) := by
  unfold PySem.W.tabIn
  rw [a]
  simp only [l, r, v, w]
theorem all_mk {l : PySem.W.OpenLaw} {w : World} {K : PySem.W.Frag} {h : Heap} {mg : Str → Option Value} {fa : Addr} (X : K.In h) (G : h.Ns mainGlobals mg) (hfa : mg "law" = some (.ref fa))
    {f1 f2 f3 f4 f5 f6 f7 f8 f9 f10 f11 f12 f13 f14 f15 f16 f17 f18 f19 f20 f21 fL CPainter f22 p23 f23 f24 f25 f26 CInvalidPainter NInvalidPainter f27 CInvalidCount NInvalidCount f28 CInvalidPost NInvalidPost f29 CParseError cq_law Pq_law cq__law_answers_right Pq__law_answers_right : Addr}
    {od1 an1 od2 an2 od3 an3 od4 an4 od5 an5 od6 an6 od7 an7 od8 an8 od9 an9 od10 an10 od11 an11 od12 an12 od13 an13 od14 an14 od15 an15 od16 an16 od17 an17 od18 an18 od19 an19 od20 an20 od21 an21 odL anL od22 an22 od23 an23 od24 an24 od25 an25 od26 an26 ddInvalidPainter od27 an27 ddInvalidCount od28 an28 ddInvalidPost od29 an29 dLq d17q : Option Addr}
    {sl1 sl2 sl3 sl4 sl5 sl6 sl7 sl8 sl9 sl10 sl11 sl12 sl13 sl14 sl15 sl16 sl17 sl18 sl19 sl20 sl21 slL sl22 sl23 sl24 sl25 sl26 sl27 sl28 sl29 sLq s17q : Array (Option Value)}
    {oc1 kV1 dc1 pm1 cd1 ct1 oc2 kV2 dc2 pm2 cd2 ct2 oc3 kV3 dc3 pm3 cd3 ct3 oc4 kV4 dc4 pm4 cd4 ct4 oc5 kV5 dc5 pm5 cd5 ct5 oc6 kV6 dc6 pm6 cd6 ct6 oc7 kV7 dc7 pm7 cd7 ct7 oc8 kV8 dc8 pm8 cd8 ct8 oc9 kV9 dc9 pm9 cd9 ct9 oc10 kV10 dc10 pm10 cd10 ct10 oc11 kV11 dc11 pm11 cd11 ct11 oc12 kV12 dc12 pm12 cd12 ct12 oc13 kV13 dc13 pm13 cd13 ct13 oc14 kV14 dc14 pm14 cd14 ct14 oc15 kV15 dc15 pm15 cd15 ct15 oc16 kV16 dc16 pm16 cd16 ct16 oc17 kV17 dc17 pm17 cd17 ct17 oc18 kV18 dc18 pm18 cd18 ct18 oc19 kV19 dc19 pm19 cd19 ct19 oc20 kV20 dc20 pm20 cd20 ct20 oc21 kV21 dc21 pm21 cd21 ct21 ocL kVL dcL pmL cdL ctL uPainterMAX_DAY uPainterMAX_POST uPainterMAX_STRIDE oc22 kV22 dc22 pm22 cd22 ct22 oc23 kV23 dc23 pm23 cd23 ct23 oc24 kV24 dc24 pm24 cd24 ct24 oc25 kV25 dc25 pm25 cd25 ct25 oc26 kV26 dc26 pm26 cd26 ct26 oc27 kV27 dc27 pm27 cd27 ct27 oc28 kV28 dc28 pm28 cd28 ct28 oc29 kV29 dc29 pm29 cd29 ct29 eLq e17q vgMAX_ARGUMENT : Value}
    {r23 bsInvalidPainter subInvalidPainter bsInvalidCount subInvalidCount bsInvalidPost subInvalidPost : List Value}
    {nmInvalidPainter qInvalidPainter nmInvalidCount qInvalidCount nmInvalidPost qInvalidPost : Str}
    {snInvalidPainter snInvalidCount snInvalidPost : List Str}
    {abInvalidPainter abInvalidCount abInvalidPost : Bool}
    {colInvalidPainter colInvalidCount colInvalidPost : Option Bool}
    {m0InvalidPainter m1InvalidPainter m2InvalidPainter m3InvalidPainter m5InvalidPainter m0InvalidCount m1InvalidCount m2InvalidCount m3InvalidCount m5InvalidCount m0InvalidPost m1InvalidPost m2InvalidPost m3InvalidPost m5InvalidPost : Option Value}
    {vLq v17q : Array Value}
    (a1 : PySem.W.nsIn K mainGlobals "_law_pen" = some (some (.ref f1)))
    (l1 : K.lookup f1 = some ⟨oc1, od1, .func (PySem.W.fnOf "_law_pen" "_law_pen" (defArgs s__law_pen) (defBody s__law_pen) (defScope s__law_pen) .none kV1 dc1 pm1 an1 cd1 ct1), sl1⟩)
    (c1 : PySem.W.codeIn K cd1 "_law_pen" = true)
    (k1 : PySem.W.keepIn K (.ref f1) = true)
    (a2 : PySem.W.nsIn K mainGlobals "_law_draw" = some (some (.ref f2)))
    (l2 : K.lookup f2 = some ⟨oc2, od2, .func (PySem.W.fnOf "_law_draw" "_law_draw" (defArgs s__law_draw) (defBody s__law_draw) (defScope s__law_draw) .none kV2 dc2 pm2 an2 cd2 ct2), sl2⟩)
    (c2 : PySem.W.codeIn K cd2 "_law_draw" = true)
    (k2 : PySem.W.keepIn K (.ref f2) = true)
    (a3 : PySem.W.nsIn K mainGlobals "_law_pick" = some (some (.ref f3)))
    (l3 : K.lookup f3 = some ⟨oc3, od3, .func (PySem.W.fnOf "_law_pick" "_law_pick" (defArgs s__law_pick) (defBody s__law_pick) (defScope s__law_pick) .none kV3 dc3 pm3 an3 cd3 ct3), sl3⟩)
    (c3 : PySem.W.codeIn K cd3 "_law_pick" = true)
    (k3 : PySem.W.keepIn K (.ref f3) = true)
    (a4 : PySem.W.nsIn K mainGlobals "_law_around" = some (some (.ref f4)))
    (l4 : K.lookup f4 = some ⟨oc4, od4, .func (PySem.W.fnOf "_law_around" "_law_around" (defArgs s__law_around) (defBody s__law_around) (defScope s__law_around) .none kV4 dc4 pm4 an4 cd4 ct4), sl4⟩)
    (c4 : PySem.W.codeIn K cd4 "_law_around" = true)
    (k4 : PySem.W.keepIn K (.ref f4) = true)
    (a5 : PySem.W.nsIn K mainGlobals "_law_power" = some (some (.ref f5)))
    (l5 : K.lookup f5 = some ⟨oc5, od5, .func (PySem.W.fnOf "_law_power" "_law_power" (defArgs s__law_power) (defBody s__law_power) (defScope s__law_power) .none kV5 dc5 pm5 an5 cd5 ct5), sl5⟩)
    (c5 : PySem.W.codeIn K cd5 "_law_power" = true)
    (k5 : PySem.W.keepIn K (.ref f5) = true)
    (a6 : PySem.W.nsIn K mainGlobals "_law_great" = some (some (.ref f6)))
    (l6 : K.lookup f6 = some ⟨oc6, od6, .func (PySem.W.fnOf "_law_great" "_law_great" (defArgs s__law_great) (defBody s__law_great) (defScope s__law_great) .none kV6 dc6 pm6 an6 cd6 ct6), sl6⟩)
    (c6 : PySem.W.codeIn K cd6 "_law_great" = true)
    (k6 : PySem.W.keepIn K (.ref f6) = true)
    (a7 : PySem.W.nsIn K mainGlobals "_law_names" = some (some (.ref f7)))
    (l7 : K.lookup f7 = some ⟨oc7, od7, .func (PySem.W.fnOf "_law_names" "_law_names" (defArgs s__law_names) (defBody s__law_names) (defScope s__law_names) .none kV7 dc7 pm7 an7 cd7 ct7), sl7⟩)
    (c7 : PySem.W.codeIn K cd7 "_law_names" = true)
    (k7 : PySem.W.keepIn K (.ref f7) = true)
    (a8 : PySem.W.nsIn K mainGlobals "_law_small" = some (some (.ref f8)))
    (l8 : K.lookup f8 = some ⟨oc8, od8, .func (PySem.W.fnOf "_law_small" "_law_small" (defArgs s__law_small) (defBody s__law_small) (defScope s__law_small) .none kV8 dc8 pm8 an8 cd8 ct8), sl8⟩)
    (c8 : PySem.W.codeIn K cd8 "_law_small" = true)
    (k8 : PySem.W.keepIn K (.ref f8) = true)
    (a9 : PySem.W.nsIn K mainGlobals "_law_aimed" = some (some (.ref f9)))
    (l9 : K.lookup f9 = some ⟨oc9, od9, .func (PySem.W.fnOf "_law_aimed" "_law_aimed" (defArgs s__law_aimed) (defBody s__law_aimed) (defScope s__law_aimed) .none kV9 dc9 pm9 an9 cd9 ct9), sl9⟩)
    (c9 : PySem.W.codeIn K cd9 "_law_aimed" = true)
    (k9 : PySem.W.keepIn K (.ref f9) = true)
    (a10 : PySem.W.nsIn K mainGlobals "_law_lined" = some (some (.ref f10)))
    (l10 : K.lookup f10 = some ⟨oc10, od10, .func (PySem.W.fnOf "_law_lined" "_law_lined" (defArgs s__law_lined) (defBody s__law_lined) (defScope s__law_lined) .none kV10 dc10 pm10 an10 cd10 ct10), sl10⟩)
    (c10 : PySem.W.codeIn K cd10 "_law_lined" = true)
    (k10 : PySem.W.keepIn K (.ref f10) = true)
    (a11 : PySem.W.nsIn K mainGlobals "_law_odd" = some (some (.ref f11)))
    (l11 : K.lookup f11 = some ⟨oc11, od11, .func (PySem.W.fnOf "_law_odd" "_law_odd" (defArgs s__law_odd) (defBody s__law_odd) (defScope s__law_odd) .none kV11 dc11 pm11 an11 cd11 ct11), sl11⟩)
    (c11 : PySem.W.codeIn K cd11 "_law_odd" = true)
    (k11 : PySem.W.keepIn K (.ref f11) = true)
    (a12 : PySem.W.nsIn K mainGlobals "_law_is_int" = some (some (.ref f12)))
    (l12 : K.lookup f12 = some ⟨oc12, od12, .func (PySem.W.fnOf "_law_is_int" "_law_is_int" (defArgs s__law_is_int) (defBody s__law_is_int) (defScope s__law_is_int) .none kV12 dc12 pm12 an12 cd12 ct12), sl12⟩)
    (c12 : PySem.W.codeIn K cd12 "_law_is_int" = true)
    (k12 : PySem.W.keepIn K (.ref f12) = true)
    (a13 : PySem.W.nsIn K mainGlobals "_law_is_name" = some (some (.ref f13)))
    (l13 : K.lookup f13 = some ⟨oc13, od13, .func (PySem.W.fnOf "_law_is_name" "_law_is_name" (defArgs s__law_is_name) (defBody s__law_is_name) (defScope s__law_is_name) .none kV13 dc13 pm13 an13 cd13 ct13), sl13⟩)
    (c13 : PySem.W.codeIn K cd13 "_law_is_name" = true)
    (k13 : PySem.W.keepIn K (.ref f13) = true)
    (a14 : PySem.W.nsIn K mainGlobals "_law_painters" = some (some (.ref f14)))
    (l14 : K.lookup f14 = some ⟨oc14, od14, .func (PySem.W.fnOf "_law_painters" "_law_painters" (defArgs s__law_painters) (defBody s__law_painters) (defScope s__law_painters) .none kV14 dc14 pm14 an14 cd14 ct14), sl14⟩)
    (c14 : PySem.W.codeIn K cd14 "_law_painters" = true)
    (k14 : PySem.W.keepIn K (.ref f14) = true)
    (a15 : PySem.W.nsIn K mainGlobals "_law_due" = some (some (.ref f15)))
    (l15 : K.lookup f15 = some ⟨oc15, od15, .func (PySem.W.fnOf "_law_due" "_law_due" (defArgs s__law_due) (defBody s__law_due) (defScope s__law_due) .none kV15 dc15 pm15 an15 cd15 ct15), sl15⟩)
    (c15 : PySem.W.codeIn K cd15 "_law_due" = true)
    (k15 : PySem.W.keepIn K (.ref f15) = true)
    (a16 : PySem.W.nsIn K mainGlobals "_law_refused" = some (some (.ref f16)))
    (l16 : K.lookup f16 = some ⟨oc16, od16, .func (PySem.W.fnOf "_law_refused" "_law_refused" (defArgs s__law_refused) (defBody s__law_refused) (defScope s__law_refused) .none kV16 dc16 pm16 an16 cd16 ct16), sl16⟩)
    (c16 : PySem.W.codeIn K cd16 "_law_refused" = true)
    (k16 : PySem.W.keepIn K (.ref f16) = true)
    (a17 : PySem.W.nsIn K mainGlobals "_law_answers_right" = some (some (.ref f17)))
    (l17 : K.lookup f17 = some ⟨oc17, od17, .func (PySem.W.fnOf "_law_answers_right" "_law_answers_right" (defArgs s__law_answers_right) (defBody s__law_answers_right) (defScope s__law_answers_right) .none kV17 dc17 pm17 an17 cd17 ct17), sl17⟩)
    (c17 : PySem.W.codeIn K cd17 "_law_answers_right" = true)
    (k17 : PySem.W.keepIn K (.ref f17) = true)
    (a18 : PySem.W.nsIn K mainGlobals "is_integer" = some (some (.ref f18)))
    (l18 : K.lookup f18 = some ⟨oc18, od18, .func (PySem.W.fnOf "is_integer" "is_integer" (defArgs s_is_integer) (defBody s_is_integer) (defScope s_is_integer) .none kV18 dc18 pm18 an18 cd18 ct18), sl18⟩)
    (c18 : PySem.W.codeIn K cd18 "is_integer" = true)
    (k18 : PySem.W.keepIn K (.ref f18) = true)
    (a19 : PySem.W.nsIn K mainGlobals "is_between" = some (some (.ref f19)))
    (l19 : K.lookup f19 = some ⟨oc19, od19, .func (PySem.W.fnOf "is_between" "is_between" (defArgs s_is_between) (defBody s_is_between) (defScope s_is_between) .none kV19 dc19 pm19 an19 cd19 ct19), sl19⟩)
    (c19 : PySem.W.codeIn K cd19 "is_between" = true)
    (k19 : PySem.W.keepIn K (.ref f19) = true)
    (a20 : PySem.W.nsIn K mainGlobals "check_count" = some (some (.ref f20)))
    (l20 : K.lookup f20 = some ⟨oc20, od20, .func (PySem.W.fnOf "check_count" "check_count" (defArgs s_check_count) (defBody s_check_count) (defScope s_check_count) .none kV20 dc20 pm20 an20 cd20 ct20), sl20⟩)
    (c20 : PySem.W.codeIn K cd20 "check_count" = true)
    (k20 : PySem.W.keepIn K (.ref f20) = true)
    (a21 : PySem.W.nsIn K mainGlobals "check_post" = some (some (.ref f21)))
    (l21 : K.lookup f21 = some ⟨oc21, od21, .func (PySem.W.fnOf "check_post" "check_post" (defArgs s_check_post) (defBody s_check_post) (defScope s_check_post) .none kV21 dc21 pm21 an21 cd21 ct21), sl21⟩)
    (c21 : PySem.W.codeIn K cd21 "check_post" = true)
    (k21 : PySem.W.keepIn K (.ref f21) = true)
    (aL : PySem.W.nsIn K mainGlobals "law" = some (some (.ref fL)))
    (lL : K.lookup fL = some ⟨ocL, odL, .func (PySem.W.fnOf "law" "law" (defArgs s_law) (defBody s_law) (defScope s_law) .none kVL dcL pmL anL cdL ctL), slL⟩)
    (cL : PySem.W.codeIn K cdL "law" = true)
    (kL : PySem.W.keepIn K (.ref fL) = true)
    (gPainter : PySem.W.nsIn K mainGlobals "Painter" = some (some (.ref CPainter)))
    (pgPainter : PySem.W.plainGet K CPainter Str.empty = true)
    (hdPainter : PySem.W.hasDictIn K CPainter = true)
    (poPainter : PySem.W.plainOver K CPainter = true)
    (saPainter : PySem.W.findIn K (.ref CPainter) "__setattr__" = some (some (.builtin "object.__setattr__")))
    (rdPainter : PySem.W.readsIn K CPainter (.type "type") = true)
    (gaPainter : PySem.W.specialIn K (.ref CPainter) "__getattribute__" = some (some (.builtin "type.__getattribute__")))
    (nPainter_name : PySem.W.findIn K (.ref CPainter) "_name" = some none)
    (nPainter_day : PySem.W.findIn K (.ref CPainter) "_day" = some none)
    (nPainter_post : PySem.W.findIn K (.ref CPainter) "_post" = some none)
    (nPainter_stride : PySem.W.findIn K (.ref CPainter) "_stride" = some none)
    (vPainterMAX_DAY : PySem.W.findCls K (.ref CPainter) (.type "type") "MAX_DAY" = some (.val uPainterMAX_DAY))
    (wPainterMAX_DAY : L2.RelV (.int (10 ^ 30)) uPainterMAX_DAY)
    (vPainterMAX_POST : PySem.W.findCls K (.ref CPainter) (.type "type") "MAX_POST" = some (.val uPainterMAX_POST))
    (wPainterMAX_POST : L2.RelV (.int (10 ^ 30)) uPainterMAX_POST)
    (vPainterMAX_STRIDE : PySem.W.findCls K (.ref CPainter) (.type "type") "MAX_STRIDE" = some (.val uPainterMAX_STRIDE))
    (wPainterMAX_STRIDE : L2.RelV (.int (10 ^ 18)) uPainterMAX_STRIDE)
    (a22 : PySem.W.findIn K (.ref CPainter) "__init__" = some (some (.ref f22)))
    (i22 : PySem.W.isFn K (.ref f22) = true)
    (l22 : K.lookup f22 = some ⟨oc22, od22, .func (PySem.W.fnOf "__init__" "Painter.__init__" (defArgs s_Painter_init) (defBody s_Painter_init) (defScope s_Painter_init) .none kV22 dc22 pm22 an22 cd22 ct22), sl22⟩)
    (c22 : PySem.W.codeIn K cd22 "Painter.__init__" = true)
    (k22 : PySem.W.keepIn K (.ref f22) = true)
    (mkPainter : PySem.W.makesIn K CPainter = true)
    (kcPainter : PySem.W.keepIn K (.ref CPainter) = true)
    (a23 : PySem.W.findCls K (.ref CPainter) (.type "type") "is_name" = some (.get (.builtin "staticmethod.__get__") (.ref p23) .none (.ref CPainter)))
    (e23 : PySem.W.recIn K p23 "staticmethod" = some (.ref f23 :: r23))
    (l23 : K.lookup f23 = some ⟨oc23, od23, .func (PySem.W.fnOf "is_name" "Painter.is_name" (defArgs s_Painter_is_name) (defBody s_Painter_is_name) (defScope s_Painter_is_name) .none kV23 dc23 pm23 an23 cd23 ct23), sl23⟩)
    (c23 : PySem.W.codeIn K cd23 "Painter.is_name" = true)
    (k23 : PySem.W.keepIn K (.ref f23) = true)
    (a24 : PySem.W.findIn K (.ref CPainter) "post_after" = some (some (.ref f24)))
    (i24 : PySem.W.isFn K (.ref f24) = true)
    (l24 : K.lookup f24 = some ⟨oc24, od24, .func (PySem.W.fnOf "post_after" "Painter.post_after" (defArgs s_Painter_post_after) (defBody s_Painter_post_after) (defScope s_Painter_post_after) .none kV24 dc24 pm24 an24 cd24 ct24), sl24⟩)
    (c24 : PySem.W.codeIn K cd24 "Painter.post_after" = true)
    (k24 : PySem.W.keepIn K (.ref f24) = true)
    (a25 : PySem.W.findIn K (.ref CPainter) "count_at" = some (some (.ref f25)))
    (i25 : PySem.W.isFn K (.ref f25) = true)
    (l25 : K.lookup f25 = some ⟨oc25, od25, .func (PySem.W.fnOf "count_at" "Painter.count_at" (defArgs s_Painter_count_at) (defBody s_Painter_count_at) (defScope s_Painter_count_at) .none kV25 dc25 pm25 an25 cd25 ct25), sl25⟩)
    (c25 : PySem.W.codeIn K cd25 "Painter.count_at" = true)
    (k25 : PySem.W.keepIn K (.ref f25) = true)
    (a26 : PySem.W.findIn K (.ref CPainter) "day_at" = some (some (.ref f26)))
    (i26 : PySem.W.isFn K (.ref f26) = true)
    (l26 : K.lookup f26 = some ⟨oc26, od26, .func (PySem.W.fnOf "day_at" "Painter.day_at" (defArgs s_Painter_day_at) (defBody s_Painter_day_at) (defScope s_Painter_day_at) .none kV26 dc26 pm26 an26 cd26 ct26), sl26⟩)
    (c26 : PySem.W.codeIn K cd26 "Painter.day_at" = true)
    (k26 : PySem.W.keepIn K (.ref f26) = true)
    (gInvalidPainter : PySem.W.nsIn K mainGlobals "InvalidPainter" = some (some (.ref CInvalidPainter)))
    (xLInvalidPainter : K.lookup CInvalidPainter = some (excClassObj nmInvalidPainter qInvalidPainter CInvalidPainter NInvalidPainter bsInvalidPainter [.type "ValueError", .type "Exception", .type "BaseException", .type "object"] true snInvalidPainter subInvalidPainter abInvalidPainter colInvalidPainter ddInvalidPainter m0InvalidPainter m1InvalidPainter m2InvalidPainter m3InvalidPainter m5InvalidPainter "ValueError.__new__"))
    (saInvalidPainter : PySem.W.findIn K (.ref CInvalidPainter) "__setattr__" = some (some (.builtin "object.__setattr__")))
    (gaInvalidPainter : PySem.W.findIn K (.ref CInvalidPainter) "__getattribute__" = some (some (.builtin "BaseException.__getattribute__")))
    (ggInvalidPainter : PySem.W.findIn K (.ref CInvalidPainter) "__getattr__" = some none)
    (nbInvalidPainter : PySem.W.findIn K (.ref CInvalidPainter) "reason" = some none)
    (kCInvalidPainter : PySem.W.keepIn K (.ref CInvalidPainter) = true)
    (eCInvalidPainter : PySem.W.subIn K (.ref CInvalidPainter) (.type "BaseException") = some true)
    (vCInvalidPainter : PySem.W.subIn K (.ref CInvalidPainter) (.type "ValueError") = some true)
    (tCInvalidPainter : PySem.W.typeIn K (.ref CInvalidPainter) = some (.type "type"))
    (hCInvalidPainter : PySem.W.hasDictIn K CInvalidPainter = true)
    (y1InvalidPainter : PySem.W.findIn K (.ref CInvalidPainter) "__class__" = some (some (.builtin "object.__class__")))
    (y2InvalidPainter : PySem.W.specialIn K (.builtin "object.__class__") "__get__" = some (some (.builtin "getset_descriptor.__get__")))
    (y3InvalidPainter : PySem.W.takesIn K (.builtin "object.__class__") = some true)
    (y4InvalidPainter : PySem.W.mroIn K CInvalidPainter (.type "object") = some true)
    (a27 : PySem.W.findIn K (.ref CInvalidPainter) "__init__" = some (some (.ref f27)))
    (t27 : PySem.W.typeIn K (.ref f27) = some (.type "function"))
    (l27 : K.lookup f27 = some ⟨oc27, od27, .func (PySem.W.fnOf "__init__" "InvalidPainter.__init__" (defArgs s_InvalidPainter_init) (defBody s_InvalidPainter_init) (defScope s_InvalidPainter_init) .none kV27 dc27 pm27 an27 cd27 ct27), sl27⟩)
    (c27 : PySem.W.codeIn K cd27 "InvalidPainter.__init__" = true)
    (k27 : PySem.W.keepIn K (.ref f27) = true)
    (gInvalidCount : PySem.W.nsIn K mainGlobals "InvalidCount" = some (some (.ref CInvalidCount)))
    (xLInvalidCount : K.lookup CInvalidCount = some (excClassObj nmInvalidCount qInvalidCount CInvalidCount NInvalidCount bsInvalidCount [.type "ValueError", .type "Exception", .type "BaseException", .type "object"] true snInvalidCount subInvalidCount abInvalidCount colInvalidCount ddInvalidCount m0InvalidCount m1InvalidCount m2InvalidCount m3InvalidCount m5InvalidCount "ValueError.__new__"))
    (saInvalidCount : PySem.W.findIn K (.ref CInvalidCount) "__setattr__" = some (some (.builtin "object.__setattr__")))
    (gaInvalidCount : PySem.W.findIn K (.ref CInvalidCount) "__getattribute__" = some (some (.builtin "BaseException.__getattribute__")))
    (ggInvalidCount : PySem.W.findIn K (.ref CInvalidCount) "__getattr__" = some none)
    (nbInvalidCount : PySem.W.findIn K (.ref CInvalidCount) "value" = some none)
    (kCInvalidCount : PySem.W.keepIn K (.ref CInvalidCount) = true)
    (eCInvalidCount : PySem.W.subIn K (.ref CInvalidCount) (.type "BaseException") = some true)
    (vCInvalidCount : PySem.W.subIn K (.ref CInvalidCount) (.type "ValueError") = some true)
    (tCInvalidCount : PySem.W.typeIn K (.ref CInvalidCount) = some (.type "type"))
    (hCInvalidCount : PySem.W.hasDictIn K CInvalidCount = true)
    (y1InvalidCount : PySem.W.findIn K (.ref CInvalidCount) "__class__" = some (some (.builtin "object.__class__")))
    (y2InvalidCount : PySem.W.specialIn K (.builtin "object.__class__") "__get__" = some (some (.builtin "getset_descriptor.__get__")))
    (y3InvalidCount : PySem.W.takesIn K (.builtin "object.__class__") = some true)
    (y4InvalidCount : PySem.W.mroIn K CInvalidCount (.type "object") = some true)
    (a28 : PySem.W.findIn K (.ref CInvalidCount) "__init__" = some (some (.ref f28)))
    (t28 : PySem.W.typeIn K (.ref f28) = some (.type "function"))
    (l28 : K.lookup f28 = some ⟨oc28, od28, .func (PySem.W.fnOf "__init__" "InvalidCount.__init__" (defArgs s_InvalidCount_init) (defBody s_InvalidCount_init) (defScope s_InvalidCount_init) .none kV28 dc28 pm28 an28 cd28 ct28), sl28⟩)
    (c28 : PySem.W.codeIn K cd28 "InvalidCount.__init__" = true)
    (k28 : PySem.W.keepIn K (.ref f28) = true)
    (gInvalidPost : PySem.W.nsIn K mainGlobals "InvalidPost" = some (some (.ref CInvalidPost)))
    (xLInvalidPost : K.lookup CInvalidPost = some (excClassObj nmInvalidPost qInvalidPost CInvalidPost NInvalidPost bsInvalidPost [.type "ValueError", .type "Exception", .type "BaseException", .type "object"] true snInvalidPost subInvalidPost abInvalidPost colInvalidPost ddInvalidPost m0InvalidPost m1InvalidPost m2InvalidPost m3InvalidPost m5InvalidPost "ValueError.__new__"))
    (saInvalidPost : PySem.W.findIn K (.ref CInvalidPost) "__setattr__" = some (some (.builtin "object.__setattr__")))
    (gaInvalidPost : PySem.W.findIn K (.ref CInvalidPost) "__getattribute__" = some (some (.builtin "BaseException.__getattribute__")))
    (ggInvalidPost : PySem.W.findIn K (.ref CInvalidPost) "__getattr__" = some none)
    (nbInvalidPost : PySem.W.findIn K (.ref CInvalidPost) "value" = some none)
    (kCInvalidPost : PySem.W.keepIn K (.ref CInvalidPost) = true)
    (eCInvalidPost : PySem.W.subIn K (.ref CInvalidPost) (.type "BaseException") = some true)
    (vCInvalidPost : PySem.W.subIn K (.ref CInvalidPost) (.type "ValueError") = some true)
    (tCInvalidPost : PySem.W.typeIn K (.ref CInvalidPost) = some (.type "type"))
    (hCInvalidPost : PySem.W.hasDictIn K CInvalidPost = true)
    (y1InvalidPost : PySem.W.findIn K (.ref CInvalidPost) "__class__" = some (some (.builtin "object.__class__")))
    (y2InvalidPost : PySem.W.specialIn K (.builtin "object.__class__") "__get__" = some (some (.builtin "getset_descriptor.__get__")))
    (y3InvalidPost : PySem.W.takesIn K (.builtin "object.__class__") = some true)
    (y4InvalidPost : PySem.W.mroIn K CInvalidPost (.type "object") = some true)
    (a29 : PySem.W.findIn K (.ref CInvalidPost) "__init__" = some (some (.ref f29)))
    (t29 : PySem.W.typeIn K (.ref f29) = some (.type "function"))
    (l29 : K.lookup f29 = some ⟨oc29, od29, .func (PySem.W.fnOf "__init__" "InvalidPost.__init__" (defArgs s_InvalidPost_init) (defBody s_InvalidPost_init) (defScope s_InvalidPost_init) .none kV29 dc29 pm29 an29 cd29 ct29), sl29⟩)
    (c29 : PySem.W.codeIn K cd29 "InvalidPost.__init__" = true)
    (k29 : PySem.W.keepIn K (.ref f29) = true)
    (suInvalidPainterInvalidPainter : PySem.W.subIn K (.ref CInvalidPainter) (.ref CInvalidPainter) = some true)
    (suInvalidCountInvalidPainter : PySem.W.subIn K (.ref CInvalidCount) (.ref CInvalidPainter) = some false)
    (suInvalidCountInvalidCount : PySem.W.subIn K (.ref CInvalidCount) (.ref CInvalidCount) = some true)
    (suInvalidPostInvalidPainter : PySem.W.subIn K (.ref CInvalidPost) (.ref CInvalidPainter) = some false)
    (suInvalidPostInvalidCount : PySem.W.subIn K (.ref CInvalidPost) (.ref CInvalidCount) = some false)
    (suInvalidPostInvalidPost : PySem.W.subIn K (.ref CInvalidPost) (.ref CInvalidPost) = some true)
    (gParseError : PySem.W.nsIn K mainGlobals "ParseError" = some (some (.ref CParseError)))
    (tCParseError : PySem.W.typeIn K (.ref CParseError) = some (.type "type"))
    (iCParseError : PySem.W.isClsIn K CParseError = true)
    (suInvalidPainterParseError : PySem.W.subIn K (.ref CInvalidPainter) (.ref CParseError) = some false)
    (suInvalidCountParseError : PySem.W.subIn K (.ref CInvalidCount) (.ref CParseError) = some false)
    (suInvalidPostParseError : PySem.W.subIn K (.ref CInvalidPost) (.ref CParseError) = some false)
    (rLq : cdL = Value.ref cq_law)
    (vLx : K.lookup cq_law = some ⟨eLq, dLq, .fields vLq, sLq⟩)
    (wLx : (vLq[11]? : Option Value) = some (.ref Pq_law))
    (nLq : K.lookup Pq_law = none)
    (r17q : cd17 = Value.ref cq__law_answers_right)
    (v17x : K.lookup cq__law_answers_right = some ⟨e17q, d17q, .fields v17q, s17q⟩)
    (w17x : (v17q[11]? : Option Value) = some (.ref Pq__law_answers_right))
    (n17q : K.lookup Pq__law_answers_right = none)
    (nqq : Pq_law ≠ Pq__law_answers_right)
    (GMAX_ARGUMENT : PySem.W.nsIn K mainGlobals "MAX_ARGUMENT" = some (some vgMAX_ARGUMENT))
    (HMAX_ARGUMENT : L2.RelV (.int (10 ^ 80)) vgMAX_ARGUMENT)
    (zlen : PySem.W.nsIn K mainGlobals "len" = some none)
    (zint : PySem.W.nsIn K mainGlobals "int" = some none)
    (zabs : PySem.W.nsIn K mainGlobals "abs" = some none)
    (zlist : PySem.W.nsIn K mainGlobals "list" = some none)
    (zrange : PySem.W.nsIn K mainGlobals "range" = some none)
    (zmin : PySem.W.nsIn K mainGlobals "min" = some none)
    (zmax : PySem.W.nsIn K mainGlobals "max" = some none)
    (zrepr : PySem.W.nsIn K mainGlobals "repr" = some none)
    (zstr : PySem.W.nsIn K mainGlobals "str" = some none)
    (zbool : PySem.W.nsIn K mainGlobals "bool" = some none)
    (zisinstance : PySem.W.nsIn K mainGlobals "isinstance" = some none)
    (zany : PySem.W.nsIn K mainGlobals "any" = some none)
    (zdivmod : PySem.W.nsIn K mainGlobals "divmod" = some none)
    (zValueError : PySem.W.nsIn K mainGlobals "ValueError" = some none)
    : ∃ (fd : FuncData) (ct : List (Addr × Addr)) (sp : Sp), (∀ (s : Shared) (v : Value), BindsTo s fd ⟨[v], []⟩ [("_law_script", v)]) ∧ (∀ q ∈ ct, K.lookup q.2 = none ∧ ∃ y ∈ (["law", "_law_answers_right"] : List Str), PySem.W.tabIn K y = some q) ∧
      (∀ (H : Hp) (a : Addr) (ns : List Int), ns.length ≤ 63 → (∀ q ∈ ct, H q.2 = some (.tbl #[])) → SqL K H a (ns.map V.int) → sp [.ref a] H (fun v _ => v = .bl true) fun _ _ _ => False) ∧ ∀ base : Heap, K.In base → base.Ns mainGlobals mg → (∀ q ∈ ct, LamX.TabB base mg q.1 q.2) → FnG l.prog w K mg base 40 fa fd ["_law_script"] sp := by
  have e := hfa.symm.trans (PySem.W.mg_of X G aL)
  cases e
  have F_law := fun_mk (st := s_law) lL cL kL
  have u17q := tab_mk a17 l17 (fd := PySem.W.fnOf "_law_answers_right" "_law_answers_right" (defArgs s__law_answers_right) (defBody s__law_answers_right) (defScope s__law_answers_right) .none kV17 dc17 pm17 an17 cd17 ct17) r17q v17x w17x
  have uLq := tab_mk aL lL (fd := PySem.W.fnOf "law" "law" (defArgs s_law) (defBody s_law) (defScope s_law) .none kVL dcL pmL anL cdL ctL) rLq vLx wLx
  have D__law_pen : Dfn K mg "_law_pen" s__law_pen P__law_pen := ⟨f1, _, fun_mk l1 c1 k1, (fun_mk l1 c1 k1).binds fun _ _ _ _ _ _ us hl => match us, hl with | [_], _ => rfl, PySem.W.mg_of X G a1⟩
  have D__law_draw : Dfn K mg "_law_draw" s__law_draw P__law_draw := ⟨f2, _, fun_mk l2 c2 k2, (fun_mk l2 c2 k2).binds fun _ _ _ _ _ _ us hl => match us, hl with | [_, _], _ => rfl, PySem.W.mg_of X G a2⟩
  have D__law_pick : Dfn K mg "_law_pick" s__law_pick P__law_pick := ⟨f3, _, fun_mk l3 c3 k3, (fun_mk l3 c3 k3).binds fun _ _ _ _ _ _ us hl => match us, hl with | [_, _], _ => rfl, PySem.W.mg_of X G a3⟩
  have D__law_around : Dfn K mg "_law_around" s__law_around P__law_around := ⟨f4, _, fun_mk l4 c4 k4, (fun_mk l4 c4 k4).binds fun _ _ _ _ _ _ us hl => match us, hl with | [_, _], _ => rfl, PySem.W.mg_of X G a4⟩
  have D__law_power : Dfn K mg "_law_power" s__law_power P__law_power := ⟨f5, _, fun_mk l5 c5 k5, (fun_mk l5 c5 k5).binds fun _ _ _ _ _ _ us hl => match us, hl with | [_], _ => rfl, PySem.W.mg_of X G a5⟩
  have D__law_great : Dfn K mg "_law_great" s__law_great P__law_great := ⟨f6, _, fun_mk l6 c6 k6, (fun_mk l6 c6 k6).binds fun _ _ _ _ _ _ us hl => match us, hl with | [_, _], _ => rfl, PySem.W.mg_of X G a6⟩
  have D__law_names : Dfn K mg "_law_names" s__law_names P__law_names := ⟨f7, _, fun_mk l7 c7 k7, (fun_mk l7 c7 k7).binds fun _ _ _ _ _ _ us hl => match us, hl with | [_, _], _ => rfl, PySem.W.mg_of X G a7⟩
  have D__law_small : Dfn K mg "_law_small" s__law_small P__law_small := ⟨f8, _, fun_mk l8 c8 k8, (fun_mk l8 c8 k8).binds fun _ _ _ _ _ _ us hl => match us, hl with | [_, _], _ => rfl, PySem.W.mg_of X G a8⟩
  have D__law_aimed : Dfn K mg "_law_aimed" s__law_aimed P__law_aimed := ⟨f9, _, fun_mk l9 c9 k9, (fun_mk l9 c9 k9).binds fun _ _ _ _ _ _ us hl => match us, hl with | [_, _], _ => rfl, PySem.W.mg_of X G a9⟩
  have D__law_lined : Dfn K mg "_law_lined" s__law_lined P__law_lined := ⟨f10, _, fun_mk l10 c10 k10, (fun_mk l10 c10 k10).binds fun _ _ _ _ _ _ us hl => match us, hl with | [_, _], _ => rfl, PySem.W.mg_of X G a10⟩
  have D__law_odd : Dfn K mg "_law_odd" s__law_odd P__law_odd := ⟨f11, _, fun_mk l11 c11 k11, (fun_mk l11 c11 k11).binds fun _ _ _ _ _ _ us hl => match us, hl with | [_], _ => rfl, PySem.W.mg_of X G a11⟩
  have D__law_is_int : Dfn K mg "_law_is_int" s__law_is_int P__law_is_int := ⟨f12, _, fun_mk l12 c12 k12, (fun_mk l12 c12 k12).binds fun _ _ _ _ _ _ us hl => match us, hl with | [_, _, _], _ => rfl, PySem.W.mg_of X G a12⟩
  have D__law_is_name : Dfn K mg "_law_is_name" s__law_is_name P__law_is_name := ⟨f13, _, fun_mk l13 c13 k13, (fun_mk l13 c13 k13).binds fun _ _ _ _ _ _ us hl => match us, hl with | [_], _ => rfl, PySem.W.mg_of X G a13⟩
  have D__law_painters : Dfn K mg "_law_painters" s__law_painters P__law_painters := ⟨f14, _, fun_mk l14 c14 k14, (fun_mk l14 c14 k14).binds fun _ _ _ _ _ _ us hl => match us, hl with | [_], _ => rfl, PySem.W.mg_of X G a14⟩
  have D__law_due : Dfn K mg "_law_due" s__law_due P__law_due := ⟨f15, _, fun_mk l15 c15 k15, (fun_mk l15 c15 k15).binds fun _ _ _ _ _ _ us hl => match us, hl with | [_, _, _, _], _ => rfl, PySem.W.mg_of X G a15⟩
  have D__law_refused : Dfn K mg "_law_refused" s__law_refused P__law_refused := ⟨f16, _, fun_mk l16 c16 k16, (fun_mk l16 c16 k16).binds fun _ _ _ _ _ _ us hl => match us, hl with | [_], _ => rfl, PySem.W.mg_of X G a16⟩
  have D__law_answers_right : Dfn K mg "_law_answers_right" s__law_answers_right P__law_answers_right := ⟨f17, _, fun_mk l17 c17 k17, (fun_mk l17 c17 k17).binds fun _ _ _ _ _ _ us hl => match us, hl with | [_, _], _ => rfl, PySem.W.mg_of X G a17⟩
  have D_is_integer : Dfn K mg "is_integer" s_is_integer P_is_integer := ⟨f18, _, fun_mk l18 c18 k18, (fun_mk l18 c18 k18).binds fun _ _ _ _ _ _ us hl => match us, hl with | [_], _ => rfl, PySem.W.mg_of X G a18⟩
  have D_is_between : Dfn K mg "is_between" s_is_between P_is_between := ⟨f19, _, fun_mk l19 c19 k19, (fun_mk l19 c19 k19).binds fun _ _ _ _ _ _ us hl => match us, hl with | [_, _, _], _ => rfl, PySem.W.mg_of X G a19⟩
  have D_check_count : Dfn K mg "check_count" s_check_count P_check_count := ⟨f20, _, fun_mk l20 c20 k20, (fun_mk l20 c20 k20).binds fun _ _ _ _ _ _ us hl => match us, hl with | [_], _ => rfl, PySem.W.mg_of X G a20⟩
  have D_check_post : Dfn K mg "check_post" s_check_post P_check_post := ⟨f21, _, fun_mk l21 c21 k21, (fun_mk l21 c21 k21).binds fun _ _ _ _ _ _ us hl => match us, hl with | [_], _ => rfl, PySem.W.mg_of X G a21⟩
  have cl_Painter : Cls K CPainter := ⟨pgPainter, hdPainter, poPainter, saPainter⟩
  have rd_Painter : ClX.CRead K CPainter (.type "type") := ⟨rdPainter, gaPainter⟩
  have mg_Painter : mg "Painter" = some (.ref CPainter) := PySem.W.mg_of X G gPainter
  have cv_Painter_MAX_DAY : ∃ u, ClX.CVal K CPainter (.type "type") "MAX_DAY" (.int (10 ^ 30)) u := ⟨_, vPainterMAX_DAY, wPainterMAX_DAY⟩
  have cv_Painter_MAX_POST : ∃ u, ClX.CVal K CPainter (.type "type") "MAX_POST" (.int (10 ^ 30)) u := ⟨_, vPainterMAX_POST, wPainterMAX_POST⟩
  have cv_Painter_MAX_STRIDE : ∃ u, ClX.CVal K CPainter (.type "type") "MAX_STRIDE" (.int (10 ^ 18)) u := ⟨_, vPainterMAX_STRIDE, wPainterMAX_STRIDE⟩
  have F_Painter_init := fun_mk (st := s_Painter_init) (x := "__init__") l22 c22 k22
  have b_Painter_init := F_Painter_init.binds (ps := P_Painter_init) fun _ _ _ _ _ _ us hl => match us, hl with | [_, _, _, _, _], _ => rfl
  have mk_Painter : Mk K CPainter f22 := ⟨mkPainter, a22, i22, kcPainter⟩
  have F_Painter_is_name := fun_mk (st := s_Painter_is_name) (x := "is_name") l23 c23 k23
  have b_Painter_is_name := F_Painter_is_name.binds (ps := P_Painter_is_name) fun _ _ _ _ _ _ us hl => match us, hl with | [_], _ => rfl
  have sm_Painter_is_name : SMet K CPainter (.type "type") "is_name" p23 f23 := ⟨a23, ⟨_, e23⟩, k23⟩
  have F_Painter_post_after := fun_mk (st := s_Painter_post_after) (x := "post_after") l24 c24 k24
  have b_Painter_post_after := F_Painter_post_after.binds (ps := P_Painter_post_after) fun _ _ _ _ _ _ us hl => match us, hl with | [_, _], _ => rfl
  have me_Painter_post_after : Meth K CPainter "post_after" f24 := ⟨a24, i24, k24⟩
  have fi_Painter_post_after : PySem.W.fnIn K f24 = true := by unfold PySem.W.fnIn; rw [l24]
  have F_Painter_count_at := fun_mk (st := s_Painter_count_at) (x := "count_at") l25 c25 k25
  have b_Painter_count_at := F_Painter_count_at.binds (ps := P_Painter_count_at) fun _ _ _ _ _ _ us hl => match us, hl with | [_, _], _ => rfl
  have me_Painter_count_at : Meth K CPainter "count_at" f25 := ⟨a25, i25, k25⟩
  have fi_Painter_count_at : PySem.W.fnIn K f25 = true := by unfold PySem.W.fnIn; rw [l25]
  have F_Painter_day_at := fun_mk (st := s_Painter_day_at) (x := "day_at") l26 c26 k26
  have b_Painter_day_at := F_Painter_day_at.binds (ps := P_Painter_day_at) fun _ _ _ _ _ _ us hl => match us, hl with | [_, _], _ => rfl
  have me_Painter_day_at : Meth K CPainter "day_at" f26 := ⟨a26, i26, k26⟩
  have fi_Painter_day_at : PySem.W.fnIn K f26 = true := by unfold PySem.W.fnIn; rw [l26]
  have F_InvalidPainter_init := fun_mk (st := s_InvalidPainter_init) (x := "__init__") l27 c27 k27
  have b_InvalidPainter_init := F_InvalidPainter_init.binds (ps := P_InvalidPainter_init) fun _ _ _ _ _ _ us hl => match us, hl with | [_, _], _ => rfl
  have ek_InvalidPainter : ErrK K CInvalidPainter "reason" := ⟨⟨⟨_, _, _, _, _, _, _, _, _, _, _, _, _, _, _, xLInvalidPainter, by decide +kernel⟩, saInvalidPainter, eCInvalidPainter, tCInvalidPainter, kCInvalidPainter⟩, nbInvalidPainter, ⟨gaInvalidPainter, ggInvalidPainter, eCInvalidPainter, hCInvalidPainter⟩, ⟨gaInvalidPainter, ggInvalidPainter, eCInvalidPainter, hCInvalidPainter, y1InvalidPainter, y2InvalidPainter, y3InvalidPainter, y4InvalidPainter⟩⟩
  have mg_InvalidPainter : mg "InvalidPainter" = some (.ref CInvalidPainter) := PySem.W.mg_of X G gInvalidPainter
  have in_InvalidPainter := And.intro a27 t27
  have F_InvalidCount_init := fun_mk (st := s_InvalidCount_init) (x := "__init__") l28 c28 k28
  have b_InvalidCount_init := F_InvalidCount_init.binds (ps := P_InvalidCount_init) fun _ _ _ _ _ _ us hl => match us, hl with | [_, _], _ => rfl
  have ek_InvalidCount : ErrK K CInvalidCount "value" := ⟨⟨⟨_, _, _, _, _, _, _, _, _, _, _, _, _, _, _, xLInvalidCount, by decide +kernel⟩, saInvalidCount, eCInvalidCount, tCInvalidCount, kCInvalidCount⟩, nbInvalidCount, ⟨gaInvalidCount, ggInvalidCount, eCInvalidCount, hCInvalidCount⟩, ⟨gaInvalidCount, ggInvalidCount, eCInvalidCount, hCInvalidCount, y1InvalidCount, y2InvalidCount, y3InvalidCount, y4InvalidCount⟩⟩
  have mg_InvalidCount : mg "InvalidCount" = some (.ref CInvalidCount) := PySem.W.mg_of X G gInvalidCount
  have in_InvalidCount := And.intro a28 t28
  have F_InvalidPost_init := fun_mk (st := s_InvalidPost_init) (x := "__init__") l29 c29 k29
  have b_InvalidPost_init := F_InvalidPost_init.binds (ps := P_InvalidPost_init) fun _ _ _ _ _ _ us hl => match us, hl with | [_, _], _ => rfl
  have ek_InvalidPost : ErrK K CInvalidPost "value" := ⟨⟨⟨_, _, _, _, _, _, _, _, _, _, _, _, _, _, _, xLInvalidPost, by decide +kernel⟩, saInvalidPost, eCInvalidPost, tCInvalidPost, kCInvalidPost⟩, nbInvalidPost, ⟨gaInvalidPost, ggInvalidPost, eCInvalidPost, hCInvalidPost⟩, ⟨gaInvalidPost, ggInvalidPost, eCInvalidPost, hCInvalidPost, y1InvalidPost, y2InvalidPost, y3InvalidPost, y4InvalidPost⟩⟩
  have mg_InvalidPost : mg "InvalidPost" = some (.ref CInvalidPost) := PySem.W.mg_of X G gInvalidPost
  have in_InvalidPost := And.intro a29 t29
  have ex_InvalidPainter_InvalidPainter := PySem.W.exm_ref eCInvalidPainter hCInvalidPainter tCInvalidPainter suInvalidPainterInvalidPainter
  have ex_InvalidCount_InvalidPainter := PySem.W.exm_ref eCInvalidPainter hCInvalidPainter tCInvalidPainter suInvalidCountInvalidPainter
  have ex_InvalidCount_InvalidCount := PySem.W.exm_ref eCInvalidCount hCInvalidCount tCInvalidCount suInvalidCountInvalidCount
  have ex_InvalidPost_InvalidPainter := PySem.W.exm_ref eCInvalidPainter hCInvalidPainter tCInvalidPainter suInvalidPostInvalidPainter
  have ex_InvalidPost_InvalidCount := PySem.W.exm_ref eCInvalidCount hCInvalidCount tCInvalidCount suInvalidPostInvalidCount
  have ex_InvalidPost_InvalidPost := PySem.W.exm_ref eCInvalidPost hCInvalidPost tCInvalidPost suInvalidPostInvalidPost
  have mg_ParseError : mg "ParseError" = some (.ref CParseError) := PySem.W.mg_of X G gParseError
  have no_InvalidPainter_ParseError := kit_not iCParseError tCParseError suInvalidPainterParseError suInvalidPainterInvalidPainter
  have no_InvalidCount_ParseError := kit_not iCParseError tCParseError suInvalidCountParseError suInvalidCountInvalidCount
  have no_InvalidPost_ParseError := kit_not iCParseError tCParseError suInvalidPostParseError suInvalidPostInvalidPost
  have DT__law_answers_right : DfnT K mg "_law_answers_right" s__law_answers_right P__law_answers_right cq__law_answers_right := ⟨f17, _, fun_mk l17 c17 k17, (fun_mk l17 c17 k17).binds fun _ _ _ _ _ _ us hl => match us, hl with | [_, _], _ => rfl, PySem.W.mg_of X G a17, r17q⟩
  have gl_MAX_ARGUMENT : ∃ u, mg "MAX_ARGUMENT" = some u ∧ L2.RelV (.int (10 ^ 80)) u := ⟨_, PySem.W.mg_of X G GMAX_ARGUMENT, HMAX_ARGUMENT⟩
  have B : Blt mg := ⟨PySem.W.mg_none_of X G zlen, PySem.W.mg_none_of X G zint, PySem.W.mg_none_of X G zabs, PySem.W.mg_none_of X G zlist, PySem.W.mg_none_of X G zrange, PySem.W.mg_none_of X G zmin, PySem.W.mg_none_of X G zmax, PySem.W.mg_none_of X G zrepr, PySem.W.mg_none_of X G zstr, PySem.W.mg_none_of X G zbool, PySem.W.mg_none_of X G zisinstance, PySem.W.mg_none_of X G zany, PySem.W.mg_none_of X G zdivmod⟩
  have nb_ValueError : mg "ValueError" = none := PySem.W.mg_none_of X G zValueError
  refine ⟨PySem.W.fnOf "law" "law" (defArgs s_law) (defBody s_law) (defScope s_law) .none kVL dcL pmL anL cdL ctL, [(cq_law, Pq_law), (cq__law_answers_right, Pq__law_answers_right)], spLaw K (TT2 Pq_law Pq__law_answers_right (lamQ "law" s_law)), fun s v => .of_eq rfl, ?_, ?_, fun base hKb _ hTB => ?_⟩
  · intro q hq
    rcases List.mem_cons.mp hq with rfl | hq
    · exact ⟨nLq, _, List.mem_cons_self, uLq⟩
    · rw [List.mem_singleton.mp hq]
      exact ⟨n17q, _, List.mem_cons_of_mem _ List.mem_cons_self, u17q⟩
  · intro H a ns hl hT hS
    refine ⟨a, ns, rfl, hS, hl, fun p hp => ?_, fun _ => rfl⟩
    rcases List.mem_cons.mp hp with rfl | hp
    · exact LamX.TabS.nil (hT (cq_law, Pq_law) List.mem_cons_self)
    · rw [List.mem_singleton.mp hp]
      exact LamX.TabS.nil (hT (cq__law_answers_right, Pq__law_answers_right) (List.mem_cons_of_mem _ List.mem_cons_self))
  have T : PTxt K mg CPainter := ⟨cl_Painter, nPainter_name, nPainter_day, nPainter_post, nPainter_stride, mg_Painter, rd_Painter, cv_Painter_MAX_DAY, cv_Painter_MAX_POST, cv_Painter_MAX_STRIDE⟩
  have CD := ok_draw (P := l.prog) (w := w) (base := base) D__law_draw B
  have CP := ok_pickL (P := l.prog) (w := w) (base := base) D__law_pick B CD
  have CPS := ok_pickS (P := l.prog) (w := w) (base := base) D__law_pick B CD
  have CI := ok_pickI CP
  have CA := ok_around (P := l.prog) (w := w) (base := base) D__law_around CD
  have CW := ok_power (P := l.prog) (w := w) (base := base) D__law_power B
  have CG := ok_great (P := l.prog) (w := w) (base := base) D__law_great CW CD CP
  have CN := ok_names (P := l.prog) (w := w) (base := base) D__law_names B CD CP CPS
  have CPen := ok_pen (P := l.prog) (w := w) (base := base) D__law_pen B
  have CInt := ok_is_integer (P := l.prog) (w := w) (base := base) D_is_integer B
  have CB := ok_is_between (P := l.prog) (w := w) (base := base) D_is_between CInt
  have FN := ok_is_name (P := l.prog) (w := w) (base := base) F_Painter_is_name B
  have FI := ok_init (P := l.prog) (w := w) (base := base) F_Painter_init T sm_Painter_is_name FN b_Painter_is_name CB
  have hMk : MkP l.prog w K mg base CPainter := ⟨_, _, mk_Painter, FI, b_Painter_init⟩
  have CS := ok_small (P := l.prog) (w := w) (base := base) D__law_small B CD CI CP CA CN
  have CM := ok_aimed (P := l.prog) (w := w) (base := base) D__law_aimed B CD CI CP CG CN
  have CL := ok_lined (P := l.prog) (w := w) (base := base) D__law_lined B CD CI CA CG CN
  have CPs := ok_painters (P := l.prog) (w := w) (base := base) D__law_painters CD CS CM CL
  have CIntX := ok_is_integerX (P := l.prog) (w := w) (base := base) D_is_integer B
  have CBX := ok_is_betweenX (P := l.prog) (w := w) (base := base) D_is_between CIntX
  have FNX := ok_is_nameX (P := l.prog) (w := w) (base := base) F_Painter_is_name B
  have EI : ErrOk l.prog w K mg base CInvalidPainter "InvalidPainter" "reason" := ⟨mg_InvalidPainter, ek_InvalidPainter, _, _, _, in_InvalidPainter.1, in_InvalidPainter.2, ok_errI F_InvalidPainter_init ek_InvalidPainter, b_InvalidPainter_init⟩
  have EC : ErrOk l.prog w K mg base CInvalidCount "InvalidCount" "value" := ⟨mg_InvalidCount, ek_InvalidCount, _, _, _, in_InvalidCount.1, in_InvalidCount.2, ok_errC F_InvalidCount_init ek_InvalidCount, b_InvalidCount_init⟩
  have EQ : ErrOk l.prog w K mg base CInvalidPost "InvalidPost" "value" := ⟨mg_InvalidPost, ek_InvalidPost, _, _, _, in_InvalidPost.1, in_InvalidPost.2, ok_errP F_InvalidPost_init ek_InvalidPost, b_InvalidPost_init⟩
  have FIX := ok_initX (P := l.prog) (w := w) (base := base) F_Painter_init T sm_Painter_is_name FNX b_Painter_is_name CBX EI
  have kb := kbn_rev (ks := ["stride", "post", "day", "name"]) (n := 1) (ps := P_Painter_init) F_Painter_init fun _ _ _ _ _ _ us ws h1 h2 => match us, ws, h1, h2 with | [_], [_, _, _, _], _, _ => rfl
  have hMkX : MkX l.prog w K mg base CPainter CInvalidPainter := ⟨_, _, mk_Painter, FIX, b_Painter_init, kb⟩
  obtain ⟨uM, hM, rM⟩ := gl_MAX_ARGUMENT
  have CC := ok_check_countX (P := l.prog) (w := w) (base := base) D_check_count hM rM CBX EC
  have CKP := ok_check_postX (P := l.prog) (w := w) (base := base) D_check_post hM rM CBX EQ
  have FPA := ok_post_afterX (P := l.prog) (w := w) (base := base) F_Painter_post_after T CC
  have FCA := ok_count_atX (P := l.prog) (w := w) (base := base) F_Painter_count_at B T CKP
  have hPA : MethX l.prog w K mg base CPainter "post_after" 4 P_Painter_post_after (spAsk CPainter CInvalidCount 0 (10 ^ 80)) := ⟨_, _, me_Painter_post_after, FPA, b_Painter_post_after⟩
  have hCA : MethX l.prog w K mg base CPainter "count_at" 4 P_Painter_count_at (spAsk CPainter CInvalidPost (-(10 ^ 80)) (10 ^ 80)) := ⟨_, _, me_Painter_count_at, FCA, b_Painter_count_at⟩
  have FDA := ok_day_atX (P := l.prog) (w := w) (base := base) F_Painter_day_at T hCA
  have hDA : MethX l.prog w K mg base CPainter "day_at" 5 P_Painter_day_at (spAsk CPainter CInvalidPost (-(10 ^ 80)) (10 ^ 80)) := ⟨_, _, me_Painter_day_at, FDA, b_Painter_day_at⟩
  have R : RefK K mg CInvalidPainter CInvalidCount CInvalidPost CParseError := ⟨mg_InvalidPainter, mg_InvalidCount, mg_InvalidPost, mg_ParseError, nb_ValueError, ek_InvalidPainter, ek_InvalidCount, ek_InvalidPost, ex_InvalidPainter_InvalidPainter, ex_InvalidCount_InvalidPainter, ex_InvalidCount_InvalidCount, ex_InvalidPost_InvalidPainter, ex_InvalidPost_InvalidCount, ex_InvalidPost_InvalidPost, kit_typ (by decide +kernel) vCInvalidPainter, kit_typ (by decide +kernel) vCInvalidCount, kit_typ (by decide +kernel) vCInvalidPost, no_InvalidPainter_ParseError, no_InvalidCount_ParseError, no_InvalidPost_ParseError⟩
  have LI := ok_lisint (P := l.prog) (w := w) (base := base) D__law_is_int B
  have LN := ok_lisname (P := l.prog) (w := w) (base := base) D__law_is_name B
  have CDue := ok_due (P := l.prog) (w := w) (base := base) D__law_due LI LN
  have CO := ok_odd (P := l.prog) (w := w) (base := base) D__law_odd B CP
  have tb1 := hTB _ List.mem_cons_self
  have tb2 := hTB _ (List.mem_cons_of_mem _ List.mem_cons_self)
  have CAR := ok_ar (P := l.prog) (w := w) (base := base) (qL := lamQ "law" s_law) DT__law_answers_right B T R D__law_refused tb2 nqq CO CG CP LI hPA hCA hDA
  exact ok_law F_law rLq B T R D__law_refused tb1 nqq sm_Painter_is_name FNX b_Painter_is_name hMk hMkX CPen CN CO CP CG CDue LN CPs CAR
end Ur
open PySem PySem.W PyProof.Rows
set_option maxRecDepth 100000 in
set_option maxHeartbeats 0 in
theorem PySem.Challenge.cw_paintposts_k02_painters_and_values_that_holds : PySem.Challenge.rw_paintposts_k02_painters_and_values_that.Holds := by
  w_on; o_law; k_head; (case hw => w_witness2)
  k_fill
  refine Ur.walk_ofGT (l := PySem.Challenge.rw_paintposts_k02_painters_and_values_that) (n := 63) (k := 40) (x := "_law_script") (xs := ["law", "_law_answers_right"]) rfl (by decide) rfl ⟨rfl, by decide, by decide⟩ ?hrec (fun w h Y => PySem.W.km_in_of Y) ?F
  case hrec => decide +kernel
  case F =>
    intro w mg fa h KX G hmg
    refine' Ur.all_mk KX G hmg ?a1 ?l1 ?c1 ?k1 ?a2 ?l2 ?c2 ?k2 ?a3 ?l3 ?c3 ?k3 ?a4 ?l4 ?c4 ?k4 ?a5 ?l5 ?c5 ?k5 ?a6 ?l6 ?c6 ?k6 ?a7 ?l7 ?c7 ?k7 ?a8 ?l8 ?c8 ?k8 ?a9 ?l9 ?c9 ?k9 ?a10 ?l10 ?c10 ?k10 ?a11 ?l11 ?c11 ?k11 ?a12 ?l12 ?c12 ?k12 ?a13 ?l13 ?c13 ?k13 ?a14 ?l14 ?c14 ?k14 ?a15 ?l15 ?c15 ?k15 ?a16 ?l16 ?c16 ?k16 ?a17 ?l17 ?c17 ?k17 ?a18 ?l18 ?c18 ?k18 ?a19 ?l19 ?c19 ?k19 ?a20 ?l20 ?c20 ?k20 ?a21 ?l21 ?c21 ?k21 ?aL ?lL ?cL ?kL ?gPainter ?pgPainter ?hdPainter ?poPainter ?saPainter ?rdPainter ?gaPainter ?nPainter_name ?nPainter_day ?nPainter_post ?nPainter_stride ?vPainterMAX_DAY ?wPainterMAX_DAY ?vPainterMAX_POST ?wPainterMAX_POST ?vPainterMAX_STRIDE ?wPainterMAX_STRIDE ?a22 ?i22 ?l22 ?c22 ?k22 ?mkPainter ?kcPainter ?a23 ?e23 ?l23 ?c23 ?k23 ?a24 ?i24 ?l24 ?c24 ?k24 ?a25 ?i25 ?l25 ?c25 ?k25 ?a26 ?i26 ?l26 ?c26 ?k26 ?gInvalidPainter ?xLInvalidPainter ?saInvalidPainter ?gaInvalidPainter ?ggInvalidPainter ?nbInvalidPainter ?kCInvalidPainter ?eCInvalidPainter ?vCInvalidPainter ?tCInvalidPainter ?hCInvalidPainter ?y1InvalidPainter ?y2InvalidPainter ?y3InvalidPainter ?y4InvalidPainter ?a27 ?t27 ?l27 ?c27 ?k27 ?gInvalidCount ?xLInvalidCount ?saInvalidCount ?gaInvalidCount ?ggInvalidCount ?nbInvalidCount ?kCInvalidCount ?eCInvalidCount ?vCInvalidCount ?tCInvalidCount ?hCInvalidCount ?y1InvalidCount ?y2InvalidCount ?y3InvalidCount ?y4InvalidCount ?a28 ?t28 ?l28 ?c28 ?k28 ?gInvalidPost ?xLInvalidPost ?saInvalidPost ?gaInvalidPost ?ggInvalidPost ?nbInvalidPost ?kCInvalidPost ?eCInvalidPost ?vCInvalidPost ?tCInvalidPost ?hCInvalidPost ?y1InvalidPost ?y2InvalidPost ?y3InvalidPost ?y4InvalidPost ?a29 ?t29 ?l29 ?c29 ?k29 ?suInvalidPainterInvalidPainter ?suInvalidCountInvalidPainter ?suInvalidCountInvalidCount ?suInvalidPostInvalidPainter ?suInvalidPostInvalidCount ?suInvalidPostInvalidPost ?gParseError ?tCParseError ?iCParseError ?suInvalidPainterParseError ?suInvalidCountParseError ?suInvalidPostParseError ?rLq ?vLx ?wLx ?nLq ?r17q ?v17x ?w17x ?n17q ?nqq ?GMAX_ARGUMENT ?HMAX_ARGUMENT ?zlen ?zint ?zabs ?zlist ?zrange ?zmin ?zmax ?zrepr ?zstr ?zbool ?zisinstance ?zany ?zdivmod ?zValueError
    (case a1 => k_is)
    (case l1 => k_is)
    (case c1 => k_is)
    (case k1 => k_is)
    (case a2 => k_is)
    (case l2 => k_is)
    (case c2 => k_is)
    (case k2 => k_is)
    (case a3 => k_is)
    (case l3 => k_is)
    (case c3 => k_is)
    (case k3 => k_is)
    (case a4 => k_is)
    (case l4 => k_is)
    (case c4 => k_is)
    (case k4 => k_is)
    (case a5 => k_is)
    (case l5 => k_is)
    (case c5 => k_is)
    (case k5 => k_is)
    (case a6 => k_is)
    (case l6 => k_is)
    (case c6 => k_is)
    (case k6 => k_is)
    (case a7 => k_is)
    (case l7 => k_is)
    (case c7 => k_is)
    (case k7 => k_is)
    (case a8 => k_is)
    (case l8 => k_is)
    (case c8 => k_is)
    (case k8 => k_is)
    (case a9 => k_is)
    (case l9 => k_is)
    (case c9 => k_is)
    (case k9 => k_is)
    (case a10 => k_is)
    (case l10 => k_is)
    (case c10 => k_is)
    (case k10 => k_is)
    (case a11 => k_is)
    (case l11 => k_is)
    (case c11 => k_is)
    (case k11 => k_is)
    (case a12 => k_is)
    (case l12 => k_is)
    (case c12 => k_is)
    (case k12 => k_is)
    (case a13 => k_is)
    (case l13 => k_is)
    (case c13 => k_is)
    (case k13 => k_is)
    (case a14 => k_is)
    (case l14 => k_is)
    (case c14 => k_is)
    (case k14 => k_is)
    (case a15 => k_is)
    (case l15 => k_is)
    (case c15 => k_is)
    (case k15 => k_is)
    (case a16 => k_is)
    (case l16 => k_is)
    (case c16 => k_is)
    (case k16 => k_is)
    (case a17 => k_is)
    (case l17 => k_is)
    (case c17 => k_is)
    (case k17 => k_is)
    (case a18 => k_is)
    (case l18 => k_is)
    (case c18 => k_is)
    (case k18 => k_is)
    (case a19 => k_is)
    (case l19 => k_is)
    (case c19 => k_is)
    (case k19 => k_is)
    (case a20 => k_is)
    (case l20 => k_is)
    (case c20 => k_is)
    (case k20 => k_is)
    (case a21 => k_is)
    (case l21 => k_is)
    (case c21 => k_is)
    (case k21 => k_is)
    (case aL => k_is)
    (case lL => k_is)
    (case cL => k_is)
    (case kL => k_is)
    (case gPainter => k_is)
    (case pgPainter => k_is)
    (case hdPainter => k_is)
    (case poPainter => k_is)
    (case saPainter => k_is)
    (case rdPainter => k_is)
    (case gaPainter => k_is)
    (case nPainter_name => k_is)
    (case nPainter_day => k_is)
    (case nPainter_post => k_is)
    (case nPainter_stride => k_is)
    (case vPainterMAX_DAY => k_is)
    (case wPainterMAX_DAY => exact ⟨_, rfl⟩)
    (case vPainterMAX_POST => k_is)
    (case wPainterMAX_POST => exact ⟨_, rfl⟩)
    (case vPainterMAX_STRIDE => k_is)
    (case wPainterMAX_STRIDE => exact ⟨_, rfl⟩)
    (case a22 => k_is)
    (case i22 => k_is)
    (case l22 => k_is)
    (case c22 => k_is)
    (case k22 => k_is)
    (case mkPainter => k_is)
    (case kcPainter => k_is)
    (case a23 => k_is)
    (case e23 => k_is)
    (case l23 => k_is)
    (case c23 => k_is)
    (case k23 => k_is)
    (case a24 => k_is)
    (case i24 => k_is)
    (case l24 => k_is)
    (case c24 => k_is)
    (case k24 => k_is)
    (case a25 => k_is)
    (case i25 => k_is)
    (case l25 => k_is)
    (case c25 => k_is)
    (case k25 => k_is)
    (case a26 => k_is)
    (case i26 => k_is)
    (case l26 => k_is)
    (case c26 => k_is)
    (case k26 => k_is)
    (case gInvalidPainter => k_is)
    (case xLInvalidPainter => k_is)
    (case saInvalidPainter => k_is)
    (case gaInvalidPainter => k_is)
    (case ggInvalidPainter => k_is)
    (case nbInvalidPainter => k_is)
    (case kCInvalidPainter => k_is)
    (case eCInvalidPainter => k_is)
    (case vCInvalidPainter => k_is)
    (case tCInvalidPainter => k_is)
    (case hCInvalidPainter => k_is)
    (case y1InvalidPainter => k_is)
    (case y2InvalidPainter => k_is)
    (case y3InvalidPainter => k_is)
    (case y4InvalidPainter => k_is)
    (case a27 => k_is)
    (case t27 => k_is)
    (case l27 => k_is)
    (case c27 => k_is)
    (case k27 => k_is)
    (case gInvalidCount => k_is)
    (case xLInvalidCount => k_is)
    (case saInvalidCount => k_is)
    (case gaInvalidCount => k_is)
    (case ggInvalidCount => k_is)
    (case nbInvalidCount => k_is)
    (case kCInvalidCount => k_is)
    (case eCInvalidCount => k_is)
    (case vCInvalidCount => k_is)
    (case tCInvalidCount => k_is)
    (case hCInvalidCount => k_is)
    (case y1InvalidCount => k_is)
    (case y2InvalidCount => k_is)
    (case y3InvalidCount => k_is)
    (case y4InvalidCount => k_is)
    (case a28 => k_is)
    (case t28 => k_is)
    (case l28 => k_is)
    (case c28 => k_is)
    (case k28 => k_is)
    (case gInvalidPost => k_is)
    (case xLInvalidPost => k_is)
    (case saInvalidPost => k_is)
    (case gaInvalidPost => k_is)
    (case ggInvalidPost => k_is)
    (case nbInvalidPost => k_is)
    (case kCInvalidPost => k_is)
    (case eCInvalidPost => k_is)
    (case vCInvalidPost => k_is)
    (case tCInvalidPost => k_is)
    (case hCInvalidPost => k_is)
    (case y1InvalidPost => k_is)
    (case y2InvalidPost => k_is)
    (case y3InvalidPost => k_is)
    (case y4InvalidPost => k_is)
    (case a29 => k_is)
    (case t29 => k_is)
    (case l29 => k_is)
    (case c29 => k_is)
    (case k29 => k_is)
    (case suInvalidPainterInvalidPainter => first | rfl | k_is)
    (case suInvalidCountInvalidPainter => first | rfl | k_is)
    (case suInvalidCountInvalidCount => first | rfl | k_is)
    (case suInvalidPostInvalidPainter => first | rfl | k_is)
    (case suInvalidPostInvalidCount => first | rfl | k_is)
    (case suInvalidPostInvalidPost => first | rfl | k_is)
    (case gParseError => k_is)
    (case tCParseError => k_is)
    (case iCParseError => k_is)
    (case suInvalidPainterParseError => first | rfl | k_is)
    (case suInvalidCountParseError => first | rfl | k_is)
    (case suInvalidPostParseError => first | rfl | k_is)
    (case rLq => exact rfl)
    (case vLx => k_is)
    (case wLx => exact rfl)
    (case nLq => first | exact rfl | kernel_rfl)
    (case r17q => exact rfl)
    (case v17x => k_is)
    (case w17x => exact rfl)
    (case n17q => first | exact rfl | kernel_rfl)
    (case nqq => decide)
    (case GMAX_ARGUMENT => k_is)
    (case HMAX_ARGUMENT => exact ⟨_, rfl⟩)
    (case zlen => k_is)
    (case zint => k_is)
    (case zabs => k_is)
    (case zlist => k_is)
    (case zrange => k_is)
    (case zmin => k_is)
    (case zmax => k_is)
    (case zrepr => k_is)
    (case zstr => k_is)
    (case zbool => k_is)
    (case zisinstance => k_is)
    (case zany => k_is)
    (case zdivmod => k_is)
    (case zValueError => k_is)
