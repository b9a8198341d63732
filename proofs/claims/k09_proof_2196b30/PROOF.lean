import PyProof.Rows.All
import Wide.All
import OpenK.AllK
import Wide.FinOn
import HandS.ForMost
import HandS.Property
import HandS.ClsMeth
import HandS.IsInst
import HandS.Wide
import HandS.StrMore
import HandS.FStr
import HandS.RaiseMore
import HandS.Codes
import HandS.Style
import HandS.Flow
import HandS.Defaults
import PyProof.ReprRoads
import PyProof.ReprLen
import PyProof.Rows.RegStrFacts
import PyProof.LongRange
import HandS.GenCall
import HandS.GenList
import HandS.Comp
import HandS.RepeatKit
import HandS.NoneIn
import PySem.Challenge.RW_paintposts_k09_meetings_in_order
set_option Elab.async false
set_option linter.all false
set_option maxRecDepth 100000
set_option maxHeartbeats 4000000
/-! Ur0: what every law of this program starts with: short forms of calls, the pen, wide division, static methods. -/
namespace Ur
open PySem PySem.Spec PyProof.Rows L2

/-! ### calls in short -/
/-- a def of the text, where it stands -/
def Dfn (K : PySem.W.Frag) (mg : Str → Option Value) (x : Str) (st : Stmt) (ps : List Str) : Prop :=
  ∃ (f : Addr) (fd : FuncData), Fun K x x st f fd ∧ Binds K fd ps [] ∧ mg x = some (.ref f)
/-- a name of the module that can be called: it keeps the promise sp at level k -/
def Cal (P : Program) (w : World) (K : PySem.W.Frag) (mg : Str → Option Value) (base : Heap) (k : Nat) (x : Str) (ps : List Str) (sp : Sp) : Prop :=
  ∃ (f : Addr) (fd : FuncData), FnOk P w K mg base CX0 k f fd ps sp ∧ PySem.W.keepIn K (.ref f) = true ∧ Binds K fd ps [] ∧ mg x = some (.ref f)
section
variable {P : Program} {w : World} {K : PySem.W.Frag} {mg : Str → Option Value} {base : Heap} {k : Nat} {x : Str} {ps : List Str} {sp : Sp} {st : Stmt}
theorem Cal.mono {j : Nat} (c : Cal P w K mg base j x ps sp) (h : j ≤ k) : Cal P w K mg base k x ps sp :=
  let ⟨f, fd, F, r⟩ := c
  ⟨f, fd, F.mono h, r⟩
theorem Dfn.cal {N : List Str} (D : Dfn K mg x st ps) (S : FnScope N ps (defScope st)) (len : ∀ vs H Q E, sp vs H Q E → vs.length = ps.length)
    (hbody : ∀ (f : Addr) (cdv : Value) (A : Around) (outer : List Env) (s : Shared) (H : Hp) (vs : List V) (Q : VK) (E : XK), Room k (A.deeper (envOfC x (defScope st) s.heap.objs.size f cdv)) → sp vs H Q E →
      ∃ t, PSs (cxOf CX0 P w K mg base N x (defScope st) f cdv A outer s H E).nox (defBody st) t ∧ t { nx := fun _ H' => Q .non H', rt := Q } (start N vs) H) :
    Cal P w K mg base (k + 1) x ps sp := by
  obtain ⟨f, fd, F, b, m⟩ := D
  exact ⟨f, fd, F.ok S len fun cdv A outer s H vs Q E hr h => hbody f cdv A outer s H vs Q E hr h, F.kp, b, m⟩
end
section
variable {X : Cx} {k : Nat} {x : Str} {ps : List Str} {sp : Sp} {e : Expr} {es : List Expr} {t : TA} {p pos : Pos}
theorem pe_cal (c : Cal X.prog X.w X.K X.mg X.base k x ps sp) (hr : Room k X.A) (ha : PA X (e :: es) t) (hg : Gl X x := by rfl) (hdb : (x == ("__debug__" : Str)) = false := by decide)
    (he : starEach (e :: es) X.env = (false, eval e X.env) :: starEach es X.env := by rfl) (hpl : (backTo pos (starEach es X.env)).any (·.1) = false := by rfl) :
    PE X (.Call (.Name x p) (e :: es) [] pos) (tCall sp [] E0 t) := by
  obtain ⟨f, fd, F, kp, b, m⟩ := c
  exact pe_call F hr hg m kp b .nil pass0 ha (hdb := hdb) (he := he) (hpl := hpl)
end

/-! ### heaps: all stands as it stood, but what is at p -/
def Keep (p : Addr) (H H' : Hp) : Prop := ∀ b o, H b = some o → b ≠ p → H' b = some o
theorem Keep.refl {p : Addr} {H : Hp} : Keep p H H := fun _ _ h _ => h
theorem Keep.trans {p : Addr} {H H1 H2 : Hp} (a : Keep p H H1) (b : Keep p H1 H2) : Keep p H H2 := fun c o h n => b c o (a c o h n) n
theorem Keep.of {p : Addr} {H H' : Hp} (s : Same H H') : Keep p H H' := fun b o h _ => s b o h
theorem Keep.at_ {p : Addr} {H : Hp} {o : HO} : Keep p H (upd H p o) := fun b u h n => by rw [upd_ne n]; exact h
theorem same_new {H : Hp} {p : Addr} (h : H p = none) (o : HO) : Same H (upd H p o) := fun b u q => by rw [upd_ne (ne_of_none q h)]; exact q
theorem Keep.new {p q : Addr} {H H' : Hp} {o : HO} (a : Keep p H H') (h : H' q = none) : Keep p H (upd H' q o) := a.trans (Keep.of (same_new h o))
theorem Keep.at_new {p a : Addr} {H H' : Hp} {o : HO} (k : Keep p H H') (h : H a = none) : Keep p H (upd H' a o) := fun b u e n => by rw [upd_ne (ne_of_none e h)]; exact k b u e n
theorem Keep.lst {p a : Addr} {K : PySem.W.Frag} {H H' : Hp} {xs : List V} {kvs : List (Key × V)} (k : Keep p H H') (hp : H p = some (.dK kvs)) (h : SqL K H a xs) : SqL K H' a xs := by
  rcases h with (h | ⟨o, h⟩) | h
  · exact .inl (.inl (k _ _ h (ne_of h hp (by intro z; cases z))))
  · exact .inl (.inr ⟨o, k _ _ h (ne_of h hp (by intro z; cases z))⟩)
  · exact .inr h
theorem Keep.tup {p a : Addr} {K : PySem.W.Frag} {H H' : Hp} {xs : List V} {kvs : List (Key × V)} (k : Keep p H H') (hp : H p = some (.dK kvs)) (h : SqT K H a xs) : SqT K H' a xs := by
  rcases h with (h | ⟨o, h⟩) | h
  · exact .inl (.inl (k _ _ h (ne_of h hp (by intro z; cases z))))
  · exact .inl (.inr ⟨o, k _ _ h (ne_of h hp (by intro z; cases z))⟩)
  · exact .inr h
/-- a new address is none of the old ones, also where things were kept -/
theorem Keep.none_of {p a : Addr} {H H' : Hp} (k : Keep p H H') (h : H' a = none) (n : a ≠ p) : H a = none := by
  cases q : H a with
  | none => rfl
  | some o => rw [k a o q n] at h; cases h

/-! ### // by any divisor but 0, of up to 9000 bits -/
def CDivX (_ j : Int) : Prop := j ≠ 0 ∧ j.natAbs.log2 < 9000
theorem op_fdivX {X : Cx} : OpR X (binaryOp .FloorDiv) (rI CDivX fun i j => .int (i.fdiv j)) := opI fun i j _ _ _ _ _ hc q => PyProof.Rows.floordiv_int hc.1 q (.inl (PyProof.noPylong_of_log2 hc.2))
theorem log2_small {i : Int} {b : Nat} (h : i.natAbs < 2 ^ b) (hb : 0 < b) : i.natAbs.log2 < b := PySem.Flt.log2_lt_of hb h

/-! ### a static method, read off its class -/
structure SMet (K : PySem.W.Frag) (C : Addr) (mc : Value) (m : Str) (p g : Addr) : Prop where
  at_ : PySem.W.findCls K (.ref C) mc m = some (.get (.builtin "staticmethod.__get__") (.ref p) .none (.ref C))
  rc : ∃ rest, PySem.W.recIn K p "staticmethod" = some (.ref g :: rest)
  kp : PySem.W.keepIn K (.ref g) = true
def tSMeth (C : Addr) (sp : Sp) (E : XK) (ta : TE) (t : TA) : TE := fun σ H Q => ta σ H fun x H1 => x = .ref C ∧ t σ H1 fun vs H2 => sp vs H2 Q E
section
variable {X : Cx} {CX : CXT} {k : Nat} {C p g : Addr} {mc : Value} {sp : Sp} {E : XK} {o e : Expr} {es : List Expr} {m : Str} {pos apos : Pos} {ta : TE} {t : TA} {pl : Sem Bool} {fd : FuncData} {ps : List Str}
theorem pe_smeth (he : PE X o ta) (r : ClX.CRead X.K C mc) (c : SMet X.K C mc m p g) (F : FnOk X.prog X.w X.K X.mg X.base CX k g fd ps sp) (hb : Binds X.K fd ps []) (hr : Room k X.A) (hx : Passes CX X E) (ha : PA X (e :: es) t)
    (hst : starEach (e :: es) X.env = (false, eval e X.env) :: starEach es X.env := by rfl) (hpl : (backTo pos (starEach es X.env)).any (·.1) = false := by rfl)
    (ht : eval (.Call (.Attribute o m apos) (e :: es) [] pos) X.env = (do let ov ← eval o X.env; standAt apos.atName; let (f, first) ← holding [ov] (getMethod ov m pl); callWith pos f first (backTo pos (starEach (e :: es) X.env)) (backToKw pos (keywordEach [] X.env))) := by rfl) :
    PE X (.Call (.Attribute o m apos) (e :: es) [] pos) (tSMeth C sp E ta t) := by
  refine ⟨fun pins s σ H Q I h => ?_⟩
  refine PySem.W.methodCall_KW (pl := pl) (thn (he.run pins s σ H _ I h) fun u s1 ⟨x, H1, I1, rx, ex, q⟩ => ?_) ht
  subst ex
  obtain rfl : u = Value.ref C := rx
  obtain ⟨rest, hp⟩ := c.rc
  refine PySem.W.method_cls I1.kIn r.ga ?_
  refine PySem.W.cls_bind I1.kIn r.rd c.at_ (wpAny_call (PySem.W.sm_get (s := { s1 with toks := s1.toks + 1 }) I1.kIn hp (PySem.W.handed_on rfl ?_)))
  refine PySem.W.callWith_K (h₀ := X.base) I.ok.mod.kin c.kp (thn (ha.run pos pins _ σ H1 _ (I1.tok _) q) fun us s3 ⟨vs, H2, I3, rv, q2⟩ => ⟨I3.kIn, ?_⟩) hst hpl
  exact run_fn F hr hb .nil hx I3 rv (by rw [List.append_nil]; exact q2)
end
end Ur
/-! UrG: defs that show things (repr of lists and tuples): their promise holds where nothing is being shown around them. -/
namespace Ur
open PySem PySem.Spec PyProof.Rows L2
/-- nothing is being shown around -/
def Still (A : Around) : Prop := A.guards = some []
theorem Still.deeper {A : Around} {e : Env} (h : Still A) : Still (A.deeper e) := h
structure FnG (P : Program) (w : World) (K : PySem.W.Frag) (mg : Str → Option Value) (base : Heap) (k : Nat) (f : Addr) (fd : FuncData) (ps : List Str) (sp : Sp) : Prop where
  ln : ∀ vs H Q E, sp vs H Q E → vs.length = ps.length
  go : ∀ (A : Around) (out : List Env) (s : Shared) (H : Hp) (args : Args) (us : List Value) (vs : List V) (Q : VK) (E : XK), Still A → Room k A → Env0 P w K mg base A out s H → BindsTo s fd args (ps.zip us) → Vals vs us → sp vs H Q E → codeAny (model P w) A (.call (.ref f) args) (CR CX0 out P w H s Q E) s
section
variable {P : Program} {w : World} {K : PySem.W.Frag} {mg : Str → Option Value} {base : Heap} {k : Nat} {f : Addr} {fd : FuncData} {ps : List Str} {sp : Sp} {x qual : Str} {st : Stmt}
theorem FnG.of (F : FnOk P w K mg base CX0 k f fd ps sp) : FnG P w K mg base k f fd ps sp := ⟨F.len, fun A o s H a us vs Q E _ => F.run A o s H a us vs Q E⟩
theorem FnG.mono {j : Nat} (F : FnG P w K mg base j f fd ps sp) (h : j ≤ k) : FnG P w K mg base k f fd ps sp := ⟨F.ln, fun A o s H a us vs Q E g r => F.go A o s H a us vs Q E g (r.mono h)⟩
theorem runG {N : List Str} (F : Fun K x qual st f fd) (S : FnScope N ps (defScope st)) (len : ∀ vs H Q E, sp vs H Q E → vs.length = ps.length)
    (hbody : ∀ (cdv : Value) (A : Around) (out : List Env) (s : Shared) (H : Hp) (vs : List V) (Q : VK) (E : XK), Still A → Room k (A.deeper (envOfC qual (defScope st) s.heap.objs.size f cdv)) → sp vs H Q E → ∃ t, PSs (cxOf CX0 P w K mg base N qual (defScope st) f cdv A out s H E).nox (defBody st) t ∧ t { nx := fun _ H' => Q .non H', rt := Q } (start N vs) H) :
    FnG P w K mg base (k + 1) f fd ps sp := by
  obtain ⟨oc, od, kV, doc, pm, an, cdv, ct, osl, efd, lk, hcd⟩ := F.ex
  subst efd
  constructor
  · exact len
  intro A out s H args us vs Q E still room e0 hb rel ask
  have old : ∀ b o, base.get? b = some o → s.heap.get? b = some o := fun b o e => (e0.bs b o e).1
  have kin : K.In s.heap := e0.mod.kin.keeps old
  have kinds : ∀ y ∈ ps.zip us, (defScope st).names.lookup y.1 = some .local ∨ ((defScope st).names.lookup y.1 = some .cell ∧ ((cellsFrom (s.heap.objs.size + 1) (defScope st).names []).lookup y.1).isSome = true) := by
    intro y hy
    cases S.par y.1 (List.of_mem_zip (a := y.1) (b := y.2) hy).1 with
    | inl h => exact Or.inl h
    | inr h => exact Or.inr ⟨h, PySem.W.cellsFrom_some _ _ _ (Or.inl h)⟩
  refine codeAny_call_function room.depth (kin _ _ lk) rfl S.co S.gen rfl (PySem.W.codeRec_of kin hcd) (hb _ _ _ _ (wpAny_newFunctionEnv_cells S.kind kinds fun env he s1 made => ?_))
  subst he
  refine ⟨(e0.mod.nolimit.keeps old).keeps made.toInCall.keep, codeAny_func ?_⟩
  obtain ⟨t, ht0, hq⟩ := hbody cdv A out s H vs Q E still (room.deeper _) ask
  have J : Inv (cxOf CX0 P w K mg base N qual (defScope st) f cdv A out s H E) [] (start N vs) H s1 := inv_start S room.hd e0 (len _ _ _ _ ask) rel made
  refine wpAny_mono (ht0.nox.run [] s1 (start N vs) H _ J hq) ?_ (fun _ _ z => z)
  intro fl s2 done
  match fl, done with
  | .ret u, ⟨v, σ', H', J', rv, q⟩ => exact ⟨v, H', J'.os, J'.bare, J'.base, J'.hok, rv, q⟩
  | .next, ⟨σ', H', J', q⟩ => exact ⟨V.non, H', J'.os, J'.bare, J'.base, J'.hok, rfl, q⟩
  | .brk, ⟨_, _, _, q⟩ => exact q.elim
  | .cont, ⟨_, _, _, q⟩ => exact q.elim
/-- a name of the module that can be called where nothing is being shown -/
def CalG (P : Program) (w : World) (K : PySem.W.Frag) (mg : Str → Option Value) (base : Heap) (k : Nat) (x : Str) (ps : List Str) (sp : Sp) : Prop :=
  ∃ (f : Addr) (fd : FuncData), FnG P w K mg base k f fd ps sp ∧ PySem.W.keepIn K (.ref f) = true ∧ Binds K fd ps [] ∧ mg x = some (.ref f)
theorem Dfn.calG {N : List Str} (D : Dfn K mg x st ps) (S : FnScope N ps (defScope st)) (len : ∀ vs H Q E, sp vs H Q E → vs.length = ps.length)
    (hbody : ∀ (f : Addr) (cdv : Value) (A : Around) (out : List Env) (s : Shared) (H : Hp) (vs : List V) (Q : VK) (E : XK), Still A → Room k (A.deeper (envOfC x (defScope st) s.heap.objs.size f cdv)) → sp vs H Q E → ∃ t, PSs (cxOf CX0 P w K mg base N x (defScope st) f cdv A out s H E).nox (defBody st) t ∧ t { nx := fun _ H' => Q .non H', rt := Q } (start N vs) H) :
    CalG P w K mg base (k + 1) x ps sp := by
  obtain ⟨f, fd, F, b, m⟩ := D
  exact ⟨f, fd, runG F S len (hbody f), F.kp, b, m⟩
end
section
variable {X : Cx} {k : Nat} {x : Str} {ps : List Str} {sp : Sp} {e : Expr} {es : List Expr} {t : TA} {p pos : Pos}
theorem pe_calG (c : CalG X.prog X.w X.K X.mg X.base k x ps sp) (hs : Still X.A) (hr : Room k X.A) (ha : PA X (e :: es) t) (hg : Gl X x := by rfl) (hdb : (x == ("__debug__" : Str)) = false := by decide)
    (he : starEach (e :: es) X.env = (false, eval e X.env) :: starEach es X.env := by rfl) (hpl : (backTo pos (starEach es X.env)).any (·.1) = false := by rfl) :
    PE X (.Call (.Name x p) (e :: es) [] pos) (tCall sp [] E0 t) := by
  obtain ⟨f, fd, F, kp, b, m⟩ := c
  constructor
  intro pins s σ H Q I h
  refine wpAny_Call_Name_kw (ld_glob I hg m ?_ hdb)
  refine PySem.W.callWith_K (h₀ := X.base) I.ok.mod.kin kp (thn (ha.run pos pins s σ H _ I h) ?_) he hpl
  intro us s1 ⟨vs, H1, J, r, q⟩
  refine ⟨J.kIn, ?_⟩
  have q : sp (vs ++ []) H1 Q E0 := q
  rw [List.append_nil] at q
  have hl : us.length = ps.length := by rw [← r.length]; exact F.ln _ _ _ _ q
  have bb := b s1 us J.kIn (by rw [List.append_nil]; exact hl)
  rw [List.append_nil] at bb
  refine wpAny_call (codeAny_mono (F.go X.A X.stack s1 H1 ⟨us, []⟩ us vs Q E0 hs hr J.env0 bb r q) ?_)
  intro rr s2 hq
  match rr, hq with
  | .ok (.ret u), hq => exact J.after hq
  | .ok .next, hq => exact False.elim hq
  | .ok .brk, hq => exact False.elim hq
  | .ok .cont, hq => exact False.elim hq
  | .error _, hq => exact False.elim hq
/-- repr(x) of data: its own text -/
def rRepr (K : PySem.W.Frag) : List V → Hp → VK → Prop := fun xs H Q => ∃ (x : V) (d : PyData), xs = [x] ∧ Dp K H x d ∧ d.showable = true ∧ d.hasDict = false ∧ d.depth ≤ 64 ∧ d.shown.length ≤ sizeLine ∧ Q (.str d.shown) H
/-- .. of a value that is no list and no tuple -/
def rReprF : List V → Hp → VK → Prop := fun xs H Q => (xs = [.non] ∧ Q (.str (PyData.shown .none)) H) ∨ (∃ b, xs = [.bl b] ∧ Q (.str (PyData.shown (.bool b))) H) ∨ (∃ i, xs = [.int i] ∧ i.natAbs.log2 < 1920 ∧ Q (.str (PyData.shown (.int i))) H) ∨
  ∃ x : Str, xs = [.str x] ∧ (reprText x).length ≤ sizeLine ∧ Q (.str (PyData.shown (.str x))) H
theorem call_reprF : CallR X (.builtin "repr") rReprF := by
  intro pins s σ H xs us Q I r h
  rcases h with ⟨rfl, q⟩ | ⟨b, rfl, q⟩ | ⟨i, rfl, hz, q⟩ | ⟨x, rfl, hz, q⟩
  · obtain ⟨u, rfl, ru⟩ := vals1 r
    obtain rfl : u = Value.none := ru
    exact PySem.P.repr_of_none ⟨.str _, H, I.tok _, ⟨_, rfl⟩, q⟩
  · obtain ⟨u, rfl, ru⟩ := vals1 r
    obtain rfl : u = Value.bool b := ru
    exact PySem.P.repr_of_bool ⟨.str _, H, I.tok _, ⟨_, rfl⟩, q⟩
  · obtain ⟨u, rfl, t, rfl⟩ := vals1 r
    exact PySem.P.repr_of_int hz ⟨.str _, H, I.tok _, ⟨_, rfl⟩, q⟩
  · obtain ⟨u, rfl, t, rfl⟩ := vals1 r
    exact PySem.P.repr_of_str ⟨.str _, H, I.tok _, ⟨_, rfl⟩, q⟩ hz
theorem call_reprD (hs : Still X.A) (hu : X.A.units + 66 < cLine) : CallR X (.builtin "repr") (rRepr X.K) := by
  intro pins s σ H xs us Q I r h
  obtain ⟨x, d, rfl, hd, sh, nd, dp, sz, q⟩ := h
  have flat : rReprF [x] H Q → wpAny (model X.prog X.w) X.A (call (.builtin "repr") us) (EP X pins σ Q) X.xe s := fun z => call_reprF pins s σ H [x] us Q I r z
  cases d with
  | none => cases hd; exact flat (Or.inl ⟨rfl, q⟩)
  | bool b => cases hd; exact flat (Or.inr (Or.inl ⟨b, rfl, q⟩))
  | int i => cases hd; exact flat (Or.inr (Or.inr (Or.inl ⟨i, rfl, of_decide_eq_true sh, q⟩)))
  | str y => cases hd; exact flat (Or.inr (Or.inr (Or.inr ⟨y, rfl, sz, q⟩)))
  | dict _ => cases hd
  | list ds =>
    obtain ⟨u, rfl, ru⟩ := vals1 r
    obtain ⟨as, rd⟩ := Dp.reads I _ x u hd ru
    obtain ⟨a, rfl⟩ : ∃ a, x = .ref a := by cases hd; exact ⟨_, rfl⟩
    obtain rfl : u = Value.ref a := ru
    exact repr_of_reads' rd sh (fun z => by rw [nd] at z; cases z) hs (by omega) (fun _ _ e => e) (fun h' v tk kp => ⟨.str _, H, I.kept kp, ⟨v, rfl⟩, q⟩) sz
  | tuple ds =>
    obtain ⟨u, rfl, ru⟩ := vals1 r
    obtain ⟨as, rd⟩ := Dp.reads I _ x u hd ru
    obtain ⟨a, rfl⟩ : ∃ a, x = .ref a := by cases hd; exact ⟨_, rfl⟩
    obtain rfl : u = Value.ref a := ru
    exact repr_of_reads' rd sh (fun z => by rw [nd] at z; cases z) hs (by omega) (fun _ _ e => e) (fun h' v tk kp => ⟨.str _, H, I.kept kp, ⟨v, rfl⟩, q⟩) sz
end
/-! ### the law's own call -/
theorem law_callG {P : Program} {w : World} {K : PySem.W.Frag} {mg mb : Str → Option Value} {k : Nat} {fa a : Addr} {fd : FuncData} {x : Str} {sp : Sp} {s1 : Shared} {vs : List Value} {ns : List Int}
    (kin : K.In s1.heap) (hns : s1.heap.Ns mainGlobals mg) (hb : s1.heap.Ns builtinsNs mb) (hbb : ∀ x : Str, x ≠ "__name__" → mb x = bootBuiltins x) (hlim : s1.heap.NoLimit) (hg : s1.gens = #[])
    (ha : s1.heap.get? a = some { cls := .type "list", data := .seq vs.toArray }) (hi : IntsAre vs ns) (hl : ns.length ≤ sizeLine) (hr : Room k callerA)
    (F : ∀ base : Heap, K.In base → base.Ns mainGlobals mg → FnG P w K mg base k fa fd [x] sp) (hbind : ∀ (s : Shared) (u : Value), BindsTo s fd ⟨[u], []⟩ [(x, u)])
    (hsp : ∀ H : Hp, SqL K H a (ns.map V.int) → sp [.ref a] H (fun v _ => v = .bl true) fun _ _ _ => False) :
    codeAny (model P w) callerA (.call (.ref fa) ⟨[.ref a], []⟩) (fun r s' => r = .ok (.ret (.bool true)) ∧ OldK s1.heap s'.heap ∧ s'.os = s1.os ∧ AllBare s'.gens) s1 := by
  have rv : Vals (ns.map V.int) vs := vals_ints hi
  have lenV : vs.length = ns.length := hi.length
  -- the abstract heap: the script alone, where it is none of the module's own objects
  let ob : Obj := { cls := .type "list", data := .seq vs.toArray }
  obtain ⟨H, hH, hS, only⟩ : ∃ H : Hp, (∀ b u, H b = some u → b = a ∧ u = .frz ob (.lst (ns.map V.int)) ∧ K.lookup a = none) ∧ SqL K H a (ns.map V.int) ∧ True := by
    cases hk : K.lookup a with
    | some o =>
      have e : s1.heap.get? a = some o := kin a o hk
      have e2 : o = ob := Option.some.inj (e.symm.trans ha)
      refine ⟨fun _ => none, fun b u z => (nomatch z), Or.inr ⟨o, vs.toArray, 0, hk, by rw [e2], by rw [e2], by rw [e2], ?_, ?_⟩, trivial⟩
      · rw [List.size_toArray, lenV]; exact hl
      · simpa using rv
    | none =>
      refine ⟨fun b => if b = a then some (.frz ob (.lst (ns.map V.int))) else none, fun b u z => ?_, Or.inl (Or.inr ⟨ob, if_pos rfl⟩), trivial⟩
      by_cases hba : b = a
      · refine ⟨hba, ?_, rfl⟩
        have z : (if b = a then some (HO.frz ob (.lst (ns.map V.int))) else none) = some u := z
        rw [if_pos hba] at z
        exact (Option.some.inj z).symm
      · have z : (if b = a then some (HO.frz ob (.lst (ns.map V.int))) else none) = some u := z
        rw [if_neg hba] at z
        cases z
  have hok : HOk P w H s1.heap := by
    intro b u z
    obtain ⟨rfl, rfl, _⟩ := hH b u z
    exact ⟨ha, by rw [List.length_map]; exact hl, vs, _, rv, ha⟩
  have free : ∀ {b : Addr} {o : Obj}, s1.heap.get? b = some o → (b = a → o = ob → K.lookup a ≠ none) → H b = none := by
    intro b o e n
    cases z : H b with
    | none => rfl
    | some u =>
      obtain ⟨h1, _, h3⟩ := hH b u z
      subst h1
      exact absurd h3 (n rfl (Option.some.inj (e.symm.trans ha)))
  have nsB : ∀ {b : Addr} {m : Str → Option Value}, s1.heap.Ns b m → (hidT s1.heap H).Ns b m := by
    intro b m ⟨o, es, ep, e, d, r⟩
    refine ⟨o, es, ep, hidT_get e (free e fun _ z => ?_), d, r⟩
    rw [z] at d
    cases d
  have kinB : K.In (hidT s1.heap H) := by
    intro b o e
    refine hidT_get (kin b o e) (free (kin b o e) fun z _ => ?_)
    subst z
    rw [e]
    exact fun q => nomatch q
  have modB : Mod K mg (hidT s1.heap H) := by
    obtain ⟨mc, l1, l2⟩ := hlim
    exact ⟨kinB, nsB hns, ⟨mb, nsB hb, hbb⟩, ⟨mc, nsB l1, l2⟩⟩
  have none_in : ∀ b : Addr, b ∉ ([] : List Addr) := fun b z => nomatch z
  have e0 : Env0 P w K mg (hidT s1.heap H) callerA [] s1 H := ⟨rfl, modB, fun b o e => of_hidT e, Nat.le_of_eq (hidT_size _ _), trivial, fun b z => absurd z (none_in b), hok, .of_eq hg⟩
  refine codeAny_mono ((F _ kinB (nsB hns)).go callerA [] s1 H ⟨[.ref a], []⟩ [.ref a] [.ref a] _ _ rfl hr e0 (hbind s1 (.ref a)) (.cons rfl .nil) (hsp H hS)) ?_
  intro r s2 h
  match r, h with
  | .error _, h => exact False.elim h
  | .ok .next, h => exact False.elim h
  | .ok .brk, h => exact False.elim h
  | .ok .cont, h => exact False.elim h
  | .ok (.ret u), h =>
    obtain ⟨v, H2, os, bare, un, hok2, rv2, q⟩ := h
    have q : v = .bl true := q
    subst q
    obtain rfl : u = Value.bool true := rv2
    refine ⟨rfl, OldK.of_keep ?_, os, bare⟩
    intro b o e
    cases z : H b with
    | none => exact un.keep b o e z (none_in b) (none_in b)
    | some u =>
      obtain ⟨rfl, rfl, _⟩ := hH b u z
      have z2 := un.frzs b ob _ z
      have e2 := (hok2 b _ z2).1
      rw [ha] at e
      rw [← Option.some.inj e]
      exact e2
theorem walk_ofG {l : PySem.W.OpenLaw} {n k : Nat} {q : Program} {loose : List Str} {XP : (Str → Option Value) → Heap → Prop} {YP : World → Heap → Prop} {d : DefRec} {K : Params → PySem.W.Frag} {sp : PySem.W.Frag → Sp} {x : Str}
    (hn : l.most = some n) (hn2 : n ≤ sizeLine) (hdf : d.params.defaults = []) (hr : Room k callerA) (hY : ∀ (w : World) (h : Heap), YP w h → (K w.params).In h)
    (F : ∀ (w : World) (mg : Str → Option Value) (fa : Addr) (h : Heap), (K w.params).In h → h.Ns mainGlobals mg → mg d.name = some (.ref fa) →
      ∃ fd : FuncData, (∀ (s : Shared) (u : Value), BindsTo s fd ⟨[u], []⟩ [(x, u)]) ∧ ∀ base : Heap, (K w.params).In base → base.Ns mainGlobals mg → FnG l.prog w (K w.params) mg base k fa fd [x] (sp (K w.params)))
    (hsp : ∀ (K : PySem.W.Frag) (H : Hp) (a : Addr) (ns : List Int), ns.length ≤ n → SqL K H a (ns.map V.int) → sp K [.ref a] H (fun v _ => v = .bl true) fun _ _ _ => False) :
    PySem.W.WalkO q loose XP YP l.row.toRowW d [] (fun f vs => PySem.call f vs) := by
  refine Att.attach_call hn hdf ?_
  intro w s0 s1 mg mb fa o pm cd doc a vs ns G Y ho hd hcd hmg hobj hints hlen hg
  have kin := hY w _ Y
  obtain ⟨fd, hb, hF⟩ := F w mg fa _ kin G.T.g hmg
  exact law_callG kin G.T.g G.T.b G.T.builtins G.T.nolimit hg hobj hints (Nat.le_trans hlen hn2) hr hF hb fun H hS => hsp _ H a ns hlen hS
end Ur
/-! UrS: what can be shown, by its parts. -/
namespace Ur
open PySem PySem.Spec PyProof.Rows L2
/-- d can be shown: its weight is at most n, its depth at most k -/
structure Shw (d : PyData) (n k : Nat) : Prop where
  sh : d.showable = true
  nd : d.hasDict = false
  dp : d.depth ≤ k
  lv : d.leavesShort 1930 = true
  wt : d.weight ≤ n
structure ShwAll (ds : List PyData) (n k : Nat) : Prop where
  sh : PyData.showableAll ds = true
  nd : PyData.hasDictAll ds = false
  dp : PyData.depthAll ds ≤ k
  lv : PyData.leavesShortAll 1930 ds = true
  wt : PyData.weightAll ds ≤ n
theorem Shw.mono {d : PyData} {n k m j : Nat} (s : Shw d n k) (h1 : n ≤ m) (h2 : k ≤ j) : Shw d m j := ⟨s.sh, s.nd, Nat.le_trans s.dp h2, s.lv, Nat.le_trans s.wt h1⟩
theorem Shw.non : Shw .none 0 0 := ⟨rfl, rfl, Nat.le_refl _, rfl, Nat.le_refl _⟩
theorem Shw.bl (b : Bool) : Shw (.bool b) 0 0 := ⟨rfl, rfl, Nat.le_refl _, rfl, Nat.le_refl _⟩
theorem Shw.int {i : Int} (h : i.natAbs.log2 < 1920) : Shw (.int i) 1921 0 := by
  refine ⟨decide_eq_true h, rfl, Nat.le_refl _, decide_eq_true ?_, ?_⟩
  · have e : PyData.shown (.int i) = Str.ofString (toString i) := by simp only [PyData.shown]
    rw [e]
    exact Nat.le_trans (PyProof.Rows.int_text_len_1921 h) (by decide)
  · show (if i == 0 then 0 else i.natAbs.log2 + 1) ≤ 1921
    split <;> omega
theorem Shw.intb {i : Int} {b : Nat} (h : i.natAbs < 2 ^ b) (h0 : 0 < b) (h1 : b ≤ 1920) : Shw (.int i) b 0 := by
  have z := PySem.Flt.log2_lt_of h0 h
  refine ⟨decide_eq_true (Nat.lt_of_lt_of_le z h1), rfl, Nat.le_refl _, (Shw.int (Nat.lt_of_lt_of_le z h1)).lv, ?_⟩
  show (if i == 0 then 0 else i.natAbs.log2 + 1) ≤ b
  split <;> omega
theorem Shw.str {x : Str} (h : ∀ c ∈ x.cps.toList, c < 16 ^ 8) : Shw (.str x) x.length 0 := ⟨rfl, rfl, Nat.le_refl _, List.all_eq_true.mpr fun c hc => decide_eq_true (h c hc), Nat.le_refl _⟩
theorem ShwAll.nil : ShwAll [] 0 0 := ⟨rfl, rfl, Nat.le_refl _, rfl, Nat.le_refl _⟩
theorem ShwAll.cons {d : PyData} {ds : List PyData} {n k m j : Nat} (a : Shw d n k) (b : ShwAll ds m j) : ShwAll (d :: ds) (n + 1 + m) (max k j) := by
  refine ⟨?_, ?_, ?_, ?_, ?_⟩
  · show (d.showable && PyData.showableAll ds) = true
    rw [a.sh, b.sh]; rfl
  · show (d.hasDict || PyData.hasDictAll ds) = false
    rw [a.nd, b.nd]; rfl
  · show max d.depth (PyData.depthAll ds) ≤ max k j
    have := a.dp; have := b.dp; omega
  · show (d.leavesShort 1930 && PyData.leavesShortAll 1930 ds) = true
    rw [a.lv, b.lv]; rfl
  · show d.weight + 1 + PyData.weightAll ds ≤ n + 1 + m
    have := a.wt; have := b.wt; omega
theorem ShwAll.lst {ds : List PyData} {n k : Nat} (a : ShwAll ds n k) : Shw (.list ds) n (k + 1) := ⟨a.sh, a.nd, Nat.succ_le_succ a.dp, a.lv, a.wt⟩
theorem ShwAll.tup {ds : List PyData} {n k : Nat} (a : ShwAll ds n k) : Shw (.tuple ds) n (k + 1) := ⟨a.sh, a.nd, Nat.succ_le_succ a.dp, a.lv, a.wt⟩
theorem Shw.fits {d : PyData} {n k : Nat} (s : Shw d n k) (h : n ≤ 8600) : d.shown.length ≤ sizeLine := by
  have z := PyData.shown_le 1930 (by decide) d s.lv
  have w : (1930 + 2) * d.weight ≤ 1932 * 8600 := Nat.mul_le_mul_left _ (Nat.le_trans s.wt h)
  have e : sizeLine = 16777216 := by decide
  omega
/-- d can be shown -/
def ShwOk (d : PyData) : Prop := ∃ n k, Shw d n k ∧ n ≤ 8600 ∧ k ≤ 64
theorem Shw.good {d : PyData} {n k : Nat} (s : Shw d n k) (h : n ≤ 8600) (h2 : k ≤ 64) : ShwOk d := ⟨n, k, s, h, h2⟩
theorem ShwOk.int {i : Int} (h : i.natAbs.log2 < 1920) : ShwOk (.int i) := (Shw.int h).good (by decide) (by decide)
theorem ShwOk.non : ShwOk .none := Shw.non.good (by decide) (by decide)
/-- repr(x), x data that can be shown -/
def rReprS (K : PySem.W.Frag) : List V → Hp → VK → Prop := fun xs H Q => ∃ (x : V) (d : PyData), xs = [x] ∧ Dp K H x d ∧ ShwOk d ∧ ∀ z : Str, z = d.shown → Q (.str z) H
section
variable {X : Cx}
theorem call_reprS (hs : Still X.A) (hu : X.A.units + 66 < cLine) : CallR X (.builtin "repr") (rReprS X.K) := by
  intro pins s σ H xs us Q I r h
  obtain ⟨x, d, rfl, hd, ⟨n, k, sh, hn, hk⟩, q⟩ := h
  exact call_reprD hs hu pins s σ H [x] us Q I r ⟨x, d, rfl, hd, sh.sh, sh.nd, Nat.le_trans sh.dp hk, sh.fits hn, q _ rfl⟩
/-- str(x) of a whole number or a text -/
def rStrB : List V → Hp → VK → Prop := fun xs H Q => (∃ i, xs = [.int i] ∧ i.natAbs.log2 < 1920 ∧ Q (.str (toString i)) H) ∨ ∃ a, xs = [.str a] ∧ Q (.str a) H
theorem call_strB : CallR X (.type "str") rStrB := by
  intro pins s σ H xs us Q I r h
  rcases h with ⟨i, rfl, hz, q⟩ | ⟨a, rfl, q⟩
  · exact call_str_int pins s σ H _ us Q I r ⟨i, rfl, hz, q⟩
  · exact SkE.call_str_str pins s σ H _ us Q I r ⟨a, rfl, q⟩
end
theorem log2_of {i : Int} {b : Nat} (h : i.natAbs < 2 ^ b) (h0 : 0 < b) (h1 : b ≤ 1920) : i.natAbs.log2 < 1920 := Nat.lt_of_lt_of_le (PySem.Flt.log2_lt_of h0 h) h1
end Ur
/-! UrM: the mathematics of common posts, in plain numbers. -/
namespace Ur
/-! ### the divisor and its factor -/
structure Euc (n m d r f g : Int) : Prop where
  d0 : 0 ≤ d
  r0 : 0 ≤ r
  sg : (0 ≤ f ∧ g ≤ 0 ∧ f * r - g * d = m) ∨ (f ≤ 0 ∧ 0 ≤ g ∧ g * d - f * r = m)
  c1 : m ∣ n * f - d
  c2 : m ∣ n * g - r
  dv : ∀ c : Int, c ∣ d → c ∣ r → c ∣ n ∧ c ∣ m
  f0 : -m ≤ f
  f1 : f ≤ m
  g0 : -m ≤ g
  g1 : g ≤ m
theorem Euc.start {n m : Int} (hn : 0 ≤ n) (hm : 0 < m) : Euc n m n m 1 0 :=
  ⟨hn, by omega, Or.inl ⟨by omega, by omega, by omega⟩, ⟨0, by omega⟩, ⟨-1, by omega⟩, fun c a b => ⟨a, b⟩, by omega, by omega, by omega, by omega⟩
theorem le_of_mul {a b m : Int} (ha : 0 ≤ a) (hb : 1 ≤ b) (h : a * b ≤ m) : a ≤ m := by
  have := Int.mul_le_mul_of_nonneg_left hb ha
  omega
theorem Euc.step {n m d r f g : Int} (E : Euc n m d r f g) (hr : r ≠ 0) : Euc n m r (d - d / r * r) g (f - d / r * g) := by
  obtain ⟨d0, r0, sg, c1, c2, dv, f0, f1, g0, g1⟩ := E
  have rp : 0 < r := by omega
  have e : d - d / r * r = d % r := by
    have h := Int.mul_ediv_add_emod d r
    have h2 : r * (d / r) = d / r * r := Int.mul_comm _ _
    omega
  have m0 : 0 ≤ d % r := Int.emod_nonneg d (by omega)
  have t0 : 0 ≤ d / r := Int.ediv_nonneg d0 r0
  have q0 : 0 ≤ d - d / r * r := by omega
  generalize d / r = t at *
  have sg' : (0 ≤ g ∧ f - t * g ≤ 0 ∧ g * (d - t * r) - (f - t * g) * r = m) ∨ (g ≤ 0 ∧ 0 ≤ f - t * g ∧ (f - t * g) * r - g * (d - t * r) = m) := by
    rcases sg with ⟨a, b, c⟩ | ⟨a, b, c⟩
    · refine Or.inr ⟨b, ?_, by grind⟩
      have : t * g ≤ 0 := Int.mul_nonpos_of_nonneg_of_nonpos t0 b
      omega
    · refine Or.inl ⟨b, ?_, by grind⟩
      have : 0 ≤ t * g := Int.mul_nonneg t0 b
      omega
  refine ⟨r0, q0, sg', c2, ?_, fun c h1 h2 => dv c ?_ h1, g0, g1, ?_, ?_⟩
  · obtain ⟨a, ha⟩ := c1
    obtain ⟨b, hb⟩ := c2
    exact ⟨a - t * b, by grind⟩
  · obtain ⟨a, ha⟩ := h1
    obtain ⟨b, hb⟩ := h2
    exact ⟨b + t * a, by grind⟩
  · rcases sg' with ⟨a, b, c⟩ | ⟨a, b, c⟩
    · have z : 0 ≤ g * (d - t * r) := Int.mul_nonneg a q0
      have y : -(f - t * g) * r = -((f - t * g) * r) := Int.neg_mul _ _
      have := le_of_mul (a := -(f - t * g)) (b := r) (m := m) (by omega) (by omega) (by omega)
      omega
    · omega
  · rcases sg' with ⟨a, b, c⟩ | ⟨a, b, c⟩
    · omega
    · have z : g * (d - t * r) ≤ 0 := Int.mul_nonpos_of_nonpos_of_nonneg a q0
      exact le_of_mul (b := r) b (by omega) (by omega)
/-- what comes out: a divisor of both, and its factor -/
structure DivFac (n m d f : Int) : Prop where
  pos : 0 < d
  dn : d ∣ n
  dm : d ∣ m
  cg : m ∣ n * f - d
  f0 : -m ≤ f
  f1 : f ≤ m
theorem Euc.done {n m d f g : Int} (E : Euc n m d 0 f g) (hm : 0 < m) : DivFac n m d f := by
  have z := E.dv d (Int.dvd_refl d) (Int.dvd_zero d)
  refine ⟨?_, z.1, z.2, E.c1, E.f0, E.f1⟩
  have d0 := E.d0
  by_cases h : d = 0
  · have := z.2
    rw [h] at this
    have := Int.zero_dvd.mp this
    omega
  · omega
/-! ### common posts -/
/-- q is on the way that starts at p with the stride s -/
def On (p s q : Int) : Prop := ∃ j : Int, 0 ≤ j ∧ q = p + j * s
/-- how two strides meet: every step-th number of the first one -/
def Steps (s1 s2 step : Int) : Prop := 0 < step ∧ ∀ k : Int, s2 ∣ k * s1 ↔ step ∣ k
/-- the numbers of common posts, on the way of the first one -/
inductive Comm (p1 s1 p2 s2 : Int) : Option (Int × Option Int × Int) → Prop where
  | no : (∀ k : Int, 0 ≤ k → ¬ On p2 s2 (p1 + k * s1)) → Comm p1 s1 p2 s2 none
  | inf {first step : Int} : (0 < s1 ↔ 0 < s2) → Steps s1 s2 step → 0 ≤ first → first ≤ (p2 - p1).natAbs + step → (∀ k : Int, 0 ≤ k → (On p2 s2 (p1 + k * s1) ↔ first ≤ k ∧ step ∣ k - first)) → Comm p1 s1 p2 s2 (some (first, none, step))
  | fin {first last step : Int} : ¬ (0 < s1 ↔ 0 < s2) → Steps s1 s2 step → 0 ≤ first → first ≤ last → last ≤ (p2 - p1).natAbs → step ∣ last - first → (∀ k : Int, 0 ≤ k → (On p2 s2 (p1 + k * s1) ↔ first ≤ k ∧ k ≤ last ∧ step ∣ k - first)) → Comm p1 s1 p2 s2 (some (first, some last, step))
theorem dvd_abs {a b : Int} : (a.natAbs : Int) ∣ b ↔ a ∣ b := Int.natAbs_dvd
/-- n, m as the program has them: the first stride's remainder by the size of the second -/
structure Meet (s1 s2 gap d step res : Int) : Prop where
  d0 : 0 < d
  d1 : d ∣ s1
  d2 : d ∣ s2
  dg : d ∣ gap
  st : Steps s1 s2 step
  se : step * d = s2.natAbs
  /-- the numbers at which the two ways, taken as endless, have the same post -/
  at_ : ∀ k : Int, s2 ∣ k * s1 - gap ↔ step ∣ k - res
  r0 : 0 ≤ res
  r1 : res < step
theorem meet_of {s1 s2 gap d f : Int} (hs2 : s2 ≠ 0) (D : DivFac (s1 % (s2.natAbs : Int)) (s2.natAbs : Int) d f) (hg : d ∣ gap) :
    Meet s1 s2 gap d ((s2.natAbs : Int) / d) ((gap / d * f) % ((s2.natAbs : Int) / d)) := by
  obtain ⟨d0, dn, dm, cg, f0, f1⟩ := D
  generalize hm : (s2.natAbs : Int) = m at *
  have mp : 0 < m := by omega
  obtain ⟨st, hst⟩ := dm
  have est : m / d = st := by rw [hst]; exact Int.mul_ediv_cancel_left _ (by omega)
  rw [est]
  have stp : 0 < st := by
    by_cases h : 0 < st
    · exact h
    · have : d * st ≤ 0 := Int.mul_nonpos_of_nonneg_of_nonpos (by omega) (by omega)
      omega
  obtain ⟨gq, hgq⟩ := hg
  have egq : gap / d = gq := by rw [hgq]; exact Int.mul_ediv_cancel_left _ (by omega)
  rw [egq]
  -- d divides s1
  have e1 : s1 = m * (s1 / m) + s1 % m := (Int.mul_ediv_add_emod s1 m).symm
  obtain ⟨a, ha⟩ := dn
  have d1 : d ∣ s1 := ⟨st * (s1 / m) + a, by grind⟩
  obtain ⟨u, hu⟩ := d1
  -- u * f is 1 modulo st
  obtain ⟨b, hb⟩ := cg
  have uf : ∃ c, u * f - 1 = st * c := by
    refine ⟨b + f * (s1 / m), ?_⟩
    have z : d * (u * f - 1) = d * (st * (b + f * (s1 / m))) := by grind
    exact Int.eq_of_mul_eq_mul_left (by omega) z
  obtain ⟨c, hc⟩ := uf
  have key : ∀ x : Int, d * st ∣ d * x ↔ st ∣ x := fun x => ⟨fun h => Int.dvd_of_mul_dvd_mul_left (by omega) h, fun h => Int.mul_dvd_mul_left d h⟩
  have m2 : ∀ x : Int, s2 ∣ x ↔ m ∣ x := fun x => by rw [← hm]; exact Int.natAbs_dvd.symm
  refine ⟨d0, ⟨u, hu⟩, ?_, ⟨gq, hgq⟩, ⟨stp, fun k => ?_⟩, by rw [hm, hst]; exact Int.mul_comm _ _, fun k => ?_, Int.emod_nonneg _ (by omega), Int.emod_lt_of_pos _ stp⟩
  · have : d ∣ (s2.natAbs : Int) := by rw [hm]; exact ⟨st, hst⟩
    exact Int.dvd_natAbs.mp this
  · rw [m2, hst, hu, show k * (d * u) = d * (k * u) by grind, key]
    constructor
    · intro ⟨x, hx⟩
      exact ⟨x * f - k * c, by grind⟩
    · intro ⟨x, hx⟩
      exact ⟨x * u, by grind⟩
  · rw [m2, hst, hu, hgq, show k * (d * u) - d * gq = d * (k * u - gq) by grind, key]
    have er : gq * f = st * (gq * f / st) + gq * f % st := (Int.mul_ediv_add_emod _ _).symm
    generalize gq * f / st = w at er
    generalize gq * f % st = res at er
    constructor
    · intro ⟨x, hx⟩
      exact ⟨x * f - k * c + w, by grind⟩
    · intro ⟨x, hx⟩
      exact ⟨x * u + gq * c - w * u, by grind⟩
theorem le_fdiv {k a s : Int} (hs : s ≠ 0) : k ≤ a.fdiv s ↔ (0 < s → k * s ≤ a) ∧ (s < 0 → a ≤ k * s) := by
  by_cases h : 0 < s
  · rw [Int.fdiv_eq_ediv_of_nonneg a (by omega), Int.le_ediv_iff_mul_le h]
    exact ⟨fun z => ⟨fun _ => z, fun y => by omega⟩, fun z => z.1 h⟩
  · have h2 : 0 < -s := by omega
    have e : a.fdiv s = (-a) / (-s) := by
      rw [← Int.fdiv_eq_ediv_of_nonneg (-a) (by omega : (0 : Int) ≤ -s), Int.neg_fdiv_neg]
    rw [e, Int.le_ediv_iff_mul_le h2, Int.mul_neg]
    exact ⟨fun z => ⟨fun y => by omega, fun _ => by omega⟩, fun z => by have := z.2 (by omega); omega⟩
theorem on_iff {p1 s1 p2 s2 k : Int} (hs : s2 ≠ 0) : On p2 s2 (p1 + k * s1) ↔ s2 ∣ k * s1 - (p2 - p1) ∧ (0 < s2 → p2 - p1 ≤ k * s1) ∧ (s2 < 0 → k * s1 ≤ p2 - p1) := by
  generalize k * s1 = x
  constructor
  · rintro ⟨j, j0, h⟩
    refine ⟨⟨j, by grind⟩, fun z => ?_, fun z => ?_⟩
    · have : 0 ≤ j * s2 := Int.mul_nonneg j0 (by omega)
      omega
    · have : j * s2 ≤ 0 := Int.mul_nonpos_of_nonneg_of_nonpos j0 (by omega)
      omega
  · rintro ⟨⟨j, hj⟩, h1, h2⟩
    refine ⟨j, ?_, by grind⟩
    by_cases c : 0 ≤ j
    · exact c
    · exfalso
      by_cases z : 0 < s2
      · have := h1 z
        have : s2 * j ≤ s2 * (-1) := Int.mul_le_mul_of_nonneg_left (by omega) (by omega)
        omega
      · have := h2 (by omega)
        have : s2 * (-1) ≤ s2 * j := Int.mul_le_mul_of_nonpos_left (by omega) (by omega)
        omega
theorem abs_mul_ge {g s : Int} (hs : s ≠ 0) : (0 < s → (g.natAbs : Int) * 1 ≤ g.natAbs * s) ∧ (s < 0 → (g.natAbs : Int) * s ≤ g.natAbs * (-1)) :=
  ⟨fun h => Int.mul_le_mul_of_nonneg_left (by omega) (by omega), fun h => Int.mul_le_mul_of_nonneg_left (by omega) (by omega)⟩
/-- a number behind a bound, one of each step -/
theorem from_on {step res low k : Int} (hp : 0 < step) : (low ≤ k ∧ step ∣ k - res) ↔ (low + (res - low) % step ≤ k ∧ step ∣ k - (low + (res - low) % step)) := by
  have e : res - low = step * ((res - low) / step) + (res - low) % step := (Int.mul_ediv_add_emod _ _).symm
  have r0 : 0 ≤ (res - low) % step := Int.emod_nonneg _ (by omega)
  have r1 : (res - low) % step < step := Int.emod_lt_of_pos _ hp
  generalize (res - low) / step = q at e
  generalize (res - low) % step = r at *
  constructor
  · rintro ⟨h, x, hx⟩
    refine ⟨?_, x + q, by grind⟩
    by_cases c : low + r ≤ k
    · exact c
    · have z : step * (x + q) = k - (low + r) := by grind
      have : step * (x + q) ≤ step * (-1) := Int.mul_le_mul_of_nonneg_left (by
        by_cases y : x + q ≤ -1
        · exact y
        · have : 0 ≤ step * (x + q) := Int.mul_nonneg (by omega) (by omega)
          omega) (by omega)
      omega
  · rintro ⟨h, x, hx⟩
    exact ⟨by omega, x - q, by grind⟩
theorem comm_same {p1 s1 p2 s2 d step res : Int} (h1 : s1 ≠ 0) (h2 : s2 ≠ 0) (hs : 0 < s1 ↔ 0 < s2) (M : Meet s1 s2 (p2 - p1) d step res) :
    Comm p1 s1 p2 s2 (some ((if -((-(p2 - p1)).fdiv s1) > 0 then -((-(p2 - p1)).fdiv s1) else 0) + (res - (if -((-(p2 - p1)).fdiv s1) > 0 then -((-(p2 - p1)).fdiv s1) else 0)) % step, none, step)) := by
  have sp := M.st.1
  have low : ∀ k : Int, -((-(p2 - p1)).fdiv s1) ≤ k ↔ (0 < s2 → p2 - p1 ≤ k * s1) ∧ (s2 < 0 → k * s1 ≤ p2 - p1) := fun k => by
    have z := le_fdiv (k := -k) (a := -(p2 - p1)) h1
    have e : -k * s1 = -(k * s1) := Int.neg_mul _ _
    rw [e] at z
    constructor
    · intro y
      have z := z.mp (by omega)
      exact ⟨fun c => by have := z.1 (hs.mpr c); omega, fun c => by have := z.2 (by omega); omega⟩
    · intro y
      have z := z.mpr ⟨fun c => by have := y.1 (hs.mp c); omega, fun c => by have := y.2 (by omega); omega⟩
      omega
  have lowle : -((-(p2 - p1)).fdiv s1) ≤ (p2 - p1).natAbs := by
    rw [low]
    have z := abs_mul_ge (g := p2 - p1) h1
    exact ⟨fun c => by have := z.1 (hs.mpr c); omega, fun c => by have := z.2 (by omega); omega⟩
  generalize -((-(p2 - p1)).fdiv s1) = lo at low lowle ⊢
  have m0 : 0 ≤ (if lo > 0 then lo else 0) ∧ (if lo > 0 then lo else 0) ≤ ((p2 - p1).natAbs : Int) ∧ ∀ k : Int, 0 ≤ k → (lo ≤ k ↔ (if lo > 0 then lo else 0) ≤ k) := by
    split <;> exact ⟨by omega, by omega, fun k _ => by omega⟩
  generalize (if lo > 0 then lo else 0) = l at m0 ⊢
  have r0 : 0 ≤ (res - l) % step := Int.emod_nonneg _ (by omega)
  have r1 : (res - l) % step < step := Int.emod_lt_of_pos _ sp
  refine .inf hs M.st (by omega) (by omega) fun k hk => ?_
  rw [on_iff h2, M.at_ k, ← low k, m0.2.2 k hk, ← from_on sp]
  exact And.comm
theorem opp_low {p1 s1 p2 s2 : Int} (h1 : s1 ≠ 0) (h2 : s2 ≠ 0) (hs : ¬ (0 < s1 ↔ 0 < s2)) (k : Int) : k ≤ (p2 - p1).fdiv s1 ↔ (0 < s2 → p2 - p1 ≤ k * s1) ∧ (s2 < 0 → k * s1 ≤ p2 - p1) := by
  rw [le_fdiv h1]
  constructor
  · intro y
    exact ⟨fun c => y.2 (by omega), fun c => y.1 (by omega)⟩
  · intro y
    exact ⟨fun c => y.2 (by omega), fun c => y.1 (by omega)⟩
/-- beside one another modulo step, and neither below nought: the remainder is the least -/
theorem least_res {step res k : Int} (h0 : 0 ≤ k) (r1 : res < step) (hk : step ∣ k - res) : res ≤ k := by
  obtain ⟨x, hx⟩ := hk
  by_cases c : res ≤ k
  · exact c
  · exfalso
    by_cases y : 0 ≤ x
    · have : 0 ≤ step * x := Int.mul_nonneg (by omega) y
      omega
    · have : step * x ≤ step * (-1) := Int.mul_le_mul_of_nonneg_left (by omega) (by omega)
      omega
theorem comm_no {p1 s1 p2 s2 d step res : Int} (h1 : s1 ≠ 0) (h2 : s2 ≠ 0) (hs : ¬ (0 < s1 ↔ 0 < s2)) (M : Meet s1 s2 (p2 - p1) d step res) (hr : (p2 - p1).fdiv s1 < res) : Comm p1 s1 p2 s2 none := by
  refine .no fun k hk h => ?_
  rw [on_iff h2, M.at_ k, ← opp_low h1 h2 hs k] at h
  have := least_res hk M.r1 h.1
  omega
theorem comm_opp {p1 s1 p2 s2 d step res : Int} (h1 : s1 ≠ 0) (h2 : s2 ≠ 0) (hs : ¬ (0 < s1 ↔ 0 < s2)) (M : Meet s1 s2 (p2 - p1) d step res) (hr : res ≤ (p2 - p1).fdiv s1) :
    Comm p1 s1 p2 s2 (some (res, some ((p2 - p1).fdiv s1 - ((p2 - p1).fdiv s1 - res) % step), step)) := by
  have sp := M.st.1
  have low := opp_low (p1 := p1) (p2 := p2) h1 h2 hs
  have mle : (p2 - p1).fdiv s1 ≤ (p2 - p1).natAbs := by
    by_cases c : (p2 - p1).fdiv s1 ≤ (p2 - p1).natAbs
    · exact c
    · exfalso
      have y := (le_fdiv (k := ((p2 - p1).natAbs : Int) + 1) (a := p2 - p1) h1).mp (by omega)
      have z := abs_mul_ge (g := p2 - p1) h1
      have e : (((p2 - p1).natAbs : Int) + 1) * s1 = (p2 - p1).natAbs * s1 + s1 := by rw [Int.add_mul, Int.one_mul]
      by_cases c : 0 < s1
      · have := y.1 c
        have := z.1 c
        omega
      · have := y.2 (by omega)
        have := z.2 (by omega)
        omega
  generalize (p2 - p1).fdiv s1 = mo at low hr mle ⊢
  have e : mo - res = step * ((mo - res) / step) + (mo - res) % step := (Int.mul_ediv_add_emod _ _).symm
  have q0 : 0 ≤ (mo - res) / step := Int.ediv_nonneg (by omega) (by omega)
  have r0 : 0 ≤ (mo - res) % step := Int.emod_nonneg _ (by omega)
  have r1 : (mo - res) % step < step := Int.emod_lt_of_pos _ sp
  generalize (mo - res) / step = q at e q0
  generalize (mo - res) % step = r at *
  have sq : 0 ≤ step * q := Int.mul_nonneg (by omega) q0
  refine .fin hs M.st M.r0 (by omega) (by omega) ⟨q, by omega⟩ fun k hk => ?_
  rw [on_iff h2, M.at_ k, ← low k]
  constructor
  · rintro ⟨h, hm⟩
    refine ⟨least_res hk M.r1 h, ?_, h⟩
    obtain ⟨x, hx⟩ := h
    by_cases c : k ≤ mo - r
    · exact c
    · exfalso
      have : step * (q + 1) ≤ step * x := Int.mul_le_mul_of_nonneg_left (by
        by_cases y : q + 1 ≤ x
        · exact y
        · have : step * x ≤ step * q := Int.mul_le_mul_of_nonneg_left (by omega) (by omega)
          omega) (by omega)
      have : step * (q + 1) = step * q + step := by rw [Int.mul_add, Int.mul_one]
      omega
  · rintro ⟨_, h, hd⟩
    exact ⟨hd, by omega⟩
theorem comm_gap {p1 s1 p2 s2 d : Int} (h1 : d ∣ s1) (h2 : d ∣ s2) (hg : ¬ d ∣ p2 - p1) : Comm p1 s1 p2 s2 none := by
  refine .no fun k hk ⟨j, _, h⟩ => hg ?_
  obtain ⟨a, rfl⟩ := h1
  obtain ⟨b, rfl⟩ := h2
  exact ⟨k * a - j * b, by grind⟩
theorem mul_bd {a b A B : Int} (h0 : 0 ≤ a) (h1 : a ≤ A) (h2 : -B ≤ b) (h3 : b ≤ B) (hB : 0 ≤ B) : -(A * B) ≤ a * b ∧ a * b ≤ A * B := by
  have x1 : a * b ≤ a * B := Int.mul_le_mul_of_nonneg_left h3 h0
  have x2 : a * B ≤ A * B := Int.mul_le_mul_of_nonneg_right h1 hB
  have x3 : a * (-B) ≤ a * b := Int.mul_le_mul_of_nonneg_left h2 h0
  rw [Int.mul_neg] at x3
  omega
theorem mul_pos1 {a b : Int} (h0 : 1 ≤ a) (h1 : 1 ≤ b) : 1 ≤ a * b := by
  have := Int.mul_le_mul h0 h1 (by decide) (by omega)
  omega
/-- how many steps to a post, if it is on the way -/
def StepsTo (p s q : Int) (r : Option Int) : Prop := ∀ j : Int, r = some j ↔ (0 ≤ j ∧ q = p + j * s)
theorem steps_to_spec {p s q : Int} (hs : s ≠ 0) : StepsTo p s q (if (q - p).fmod s = 0 ∧ 0 ≤ (q - p).fdiv s then some ((q - p).fdiv s) else none) := by
  have e := Int.fmod_add_mul_fdiv (q - p) s
  intro j
  have uniq : q = p + j * s → (q - p).fmod s = 0 ∧ (q - p).fdiv s = j := by
    intro h
    have e2 : q - p = j * s := by omega
    rw [e2]
    exact ⟨Int.mul_fmod_left j s, Int.mul_fdiv_cancel j hs⟩
  constructor
  · intro h
    split at h
    · rename_i c
      obtain rfl := Option.some.inj h
      rw [c.1] at e
      refine ⟨c.2, ?_⟩
      have : s * (q - p).fdiv s = (q - p).fdiv s * s := Int.mul_comm _ _
      omega
    · cases h
  · rintro ⟨h0, h⟩
    obtain ⟨a, b⟩ := uniq h
    rw [if_pos ⟨a, by rw [b]; exact h0⟩, b]
theorem stepsTo_on {p s q : Int} {r : Option Int} (h : StepsTo p s q r) : On p s q ↔ r ≠ none := by
  constructor
  · rintro ⟨j, j0, e⟩ z
    have := (h j).mpr ⟨j0, e⟩
    rw [z] at this
    cases this
  · intro z
    cases r with
    | none => exact absurd rfl z
    | some j => exact ⟨j, (h j).mp rfl⟩
end Ur
/-! UrL: lists of numbers that pass a test. -/
namespace Ur
theorem range_snoc (n : Nat) : List.range (n + 1) = List.range n ++ [n] := List.range_succ
theorem filt_none {f : Nat → Bool} : ∀ n, (∀ k, k < n → f k = false) → (List.range n).filter f = []
  | 0, _ => rfl
  | n + 1, h => by
    rw [range_snoc, List.filter_append, filt_none n fun k hk => h k (by omega), List.filter_cons, h n (by omega)]
    rfl
theorem filt_head {f : Nat → Bool} {a : Nat} (fa : f a = true) (lt : ∀ k, k < a → f k = false) : ∀ n, a < n → ∃ tl, (List.range n).filter f = a :: tl
  | 0, h => absurd h (Nat.not_lt_zero a)
  | n + 1, h => by
    rw [range_snoc, List.filter_append]
    by_cases c : a < n
    · obtain ⟨tl, e⟩ := filt_head fa lt n c
      rw [e]
      exact ⟨_, rfl⟩
    · have : n = a := by omega
      subst this
      rw [filt_none n lt, List.filter_cons, if_pos fa]
      exact ⟨[], rfl⟩
theorem filt_last {f : Nat → Bool} {b : Nat} (fb : f b = true) (gt : ∀ k, b < k → f k = false) : ∀ n, b < n → ∃ init, (List.range n).filter f = init ++ [b]
  | 0, h => absurd h (Nat.not_lt_zero b)
  | n + 1, h => by
    rw [range_snoc, List.filter_append]
    by_cases c : b < n
    · obtain ⟨i, e⟩ := filt_last fb gt n c
      rw [e, List.filter_cons, if_neg (by rw [gt n c]; decide)]
      exact ⟨i, by rw [List.filter_nil, List.append_nil]⟩
    · have : n = b := by omega
      subst this
      rw [List.filter_cons, if_pos fb]
      exact ⟨_, rfl⟩
/-- the numbers of r -/
def inR : Option (Int × Option Int × Int) → Nat → Bool
  | none, _ => false
  | some (a, none, s), k => decide (a ≤ (k : Int) ∧ s ∣ (k : Int) - a)
  | some (a, some l, s), k => decide (a ≤ (k : Int) ∧ (k : Int) ≤ l ∧ s ∣ (k : Int) - a)
theorem Comm.on_inR {p1 s1 p2 s2 : Int} {r : Option (Int × Option Int × Int)} (C : Comm p1 s1 p2 s2 r) (k : Nat) : On p2 s2 (p1 + (k : Int) * s1) ↔ inR r k = true := by
  cases C with
  | no h => exact ⟨fun z => absurd z (h k (by omega)), fun z => by cases z⟩
  | inf h1 h2 h3 h4 h5 => exact (h5 k (by omega)).trans ⟨fun z => decide_eq_true z, fun z => of_decide_eq_true z⟩
  | fin h1 h2 h3 h4 h5 h6 h7 => exact (h7 k (by omega)).trans ⟨fun z => decide_eq_true z, fun z => of_decide_eq_true z⟩
theorem Comm.head {p1 s1 p2 s2 a s : Int} {l : Option Int} (C : Comm p1 s1 p2 s2 (some (a, l, s))) {n : Nat} (hn : a < n) : ∃ tl, (List.range n).filter (inR (some (a, l, s))) = a.toNat :: tl := by
  cases C with
  | inf h1 h2 h3 h4 h5 =>
    refine filt_head (decide_eq_true ⟨by omega, ⟨0, by omega⟩⟩) (fun k hk => decide_eq_false fun z => ?_) n (by omega)
    have := z.1
    omega
  | fin h1 h2 h3 h4 h5 h6 h7 =>
    refine filt_head (decide_eq_true ⟨by omega, by omega, ⟨0, by omega⟩⟩) (fun k hk => decide_eq_false fun z => ?_) n (by omega)
    have := z.1
    omega
theorem Comm.last {p1 s1 p2 s2 a s l : Int} (C : Comm p1 s1 p2 s2 (some (a, some l, s))) {n : Nat} (hn : l < n) : ∃ i, (List.range n).filter (inR (some (a, some l, s))) = i ++ [l.toNat] := by
  cases C with
  | fin h1 h2 h3 h4 h5 h6 h7 =>
    have e : ((l.toNat : Nat) : Int) = l := by omega
    refine filt_last (decide_eq_true ⟨by omega, by omega, by rw [e]; exact h6⟩) (fun k hk => decide_eq_false fun z => ?_) n (by omega)
    have := z.2.1
    omega
theorem Comm.sign {p1 s1 p2 s2 a s : Int} {l : Option Int} (C : Comm p1 s1 p2 s2 (some (a, l, s))) (h1 : s1 ≠ 0) (h2 : s2 ≠ 0) : (l = none ↔ 0 < s1 * s2) := by
  have pos : (0 < s1 ↔ 0 < s2) ↔ 0 < s1 * s2 := by
    by_cases a : 0 < s1 <;> by_cases b : 0 < s2
    · exact ⟨fun _ => Int.mul_pos a b, fun _ => ⟨fun _ => b, fun _ => a⟩⟩
    · have : s1 * s2 < 0 := Int.mul_neg_of_pos_of_neg a (by omega)
      exact ⟨fun z => by omega, fun z => by omega⟩
    · have : s1 * s2 < 0 := Int.mul_neg_of_neg_of_pos (by omega) b
      exact ⟨fun z => by omega, fun z => by omega⟩
    · have : 0 < s1 * s2 := Int.mul_pos_of_neg_of_neg (by omega) (by omega)
      exact ⟨fun _ => this, fun _ => ⟨fun z => by omega, fun z => by omega⟩⟩
  cases C with
  | inf h => exact ⟨fun _ => pos.mp h, fun _ => rfl⟩
  | fin h => exact ⟨fun z => (nomatch z), fun z => absurd (pos.mpr z) h⟩
/-- the least common multiple by going: c strides of the first are one of the second -/
theorem steps_dvd {a b step c : Int} (S : Steps a b step) : (b.natAbs : Int) ∣ c * (a.natAbs : Int) ↔ step ∣ c := by
  rw [← S.2 c, Int.natAbs_dvd]
  by_cases h : 0 ≤ a
  · have e : (a.natAbs : Int) = a := by omega
    rw [e]
  · have e : (a.natAbs : Int) = -a := by omega
    rw [e, Int.mul_neg, Int.dvd_neg]
end Ur
/-! UrN: common numbers by remainders. -/
namespace Ur
/-- the numbers of common posts, without a word of their size -/
inductive CommW (p1 s1 p2 s2 : Int) : Option (Int × Option Int × Int) → Prop where
  | no : (∀ k : Int, 0 ≤ k → ¬ On p2 s2 (p1 + k * s1)) → CommW p1 s1 p2 s2 none
  | inf {first step : Int} : (0 < s1 ↔ 0 < s2) → Steps s1 s2 step → 0 ≤ first → (∀ k : Int, 0 ≤ k → (On p2 s2 (p1 + k * s1) ↔ first ≤ k ∧ step ∣ k - first)) → CommW p1 s1 p2 s2 (some (first, none, step))
  | fin {first last step : Int} : ¬ (0 < s1 ↔ 0 < s2) → Steps s1 s2 step → 0 ≤ first → first ≤ last → step ∣ last - first → (∀ k : Int, 0 ≤ k → (On p2 s2 (p1 + k * s1) ↔ first ≤ k ∧ k ≤ last ∧ step ∣ k - first)) → CommW p1 s1 p2 s2 (some (first, some last, step))
theorem Comm.weak {p1 s1 p2 s2 : Int} {r : Option (Int × Option Int × Int)} (C : Comm p1 s1 p2 s2 r) : CommW p1 s1 p2 s2 r := by
  cases C with
  | no h => exact .no h
  | inf h1 h2 h3 h4 h5 => exact .inf h1 h2 h3 h5
  | fin h1 h2 h3 h4 h5 h6 h7 => exact .fin h1 h2 h3 h4 h6 h7
theorem Steps.uniq {a b s t : Int} (S : Steps a b s) (T : Steps a b t) : s = t := by
  have h1 : s ∣ t := (S.2 t).mp ((T.2 t).mpr (Int.dvd_refl t))
  have h2 : t ∣ s := (T.2 s).mp ((S.2 s).mpr (Int.dvd_refl s))
  have a1 := Int.le_of_dvd T.1 h1
  have a2 := Int.le_of_dvd S.1 h2
  omega
theorem CommW.uniq {p1 s1 p2 s2 : Int} {r r' : Option (Int × Option Int × Int)} (C : CommW p1 s1 p2 s2 r) (D : CommW p1 s1 p2 s2 r') : r = r' := by
  have z0 : ∀ a s : Int, s ∣ a - a := fun a s => ⟨0, by omega⟩
  cases C with
  | no h =>
    cases D with
    | no _ => rfl
    | @inf f st g1 g2 g3 g4 => exact absurd ((g4 f g3).mpr ⟨by omega, z0 f st⟩) (h f g3)
    | @fin f l st g1 g2 g3 g4 g5 g6 => exact absurd ((g6 f g3).mpr ⟨by omega, g4, z0 f st⟩) (h f g3)
  | @inf f st h1 h2 h3 h4 =>
    cases D with
    | no g => exact absurd ((h4 f h3).mpr ⟨by omega, z0 f st⟩) (g f h3)
    | @inf f' st' g1 g2 g3 g4 =>
      obtain rfl := h2.uniq g2
      have a := ((g4 f h3).mp ((h4 f h3).mpr ⟨by omega, z0 f st⟩)).1
      have b := ((h4 f' g3).mp ((g4 f' g3).mpr ⟨by omega, z0 f' st⟩)).1
      obtain rfl : f = f' := by omega
      rfl
    | fin g1 => exact absurd h1 g1
  | @fin f l st h1 h2 h3 h4 h5 h6 =>
    cases D with
    | no g => exact absurd ((h6 f h3).mpr ⟨by omega, h4, z0 f st⟩) (g f h3)
    | inf g1 => exact absurd g1 h1
    | @fin f' l' st' g1 g2 g3 g4 g5 g6 =>
      obtain rfl := h2.uniq g2
      have a := ((g6 f h3).mp ((h6 f h3).mpr ⟨by omega, h4, z0 f st⟩)).1
      have b := ((h6 f' g3).mp ((g6 f' g3).mpr ⟨by omega, g4, z0 f' st⟩)).1
      have c := ((g6 l (by omega)).mp ((h6 l (by omega)).mpr ⟨h4, by omega, h5⟩)).2.1
      have d := ((h6 l' (by omega)).mp ((g6 l' (by omega)).mpr ⟨g4, by omega, g5⟩)).2.1
      obtain rfl : f = f' := by omega
      obtain rfl : l = l' := by omega
      rfl
/-- Meet from a common divisor and an inverse -/
theorem meet_by {s1 s2 gap d st u i : Int} (d0 : 0 < d) (hu : s1 = d * u) (hm : (s2.natAbs : Int) = d * st) (stp : 0 < st) (hi : st ∣ u * i - 1) (hg : d ∣ gap) : Meet s1 s2 gap d st ((gap / d * i) % st) := by
  obtain ⟨gq, hgq⟩ := hg
  have egq : gap / d = gq := by rw [hgq]; exact Int.mul_ediv_cancel_left _ (by omega)
  rw [egq]
  obtain ⟨c, hc⟩ := hi
  have key : ∀ x : Int, d * st ∣ d * x ↔ st ∣ x := fun x => ⟨fun h => Int.dvd_of_mul_dvd_mul_left (by omega) h, fun h => Int.mul_dvd_mul_left d h⟩
  have m2 : ∀ x : Int, s2 ∣ x ↔ d * st ∣ x := fun x => by rw [← hm]; exact Int.natAbs_dvd.symm
  refine ⟨d0, ⟨u, hu⟩, ?_, ⟨gq, hgq⟩, ⟨stp, fun k => ?_⟩, by rw [hm]; exact Int.mul_comm _ _, fun k => ?_, Int.emod_nonneg _ (by omega), Int.emod_lt_of_pos _ stp⟩
  · have : d ∣ (s2.natAbs : Int) := ⟨st, hm⟩
    exact Int.dvd_natAbs.mp this
  · rw [m2, hu, show k * (d * u) = d * (k * u) by grind, key]
    constructor
    · intro ⟨x, hx⟩
      exact ⟨x * i - k * c, by grind⟩
    · intro ⟨x, hx⟩
      exact ⟨x * u, by grind⟩
  · rw [m2, hu, hgq, show k * (d * u) - d * gq = d * (k * u - gq) by grind, key]
    have er : gq * i = st * (gq * i / st) + gq * i % st := (Int.mul_ediv_add_emod _ _).symm
    generalize gq * i / st = w at er
    generalize gq * i % st = res at er
    constructor
    · intro ⟨x, hx⟩
      exact ⟨x * i - k * c + w, by grind⟩
    · intro ⟨x, hx⟩
      exact ⟨x * u + gq * c - w * u, by grind⟩
section
variable {p1 s1 p2 s2 d st k j sp : Int}
theorem on_x (h2 : s2 ≠ 0) (hj : j * s2 = k * s1 - (p2 - p1)) (hs : sp * s2 = s1 * st) (x : Int) : On p2 s2 (p1 + (k + x * st) * s1) ↔ 0 ≤ j + x * sp := by
  have e : p1 + (k + x * st) * s1 = p2 + (j + x * sp) * s2 := by grind
  rw [e]
  constructor
  · rintro ⟨y, y0, h⟩
    have : (j + x * sp) * s2 = y * s2 := by omega
    have := Int.eq_of_mul_eq_mul_right h2 this
    omega
  · exact fun h => ⟨_, h, rfl⟩
theorem on_dvd (h2 : s2 ≠ 0) (M : Meet s1 s2 (p2 - p1) d st k) {n : Int} (h : On p2 s2 (p1 + n * s1)) : st ∣ n - k := (M.at_ n).mp ((on_iff h2).mp h).1
theorem sp_sign (h1 : s1 ≠ 0) (h2 : s2 ≠ 0) (stp : 0 < st) (hs : sp * s2 = s1 * st) : (0 < sp ↔ (0 < s1 ↔ 0 < s2)) ∧ sp ≠ 0 := by
  by_cases a : 0 < s1
  · have z : 0 < s1 * st := Int.mul_pos a stp
    by_cases b : 0 < s2
    · have : 0 < sp := by
        by_cases c : 0 < sp
        · exact c
        · have := Int.mul_nonpos_of_nonpos_of_nonneg (show sp ≤ 0 by omega) (show 0 ≤ s2 by omega)
          omega
      exact ⟨⟨fun _ => ⟨fun _ => b, fun _ => a⟩, fun _ => this⟩, by omega⟩
    · have : sp < 0 := by
        by_cases c : sp < 0
        · exact c
        · have := Int.mul_nonpos_of_nonneg_of_nonpos (show 0 ≤ sp by omega) (show s2 ≤ 0 by omega)
          omega
      exact ⟨⟨fun y => by omega, fun y => absurd (y.mp a) b⟩, by omega⟩
  · have z : s1 * st < 0 := Int.mul_neg_of_neg_of_pos (by omega) stp
    by_cases b : 0 < s2
    · have : sp < 0 := by
        by_cases c : sp < 0
        · exact c
        · have := Int.mul_nonneg (show 0 ≤ sp by omega) (show 0 ≤ s2 by omega)
          omega
      exact ⟨⟨fun y => by omega, fun y => absurd (y.mpr b) a⟩, by omega⟩
    · have : 0 < sp := by
        by_cases c : 0 < sp
        · exact c
        · have := Int.mul_nonneg_of_nonpos_of_nonpos (show sp ≤ 0 by omega) (show s2 ≤ 0 by omega)
          omega
      exact ⟨⟨fun _ => ⟨fun y => absurd y a, fun y => absurd y b⟩, fun _ => this⟩, by omega⟩
theorem ge_x (stp : 0 < st) (k0 : 0 ≤ k) (k1 : k < st) (x : Int) : 0 ≤ k + x * st ↔ 0 ≤ x := by
  constructor
  · intro h
    by_cases c : 0 ≤ x
    · exact c
    · have := Int.mul_le_mul_of_nonneg_right (show x ≤ -1 by omega) (show 0 ≤ st by omega)
      omega
  · intro h
    have := Int.mul_nonneg h (show 0 ≤ st by omega)
    omega
theorem mul_le_iff (stp : 0 < st) (x y : Int) : x * st ≤ y * st ↔ x ≤ y := ⟨fun h => Int.le_of_mul_le_mul_right h stp, fun h => Int.mul_le_mul_of_nonneg_right h (by omega)⟩
theorem due_inf (h1 : s1 ≠ 0) (h2 : s2 ≠ 0) (M : Meet s1 s2 (p2 - p1) d st k) (hj : j * s2 = k * s1 - (p2 - p1)) (hs : sp * s2 = s1 * st) (pos : 0 < sp) :
    CommW p1 s1 p2 s2 (some (k + (if 0 - j.fdiv sp > 0 then 0 - j.fdiv sp else 0) * st, none, st)) := by
  have stp := M.st.1
  have low0 : 0 ≤ (if 0 - j.fdiv sp > 0 then 0 - j.fdiv sp else 0) := by split <;> omega
  have lowx : ∀ x : Int, 0 ≤ x → (0 ≤ j + x * sp ↔ (if 0 - j.fdiv sp > 0 then 0 - j.fdiv sp else 0) ≤ x) := fun x x0 => by
    have z : 0 ≤ j + x * sp ↔ 0 - j.fdiv sp ≤ x := by
      rw [Int.fdiv_eq_ediv_of_nonneg j (by omega)]
      have z := Int.le_ediv_iff_mul_le (a := -x) (b := j) pos
      rw [Int.neg_mul] at z
      omega
    rw [z]
    split <;> omega
  generalize (if 0 - j.fdiv sp > 0 then 0 - j.fdiv sp else 0) = low at low0 lowx ⊢
  refine .inf ((sp_sign h1 h2 stp hs).1.mp pos) M.st ?_ fun n hn => ?_
  · have := (ge_x stp M.r0 M.r1 low).mpr low0
    omega
  constructor
  · intro h
    obtain ⟨x, hx⟩ := on_dvd h2 M h
    obtain rfl : n = k + x * st := by rw [Int.mul_comm] at hx; omega
    have x0 := (ge_x stp M.r0 M.r1 x).mp hn
    have := (lowx x x0).mp ((on_x h2 hj hs x).mp h)
    refine ⟨?_, x - low, by grind⟩
    have := (mul_le_iff stp low x).mpr this
    omega
  · rintro ⟨h, x, hx⟩
    obtain rfl : n = k + (low + x) * st := by grind
    rw [on_x h2 hj hs]
    have x0 := (ge_x stp M.r0 M.r1 _).mp hn
    refine (lowx _ x0).mpr ?_
    exact (mul_le_iff stp _ _).mp (by omega)
theorem due_no (h1 : s1 ≠ 0) (h2 : s2 ≠ 0) (M : Meet s1 s2 (p2 - p1) d st k) (hj : j * s2 = k * s1 - (p2 - p1)) (hs : sp * s2 = s1 * st) (neg : sp < 0) (j0 : j < 0) : CommW p1 s1 p2 s2 none := by
  have stp := M.st.1
  refine .no fun n hn h => ?_
  obtain ⟨x, hx⟩ := on_dvd h2 M h
  obtain rfl : n = k + x * st := by rw [Int.mul_comm] at hx; omega
  have x0 := (ge_x stp M.r0 M.r1 x).mp hn
  have := (on_x h2 hj hs x).mp h
  have := Int.mul_nonpos_of_nonneg_of_nonpos x0 (show sp ≤ 0 by omega)
  omega
theorem due_fin (h1 : s1 ≠ 0) (h2 : s2 ≠ 0) (M : Meet s1 s2 (p2 - p1) d st k) (hj : j * s2 = k * s1 - (p2 - p1)) (hs : sp * s2 = s1 * st) (neg : sp < 0) (j0 : 0 ≤ j) :
    CommW p1 s1 p2 s2 (some (k + 0 * st, some (k + j.fdiv (0 - sp) * st), st)) := by
  have stp := M.st.1
  have hx : ∀ x : Int, 0 ≤ j + x * sp ↔ x ≤ j.fdiv (0 - sp) := fun x => by
    rw [Int.fdiv_eq_ediv_of_nonneg j (by omega), Int.le_ediv_iff_mul_le (by omega), Int.mul_sub]
    omega
  have q0 : 0 ≤ j.fdiv (0 - sp) := by rw [← hx]; omega
  generalize j.fdiv (0 - sp) = q at hx q0 ⊢
  have k0 := M.r0
  have qs := Int.mul_nonneg q0 (show 0 ≤ st by omega)
  refine .fin (fun z => by have := (sp_sign h1 h2 stp hs).1.mpr z; omega) M.st (by omega) (by omega) ⟨q, by grind⟩ fun n hn => ?_
  constructor
  · intro h
    obtain ⟨x, hx'⟩ := on_dvd h2 M h
    obtain rfl : n = k + x * st := by rw [Int.mul_comm] at hx'; omega
    have x0 := (ge_x stp M.r0 M.r1 x).mp hn
    have y := (hx x).mp ((on_x h2 hj hs x).mp h)
    have := (mul_le_iff stp x q).mpr y
    have := (mul_le_iff stp 0 x).mpr x0
    exact ⟨by omega, by omega, x, by grind⟩
  · rintro ⟨h, h', x, hx'⟩
    obtain rfl : n = k + x * st := by grind
    rw [on_x h2 hj hs, hx]
    exact (mul_le_iff stp _ _).mp (by omega)
end
/-- a planted post -/
theorem Comm.planted {p1 s1 p2 s2 n : Int} {r : Option (Int × Option Int × Int)} (C : Comm p1 s1 p2 s2 r) (n0 : 0 ≤ n) (h : On p2 s2 (p1 + n * s1)) : ∃ a l st, r = some (a, l, st) ∧ a ≤ n ∧ st ∣ n - a := by
  cases C with
  | no g => exact absurd h (g n n0)
  | inf h1 h2 h3 h4 h5 => exact ⟨_, _, _, rfl, (h5 n n0).mp h⟩
  | fin h1 h2 h3 h4 h5 h6 h7 => exact ⟨_, _, _, rfl, ((h7 n n0).mp h).1, ((h7 n n0).mp h).2.2⟩
/-- dividing by the greatest common divisor -/
theorem gcd_parts {s1 s2 : Int} (h : s2 ≠ 0) : ∃ u st, s1 = (Int.gcd s1 s2 : Int) * u ∧ (s2.natAbs : Int) = (Int.gcd s1 s2 : Int) * st ∧ 0 < st ∧ 0 < (Int.gcd s1 s2 : Int) ∧ Int.gcd u st = 1 ∧ (Int.gcd s1 s2 : Int) ≤ s2.natAbs := by
  have g0 : 0 < Int.gcd s1 s2 := Int.gcd_pos_of_ne_zero_right s1 h
  obtain ⟨u, hu⟩ := Int.gcd_dvd_left s1 s2
  have dz : (Int.gcd s1 s2 : Int) ∣ (s2.natAbs : Int) := Int.dvd_natAbs.mpr (Int.gcd_dvd_right s1 s2)
  obtain ⟨st, hst⟩ := dz
  have g1 : (Int.gcd s1 s2 : Int) ≤ s2.natAbs := Int.le_of_dvd (by omega) ⟨st, hst⟩
  have stp : 0 < st := by
    by_cases c : 0 < st
    · exact c
    · have := Int.mul_nonpos_of_nonneg_of_nonpos (show 0 ≤ (Int.gcd s1 s2 : Int) by omega) (show st ≤ 0 by omega)
      omega
  refine ⟨u, st, hu, hst, stp, by omega, ?_, g1⟩
  have e : Int.gcd s1 s2 = Int.gcd s1 s2 * Int.gcd u st := by
    have z : Int.gcd ((Int.gcd s1 s2 : Int) * u) ((Int.gcd s1 s2 : Int) * st) = Int.gcd s1 s2 * Int.gcd u st := by rw [Int.gcd_mul_left]; rfl
    rw [← hu, ← hst] at z
    rw [← z]
    simp [Int.gcd]
  exact Nat.eq_of_mul_eq_mul_left g0 (by rw [Nat.mul_one]; exact e.symm)
end Ur
/-! UrF: the mathematics of first blocks. -/
namespace Ur
/-- at the n-th post of the one, the other one, with this count, was before -/
def Blk (p1 d1 s1 p2 d2 s2 : Int) (cnt : Option Int) (fl : Bool) (n : Int) : Prop := ∃ j : Int, 0 ≤ j ∧ p1 + n * s1 = p2 + j * s2 ∧ (∀ c, cnt = some c → j < c) ∧ (d2 + j < d1 + n ∨ fl = true ∧ d2 + j = d1 + n)
/-- the least number from 0 on, if there is one -/
def Least (P : Int → Prop) : Option Int → Prop
  | none => ∀ n, 0 ≤ n → ¬ P n
  | some n => 0 ≤ n ∧ P n ∧ ∀ m, 0 ≤ m → m < n → ¬ P m
theorem Least.uniq {P : Int → Prop} : ∀ {a b : Option Int}, Least P a → Least P b → a = b
  | none, none, _, _ => rfl
  | none, some b, h, g => absurd g.2.1 (h b g.1)
  | some a, none, h, g => absurd h.2.1 (g a h.1)
  | some a, some b, h, g => by
    have x : ¬ a < b := fun z => g.2.2 a h.1 z h.2.1
    have y : ¬ b < a := fun z => h.2.2 b g.1 z g.2.1
    obtain rfl : a = b := by omega
    rfl
theorem Least.congr {P Q : Int → Prop} (h : ∀ n, 0 ≤ n → (P n ↔ Q n)) : ∀ {r : Option Int}, Least P r → Least Q r
  | none, l => fun n n0 q => l n n0 ((h n n0).mpr q)
  | some a, l => ⟨l.1, (h a l.1).mp l.2.1, fun m m0 ml q => l.2.2 m m0 ml ((h m m0).mpr q)⟩
/-- no line is below nought at x -/
def Up (ls : List (Int × Int)) (x : Int) : Prop := ∀ z ∈ ls, 0 ≤ z.1 + x * z.2
/-- the index when the lines ws were looked at -/
structure Idx (M : Int) (ws : List (Int × Int)) (x : Int) : Prop where
  x0 : 0 ≤ x
  xM : x ≤ M
  ok : ∀ z ∈ ws, 0 < z.2 → 0 ≤ z.1 + x * z.2
  lt : ∀ y, 0 ≤ y → y < x → ∃ z ∈ ws, z.1 + y * z.2 < 0
theorem Idx.start {M : Int} (h : 0 ≤ M) : Idx M [] 0 := ⟨Int.le_refl 0, h, fun z hz => absurd hz List.not_mem_nil, fun y h1 h2 => by omega⟩
theorem ceil_iff {a b : Int} (hb : 0 < b) (x : Int) : -(a / b) ≤ x ↔ 0 ≤ a + x * b := by
  have z := Int.le_ediv_iff_mul_le (a := -x) (b := a) hb
  rw [Int.neg_mul] at z
  omega
theorem Idx.up {M a b x : Int} {ws : List (Int × Int)} (I : Idx M ws x) (hb : 0 < b) (hM : -M ≤ a ∧ a ≤ M) : Idx M (ws ++ [(a, b)]) (if -(a / b) > x then -(a / b) else x) := by
  have c := fun y => ceil_iff (a := a) hb y
  have up : ∀ x' : Int, x ≤ x' → ∀ z ∈ ws, 0 < z.2 → 0 ≤ z.1 + x' * z.2 := fun x' h z hz hp => by
    have := I.ok z hz hp
    have := Int.mul_le_mul_of_nonneg_right h (show 0 ≤ z.2 by omega)
    omega
  have q1 : -(a / b) ≤ M := by
    rw [c]
    have := Int.mul_le_mul_of_nonneg_left (show 1 ≤ b by omega) (show 0 ≤ M by have := I.x0; have := I.xM; omega)
    omega
  have x0 := I.x0
  have xM := I.xM
  split
  · rename_i h
    refine ⟨by omega, q1, fun z hz hp => ?_, fun y y0 yl => ?_⟩
    · rcases List.mem_append.mp hz with hz | hz
      · exact up _ (by omega) z hz hp
      · obtain rfl := List.mem_singleton.mp hz
        exact (c _).mp (Int.le_refl _)
    · refine ⟨(a, b), List.mem_append_right _ (List.mem_singleton.mpr rfl), ?_⟩
      have := mt (c y).mpr (by omega)
      show a + y * b < 0
      omega
  · rename_i h
    refine ⟨x0, xM, fun z hz hp => ?_, fun y y0 yl => ?_⟩
    · rcases List.mem_append.mp hz with hz | hz
      · exact I.ok z hz hp
      · obtain rfl := List.mem_singleton.mp hz
        exact (c x).mp (by omega)
    · obtain ⟨z, hz, h⟩ := I.lt y y0 yl
      exact ⟨z, List.mem_append_left _ hz, h⟩
theorem Idx.flat {M a b x : Int} {ws : List (Int × Int)} (I : Idx M ws x) (hb : ¬ 0 < b) : Idx M (ws ++ [(a, b)]) x := by
  refine ⟨I.x0, I.xM, fun z hz hp => ?_, fun y y0 yl => ?_⟩
  · rcases List.mem_append.mp hz with hz | hz
    · exact I.ok z hz hp
    · obtain rfl := List.mem_singleton.mp hz
      exact absurd hp hb
  · obtain ⟨z, hz, h⟩ := I.lt y y0 yl
    exact ⟨z, List.mem_append_left _ hz, h⟩
theorem Idx.bad {M x : Int} {ws : List (Int × Int)} (I : Idx M ws x) (h : ∃ z ∈ ws, z.1 + x * z.2 < 0) : Least (Up ws) none := by
  intro y y0 u
  by_cases c : y < x
  · obtain ⟨z, hz, g⟩ := I.lt y y0 c
    have := u z hz
    omega
  · obtain ⟨z, hz, g⟩ := h
    have v := u z hz
    have nb : ¬ 0 < z.2 := fun p => by have := I.ok z hz p; omega
    have := Int.mul_le_mul_of_nonpos_right (show x ≤ y by omega) (show z.2 ≤ 0 by omega)
    omega
theorem Idx.good {M x : Int} {ws : List (Int × Int)} (I : Idx M ws x) (h : ¬ ∃ z ∈ ws, z.1 + x * z.2 < 0) : Least (Up ws) (some x) := by
  refine ⟨I.x0, fun z hz => ?_, fun y y0 yl u => ?_⟩
  · by_cases c : 0 ≤ z.1 + x * z.2
    · exact c
    · exact absurd ⟨z, hz, by omega⟩ h
  · obtain ⟨z, hz, g⟩ := I.lt y y0 yl
    have := u z hz
    omega
/-! ### the lines of two painters -/
def fbLines (d1 d2 f st j0 o : Int) (l cnt : Option Int) (fl : Bool) : List (Int × Int) :=
  [((if fl = true then d1 + f - d2 - j0 else d1 + f - d2 - j0 - 1), st - o)] ++ cnt.toList.map (fun c => (c - 1 - j0, -o)) ++ l.toList.map (fun m => (m - f, -st))
theorem Comm.iff {p1 s1 p2 s2 f st : Int} {l : Option Int} (C : Comm p1 s1 p2 s2 (some (f, l, st))) (n : Int) (n0 : 0 ≤ n) : On p2 s2 (p1 + n * s1) ↔ f ≤ n ∧ (∀ m, l = some m → n ≤ m) ∧ st ∣ n - f := by
  cases C with
  | inf h1 h2 h3 h4 h5 => rw [h5 n n0]; exact ⟨fun z => ⟨z.1, fun m e => (by cases e), z.2⟩, fun z => ⟨z.1, z.2.2⟩⟩
  | fin h1 h2 h3 h4 h5 h6 h7 => rw [h7 n n0]; exact ⟨fun z => ⟨z.1, fun m e => by cases e; exact z.2.1, z.2.2⟩, fun z => ⟨z.1, z.2.1 _ rfl, z.2.2⟩⟩
theorem Comm.pos {p1 s1 p2 s2 f st : Int} {l : Option Int} (C : Comm p1 s1 p2 s2 (some (f, l, st))) : 0 ≤ f ∧ 0 < st ∧ (∀ m, l = some m → f ≤ m) ∧ Steps s1 s2 st := by
  cases C with
  | inf h1 h2 h3 h4 h5 => exact ⟨h3, h2.1, fun m e => (by cases e), h2⟩
  | fin h1 h2 h3 h4 h5 h6 h7 => exact ⟨h3, h2.1, fun m e => (by cases e; exact h4), h2⟩
section
variable {p1 d1 s1 p2 d2 s2 f st j0 o : Int} {l cnt : Option Int} {fl : Bool}
theorem fb_at (h2 : s2 ≠ 0) (C : Comm p1 s1 p2 s2 (some (f, l, st))) (hj : j0 * s2 = p1 + f * s1 - p2) (ho : o * s2 = st * s1) (x : Int) (x0 : 0 ≤ x) :
    Blk p1 d1 s1 p2 d2 s2 cnt fl (f + x * st) ↔ Up (fbLines d1 d2 f st j0 o l cnt fl) x := by
  obtain ⟨f0, stp, fm, S⟩ := C.pos
  have xs := Int.mul_nonneg x0 (show 0 ≤ st by omega)
  have ej : p1 + (f + x * st) * s1 = p2 + (j0 + x * o) * s2 := by grind
  have uj : ∀ j : Int, p1 + (f + x * st) * s1 = p2 + j * s2 → j = j0 + x * o := fun j h => Int.eq_of_mul_eq_mul_right h2 (by rw [ej] at h; omega)
  have e1 : x * (st - o) = x * st - x * o := Int.mul_sub x st o
  have e2 : x * (-o) = -(x * o) := Int.mul_neg x o
  have e3 : x * (-st) = -(x * st) := Int.mul_neg x st
  have iff := C.iff (f + x * st) (by omega)
  have dv : st ∣ f + x * st - f := ⟨x, by rw [Int.mul_comm]; omega⟩
  unfold Up fbLines
  constructor
  · rintro ⟨j, j0', e, hc, hd⟩ z hz
    obtain rfl := uj j e
    have lm := (iff.mp ⟨_, j0', e⟩).2.1
    rw [List.mem_append, List.mem_append] at hz
    rcases hz with (hz | hz) | hz
    · obtain rfl := List.mem_singleton.mp hz
      show 0 ≤ (if fl = true then d1 + f - d2 - j0 else d1 + f - d2 - j0 - 1) + x * (st - o)
      rw [e1]
      split
      · omega
      · rcases hd with hd | ⟨hd, _⟩
        · omega
        · contradiction
    · obtain ⟨c, hc', rfl⟩ := List.mem_map.mp hz
      have := hc c (Option.mem_toList.mp hc')
      show 0 ≤ c - 1 - j0 + x * (-o)
      omega
    · obtain ⟨m, hm, rfl⟩ := List.mem_map.mp hz
      have := lm m (Option.mem_toList.mp hm)
      show 0 ≤ m - f + x * (-st)
      omega
  · intro h
    have h0 := h _ (List.mem_append_left _ (List.mem_append_left _ (List.mem_singleton.mpr rfl)))
    have h0 : 0 ≤ (if fl = true then d1 + f - d2 - j0 else d1 + f - d2 - j0 - 1) + x * (st - o) := h0
    have lm : ∀ m, l = some m → f + x * st ≤ m := fun m e => by
      have := h (m - f, -st) (List.mem_append_right _ (List.mem_map.mpr ⟨m, Option.mem_toList.mpr e, rfl⟩))
      have : 0 ≤ m - f + x * (-st) := this
      omega
    obtain ⟨j, jn, ejj⟩ := iff.mpr ⟨by omega, lm, dv⟩
    obtain rfl := uj j ejj
    refine ⟨_, jn, ej, fun c e => ?_, ?_⟩
    · have := h (c - 1 - j0, -o) (List.mem_append_left _ (List.mem_append_right _ (List.mem_map.mpr ⟨c, Option.mem_toList.mpr e, rfl⟩)))
      have : 0 ≤ c - 1 - j0 + x * (-o) := this
      omega
    · rw [e1] at h0
      by_cases c : fl = true
      · rw [if_pos c] at h0
        by_cases y : d2 + (j0 + x * o) < d1 + (f + x * st)
        · exact .inl y
        · exact .inr ⟨c, by omega⟩
      · rw [if_neg c] at h0
        exact .inl (by omega)
theorem Blk.on {n : Int} (h : Blk p1 d1 s1 p2 d2 s2 cnt fl n) : On p2 s2 (p1 + n * s1) := let ⟨j, a, b, _⟩ := h; ⟨j, a, b⟩
theorem fb_least (h2 : s2 ≠ 0) (C : Comm p1 s1 p2 s2 (some (f, l, st))) (hj : j0 * s2 = p1 + f * s1 - p2) (ho : o * s2 = st * s1) : ∀ {rx : Option Int}, Least (Up (fbLines d1 d2 f st j0 o l cnt fl)) rx →
    Least (Blk p1 d1 s1 p2 d2 s2 cnt fl) (rx.map fun x => f + x * st) := by
  obtain ⟨f0, stp, fm, S⟩ := C.pos
  have at_ : ∀ n, 0 ≤ n → Blk p1 d1 s1 p2 d2 s2 cnt fl n → ∃ x, 0 ≤ x ∧ n = f + x * st ∧ Up (fbLines d1 d2 f st j0 o l cnt fl) x := fun n n0 h => by
    obtain ⟨a, b, x, hx⟩ := (C.iff n n0).mp h.on
    have x0 : 0 ≤ x := by
      by_cases c : 0 ≤ x
      · exact c
      · have := Int.mul_le_mul_of_nonneg_left (show x ≤ -1 by omega) (show 0 ≤ st by omega)
        omega
    obtain rfl : n = f + x * st := by rw [Int.mul_comm] at hx; omega
    exact ⟨x, x0, rfl, (fb_at h2 C hj ho x x0).mp h⟩
  intro rx hx
  cases rx with
  | none => exact fun n n0 h => let ⟨x, x0, _, u⟩ := at_ n n0 h; hx x x0 u
  | some x =>
    obtain ⟨x0, u, lt⟩ := hx
    have := Int.mul_nonneg x0 (show 0 ≤ st by omega)
    refine ⟨show 0 ≤ f + x * st by omega, (fb_at h2 C hj ho x x0).mpr u, fun m m0 ml h => ?_⟩
    obtain ⟨y, y0, rfl, v⟩ := at_ m m0 h
    have ml : f + y * st < f + x * st := ml
    refine lt y y0 ?_ v
    by_cases c : y < x
    · exact c
    · have := Int.mul_le_mul_of_nonneg_right (show x ≤ y by omega) (show 0 ≤ st by omega)
      omega
theorem fb_none (C : Comm p1 s1 p2 s2 none) : Least (Blk p1 d1 s1 p2 d2 s2 cnt fl) none := by
  cases C with
  | no h => exact fun n n0 b => h n n0 b.on
end
end Ur
/-! UrR: the rows of the meetings of two painters. -/
namespace Ur
/-- the row of the n-th post of the first way -/
def rowN (p1 d1 s1 p2 d2 s2 n : Int) : Int × Int × Int := (p1 + n * s1, d1 + n, d2 + (p1 + n * s1 - p2).fdiv s2)
/-- the number of the j-th common post, and whether there is one -/
def nthN : Option (Int × Option Int × Int) → Nat → Int
  | none, _ => 0
  | some (a, _, st), j => a + (j : Int) * st
def okN : Option (Int × Option Int × Int) → Nat → Prop
  | none, _ => False
  | some (a, l, st), j => ∀ x, l = some x → a + (j : Int) * st ≤ x
def mRows (p1 d1 s1 p2 d2 s2 : Int) (r : Option (Int × Option Int × Int)) (m : Nat) : List (Int × Int × Int) := (List.range m).map fun j => rowN p1 d1 s1 p2 d2 s2 (nthN r j)
/-- m rows were read, of at most L -/
def Taken (L : Nat) (r : Option (Int × Option Int × Int)) (m : Nat) : Prop := (∀ j, j < m → okN r j) ∧ m ≤ L ∧ (m = L ∨ ¬ okN r m)
theorem mRows_snoc {p1 d1 s1 p2 d2 s2 : Int} {r : Option (Int × Option Int × Int)} {m : Nat} : mRows p1 d1 s1 p2 d2 s2 r (m + 1) = mRows p1 d1 s1 p2 d2 s2 r m ++ [rowN p1 d1 s1 p2 d2 s2 (nthN r m)] := by
  unfold mRows
  rw [range_snoc, List.map_append]
  rfl
section
variable {p1 s1 p2 s2 : Int} {r : Option (Int × Option Int × Int)}
theorem okN_mono (C : Comm p1 s1 p2 s2 r) {i j : Nat} (h : i ≤ j) (o : okN r j) : okN r i := by
  cases r with
  | none => exact o
  | some y =>
    obtain ⟨a, l, st⟩ := y
    obtain ⟨a0, st0, _, _⟩ := C.pos
    intro x e
    have := o x e
    have : (i : Int) * st ≤ (j : Int) * st := Int.mul_le_mul_of_nonneg_right (by omega) (by omega)
    omega
theorem nthN_lt (C : Comm p1 s1 p2 s2 r) {i j : Nat} (h : i < j) (o : okN r i) : nthN r i < nthN r j := by
  cases r with
  | none => exact False.elim o
  | some y =>
    obtain ⟨a, l, st⟩ := y
    obtain ⟨a0, st0, _, _⟩ := C.pos
    have : ((i : Int) + 1) * st ≤ (j : Int) * st := Int.mul_le_mul_of_nonneg_right (by omega) (by omega)
    show a + (i : Int) * st < a + (j : Int) * st
    rw [Int.add_mul] at this
    omega
theorem nthN_nn (C : Comm p1 s1 p2 s2 r) (j : Nat) : 0 ≤ nthN r j := by
  cases r with
  | none => exact Int.le_refl _
  | some y =>
    obtain ⟨a, l, st⟩ := y
    obtain ⟨a0, st0, _, _⟩ := C.pos
    have : 0 ≤ (j : Int) * st := Int.mul_nonneg (by omega) (by omega)
    show 0 ≤ a + (j : Int) * st
    omega
theorem inR_iff (C : Comm p1 s1 p2 s2 r) (k : Nat) : inR r k = true ↔ ∃ j, okN r j ∧ (k : Int) = nthN r j := by
  cases r with
  | none => exact ⟨fun z => (by cases z), fun ⟨_, z, _⟩ => False.elim z⟩
  | some y =>
    obtain ⟨a, l, st⟩ := y
    obtain ⟨a0, st0, _, _⟩ := C.pos
    rw [← C.on_inR k, C.iff k (by omega)]
    constructor
    · rintro ⟨h1, h2, c, hc⟩
      have c0 : 0 ≤ c := by
        by_cases c0 : 0 ≤ c
        · exact c0
        · have : st * c < 0 := Int.mul_neg_of_pos_of_neg st0 (by omega)
          omega
      refine ⟨c.toNat, fun x e => ?_, ?_⟩
      · have := h2 x e
        have e2 : ((c.toNat : Nat) : Int) = c := by omega
        rw [e2, Int.mul_comm]
        omega
      · show (k : Int) = a + ((c.toNat : Nat) : Int) * st
        have e2 : ((c.toNat : Nat) : Int) = c := by omega
        rw [e2, Int.mul_comm]
        omega
    · rintro ⟨j, h1, h2⟩
      have h2 : (k : Int) = a + (j : Int) * st := h2
      have : 0 ≤ (j : Int) * st := Int.mul_nonneg (by omega) (by omega)
      exact ⟨by omega, fun m e => by rw [h2]; exact h1 m e, ⟨j, by rw [Int.mul_comm]; omega⟩⟩
/-- all numbers below N, in their order -/
theorem range_rows (C : Comm p1 s1 p2 s2 r) : ∀ N : Nat, ∃ m, (List.range N).filter (inR r) = (List.range m).map (fun j => (nthN r j).toNat) ∧ (∀ j, j < m → okN r j ∧ nthN r j < N) ∧ (okN r m → (N : Int) ≤ nthN r m)
  | 0 => ⟨0, rfl, fun j h => absurd h (by omega), fun _ => nthN_nn C 0⟩
  | N + 1 => by
    obtain ⟨m, e, h1, h2⟩ := range_rows C N
    rw [range_snoc, List.filter_append, e]
    by_cases c : inR r N = true
    · obtain ⟨j, o, q⟩ := (inR_iff C N).mp c
      have hj : j = m := by
        by_cases a : j < m
        · have := (h1 j a).2
          omega
        · by_cases b : m < j
          · have := nthN_lt C b (okN_mono C (by omega) o)
            have := h2 (okN_mono C (by omega) o)
            omega
          · omega
      subst hj
      refine ⟨j + 1, ?_, fun i hi => ?_, fun z => ?_⟩
      · rw [range_snoc, List.map_append, List.filter_cons, if_pos c]
        show _ ++ [N] = _ ++ [(nthN r j).toNat]
        rw [← q]
        rfl
      · by_cases a : i < j
        · have := (h1 i a).2
          exact ⟨(h1 i a).1, by omega⟩
        · have : i = j := by omega
          subst this
          exact ⟨o, by omega⟩
      · have := nthN_lt C (show j < j + 1 by omega) o
        omega
    · refine ⟨m, ?_, fun i hi => ⟨(h1 i hi).1, by have := (h1 i hi).2; omega⟩, fun z => ?_⟩
      · rw [List.filter_cons, if_neg c]
        exact List.append_nil _
      · have := h2 z
        by_cases a : (N : Int) = nthN r m
        · exact absurd ((inR_iff C N).mpr ⟨m, z, a⟩) c
        · omega
end
/-- the rows by going -/
def dueRows (p1 d1 s1 p2 d2 s2 : Int) (r : Option (Int × Option Int × Int)) : List (Int × Int × Int) := ((List.range 200).filter (inR r)).map fun k : Nat => rowN p1 d1 s1 p2 d2 s2 (k : Int)
section
variable {p1 d1 s1 p2 d2 s2 : Int} {r : Option (Int × Option Int × Int)}
theorem due_mRows (C : Comm p1 s1 p2 s2 r) : ∃ m, dueRows p1 d1 s1 p2 d2 s2 r = mRows p1 d1 s1 p2 d2 s2 r m ∧ (∀ j, j < m → okN r j ∧ nthN r j < 200) ∧ (okN r m → 200 ≤ nthN r m) := by
  obtain ⟨m, e, h1, h2⟩ := range_rows C 200
  refine ⟨m, ?_, h1, h2⟩
  unfold dueRows mRows
  rw [e, List.map_map]
  refine List.map_congr_left fun j _ => ?_
  show rowN p1 d1 s1 p2 d2 s2 (((nthN r j).toNat : Nat) : Int) = _
  rw [show (((nthN r j).toNat : Nat) : Int) = nthN r j from by have := nthN_nn C j; omega]
theorem mRows_take {m : Nat} (h : 9 ≤ m) : (mRows p1 d1 s1 p2 d2 s2 r m).take 9 = mRows p1 d1 s1 p2 d2 s2 r 9 := by
  obtain ⟨k, rfl⟩ : ∃ k, m = 9 + k := ⟨m - 9, by omega⟩
  induction k with
  | zero => rfl
  | succ k ih =>
    have ih := ih (by omega)
    rw [show 9 + (k + 1) = (9 + k) + 1 from rfl, mRows_snoc, List.take_append_of_le_length (by unfold mRows; rw [List.length_map, List.length_range]; omega)]
    exact ih
theorem mRows_len {m : Nat} : (mRows p1 d1 s1 p2 d2 s2 r m).length = m := by unfold mRows; rw [List.length_map, List.length_range]
theorem step_le' {s1 s2 s : Int} (h : s2 ≠ 0) (S : Steps s1 s2 s) : s ≤ s2.natAbs := by
  have z := (S.2 (s2.natAbs : Int)).mp (Int.dvd_trans (Int.dvd_natAbs.mpr (Int.dvd_refl s2)) ⟨s1, rfl⟩)
  exact Int.le_of_dvd (by omega) z
/-- small: the ninth is below 200 -/
theorem small_nth (C : Comm p1 s1 p2 s2 r) (hp : (p2 - p1).natAbs ≤ 18) (h2 : s2.natAbs ≤ 9) (h0 : s2 ≠ 0) {j : Nat} (hj : j ≤ 8) (o : okN r j) : nthN r j < 200 := by
  cases r with
  | none => exact False.elim o
  | some y =>
    obtain ⟨a, l, st⟩ := y
    have S := C.pos.2.2.2
    have sl : st ≤ s2.natAbs := step_le' h0 S
    have ab : a ≤ (p2 - p1).natAbs + st := by
      cases C with
      | inf g1 g2 g3 g4 g5 => exact g4
      | fin g1 g2 g3 g4 g5 g6 g7 => have := S.1; omega
    have : (j : Int) * st ≤ 8 * 9 := Int.mul_le_mul (by omega) (by omega) (by have := S.1; omega) (by decide)
    show a + (j : Int) * st < 200
    omega
theorem due_take9 (C : Comm p1 s1 p2 s2 r) (hp : (p2 - p1).natAbs ≤ 18) (h2 : s2.natAbs ≤ 9) (h0 : s2 ≠ 0) {m : Nat} (T : Taken 9 r m) : (dueRows p1 d1 s1 p2 d2 s2 r).take 9 = mRows p1 d1 s1 p2 d2 s2 r m := by
  obtain ⟨n, e, g1, g2⟩ := due_mRows (p1 := p1) (d1 := d1) (s1 := s1) (p2 := p2) (d2 := d2) (s2 := s2) C
  obtain ⟨t1, t2, t3⟩ := T
  rw [e]
  by_cases c : 9 ≤ n
  · rw [mRows_take c]
    rcases t3 with rfl | t3
    · rfl
    · by_cases d : m = 9
      · rw [d]
      · exact absurd (g1 m (by omega)).1 t3
  · have nn : n = m := by
      by_cases a : n < m
      · have := g2 (t1 n a)
        have := small_nth C hp h2 h0 (by omega) (t1 n a)
        omega
      · by_cases b : m < n
        · rcases t3 with t3 | t3
          · omega
          · exact absurd (g1 m b).1 t3
        · omega
    rw [nn, List.take_of_length_le (by rw [mRows_len]; omega)]
/-- a way with an end: all rows -/
theorem due_all (C : Comm p1 s1 p2 s2 r) (hp : (p2 - p1).natAbs ≤ 18) (hf : ∀ a l st, r = some (a, l, st) → l ≠ none) {m : Nat} (t1 : ∀ j, j < m → okN r j) (t2 : ¬ okN r m) : dueRows p1 d1 s1 p2 d2 s2 r = mRows p1 d1 s1 p2 d2 s2 r m := by
  obtain ⟨n, e, g1, g2⟩ := due_mRows (p1 := p1) (d1 := d1) (s1 := s1) (p2 := p2) (d2 := d2) (s2 := s2) C
  rw [e]
  have nn : n = m := by
    by_cases a : n < m
    · have o := t1 n a
      have := g2 o
      cases r with
      | none => exact False.elim o
      | some y =>
        obtain ⟨f, l, st⟩ := y
        cases l with
        | none => exact absurd rfl (hf _ _ _ rfl)
        | some x =>
          have := o x rfl
          have : x ≤ (p2 - p1).natAbs := by
            cases C with
            | fin q1 q2 q3 q4 q5 q6 q7 => exact q5
          have : 200 ≤ nthN (some (f, some x, st)) n := g2 o
          have : 200 ≤ f + (n : Int) * st := this
          omega
    · by_cases b : m < n
      · exact absurd (g1 m b).1 t2
      · omega
  rw [nn]
theorem due_nil (C : Comm p1 s1 p2 s2 r) (hp : (p2 - p1).natAbs ≤ 18) (h2 : s2.natAbs ≤ 9) (h0 : s2 ≠ 0) (h : dueRows p1 d1 s1 p2 d2 s2 r = []) : r = none := by
  obtain ⟨n, e, g1, g2⟩ := due_mRows (p1 := p1) (d1 := d1) (s1 := s1) (p2 := p2) (d2 := d2) (s2 := s2) C
  have n0 : n = 0 := by
    have := congrArg List.length (e.symm.trans h)
    rw [mRows_len] at this
    exact this
  subst n0
  cases r with
  | none => rfl
  | some y =>
    obtain ⟨a, l, st⟩ := y
    have o : okN (some (a, l, st)) 0 := fun x e => by
      have := C.pos.2.2.1 x e
      omega
    have := g2 o
    have := small_nth C hp h2 h0 (by omega) o
    omega
end
end Ur
/-! UrW: for i in range(a, b), a and b of any size. -/
namespace Ur
open PySem PySem.Spec PyProof.Rows L2
theorem turn_long {P : Program} {w : World} {K : PySem.W.Frag} {tg : Expr} (it : Addr) (lo : Int) (n : Nat) : Turn P w K tg (Itr lo n) [it] it (fun i h => IsLongIter h it (lo + (i : Nat)) ((n : Int) - (i : Nat)) 1) where
  mem := by simp
  obj := fun i h st b hb => by
    obtain rfl : b = it := by simpa using hb
    exact ⟨_, st, fun v z => by
      have zz : Data.fields _ = Data.cell v := z
      cases zz⟩
  keep := fun i h h' st k => k it (by simp) _ st
  item := by
    intro X hP hw hK hc i pins s σ H E I hf st hg
    subst hP hw hK
    obtain ⟨f0, f1, f2, f3, f4, f5⟩ := hf it (by simp)
    have hg : i < n := hg
    refine wpAny_pyNext_long_item st (by omega) fun h' hit sb => ?_
    have J : Inv X pins σ H { s with heap := h', toks := s.toks + 1 } := I.turned (fun b o hb e => (sb.2 b hb).trans e) f0 f1 f3 f4 f5
    have st' : IsLongIter h' it (lo + ((i + 1 : Nat) : Int)) ((n : Int) - ((i + 1 : Nat) : Int)) 1 := by
      have e1 : lo + ((i + 1 : Nat) : Int) = lo + (i : Int) + 1 := by omega
      have e2 : (n : Int) - ((i + 1 : Nat) : Int) = (n : Int) - (i : Int) - 1 := by omega
      rw [e1, e2]
      exact hit
    exact ⟨_, rfl, go_of (s := { s with heap := h', toks := s.toks + 1 }) (n := "longrange_iterator") hit rfl rfl (by decide) ⟨.int (lo + i), H, J, ⟨s.toks, rfl⟩, ⟨rfl, rfl⟩, st', fun b hb => (hf b hb).1⟩⟩
  done := by
    intro X hP hw hK hc i pins s σ H E I hf st hg
    subst hP hw hK
    obtain ⟨f0, f1, f2, f3, f4, f5⟩ := hf it (by simp)
    have hg : n ≤ i := hg
    exact wpAny_pyNext_long_end (I.ok.hd hc) st (by omega) fun h' eb => ⟨rfl, I.turned (t' := s.toks) (fun b o hb e => eb b o hb e) f0 f1 f3 f4 f5⟩
  self := fun _ _ _ _ _ st h => wpAny_pyIter_longiter st h
section
variable {X : Cx} {tg : Expr}
theorem range_any {pins : List (Addr × Obj)} {σ : L2.St} {H : Hp} {s : Shared} {R : It → Hp → Prop} {E : Value → Shared → Prop} {lo hi : Int} {t u v : Tok} {tk : Nat} (I : Inv X pins σ H s)
    (q : R (Itr lo (hi - lo).toNat) H) : wpAny (model X.prog X.w) X.A (pyIter (.ref s.heap.objs.size)) (PIE X pins σ tg R) E { s with heap := s.heap.push { cls := .type "range", data := .fields #[.int lo t, .int hi u, .int 1 v] }, toks := tk } := by
  have J : Inv X pins σ H { s with heap := s.heap.push { cls := .type "range", data := .fields #[.int lo t, .int hi u, .int 1 v] }, toks := tk } := I.kept fun b o e => Heap.get?_push_of_some _ e
  have fp : ∀ b, b ∈ [(s.heap.push { cls := .type "range", data := .fields #[.int lo t, .int hi u, .int 1 v] }).objs.size] → FpOk X pins H b := fun b hb => by
    obtain rfl : b = _ := List.mem_singleton.mp hb
    exact J.fpOk (Nat.le_refl _) (J.hok.fresh (Nat.le_refl _))
  have sz : (((hi - lo).toNat : Nat) : Int) = Builtin.Range.rangeSize lo hi 1 := by rw [rangeSize_one]; split <;> omega
  by_cases hs : Builtin.Range.small lo hi 1 = true
  · refine wpAny_pyIter_range (IsRange.new ..) hs ?_
    refine ⟨_, _, _, _, H, rfl, J.kept (t' := tk) fun b o e => Heap.get?_push_of_some _ e, turn_range _ lo (hi - lo).toNat, ?_, fp, q⟩
    have e1 : lo + ((0 : Nat) : Int) * 1 = lo := by simp
    have e2 : (((hi - lo).toNat : Nat) : Int) - ((0 : Nat) : Int) = Builtin.Range.rangeSize lo hi 1 := by omega
    show IsRangeIter _ _ (lo + ((0 : Nat) : Int) * 1) ((((hi - lo).toNat : Nat) : Int) - ((0 : Nat) : Int)) 1
    rw [e1, e2]
    exact Heap.get?_push_size _ rfl
  · refine wpAny_pyIter_longrange (IsRange.new ..) (Bool.eq_false_iff.mpr hs) ?_
    refine ⟨_, _, _, _, H, rfl, J.kept (t' := tk) fun b o e => Heap.get?_push_of_some _ e, turn_long _ lo (hi - lo).toNat, ?_, fp, q⟩
    have e1 : lo + ((0 : Nat) : Int) = lo := by simp
    have e2 : (((hi - lo).toNat : Nat) : Int) - ((0 : Nat) : Int) = Builtin.Range.rangeSize lo hi 1 := by omega
    show IsLongIter _ _ (lo + ((0 : Nat) : Int)) ((((hi - lo).toNat : Nat) : Int) - ((0 : Nat) : Int)) 1
    rw [e1, e2]
    exact Heap.get?_push_size _ rfl
def iRngB (ta : TA) : TI := fun σ H R => ta σ H fun vs H1 => ∃ i j : Int, vs = [.int i, .int j] ∧ R (Itr i (j - i).toNat) H1
theorem pi_rangeB {a b : Expr} {ta : TA} {p pos : Pos} (hg : Gl X "range") (hm : X.mg "range" = none) (ha : PA X [a, b] ta) (hs : starEach [a, b] X.env = [(false, eval a X.env), (false, eval b X.env)] := by rfl) (hs2 : starEach [b] X.env = [(false, eval b X.env)] := by rfl) :
    PI X tg (.Call (.Name "range" p) [a, b] [] pos) (iRngB ta) := by
  refine ⟨fun pins s σ H R I h => ?_⟩
  refine Call_ (ld_blt I hg hm boot_range (PyProof.Rows.callWith_type1 (thn (ha.run pos pins s σ H _ I h) fun us s1 ⟨vs, H1, I1, r1, q1⟩ => ?_) (by rw [hs, hs2]) (by rw [hs2]; rfl)))
  obtain ⟨i, j, rfl, q⟩ := q1
  cases r1 with
  | cons r rr =>
    cases rr with
    | cons r2 rr =>
      cases rr
      obtain ⟨t, rfl⟩ := r
      obtain ⟨t', rfl⟩ := r2
      exact call_range_2 (range_any I1 q)
end
end Ur
/-! GZ: a generator whose reader has objects of its own that change between two items (an iterator, a list, a namespace), and reads at most L items. -/
namespace Ur
open PySem PySem.Spec PyProof.Rows L2 GenW

/-- between two items: the reader's objects (at F, among them the list at S) change, nothing else; the item stands behind the list -/
structure Nap (F : List Addr) (S : Addr) (v : Value) (s s' : Shared) : Prop where
  os : s'.os = s.os
  bare : AllBare s'.gens
  rest : ∀ b o, b ∉ F → s.heap.get? b = some o → s'.heap.get? b = some o
  mine : ∀ b, b ∈ F → ∃ o, s'.heap.get? b = some o ∧ ∀ u, o.data ≠ .cell u
  grow : ∀ acc c, s.heap.get? S = some (lstObj acc c) → ∃ c', s'.heap.get? S = some (lstObj (acc.push v) c')
/-- the reader's objects are none of the generator's -/
structure Off (X : Cx) (F : List Addr) : Prop where
  pn : ∀ p ∈ X.pn, p.1 ∉ F
  lo : ∀ b ∈ F, X.s_0.heap.objs.size ≤ b ∧ b ≠ X.env.locals ∧ ∀ x c, X.env.cells.lookup x = some c → c ≠ b
/-- the generator runs since s₀: the reader's objects stand as at s₀ -/
def ZI (X : Cx) (F : List Addr) (S : Addr) (s₀ : Shared) (ys : List V) (σ : L2.St) (H : Hp) (s : Shared) : Prop :=
  (∀ b, b ∈ F → ∃ o, s₀.heap.get? b = some o ∧ ∀ u, o.data ≠ .cell u) ∧ (∃ (acc : Array Value) (c : Nat), Vals ys acc.toList ∧ s₀.heap.get? S = some (lstObj acc c)) ∧ Inv X (pinsAt F s₀.heap) σ H s
section
variable {X : Cx} {F : List Addr} {S : Addr} {s₀ s s' : Shared} {ys : List V} {σ : L2.St} {H : Hp} {x : V} {v : Value}
theorem ZI.at (h : ZI X F S s₀ ys σ H s) {b : Addr} (hb : b ∈ F) : ∃ o, s₀.heap.get? b = some o ∧ s.heap.get? b = some o ∧ H b = none ∧ b ≠ X.env.locals ∧ b ∉ X.fs ∧ ∀ u, o.data ≠ .cell u := by
  obtain ⟨h1, _, I⟩ := h
  obtain ⟨o, e, n⟩ := h1 b hb
  obtain ⟨q1, q2, q3, q4, _⟩ := I.pin (b, o) (List.mem_append_right _ (mem_pinsAt hb e))
  exact ⟨o, e, q1, q2, q3, q4, n⟩
theorem ZI.woken (ha : Off X F) (hS : S ∈ F) (h : ZI X F S s₀ ys σ H s) (rv : RelV x v) (z : Nap F S v s s') : ZI X F S s' (ys ++ [x]) σ H s' := by
  have at' : ∀ b, b ∈ F → ∃ o, s₀.heap.get? b = some o ∧ s.heap.get? b = some o ∧ H b = none ∧ b ≠ X.env.locals ∧ b ∉ X.fs ∧ ∀ u, o.data ≠ .cell u := fun b hb => h.at hb
  obtain ⟨h1, ⟨acc, c, r, e⟩, I⟩ := h
  have I0 : Inv X [] σ H s := I.pins_of fun p hp => absurd hp List.not_mem_nil
  have nt : ∀ b u, H b = some u → b ∉ F := fun b u q hb => by
    obtain ⟨_, _, _, n, _⟩ := at' b hb
    rw [n] at q
    cases q
  obtain ⟨z1, z2, z3, z4, z5⟩ := z
  obtain ⟨c', e'⟩ := z5 acc c (by
    obtain ⟨o, q1, q2, _⟩ := at' S hS
    rw [e] at q1
    cases q1
    exact q2)
  obtain ⟨hh, g, d, t, o⟩ := s'
  have ho : o = s.os := z1
  subst ho
  have J : Inv X [] σ H { s with heap := hh, gens := g, drawn := d, toks := t } := by
    refine I0.step (g' := g) (t' := t) (d' := d) (ch := F) (fun b hb => ?_) (fun b ob _ _ k q _ => z3 b ob k q) (fun b ob _ _ k q _ => ⟨ob.slots, z3 b ob k q⟩) (fun _ _ _ _ n => n) (fun b ob k q => ⟨ob, z3 b ob k q⟩)
      (fun _ _ q => q) (fun _ _ _ q => q) (fun b ps q => ⟨#[], by rw [q]; simp⟩) (fun m hm => ?_) (fun b u q => ?_) z2
    · obtain ⟨a1, a2, a3⟩ := ha.lo b hb
      exact ⟨.inr a1, a2, a3, fun p hp => (List.mem_append.mp hp).elim (fun q k => ha.pn p q (k ▸ hb)) fun q => absurd q List.not_mem_nil⟩
    · obtain ⟨ob, es, ep, ho, r⟩ := hm
      exact ⟨ob, es, ep, z3 _ ob (fun q => (ha.lo _ q).2.1 rfl) ho, r⟩
    · refine (I0.hok b u q).stay (fun c v k y => z3 c v ?_ y) (fun _ y => y) fun _ _ y => y
      rcases k with y | y
      · rw [y]; exact nt b u q
      · exact nt c _ y
  refine ⟨z4, ⟨acc.push v, c', ?_, e'⟩, J.pins_of fun p hp => ?_⟩
  · rw [Array.toList_push]
    exact r.append (.cons rv .nil)
  · obtain ⟨q1, q2⟩ := of_pinsAt hp
    obtain ⟨_, _, _, n1, n2, n3, _⟩ := at' _ q1
    obtain ⟨o', e1, e2⟩ := z4 _ q1
    have k : p.2 = o' := Option.some.inj (q2.symm.trans e1)
    exact ⟨q2, n1, n2, n3, fun v => by rw [k]; exact e2 v⟩
end

/-! ### the protocol: at most L items -/
def ZYld (X : Cx) (F : List Addr) (S : Addr) (L : Nat) (W : List V → Hp → Prop) : Protocol := fun n s₀ v s kap =>
  ∃ ys x σ H, n + 1 + ys.length = L ∧ RelV x v ∧ ZI X F S s₀ ys σ H s ∧ (n = 0 → W (ys ++ [x]) H) ∧ (0 < n → ∀ s', Nap F S v s s' → kap (.send .none) s')
def ZRet (X : Cx) (F : List Addr) (S : Addr) (L : Nat) (Q : List V → VK) (G : Value → Shared → Prop) : GenEnd := fun n s₀ r s => match r with
  | .ok (.ret u) => ∃ ys v σ H, n + ys.length = L ∧ ZI X F S s₀ ys σ H s ∧ RelV v u ∧ Q ys v H
  | .ok _ => False
  | .error e => G e s
def ZP (X : Cx) (F : List Addr) (S : Addr) (s₀ : Shared) (D : GEnds) (ys : List V) (f : Flow) (s : Shared) : Prop :=
  match f with
  | .next => ∃ σ H, ZI X F S s₀ ys σ H s ∧ D.nx ys σ H
  | .brk => ∃ σ H, ZI X F S s₀ ys σ H s ∧ D.bk ys σ H
  | .cont => ∃ σ H, ZI X F S s₀ ys σ H s ∧ D.ct ys σ H
  | .ret u => ∃ v σ H, ZI X F S s₀ ys σ H s ∧ RelV v u ∧ D.rt ys v H
/-- where the code of the generator stands -/
structure ZC (X : Cx) (F : List Addr) (A : Around) (c : Code) (fs : List Frame) (gd : Bool → Bool) : Prop where
  off : Off X F
  over : A.over c fs = X.A
  split : splitAtGen fs = none
  guard : fs.any Frame.guarded = false
  gd : gd false = false
structure ZK (X : Cx) (F : List Addr) (S : Addr) (L : Nat) (W : List V → Hp → Prop) (A : Around) (R : GenEnd) (c : Code) (fs : List Frame) (K : Flow → Sem PySem.Fin) (J : Value → Sem PySem.Fin) (D : GEnds) : Prop where
  ok : ∀ (n : Nat) (ys : List V) (s₀ s : Shared) (f : Flow), 0 < n → n + ys.length = L → ZP X F S s₀ D ys f s → Seg (model X.prog X.w) A R (ZYld X F S L W) n s₀ c (K f) fs s
  exc : ∀ (n : Nat) (s₀ : Shared) (e : Value) (s : Shared), X.xe e s → Seg (model X.prog X.w) A R (ZYld X F S L W) n s₀ c (J e) fs s
structure ZS (X : Cx) (L : Nat) (W : List V → Hp → Prop) (st : Stmt) (t : TGn) : Prop where
  run : ∀ (A : Around) (F : List Addr) (S : Addr) (R : GenEnd) (n : Nat) (ys : List V) (s₀ : Shared) (c : Code) (fs : List Frame) (K : Flow → Sem PySem.Fin) (J : Value → Sem PySem.Fin) (gd : Bool → Bool) (lv : List Value → List Value) (s : Shared) (σ : L2.St) (H : Hp) (D : GEnds),
    ZC X F A c fs gd → S ∈ F → 0 < n → n + ys.length = L → ZK X F S L W A R c fs K J D → ZI X F S s₀ ys σ H s → t D ys σ H →
    Seg (model X.prog X.w) A R (ZYld X F S L W) n s₀ c ((exec st X.env).wrap K J gd lv) fs s
structure ZSs (X : Cx) (L : Nat) (W : List V → Hp → Prop) (st : List Stmt) (t : TGn) : Prop where
  run : ∀ (A : Around) (F : List Addr) (S : Addr) (R : GenEnd) (n : Nat) (ys : List V) (s₀ : Shared) (c : Code) (fs : List Frame) (K : Flow → Sem PySem.Fin) (J : Value → Sem PySem.Fin) (gd : Bool → Bool) (lv : List Value → List Value) (s : Shared) (σ : L2.St) (H : Hp) (D : GEnds),
    ZC X F A c fs gd → S ∈ F → 0 < n → n + ys.length = L → ZK X F S L W A R c fs K J D → ZI X F S s₀ ys σ H s → t D ys σ H →
    Seg (model X.prog X.w) A R (ZYld X F S L W) n s₀ c ((execs st X.env).wrap K J gd lv) fs s
section
variable {X : Cx} {L : Nat} {W : List V → Hp → Prop} {st : Stmt} {rest : List Stmt}
theorem sp_zp {F : List Addr} {S : Addr} {s₀ s : Shared} {D : GEnds} {ys : List V} {f : Flow} (a : ∀ b, b ∈ F → ∃ o, s₀.heap.get? b = some o ∧ ∀ u, o.data ≠ .cell u) (b : ∃ (acc : Array Value) (c : Nat), Vals ys acc.toList ∧ s₀.heap.get? S = some (lstObj acc c))
    (h : SP X (pinsAt F s₀.heap) (D.at ys) f s) : ZP X F S s₀ D ys f s := by
  cases f with
  | next => obtain ⟨σ, H, I, q⟩ := h; exact ⟨σ, H, ⟨a, b, I⟩, q⟩
  | brk => obtain ⟨σ, H, I, q⟩ := h; exact ⟨σ, H, ⟨a, b, I⟩, q⟩
  | cont => obtain ⟨σ, H, I, q⟩ := h; exact ⟨σ, H, ⟨a, b, I⟩, q⟩
  | ret u => obtain ⟨v, σ, H, I, r1, q⟩ := h; exact ⟨v, σ, H, ⟨a, b, I⟩, r1, q⟩
theorem ps_nox {t : TS} (h : PS X.nox st t) : PS X st t := ⟨fun pins s σ H D I hw =>
  wpAny_mono (h.run pins s σ H D (I.wish _) hw) (fun _ _ q => SP.unwish q) fun _ _ z => False.elim z⟩
theorem zs_ps {t : TS} (h : PS X st t) : ZS X L W st (tPlain t) := by
  refine ⟨fun A F S R n ys s₀ c fs K J gd lv s σ H D g hS n0 hn k hI ht => ?_⟩
  obtain ⟨a, b, I⟩ := hI
  refine seg_wrap ?_
  rw [g.over]
  exact wpAny_mono (h.run _ s σ H (D.at ys) I ht) (fun f s' hs => k.ok n ys s₀ s' f n0 hn (sp_zp a b hs)) fun x s' hx => k.exc n s₀ x s' hx
theorem zss_nil : ZSs X L W [] tG0 := by
  refine ⟨fun A F S R n ys s₀ c fs K J gd lv s σ H D g hS n0 hn k hI ht => ?_⟩
  exact seg_execs_nil (k.ok n ys s₀ s .next n0 hn ⟨σ, H, hI, ht⟩)
theorem zss_cons {t u : TGn} (a : ZS X L W st t) (b : ZSs X L W rest u) : ZSs X L W (st :: rest) (tGThen t u) := by
  refine ⟨fun A F S R n ys s₀ c fs K J gd lv s σ H D g hS n0 hn k hI ht => ?_⟩
  refine seg_execs_cons ?_
  refine a.run A F S R n ys s₀ c fs _ J gd lv s σ H { D with nx := fun ys' σ' H' => u D ys' σ' H' } g hS n0 hn ⟨fun n' ys' s₀' s' f m0 hm hs => ?_, k.exc⟩ hI ht
  cases f with
  | next =>
    obtain ⟨σ', H', I', q⟩ := hs
    exact b.run A F S R n' ys' s₀' c fs K J gd lv s' σ' H' D g hS m0 hm k I' q
  | brk => exact k.ok n' ys' s₀' s' .brk m0 hm hs
  | cont => exact k.ok n' ys' s₀' s' .cont m0 hm hs
  | ret u => exact k.ok n' ys' s₀' s' (.ret u) m0 hm hs
def tZYield (L : Nat) (W : List V → Hp → Prop) (te : TE) : TGn := fun D ys σ H => te σ H fun x H1 => (ys.length + 1 = L → W (ys ++ [x]) H1) ∧ (ys.length + 1 < L → D.nx (ys ++ [x]) σ H1)
theorem zs_yield {e : Expr} {yp pos : Pos} {te : TE} (he : PE X e te) (hco : X.env.scope.isCoroutine = false := by rfl) (hi : interactive X.env = false := by rfl) : ZS X L W (.Expr (.Yield (some e) yp) pos) (tZYield L W te) := by
  refine ⟨fun A F S R n ys s₀ c fs K J gd lv s σ H D g hS n0 hn k hI ht => ?_⟩
  obtain ⟨m, rfl⟩ : ∃ m, n = m + 1 := ⟨n - 1, by omega⟩
  obtain ⟨a, b, I⟩ := hI
  refine seg_Expr_Yield g.split g.gd g.guard ?_ hco hi
  rw [g.over]
  refine wpAny_mono (he.run _ s σ H _ I ht) (fun v s' hv => ?_) fun x s' hx => k.exc _ s₀ x s' hx
  obtain ⟨x, H1, I1, rv, q1, q2⟩ := hv
  have G1 : ZI X F S s₀ ys σ H1 s' := ⟨a, b, I1⟩
  intro kap hk
  refine ⟨ys, x, σ, H1, hn, rv, G1, fun e => q1 (by omega), fun m0 s'' z => hk .none s'' ?_⟩
  refine k.ok m (ys ++ [x]) s'' s'' .next m0 ?_ ⟨σ, H1, G1.woken g.off hS rv z, q2 (by omega)⟩
  rw [List.length_append, List.length_singleton]
  omega
theorem zc_loop {F : List Addr} {A : Around} {c c' : Code} {fs : List Frame} {gd : Bool → Bool} {k : Result → Sem PySem.Fin} {l kp : List Value} {p : Pos} (g : ZC X F A c fs gd) (hw : c'.weight = 0) (hu : c'.cUnits = 0) :
    ZC X F A c' (.ret k none (gd false) l c p kp :: fs) id := by
  refine ⟨g.off, (over_loop hw hu).trans g.over, ?_, ?_, rfl⟩
  · show (splitAtGen fs).map _ = none
    rw [g.split]
    rfl
  · show (gd false || fs.any Frame.guarded) = false
    rw [g.gd, g.guard]
    rfl
theorem zk_cameBack {F : List Addr} {S : Addr} {A : Around} {R : GenEnd} {c : Code} {fs : List Frame} {K : Flow → Sem PySem.Fin} {J : Value → Sem PySem.Fin} {gd : Bool → Bool} {lv : List Value → List Value} {D : GEnds} {n : Nat} {s₀ s : Shared} {e : Value}
    (g : ZC X F A c fs gd) (k : ZK X F S L W A R c fs K J D) (h : cameBackBy (model X.prog X.w) X.A X.env X.xe e s) :
    Seg (model X.prog X.w) A R (ZYld X F S L W) n s₀ c (((Sem.raise e : Sem Flow).onRaise (cameBack X.env)).wrap K J gd lv) fs s := by
  show Seg _ _ _ _ n s₀ c (((cameBack X.env e).bind fun _ => (Sem.raise e : Sem Flow)).wrap K J gd lv) fs s
  rw [Sem.bind_eq_wrap, Sem.wrap_wrap]
  refine seg_wrap ?_
  rw [g.over]
  exact wpAny_mono h (fun _ s' hx => k.exc n s₀ e s' hx) fun x s' hx => k.exc n s₀ x s' hx
theorem zs_while {test : Expr} {body : List Stmt} {pos : Pos} {tc : TT} {tb : TGn} (hp : PassesOwn (model X.prog X.w) X.A X.env X.xe) (hc : PT X test tc) (hb : ZSs X L W body tb) : ZS X L W (.While test body [] pos) (tGWhile tc tb) := by
  refine ⟨fun A F S R n ys s₀ c fs K J gd lv s σ H D g hS n0 hn k hI ht => ?_⟩
  obtain ⟨V', ⟨m0, w0⟩, turn⟩ := ht
  refine seg_While fun p => ?_
  have gl := fun (kk : Result → Sem PySem.Fin) => zc_loop (k := kk) (c' := .whileLoop test body [] X.env) (l := lv []) (kp := []) (p := p) g rfl rfl
  have loop : ∀ (m n : Nat) (ys : List V) (s₀ s : Shared) (σ : L2.St) (H : Hp), 0 < n → n + ys.length = L → V' m ys σ H → ZI X F S s₀ ys σ H s →
      Seg (model X.prog X.w) A R (ZYld X F S L W) n s₀ (.whileLoop test body [] X.env) ((model X.prog X.w).den (.whileLoop test body [] X.env))
        (.ret (fun r => ((match r with | .ok f => (.pure f : Sem Flow) | .error e => .raise e).onRaise (cameBack X.env)).wrap K J gd lv) none (gd false) (lv []) c p [] :: fs) s := by
    intro m
    induction m using Nat.strongRecOn with
    | ind m ih =>
      intro n ys s₀ s σ H n0 hn w hI
      have ee : ∀ (n : Nat) (s₀ : Shared) (x : Value) (s' : Shared), X.xe x s' → Seg (model X.prog X.w) A R (ZYld X F S L W) n s₀ (.whileLoop test body [] X.env)
          ((do noteFrame x X.env; theTreesLotGoes x : Sem Unit).wrap (fun _ => .raise x) .raise id id)
          (.ret (fun r => ((match r with | .ok f => (.pure f : Sem Flow) | .error e => .raise e).onRaise (cameBack X.env)).wrap K J gd lv) none (gd false) (lv []) c p [] :: fs) s' := fun n s₀ x s' hx => by
        refine seg_wrap ?_
        rw [(gl _).over]
        refine wpAny_bind (wpAny_mono (hp x s' hx) (fun _ s'' h1 => wpAny_theTreesLotGoes ?_) fun y s'' h1 => ?_)
        · exact seg_leaf (.error x) (zk_cameBack g k h1)
        · exact seg_leaf (.error y) (zk_cameBack g k h1)
      refine seg_whileLoop ?_
      rw [(gl _).over]
      obtain ⟨a, b, I⟩ := hI
      refine wpAny_mono (hc.run _ s σ H _ I (turn m ys σ H w)) (fun bb s' hb' => ?_) fun x s' hx => ee n s₀ x s' hx
      obtain ⟨H2, I2, q2⟩ := hb'
      cases bb with
      | true =>
        obtain ⟨N, hN, q2⟩ := q2
        rw [if_pos rfl]
        refine hb.run A F S R n ys s₀ _ _ _ _ id id s' σ H2 { D with nx := N, ct := N, bk := D.nx } (gl _) hS n0 hn ⟨fun n' ys' s₀' s3 f n0' hn' hs => ?_, fun n' s₀' x s3 hx => ee n' s₀' x s3 hx⟩ ⟨a, b, I2⟩ q2
        cases f with
        | next =>
          obtain ⟨σ3, H3, I3, n3⟩ := hs
          obtain ⟨m', hm, w3⟩ := hN ys' σ3 H3 n3
          exact seg_again rfl (ih m' hm n' ys' s₀' s3 σ3 H3 n0' hn' w3 I3)
        | cont =>
          obtain ⟨σ3, H3, I3, n3⟩ := hs
          obtain ⟨m', hm, w3⟩ := hN ys' σ3 H3 n3
          exact seg_again rfl (ih m' hm n' ys' s₀' s3 σ3 H3 n0' hn' w3 I3)
        | brk => exact seg_leaf (.ok .next) (k.ok n' ys' s₀' s3 .next n0' hn' hs)
        | ret v => exact seg_leaf (.ok (.ret v)) (k.ok n' ys' s₀' s3 (.ret v) n0' hn' hs)
      | false =>
        rw [if_neg Bool.false_ne_true]
        refine seg_execs_nil ?_
        exact seg_leaf (.ok .next) (k.ok n ys s₀ s' .next n0 hn ⟨σ, H2, ⟨a, b, I2⟩, q2⟩)
  exact loop m0 n ys s₀ s σ H n0 hn w0 hI
end
end Ur
/-! GY: a generator def, read by such a reader. -/
namespace Ur
open PySem PySem.Spec PyProof.Rows L2 GenW

/-- what stands when an item is out, or at the end -/
structure ZAt (P : Program) (w : World) (outer : List Env) (H : Hp) (s : Shared) (F : List Addr) (S a : Addr) (g : Nat) (s₀ : Shared) (ys : List V) (H' : Hp) (s1 : Shared) : Prop where
  os : s1.os = s.os
  bare : AllBare s1.gens
  lim : s1.heap.NoLimit
  gen : s1.heap.IsGen a g
  un : Un (frs outer) [] H H' s.heap s1.heap
  ok : HOk P w H' s1.heap
  mine : ∀ b, b ∈ F → ∃ o, s₀.heap.get? b = some o ∧ s1.heap.get? b = some o ∧ H' b = none ∧ ∀ u, o.data ≠ .cell u
  out : ∃ (acc : Array Value) (c : Nat), Vals ys acc.toList ∧ s₀.heap.get? S = some (lstObj acc c)
def ZFin (P : Program) (w : World) (outer : List Env) (H : Hp) (s : Shared) (F : List Addr) (S a : Addr) (g L : Nat) (Q : List V → Hp → Prop) : GenEnd := fun n s₀ r s1 =>
  ((r = .ok (.ret .none) ∨ r = .ok .next) ∧ (fun (n : Nat) (s₀ s1 : Shared) => ∃ H' ys, ZAt P w outer H s F S a g s₀ ys H' s1 ∧ ys.length ≤ L ∧ Q ys H') n s₀ s1) ∨ ∃ e, r = .error e ∧ (fun (_ : Value) (_ : Shared) => False) e s1
def ZItem (P : Program) (w : World) (outer : List Env) (H : Hp) (s : Shared) (F : List Addr) (S a : Addr) (g L : Nat) (Q : List V → Hp → Prop) : Protocol := fun n s₀ v s1 kap =>
  ∃ ys x H', n + 1 + ys.length = L ∧ RelV x v ∧ ZAt P w outer H s F S a g s₀ ys H' s1 ∧ (n = 0 → Q (ys ++ [x]) H') ∧ (0 < n → ∀ s', Nap F S v s1 s' → kap (.send .none) s')
/-- a generator that has not begun; it will be read L times at most -/
def ZMade (P : Program) (w : World) (k : Nat) (outer : List Env) (H : Hp) (s : Shared) (L : Nat) (Q : List V → Hp → Prop) (u : Value) (s' : Shared) : Prop :=
  ∃ (a : Addr) (g : Nat) (c : Code), u = .ref a ∧ s.heap.objs.size ≤ a ∧ a < s'.heap.objs.size ∧ s'.heap.IsGen a g ∧ s'.gens[g]? = some (.fresh c) ∧ s'.os = s.os ∧ AllBare s'.gens ∧ s'.heap.NoLimit ∧ (∀ b o, s.heap.get? b = some o → s'.heap.get? b = some o) ∧
    ∀ (A : Around) (F : List Addr) (S : Addr) (s2 : Shared), Room k A → A.frames = some outer → S ∈ F → (∀ b, b ∈ F → s'.heap.objs.size ≤ b ∧ ∃ o, s2.heap.get? b = some o ∧ ∀ u, o.data ≠ .cell u) → (∀ b o, s'.heap.get? b = some o → s2.heap.get? b = some o) → (∃ c, s2.heap.get? S = some (lstObj #[] c)) →
      s2.os = s.os → AllBare s2.gens → Seg (model P w) A (ZFin P w outer H s F S a g L Q) (ZItem P w outer H s F S a g L Q) L s2 c ((model P w).den c) [] s2
/-- the promise of a generator def: the arguments, the heap, what is wanted of the items read -/
abbrev SpZ := List V → Hp → (List V → Hp → Prop) → Prop
structure ZFn (P : Program) (w : World) (K : PySem.W.Frag) (mg : Str → Option Value) (base : Heap) (k L : Nat) (f : Addr) (fd : FuncData) (ps : List Str) (sp : SpZ) : Prop where
  len : ∀ vs H Q, sp vs H Q → vs.length = ps.length
  run : ∀ (A : Around) (outer : List Env) (s : Shared) (H : Hp) (args : Args) (us : List Value) (vs : List V) (Q : List V → Hp → Prop), Room k A → Env0 P w K mg base A outer s H → BindsTo s fd args (ps.zip us) → Vals vs us → sp vs H Q →
    codeAny (model P w) A (.call (.ref f) args) (fun r s' => match r with | .ok (.ret u) => ZMade P w k outer H s L Q u s' | _ => False) s
theorem zgfn_of {P : Program} {w : World} {K : PySem.W.Frag} {mg : Str → Option Value} {base : Heap} {k L : Nat} {f : Addr} {name qual : Str} {params : Arguments} {body : List Stmt} {scope : Scope} {dV kV doc pm cdv ct oc : Value} {an od : Option Addr}
    {osl : Array (Option Value)} {N ps : List Str} {sp : SpZ} (hL : 0 < L) (lk : K.lookup f = some ⟨oc, od, .func (PySem.W.fnOf name qual params body scope dV kV doc pm an cdv ct), osl⟩) (hcd : PySem.W.codeIn K cdv qual = true) (S : GScope N ps scope)
    (len : ∀ vs H Q, sp vs H Q → vs.length = ps.length)
    (hbody : ∀ (A : Around) (outer : List Env) (s : Shared) (H : Hp) (vs : List V) (Q : List V → Hp → Prop) (pn : List (Addr × Obj)), Room k (A.deeper (envOfC qual scope s.heap.objs.size f cdv)) → sp vs H Q →
      ∃ t, ZSs (gcxOf P w K mg base N qual scope f cdv A outer s H E0 pn) L Q body t ∧ t { nx := fun ys _ H' => Q ys H', rt := fun ys v H' => v = .non ∧ Q ys H' } [] (start N vs) H) :
    ZFn P w K mg base (k + 1) L f (PySem.W.fnOf name qual params body scope dV kV doc pm an cdv ct) ps sp := by
  refine ⟨len, fun A outer s H args us vs Q hr e0 hb r hsp => ?_⟩
  have hl := len _ _ _ hsp
  have KX : K.In s.heap := e0.mod.kin.keeps fun b o e => (e0.bs b o e).1
  have lim : s.heap.NoLimit := e0.mod.nolimit.keeps fun b o e => (e0.bs b o e).1
  have hkind : ∀ y ∈ ps.zip us, scope.names.lookup y.1 = some .local ∨ (scope.names.lookup y.1 = some .cell ∧ ((cellsFrom (s.heap.objs.size + 1) scope.names []).lookup y.1).isSome = true) := fun ⟨n, v⟩ hy => by
    rcases S.par n (List.of_mem_zip hy).1 with q | q
    · exact .inl q
    · exact .inr ⟨q, PySem.W.cellsFrom_some _ _ _ (.inl q)⟩
  refine codeAny_call_generator hr.depth (KX _ _ lk) rfl S.co S.gen rfl (PySem.W.codeRec_of KX hcd) (hb _ _ _ _ ?_)
  refine wpAny_newFunctionEnv_cells S.kind hkind fun env he s1 x => ?_
  subst he
  have lim1 : s1.heap.NoLimit := lim.keeps x.toInCall.keep
  refine ⟨lim1, ?_⟩
  obtain ⟨h1, tk, es1, hk1⟩ := x.done
  have os1 : s1.os = s.os := by rw [es1]
  have gen1 : s1.gens = s.gens := by rw [es1]
  have lt1 : s.heap.objs.size < s1.heap.objs.size := x.toInCall.ns.lt
  have sz1 : s.heap.objs.size ≤ s1.heap.objs.size := Nat.le_of_lt lt1
  have kp1 : ∀ b o, s.heap.get? b = some o → s1.heap.get? b = some o := x.toInCall.keep
  have main : ∀ (go : Obj) (nm qn : Value) (tk2 : Nat), go.cls = .type "generator" → go.data = .fields #[.int s1.gens.size 0, nm, qn] → go.slots = #[] → (∀ h : Heap, (h.push go).get? h.objs.size = some go) →
      ZMade P w (k + 1) outer H s L Q (.ref s1.heap.objs.size) { s1 with gens := s1.gens.push (.fresh (.func body (envOfC qual scope s.heap.objs.size f cdv))), toks := tk2, heap := s1.heap.push go } := by
    intro go nm qn tk2 hgc hgd0 hgs hgp
    have hgen : ∀ h : Heap, h.get? s1.heap.objs.size = some go → h.IsGen s1.heap.objs.size s1.gens.size := fun h e => ⟨go, nm, qn, e, hgc, hgd0, hgs⟩
    have hpushed : (s1.heap.push go).get? s1.heap.objs.size = some go := hgp _
    refine ⟨s1.heap.objs.size, s1.gens.size, _, rfl, sz1, ?_, hgen _ hpushed, Array.getElem?_push_size .., os1, ?_, lim1.keeps fun b o e => Heap.get?_push_of_some _ e, fun b o e => Heap.get?_push_of_some _ (kp1 b o e), ?_⟩
    · show _ < (s1.heap.push _).objs.size
      rw [Heap.size_push]; exact Nat.lt_succ_self _
    · exact AllBare.push (by rw [gen1]; exact e0.bare) rfl
    intro Aw F Sx s2 hrw hfr hSF hFx hk2 hSo hos hba
    have e0w : Env0 P w K mg base Aw outer s H := ⟨hfr, e0.mod, e0.bs, e0.bsz, e0.funs, e0.frf, e0.hok, e0.bare⟩
    obtain ⟨t, ht, hq⟩ := hbody Aw outer s H vs Q [(s1.heap.objs.size, go)] (hrw.deeper _) hsp
    have I1 : Inv (gcxOf P w K mg base N qual scope f cdv Aw outer s H E0 []) [] (start N vs) H s1 := inv_startG S hrw.hd e0w hl r x
    have kp2 : ∀ b o, s1.heap.get? b = some o → s2.heap.get? b = some o := fun b o e => hk2 b o (Heap.get?_push_of_some _ e)
    have I2 : Inv (gcxOf P w K mg base N qual scope f cdv Aw outer s H E0 []) [] (start N vs) H s2 :=
      I1.call' (ch := []) (hos.trans os1.symm) (Un.kept kp2) (I1.hok.kept kp2) hba fun b z => by simp at z
    have lateF : ∀ b, b ∈ F → s1.heap.objs.size < b := fun b hb => by
      have q : (s1.heap.push go).objs.size ≤ b := (hFx b hb).1
      rw [Heap.size_push] at q
      exact q
    have hea : s2.heap.get? s1.heap.objs.size = some go := hk2 s1.heap.objs.size go hpushed
    have hgd : ∀ v, go.data ≠ .cell v := fun v q => by rw [hgd0] at q; cases q
    have young : ∀ b, s1.heap.objs.size ≤ b → H b = none ∧ b ≠ s.heap.objs.size ∧ b ∉ frs outer ∧ s.heap.objs.size ≤ b ∧ ∀ y c, (cellsFrom (s.heap.objs.size + 1) scope.names []).lookup y = some c → c ≠ b := fun b hb => by
      refine ⟨I1.hok.fresh hb, Nat.ne_of_gt (Nat.lt_of_lt_of_le lt1 hb), I1.nofs hb, Nat.le_trans sz1 hb, fun y c e z => ?_⟩
      obtain ⟨v, ob, ho, _⟩ := I1.cell y c e
      have := Heap.lt_size ho
      rw [z] at this
      exact absurd (Nat.lt_of_lt_of_le this hb) (Nat.lt_irrefl _)
    have hG : ZI (gcxOf P w K mg base N qual scope f cdv Aw outer s H E0 [(s1.heap.objs.size, go)]) F Sx s2 [] (start N vs) H s2 := by
      refine ⟨fun b hb => (hFx b hb).2, let ⟨c, e⟩ := hSo; ⟨#[], c, .nil, e⟩, Inv.pinnedG I2 fun p hp => ?_⟩
      rcases List.mem_append.mp hp with z | z
      · rw [List.mem_singleton.mp z]
        obtain ⟨y1, y2, y3, _, _⟩ := young s1.heap.objs.size (Nat.le_refl _)
        exact ⟨hea, y1, y2, y3, hgd⟩
      · obtain ⟨z1, z2⟩ := of_pinsAt z
        obtain ⟨y1, y2, y3, _, _⟩ := young p.1 (Nat.le_of_lt (lateF _ z1))
        obtain ⟨o, e1, e2⟩ := (hFx _ z1).2
        have ke : p.2 = o := Option.some.inj (z2.symm.trans e1)
        exact ⟨z2, y1, y2, y3, fun v => by rw [ke]; exact e2 v⟩
    have hoff : Off (gcxOf P w K mg base N qual scope f cdv Aw outer s H E0 [(s1.heap.objs.size, go)]) F := by
      refine ⟨fun p hp hb => ?_, fun b hb => ?_⟩
      · rw [List.mem_singleton.mp hp] at hb
        exact absurd (lateF _ hb) (Nat.lt_irrefl _)
      · obtain ⟨_, y2, _, y4, y5⟩ := young b (Nat.le_of_lt (lateF b hb))
        exact ⟨y4, y2, y5⟩
    have facts : ∀ {s₀ : Shared} {ys : List V} {s' : Shared} {σ' : L2.St} {H' : Hp}, ZI (gcxOf P w K mg base N qual scope f cdv Aw outer s H E0 [(s1.heap.objs.size, go)]) F Sx s₀ ys σ' H' s' →
        ZAt P w outer H s F Sx s1.heap.objs.size s1.gens.size s₀ ys H' s' := fun {s₀ ys s' σ' H'} hI => by
      have mine := fun b (hb : b ∈ F) => hI.at hb
      obtain ⟨_, o2, J⟩ := hI
      exact ⟨J.os, J.bare, J.nolimit, hgen _ (J.pin (s1.heap.objs.size, go) (List.mem_append_left _ (List.mem_singleton.mpr rfl))).1, J.base, J.hok, fun b hb => let ⟨o, q1, q2, q3, _, _, q4⟩ := mine b hb; ⟨o, q1, q2, q3, q4⟩, o2⟩
    refine seg_func ?_
    refine seg_imp (R := ZRet (gcxOf P w K mg base N qual scope f cdv Aw outer s H E0 [(s1.heap.objs.size, go)]) F Sx L (fun ys v H' => v = .non ∧ Q ys H') fun e s' => CX P w outer H s E0 e s' ∧ ∀ p ∈ [(s1.heap.objs.size, go)], s'.heap.get? p.1 = some p.2)
      (Y := ZYld (gcxOf P w K mg base N qual scope f cdv Aw outer s H E0 [(s1.heap.objs.size, go)]) F Sx L Q) (fun n s₀ r s1' hR => ?_) (fun n s₀ v s1' kap kap' hkk hY => ?_) L ?_
    · cases r with
      | error e =>
        obtain ⟨⟨_, _, _, _, _, _, _, _, _, _, _, hW⟩, _⟩ := hR
        exact False.elim hW.2
      | ok fl =>
        cases fl with
        | next => exact False.elim hR
        | brk => exact False.elim hR
        | cont => exact False.elim hR
        | ret u =>
          obtain ⟨ys, v, σ', H', hn, hI, rv, ev, hQ⟩ := hR
          subst ev
          have eu : u = Value.none := rv
          subst eu
          exact .inl ⟨.inl rfl, H', ys, facts hI, by omega, hQ⟩
    · obtain ⟨ys, xx, σ', H', hn, h2, hI, h3, h4⟩ := hY
      exact ⟨ys, xx, H', hn, h2, facts hI, h3, fun n0 s' z => hkk _ _ (h4 n0 s' z)⟩
    · refine ht.run Aw F Sx _ L [] s2 _ [] _ _ id id s2 (start N vs) H _ ⟨hoff, over_func, rfl, rfl, rfl⟩ hSF hL (Nat.add_zero _) ⟨fun n ys s₀ s' fl n0 hn hs => ?_, fun n s₀ e s' hx => ?_⟩ hG hq
      · cases fl with
        | next =>
          obtain ⟨σ', H', hI, hQ⟩ := hs
          exact seg_end (.ok (.ret .none)) ⟨ys, .non, σ', H', hn, hI, rfl, rfl, hQ⟩
        | brk => obtain ⟨_, _, _, q⟩ := hs; exact False.elim q
        | cont => obtain ⟨_, _, _, q⟩ := hs; exact False.elim q
        | ret u =>
          obtain ⟨v, σ', H', hI, rv, ev, hQ⟩ := hs
          exact seg_end (.ok (.ret u)) ⟨ys, v, σ', H', hn, hI, rv, ev, hQ⟩
      · refine seg_wrap ?_
        rw [over_func]
        refine wpAny_mono (show wpAny (model P w) (Aw.deeper (envOfC qual scope s.heap.objs.size f cdv)) (leaving (envOfC qual scope s.heap.objs.size f cdv) e) (fun _ s'' => CX P w outer H s E0 e s'' ∧ ∀ p ∈ [(s1.heap.objs.size, go)], s''.heap.get? p.1 = some p.2) (fun _ _ => False) s' from hx) (fun _ s'' q => ?_) fun _ s'' q => q.elim
        exact seg_end (.error e) q
  exact main _ _ _ _ rfl rfl rfl fun h => Heap.get?_push_size _ rfl
end Ur
/-! GW: zip of a range and a generator: what its next does. -/
namespace Ur
open PySem PySem.Spec PyProof.Rows L2 GenW

section
variable {P : Program} {w : World} {A : Around} {E : Value → Shared → Prop} {s : Shared}
/-- the generator's next item, or its end -/
theorem nextOf_gen {a : Addr} {g n : Nat} {gs : GenState} {G : Nat → Shared → Shared → Prop} {Y : Protocol} {Q : Value → Shared → Prop} (hh : A.handled = none)
    (hl : s.heap.NoLimit) (hroom : A.depth < recursionLimit) (hg : s.heap.IsGen a g) (hgs : s.gens[g]? = some gs)
    (hgo : gs.Goes (model P w) A.in1 (fun n s₀ r s1 => ((r = .ok (.ret .none) ∨ r = .ok .next) ∧ G n s₀ s1) ∨ ∃ e, r = .error e ∧ (fun (_ : Value) (_ : Shared) => False) e s1) Y n (.send .none) (s.setGen g .running))
    (hY : ∀ v s1 gs', gs'.bare = true → Y (n - 1) (s.setGen g .running) v s1 (fun r' s2 => match n with
        | 0 => False
        | m + 1 => gs'.Goes (model P w) A.in1 (fun n s₀ r s1 => ((r = .ok (.ret .none) ∨ r = .ok .next) ∧ G n s₀ s1) ∨ ∃ e, r = .error e ∧ (fun (_ : Value) (_ : Shared) => False) e s1) Y m r' s2) → Q v (s1.setGen g gs'))
    (hP : ∀ s1, G n (s.setGen g .running) s1 → ∀ (h' : Heap) (e : Addr), (∀ b o, s1.heap.get? b = some o → h'.get? b = some o) → (∃ o, h'.get? e = some o ∧ o.cls = .type "StopIteration") → E (.ref e) { s1.setGen g .finished with heap := h' }) :
    wpAny (model P w) A (Builtin.SmallTypes.nextOf (.ref a)) Q E s := by
  unfold Builtin.SmallTypes.nextOf
  refine wpAny_bind (wpAny_callSpecial?_slot (name := Str.ofString "__next__") hg.typeIs slot_gen_next (wpAny_call_entry slot_gen_next hg.typeIs entry_gen_next ?_ (args_gen_next _)))
  show wpAny _ A.in1 (Builtin.Generator.genWake (.ref a) (.send .none)) _ _ s
  unfold Builtin.Generator.genWake
  refine wpAny_bind (wpAny_holding (wpAny_genNumber hg (wpAny_bind (wpAny_genState hgs ?_))))
  cases gs with
  | running => exact hgo.elim
  | finished => exact hgo.elim
  | _ =>
    refine wpAny_bind (wpAny_roomToWake hl hroom ?_)
    show wpAny _ A.in1 (.resume g (.send .none) [] _) _ _ s
    refine wpAny_resumeQ hgs hgo (fun x s1 hx => ?_) (fun v s1 gs' hb hv => ?_)
    · rcases hx with ⟨hr, hp⟩ | ⟨e, _, he⟩
      · have hres : End.result (.ret x) = .returned .none := by
          rcases hr with hr | hr <;> rw [hr] <;> rfl
        first | rw [hres] | simp only [hres]
        show wpAny _ A.in1 (newExc (.type "StopIteration") [] >>= _) _ _ _
        refine wpAny_bind ?_
        simp only [newExc, newTuple]
        refine wpAny_bind (wpAny_newObj_type ?_ (by size_fits))
        refine wpAny_bind (m := firstArgMember _ _) (wpAny_of_eq (a := Value.none) (by first | rfl | (simp only [firstArgMember]; rfl)) ?_)
        refine wpAny_newObj_type ?_ (by size_fits)
        simp only [raiseNew]
        refine wpAny_bind (wpAny_bind (wpAny_handled ?_))
        first | rw [show A.in1.handled = none from hh] | rw [hh]
        refine wpAny_throw ?_
        exact hP s1 hp _ _ (fun b o hb => Heap.get?_push_of_some _ (Heap.get?_push_of_some _ hb)) ⟨_, Heap.get?_push_size _ rfl, rfl⟩
      · exact False.elim he
    · exact wpAny_pure ⟨v, rfl, wpAny_pure (hY v s1 gs' hb hv)⟩
end
structure ZipD (z TI TO i1 : Addr) : Prop where
  a : TI ≠ z
  b : TO ≠ z
  c : i1 ≠ z
  d : TI ≠ TO
  e : TI ≠ i1
  f : TO ≠ i1
section
variable {P : Program} {w : World} {A : Around} {E : Value → Shared → Prop} {s : Shared}
/-- both have an item, or the generator has none -/
theorem zipG_next {z TI TO i1 a : Addr} {x left : Int} {x0 y0 : Value} {Q : Option Value → Shared → Prop} (d : ZipD z TI TO i1) (hz : IsZip s.heap z TI TO .none) (hTI : IsPair s.heap TI (.ref i1) (.ref a)) (hTO : IsPair s.heap TO x0 y0) (h1 : IsRangeIter s.heap i1 x left 1) (hl : 0 < left)
    (hn : ∀ h tk, IsZip h z TI TO .ellipsis → IsPair h TI (.ref i1) (.ref a) → IsPair h TO (.int x tk) y0 → IsRangeIter h i1 (x + 1) (left - 1) 1 → (∀ c o, c ≠ z → c ≠ TO → c ≠ i1 → s.heap.get? c = some o → h.get? c = some o) →
      wpAny (model P w) A.in1 (Builtin.SmallTypes.nextOf (.ref a)) (fun y s2 => IsZip s2.heap z TI TO .ellipsis ∧ IsPair s2.heap TO (.int x tk) y0 ∧ ∀ h3, IsZip h3 z TI TO (rawInt s2.heap.objs.size) → IsPair h3 TO (.int x tk) y → IsPair h3 s2.heap.objs.size (.int x tk) y →
          (∀ c o, c ≠ z → c ≠ TO → s2.heap.get? c = some o → h3.get? c = some o) → Q (some (.ref s2.heap.objs.size)) { s2 with heap := h3 })
        (fun e s2 => ∃ ea, e = .ref ea ∧ IsZip s2.heap z TI TO .ellipsis ∧ (∃ o, s2.heap.get? ea = some o ∧ o.cls = .type "StopIteration") ∧ ∀ h3, (∀ c o, c ≠ z → s2.heap.get? c = some o → h3.get? c = some o) → (∃ v, IsZip h3 z TI TO v) → Q none { s2 with heap := h3 }) { s with heap := h, toks := s.toks + 1 }) :
    wpAny (model P w) A (pyNext (.ref z)) Q E s := by
  have hT : s.TypeIs (.ref z) "zip" := ⟨_, hz, rfl⟩
  unfold pyNext
  refine wpAny_bind (wpAny_attempt (wpAny_callSpecial?_slot (name := Str.ofString "__next__") hT F.slot_zip_next (wpAny_call_entry F.slot_zip_next hT F.entry_zip_next ?_ (F.args_zip_next_1 _))))
  show wpAny _ _ (field (.ref z) 2 >>= _) _ _ _
  refine wpAny_bind (wpAny_field hz rfl (x := .bool false) rfl ?_)
  show wpAny _ _ (field (.ref z) 3 >>= _) _ _ _
  refine wpAny_bind (wpAny_field hz rfl (x := .ref TI) rfl ?_)
  refine wpAny_bind (wpAny_seqItems hTI rfl ?_)
  show wpAny _ _ (Builtin.SmallTypes.ownedTupleIsFree (.ref z) >>= _) _ _ _
  refine wpAny_bind ?_
  unfold Builtin.SmallTypes.ownedTupleIsFree
  refine wpAny_bind (wpAny_field hz rfl (x := .none) rfl (wpAny_pure ?_))
  simp only [if_true]
  refine wpAny_bind (wpAny_rule ?_)
  refine wpAny_bind (wpAny_field hz rfl (x := .ref TO) rfl ?_)
  refine wpAny_bind (wpAny_setField_rec hz (by simp) fun ha hza hsa => ?_)
  replace hza : IsZip ha z TI TO .ellipsis := hza
  refine wpAny_bind ?_
  simp only [List.zipIdx_cons, List.zipIdx_nil, List.forIn_cons, List.forIn_nil]
  refine wpAny_bind (wpAny_bind (wpAny_onRaise ?_))
  show wpAny _ _ (Builtin.SmallTypes.nextOf (.ref i1) >>= _) _ _ _
  unfold Builtin.SmallTypes.nextOf
  refine wpAny_bind (wpAny_bind (CpRep.range_item (s := { s with heap := ha }) (hsa.extBut _ _ d.c h1) hl fun hb h1b hsb => wpAny_pure (wpAny_pure ?_)))
  have hTOb : IsPair hb TO x0 y0 := hsb.extBut _ _ d.f (hsa.extBut _ _ d.b hTO)
  refine wpAny_bind (wpAny_seqItems hTOb rfl ?_)
  refine wpAny_bind (wpAny_updateSeq_pair hTOb fun hc hTOc hsc => ?_)
  replace hTOc : IsPair hc TO (.int x s.toks) y0 := hTOc
  refine wpAny_bind (wpAny_letGo (wpAny_pure ?_))
  refine wpAny_bind (wpAny_bind (wpAny_onRaise ?_))
  have kc : ∀ c o, c ≠ z → c ≠ TO → c ≠ i1 → s.heap.get? c = some o → hc.get? c = some o := fun c o c1 c2 c3 e => hsc.extBut _ _ c2 (hsb.extBut _ _ c3 (hsa.extBut _ _ c1 e))
  show wpAny _ _ (Builtin.SmallTypes.nextOf (.ref a) >>= _) _ _ _
  refine wpAny_bind (wpAny_mono (hn hc s.toks (hsc.extBut _ _ d.b.symm (hsb.extBut _ _ d.c.symm hza)) (kc _ _ d.a d.d d.e hTI) hTOc (hsc.extBut _ _ d.f.symm h1b) kc) (fun y s2 ⟨hz2, hTO2, q⟩ => wpAny_pure ?_) fun e s2 ⟨ea, ee, hz2, ⟨oe, hoe, hce⟩, q⟩ => ?_)
  · refine wpAny_bind (wpAny_seqItems hTO2 rfl ?_)
    refine wpAny_bind (wpAny_updateSeq_pair hTO2 fun hd hTOd hsd => ?_)
    replace hTOd : IsPair hd TO (.int x s.toks) y := hTOd
    refine wpAny_bind (wpAny_letGo (wpAny_pure (wpAny_pure ?_)))
    refine wpAny_bind (wpAny_seqItems hTOd rfl ?_)
    refine wpAny_bind (wpAny_newTuple ?_)
    have szd : hd.objs.size = s2.heap.objs.size := by rw [hsd.1]
    have hzd : IsZip hd z TI TO .ellipsis := hsd.extBut _ _ d.b.symm hz2
    have zlt : z < hd.objs.size := Heap.lt_size hzd
    show wpAny _ _ (Builtin.SmallTypes.ownedTupleHandOut (.ref z) (.ref hd.objs.size) >>= _) _ _ _
    refine wpAny_bind ?_
    unfold Builtin.SmallTypes.ownedTupleHandOut
    have hze : IsZip (hd.push { cls := .type "tuple", data := .seq #[.int x s.toks, y] }) z TI TO .ellipsis := Heap.get?_push_of_some _ hzd
    refine wpAny_bind (wpAny_setField_rec hze (by simp) fun hf hzf hsf => ?_)
    replace hzf : IsZip hf z TI TO (rawInt hd.objs.size) := hzf
    refine wpAny_setField_rec hzf (by simp) fun hg hzg hsg => ?_
    replace hzg : IsZip hg z TI TO (rawInt hd.objs.size) := hzg
    have up : ∀ c o, c ≠ z → hd.get? c = some o → hg.get? c = some o := fun c o c1 e => hsg.extBut _ _ c1 (hsf.extBut _ _ c1 (Heap.get?_push_of_some _ e))
    have hTg : IsPair hg hd.objs.size (.int x s.toks) y := hsg.extBut _ _ (Nat.ne_of_gt zlt) (hsf.extBut _ _ (Nat.ne_of_gt zlt) (Heap.get?_push_size _ rfl))
    rw [szd] at hzg hTg
    refine wpAny_pure ⟨_, rfl, wpAny_pure ?_⟩
    show Q (some (.ref hd.objs.size)) _
    rw [szd]
    exact q hg hzg (up _ _ d.b hTOd) hTg fun c o c1 c2 e => up c o c1 (hsd.extBut _ _ c2 e)
  · subst ee
    have ez : ea ≠ z := fun k => by subst k; rw [hz2] at hoe; cases hoe; simp at hce
    refine wpAny_setField_rec hz2 (by simp) fun hd hzd hsd => ?_
    refine wpAny_bind (wpAny_isInstance (T := "StopIteration") (b := true) ⟨oe, hsd.extBut _ _ ez hoe, hce⟩ isSubtype_stop ?_)
    exact wpAny_pure (q hd (fun c o c1 e => hsd.extBut _ _ c1 e) ⟨_, hzd⟩)
/-- the range has no item -/
theorem zipG_end {z TI TO i1 a : Addr} {x left : Int} {x0 y0 : Value} {Q : Option Value → Shared → Prop} (hh : A.handled = none) (d : ZipD z TI TO i1) (hz : IsZip s.heap z TI TO .none) (hTI : IsPair s.heap TI (.ref i1) (.ref a)) (hTO : IsPair s.heap TO x0 y0) (h1 : IsRangeIter s.heap i1 x left 1) (hl : left ≤ 0)
    (hQ : ∀ h3, (∀ c o, c ≠ z → c ≠ i1 → s.heap.get? c = some o → h3.get? c = some o) → Q none { s with heap := h3 }) : wpAny (model P w) A (pyNext (.ref z)) Q E s := by
  have hT : s.TypeIs (.ref z) "zip" := ⟨_, hz, rfl⟩
  unfold pyNext
  refine wpAny_bind (wpAny_attempt (wpAny_callSpecial?_slot (name := Str.ofString "__next__") hT F.slot_zip_next (wpAny_call_entry F.slot_zip_next hT F.entry_zip_next ?_ (F.args_zip_next_1 _))))
  show wpAny _ _ (field (.ref z) 2 >>= _) _ _ _
  refine wpAny_bind (wpAny_field hz rfl (x := .bool false) rfl ?_)
  show wpAny _ _ (field (.ref z) 3 >>= _) _ _ _
  refine wpAny_bind (wpAny_field hz rfl (x := .ref TI) rfl ?_)
  refine wpAny_bind (wpAny_seqItems hTI rfl ?_)
  show wpAny _ _ (Builtin.SmallTypes.ownedTupleIsFree (.ref z) >>= _) _ _ _
  refine wpAny_bind ?_
  unfold Builtin.SmallTypes.ownedTupleIsFree
  refine wpAny_bind (wpAny_field hz rfl (x := .none) rfl (wpAny_pure ?_))
  simp only [if_true]
  refine wpAny_bind (wpAny_rule ?_)
  refine wpAny_bind (wpAny_field hz rfl (x := .ref TO) rfl ?_)
  refine wpAny_bind (wpAny_setField_rec hz (by simp) fun ha hza hsa => ?_)
  replace hza : IsZip ha z TI TO .ellipsis := hza
  refine wpAny_bind ?_
  simp only [List.zipIdx_cons, List.zipIdx_nil, List.forIn_cons, List.forIn_nil]
  refine wpAny_bind (wpAny_bind (wpAny_onRaise ?_))
  show wpAny _ _ (Builtin.SmallTypes.nextOf (.ref i1) >>= _) _ _ _
  unfold Builtin.SmallTypes.nextOf
  refine wpAny_bind (wpAny_bind (CpRep.range_end (s := { s with heap := ha }) hh (hsa.extBut _ _ d.c h1) hl fun e hb ⟨ea, oe, vs, ee, hoe, hce, _⟩ hsb => ?_))
  subst ee
  have hzb : IsZip hb z TI TO .ellipsis := hsb _ _ d.c.symm hza
  have ez : ea ≠ z := fun k => by subst k; rw [hzb] at hoe; cases hoe; simp at hce
  refine wpAny_setField_rec hzb (by simp) fun hd hzd hsd => ?_
  refine wpAny_bind (wpAny_isInstance (T := "StopIteration") (b := true) ⟨oe, hsd.extBut _ _ ez hoe, hce⟩ isSubtype_stop ?_)
  exact wpAny_pure (hQ hd fun c o c1 c2 k => hsd.extBut _ _ c1 (hsb _ _ c2 (hsa.extBut _ _ c1 k)))
end
/-! ### zip(range, generator) -/
abbrev zgH1 (h : Heap) (n : Int) : Heap := h.push { cls := .type "range_iterator", data := .fields #[rawInt 0, rawInt (Builtin.Range.rangeSize 0 n 1), rawInt 1] }
abbrev zgH2 (h : Heap) (n : Int) (a : Addr) : Heap := (zgH1 h n).push { cls := .type "tuple", data := .seq #[.ref h.objs.size, .ref a] }
abbrev zgH3 (h : Heap) (n : Int) (a : Addr) : Heap := (zgH2 h n a).push { cls := .type "tuple", data := .seq #[.none, .none] }
abbrev zgH4 (h : Heap) (n : Int) (a : Addr) : Heap := (zgH3 h n a).push { cls := .type "zip", data := .fields #[.none, .bool false, .bool false, .ref (zgH1 h n).objs.size, .ref (zgH2 h n a).objs.size] }
theorem meets_zip_rg (r a : Addr) (n : Int) (t u v : Tok) (g : Nat) (hs : Builtin.Range.small 0 n 1 = true) :
    Meets (Builtin.«zip.__new__» ⟨[.type "zip", .ref r, .ref a], []⟩) (fun _ R s => IsRange s.heap r 0 n 1 t u v ∧ s.heap.IsGen a g ∧ R (.ok (.ret (.ref (zgH3 s.heap n a).objs.size))) { s with heap := zgH4 s.heap n a }) :=
  .of_wp fun prog w A R s h => by
    obtain ⟨hp, gg, d, tk, os⟩ := s
    obtain ⟨hr, hg, h⟩ := h
    have hsub := sub_zip
    have hr1 : IsRange (Shared.heap ⟨hp, gg, d, tk, os⟩) r 0 n 1 t u v := hr
    have hg1 : Heap.IsGen (Shared.heap ⟨zgH1 hp n, gg, d, tk, os⟩) a g := Heap.IsGen.keeps hg fun b o e => Heap.get?_push_of_some _ e
    wp_walk using wpAny_pyIter_range hr1 hs, wpAny_pyIter_gen hg1
    exact ⟨_, rfl, h⟩
section
variable {P : Program} {w : World} {A : Around} {E : Value → Shared → Prop} {s : Shared}
theorem call_zip_rg {r a : Addr} {n : Int} {t u v : Tok} {g : Nat} {Q : Value → Shared → Prop} (hs : Builtin.Range.small 0 n 1 = true) (hr : IsRange s.heap r 0 n 1 t u v) (hg : s.heap.IsGen a g)
    (h : ∀ h', IsZip h' (s.heap.objs.size + 3) (s.heap.objs.size + 1) (s.heap.objs.size + 2) .none → IsPair h' (s.heap.objs.size + 1) (.ref s.heap.objs.size) (.ref a) → IsPair h' (s.heap.objs.size + 2) .none .none → IsRangeIter h' s.heap.objs.size 0 (Builtin.Range.rangeSize 0 n 1) 1 →
      (∀ c o, s.heap.get? c = some o → h'.get? c = some o) → h'.objs.size = s.heap.objs.size + 4 → Q (.ref (s.heap.objs.size + 3)) { s with heap := h' }) :
    wpAny (model P w) A (call (.type "zip") [.ref r, .ref a]) Q E s := by
  refine callType_new F.called_zip (by decide) (F.typeCall_zip_2 _ _) (F.newCall_zip_2 _ _) (fun obj => F.args_object_init_3 obj _ _) F.entry_zip_new (meets_zip_rg r a n t u v g hs) ⟨hr, hg, ?_⟩
  have z1 : (zgH1 s.heap n).objs.size = s.heap.objs.size + 1 := Heap.size_push ..
  have z2 : (zgH2 s.heap n a).objs.size = s.heap.objs.size + 2 := by rw [Heap.size_push, z1]
  have z3 : (zgH3 s.heap n a).objs.size = s.heap.objs.size + 3 := by rw [Heap.size_push, z2]
  have z4 : (zgH4 s.heap n a).objs.size = s.heap.objs.size + 4 := by rw [Heap.size_push, z3]
  have g4 : (zgH4 s.heap n a).get? (zgH3 s.heap n a).objs.size = some _ := Heap.get?_push_size _ rfl
  have g3 : (zgH4 s.heap n a).get? (zgH2 s.heap n a).objs.size = some _ := Heap.get?_push_of_some _ (Heap.get?_push_size _ rfl)
  have g2 : (zgH4 s.heap n a).get? (zgH1 s.heap n).objs.size = some _ := Heap.get?_push_of_some _ (Heap.get?_push_of_some _ (Heap.get?_push_size _ rfl))
  have g1 : (zgH4 s.heap n a).get? s.heap.objs.size = some _ := Heap.get?_push_of_some _ (Heap.get?_push_of_some _ (Heap.get?_push_of_some _ (Heap.get?_push_size _ rfl)))
  have hk : ∀ c o, s.heap.get? c = some o → (zgH4 s.heap n a).get? c = some o := fun c o e => Heap.get?_push_of_some _ (Heap.get?_push_of_some _ (Heap.get?_push_of_some _ (Heap.get?_push_of_some _ e)))
  show _ ∧ _
  rw [z2] at g3
  rw [z1] at g2
  rw [z3] at g4 ⊢
  have hh := h (zgH4 s.heap n a) (by show (zgH4 s.heap n a).get? _ = _; rw [g4, z1, z2]) g2 g3 g1 hk z4
  exact ⟨⟨_, g4, rfl⟩, hh⟩
end
end Ur
/-! GX: [row for k, row in zip(range(L), g(..))]. -/
namespace Ur
open PySem PySem.Spec PyProof.Rows L2 GenW

/-- the reader has gone on -/
theorem adn {a b : Nat} (h : a < b ∨ b < a) : (show Addr from a) ≠ (show Addr from b) := fun e => by
  have e : a = b := e
  omega
theorem lo6 {x C D : Nat} (hD : D = x + 4) (hC : C = D + 1) : ∀ b, b ∈ [x + 3, x + 1, x + 2, x, C, D] → x ≤ b := by
  intro b hb
  simp only [List.mem_cons, List.not_mem_nil, or_false] at hb
  omega
theorem zd6 (x : Nat) : ZipD (x + 3) (x + 1) (x + 2) x := ⟨adn (by omega), adn (by omega), adn (by omega), adn (by omega), adn (by omega), adn (by omega)⟩
theorem leave_un {fr ex F : List Addr} {P : Program} {w : World} {H H' : Hp} {h h1 h2 : Heap} (un : Un fr ex H H' h h1) (hx : ∀ b ∈ ex, b ∈ F) (ok : HOk P w H' h1) (hF : ∀ b, b ∈ F → H' b = none) (k : ∀ b o, b ∉ F → h1.get? b = some o → h2.get? b = some o) : Un fr F H H' h h2 ∧ HOk P w H' h2 := by
  have nt : ∀ b u, H' b = some u → b ∉ F := fun b u q hb => by rw [hF b hb] at q; cases q
  refine ⟨(un.mono (fs' := fr) (ex' := F) (fun _ z => z) hx).trans ⟨fun b o e _ _ n => k b o n e, fun b o e _ _ n => ⟨o.slots, k b o n e⟩, fun _ _ _ n _ => n, fun b o e n => ⟨o, k b o n e⟩, fun _ _ e => e, fun _ _ _ e => e, fun b ps e => ⟨#[], by rw [e]; simp⟩⟩, fun b u q => ?_⟩
  refine (ok b u q).stay (fun c v z y => k c v ?_ y) (fun _ y => y) fun _ _ y => y
  rcases z with y | y
  · rw [y]; exact nt b u q
  · exact nt c _ y
/-- an expression whose value is such a generator -/
structure PZ (X : Cx) (k L : Nat) (e : Expr) (tg : TGen) : Prop where
  run : ∀ (pins : List (Addr × Obj)) (s : Shared) (σ : L2.St) (H : Hp) (cont : List V → Hp → Prop), Inv X pins σ H s → tg σ H cont → wpAny (model X.prog X.w) X.A (eval e X.env)
    (fun u s' => ∃ H1 sc, Inv X pins σ H1 sc ∧ ZMade X.prog X.w k X.stack H1 sc L cont u s') X.xe s
def tCallZ (sp : SpZ) (t : TA) : TGen := fun σ H cont => t σ H fun vs H1 => sp vs H1 cont
section
variable {X : Cx} {k L : Nat} {f : Addr} {fd : FuncData} {ps : List Str} {sp : SpZ} {x : Str} {p pos : Pos}
theorem pz_call {e : Expr} {es : List Expr} {t : TA} (F : ZFn X.prog X.w X.K X.mg X.base k L f fd ps sp) (hr : Room k X.A) (hg : Gl X x) (hm : X.mg x = some (.ref f)) (hk : PySem.W.keepIn X.K (.ref f) = true) (hb : Binds X.K fd ps []) (ha : PA X (e :: es) t)
    (hdb : (x == ("__debug__" : Str)) = false := by decide) (he : starEach (e :: es) X.env = (false, eval e X.env) :: starEach es X.env := by rfl) (hpl : (backTo pos (starEach es X.env)).any (·.1) = false := by rfl) :
    PZ X k L (.Call (.Name x p) (e :: es) [] pos) (tCallZ sp t) := by
  refine ⟨fun pins s σ H cont I h => ?_⟩
  refine wpAny_Call_Name_kw (ld_glob I hg hm ?_ hdb)
  refine PySem.W.callWith_K (h₀ := X.base) I.ok.mod.kin hk (thn (ha.run pos pins s σ H _ I h) fun us s1 ⟨vs, H1, I1, r, q⟩ => ⟨I1.kIn, ?_⟩) he hpl
  have hl2 : us.length = ps.length := by rw [← r.length]; exact F.len _ _ _ q
  refine wpAny_call (codeAny_mono (F.run X.A X.stack s1 H1 ⟨us, []⟩ us vs cont hr I1.env0 (by have := hb s1 us I1.kIn (by rw [List.append_nil]; exact hl2); rwa [List.append_nil] at this) r q) fun r' s' hq => ?_)
  cases r' with
  | error e => exact False.elim hq
  | ok fl =>
    cases fl with
    | ret u => exact ⟨H1, s1, I1, hq⟩
    | next => exact False.elim hq
    | brk => exact False.elim hq
    | cont => exact False.elim hq
end
/-- the reader alone has gone on, before it wakes the generator -/
structure Hold (F : List Addr) (D : Addr) (s s' : Shared) : Prop where
  os : s'.os = s.os
  gens : s'.gens = s.gens
  rest : ∀ b o, b ∉ F → s.heap.get? b = some o → s'.heap.get? b = some o
  mine : ∀ b, b ∈ F → ∃ o, s'.heap.get? b = some o ∧ ∀ u, o.data ≠ .cell u
  lst : ∀ o, s.heap.get? D = some o → s'.heap.get? D = some o
/-- between two turns: n items are still wanted -/
structure ZJ (P : Program) (w : World) (Aw : Around) (outer : List Env) (H2 : Hp) (sc : Shared) (F : List Addr) (z TI TO i1 a C D : Addr) (g L : Nat) (Q : List V → Hp → Prop) (n : Nat) (s : Shared) : Prop where
  le : n ≤ L
  hz : IsZip s.heap z TI TO .none
  hTI : IsPair s.heap TI (.ref i1) (.ref a)
  hTO : ∃ x y, IsPair s.heap TO x y
  hi : IsRangeIter s.heap i1 ((L : Int) - (n : Int)) (n : Int) 1
  ns : ∃ m, s.heap.Ns C m
  lst : ∃ (acc : Array Value) (c : Nat), s.heap.get? D = some (lstObj acc c) ∧ acc.size + n = L
  os : s.os = sc.os
  bare : AllBare s.gens
  lim : s.heap.NoLimit
  gen : s.heap.IsGen a g
  more : 0 < n → ∃ gs, s.gens[g]? = some gs ∧ ∀ s', Hold F D s s' → gs.Goes (model P w) Aw (ZFin P w outer H2 sc F D a g L Q) (ZItem P w outer H2 sc F D a g L Q) n (.send .none) (s'.setGen g .running)
  full : n = 0 → ∃ H' ys acc c, Un (frs outer) F H2 H' sc.heap s.heap ∧ HOk P w H' s.heap ∧ (∀ b, b ∈ F → H' b = none) ∧ s.heap.get? D = some (lstObj acc c) ∧ Vals ys acc.toList ∧ ys.length ≤ L ∧ Q ys H'
def tLcZ (L : Nat) (ta : TA) (tg : TGen) : TE := fun σ H Q => ta σ H fun vs H1 => vs = [.int (L : Int)] ∧ tg σ H1 fun out H2 => ∀ p, H2 p = none → Q (.ref p) (upd H2 p (.lst out))
section
variable {X : Cx} {k L : Nat} {tg : TGen} {ta : TA} {e a : Expr} {ka row : Str} {p1 p2 p3 p4 p5 p6 p7 p8 pos : Pos} {kk : Nat} {scope : Scope} {own : List (Str × Nat)}
set_option pp.deepTerms false in
set_option pp.maxSteps 1500 in
set_option maxHeartbeats 40000000 in
theorem pe_lcZ (hc : X.calm = true) (hr : Room (k + 3) X.A) (hL : 0 < L) (hL1 : L ≤ 1000) (hsm : Builtin.Range.small 0 (L : Int) 1 = true) (hrs : Builtin.Range.rangeSize 0 (L : Int) 1 = L)
    (hz : PZ X k L e tg) (ha : PA X [a] ta) (ok : BlkOk X.N X.env.scope scope own) (hka : scope.names.lookup ka = some .local) (hrow : scope.names.lookup row = some .local) (hne : ka ≠ row)
    (hgz : Gl X "zip") (hmz : X.mg "zip" = none) (hgr : Gl X "range") (hmr : X.mg "range" = none)
    (hs : ∀ x, foldedSetIterable (.Call (.Name "zip" p5) [.Call (.Name "range" p6) [a] [] p7, e] [] p8) X.env x = pure x := by intro _; rfl)
    (hs1 : starEach [.Call (.Name "range" p6) [a] [] p7, e] X.env = (false, eval (.Call (.Name "range" p6) [a] [] p7) X.env) :: starEach [e] X.env := by rfl) (hs2 : starEach [e] X.env = [(false, eval e X.env)] := by rfl) (hs3 : starEach [a] X.env = [(false, eval a X.env)] := by rfl)
    (hdr : (row == ("__debug__" : Str)) = false := by decide)
    (hae : ∀ env, (assignEach [.Name ka p2, .Name row p3] env).map (·.2) = [assign (.Name ka p2) env, assign (.Name row p3) env] := by intro _; rfl)
    (hal : ∀ env, (assignEach [.Name ka p2, .Name row p3] env).length = 2 := by intro _; rfl) (haf : ∀ env, (assignEach [.Name ka p2, .Name row p3] env).findIdx? (·.1) = none := by intro _; rfl) :
    PE X (.ListComp (.Name row p1) [⟨.Tuple [.Name ka p2, .Name row p3] kk p4, .Call (.Name "zip" p5) [.Call (.Name "range" p6) [a] [] p7, e] [] p8, [], 0⟩] scope pos) (tLcZ L ta tg) := by
  refine ⟨fun pins s σ H Q I h => ?_⟩
  rw [eval_ListComp]
  have hfree : ∀ y ∈ scope.names, y.2 = .free → ∃ c, X.env.cells.lookup y.1 = some c := fun y hy e => by
    rcases ok.free y hy e with k | k
    · exact I.ok.has _ (.inl k)
    · exact I.ok.has _ (.inr k)
  refine wpAny_comprehension_free (use := none) rfl hs (closure_ok hfree) ok.kind (fun y hy e => by rw [ok.uniq y hy, e]) ?_
  -- zip(range(L), g)
  show wpAny _ _ (eval (.Call (.Name "zip" p5) [.Call (.Name "range" p6) [a] [] p7, e] [] p8) X.env) _ _ s
  refine Call_ (ld_blt I hgz hmz boot_zip (PyProof.Rows.callWith_type1 ?_ hs1 (by rw [hs2]; rfl)))
  rw [hs1, hs2]
  show wpAny _ _ (spliced [(false, eval (.Call (.Name "range" p6) [a] [] p7) X.env), (false, eval e X.env)]) _ _ s
  refine Calls.spliced_cons ?_
  refine Call_ (ld_blt I hgr hmr boot_range (PyProof.Rows.callWith_type1 (thn (ha.run p7 pins s σ H _ I h) fun us s1 ⟨vs, H1, I1, r1, q1⟩ => ?_) hs3 rfl))
  obtain ⟨rfl, q1⟩ := q1
  cases r1 with
  | cons r rr =>
  cases rr
  obtain ⟨t, rfl⟩ := r
  refine call_range_1 ?_
  generalize hs2e : ({ s1 with heap := s1.heap.push { cls := .type "range", data := .fields #[.int 0 s1.toks, .int (L : Int) t, .int 1 (s1.toks + 1)] }, toks := s1.toks + 1 + 1 } : Shared) = s2
  have hr2 : IsRange s2.heap s1.heap.objs.size 0 (L : Int) 1 s1.toks t (s1.toks + 1) := by rw [← hs2e]; exact Heap.get?_push_size _ rfl
  have I2 : Inv X pins σ H1 s2 := by rw [← hs2e]; exact I1.kept fun b o e => Heap.get?_push_of_some _ e
  have fr := I1.fpOk (H' := H1) (Nat.le_refl _) (I1.hok.fresh (Nat.le_refl _))
  generalize hrr : s1.heap.objs.size = rr at hr2 fr
  generalize hro : ({ cls := .type "range", dict := none, data := .fields #[.int 0 s1.toks, .int (L : Int) t, .int 1 (s1.toks + 1)], slots := #[] } : Obj) = ro at hr2
  have I2p : Inv X (pins ++ [(rr, ro)]) σ H1 s2 := I2.pins_of fun p hp => by
    rcases List.mem_append.mp hp with z | z
    · exact I2.pin p (List.mem_append_right _ z)
    · rw [List.mem_singleton.mp z]
      exact ⟨by show s2.heap.get? rr = some ro; rw [← hro]; exact hr2, fr.1, fr.2.1, fr.2.2.1, fun v q => by rw [← hro] at q; cases q⟩
  refine Calls.spliced_cons (thn (hz.run _ s2 σ H1 _ I2p q1) fun u s3 ⟨H2, sc, I3, g3⟩ => Calls.spliced_nil ?_)
  obtain ⟨ga, g, c, rfl, ga1, ga2, gg, ggs, gos, gb, gl, gk, wake⟩ := g3
  have hr3 : IsRange s3.heap rr 0 (L : Int) 1 s1.toks t (s1.toks + 1) := by
    have z := (I3.pin (rr, ro) (List.mem_append_right _ (List.mem_append_right _ (List.mem_singleton.mpr rfl)))).1
    show s3.heap.get? rr = some _
    rw [hro]
    exact gk _ _ z
  have Ic : Inv X pins σ H2 sc := I3.unpinned
  have scsz : sc.heap.objs.size ≤ s3.heap.objs.size := Nat.le_trans ga1 (Nat.le_of_lt ga2)
  refine call_zip_rg hsm hr3 gg fun h4 hz4 hTI4 hTO4 hi4 hk4 sz4 => ?_
  rw [hrs] at hi4
  refine wpAny_pyIter_zip (s := { s3 with heap := h4 }) hz4 ?_
  refine wpAny_newObj_type (newEnv_comp ?_) (by show 0 ≤ sizeLine; decide)
  show codeAny _ _ (.compStart (.ListComp (.Name row p1) [⟨.Tuple [.Name ka p2, .Name row p3] kk p4, .Call (.Name "zip" p5) [.Call (.Name "range" p6) [a] [] p7, e] [] p8, [], 0⟩] scope pos) 0 (.ref (s3.heap.objs.size + 3)) (.ref h4.objs.size) (compEnvC scope (cellsFrom ((h4.push { cls := .type "list", data := .seq ([] : List Value).toArray }).objs.size + 1) scope.names (cloFrom X.env.cells scope.names [])) (h4.push { cls := .type "list", data := .seq ([] : List Value).toArray }).objs.size X.env))
    (compPost (model X.prog X.w) X.A X.xe none _ (.ref h4.objs.size) (h4.push { cls := .type "list", data := .seq ([] : List Value).toArray }).objs.size) { s3 with heap := pushCells ((h4.push { cls := .type "list", data := .seq ([] : List Value).toArray }).push { cls := .type "dict", data := .dict #[] }) scope.names }
  generalize hh5 : h4.push { cls := .type "list", data := .seq ([] : List Value).toArray } = h5
  have k45 : ∀ b o, h4.get? b = some o → h5.get? b = some o := fun b o k => by rw [← hh5]; exact Heap.get?_push_of_some _ k
  have sz5 : h5.objs.size = h4.objs.size + 1 := by rw [← hh5, Heap.size_push]
  have hD5 : h5.get? h4.objs.size = some (lstObj #[] 0) := by rw [← hh5]; exact Heap.get?_push_size _ rfl
  generalize hh6 : pushCells (h5.push { cls := .type "dict", data := .dict #[] }) scope.names = h6
  have k56 : ∀ b o, h5.get? b = some o → h6.get? b = some o := fun b o k => by rw [← hh6]; exact pushCells_keeps _ _ _ _ (Heap.get?_push_of_some _ k)
  have nsC : h6.Ns h5.objs.size fun _ => none := by rw [← hh6]; exact Heap.Ns.keeps (Heap.Ns.new ..) fun b o k => pushCells_keeps _ _ _ _ k
  generalize hce : compEnvC scope (cellsFrom (h5.objs.size + 1) scope.names (cloFrom X.env.cells scope.names [])) h5.objs.size X.env = ce
  have fka : ce.kindOf ka = some .local := by rw [← hce]; exact lookup_relabel_local hka
  have frow : ce.kindOf row = some .local := by rw [← hce]; exact lookup_relabel_local hrow
  have fkind : ce.scope.kind = .function := by rw [← hce]; exact ok.kind
  have fC : ce.locals = h5.objs.size := by rw [← hce]; rfl
  have fplain : (ce.scope.kind == .class || (ce.scope.kind == .module && ce.locals != ce.globals)) = false := by rw [fkind]; rfl
  have hD6 := k56 _ _ hD5
  generalize hbb : s3.heap.objs.size = bb at hz4 hTI4 hTO4 hi4 sz4 scsz ga2 ⊢
  generalize hDe : h4.objs.size = D at sz4 sz5 hD6 ⊢
  generalize hCe : h5.objs.size = C at sz5 nsC fC ⊢
  have k36 : ∀ b o, s3.heap.get? b = some o → h6.get? b = some o := fun b o k => k56 _ _ (k45 _ _ (hk4 _ _ k))
  have hz6 : IsZip h6 (bb + 3) (bb + 1) (bb + 2) .none := k56 _ _ (k45 _ _ hz4)
  have hTI6 : IsPair h6 (bb + 1) (.ref bb) (.ref ga) := k56 _ _ (k45 _ _ hTI4)
  have hTO6 : IsPair h6 (bb + 2) .none .none := k56 _ _ (k45 _ _ hTO4)
  have hi6 : IsRangeIter h6 bb 0 L 1 := k56 _ _ (k45 _ _ hi4)
  obtain ⟨F, hF⟩ : ∃ F : List Addr, F = [bb + 3, bb + 1, bb + 2, bb, C, D] := ⟨_, rfl⟩
  have mF : ∀ b, b ∈ F ↔ b = bb + 3 ∨ b = bb + 1 ∨ b = bb + 2 ∨ b = bb ∨ b = C ∨ b = D := fun b => by rw [hF]; simp only [List.mem_cons, List.not_mem_nil, or_false]
  have loF : ∀ b, b ∈ F → bb ≤ b := fun b hb => lo6 sz4 sz5 b (hF ▸ hb)
  have dz : ZipD (bb + 3) (bb + 1) (bb + 2) bb := zd6 bb
  have hh : X.A.handled = none := hr.hd
  have hcs : cStatics < bb := by
    obtain ⟨_, hn, _⟩ := gl
    have z := hn.lt
    rw [hbb] at z
    exact z
  have fpF : ∀ b, b ∈ F → FpOk X pins H2 b := fun b hb => Ic.fpOk (Nat.le_trans scsz (loF b hb)) (Ic.hok.fresh (Nat.le_trans scsz (loF b hb)))
  have fin : ∀ s' : Shared, (∃ m, s'.heap.Ns C m) → s'.os = sc.os → AllBare s'.gens → (∃ H' ys acc c, Un (frs X.stack) F H2 H' sc.heap s'.heap ∧ HOk X.prog X.w H' s'.heap ∧ (∀ b, b ∈ F → H' b = none) ∧ s'.heap.get? D = some (lstObj acc c) ∧ Vals ys acc.toList ∧ ys.length ≤ L ∧ ∀ p, H' p = none → Q (.ref p) (upd H' p (.lst ys))) →
      compPost (model X.prog X.w) X.A X.xe none (fun v s' => ∃ x H', Inv X pins σ H' s' ∧ RelV x v ∧ Q x H') (.ref D) C (.ok .next) s' := by
    rintro s' ⟨m, hm⟩ os' bare' ⟨H', ys, acc, c, un', ok', nF, eD, rD, lD, qD⟩
    have cF : C ∈ F := (mF C).mpr (.inr (.inr (.inr (.inr (.inl rfl)))))
    have dF : D ∈ F := (mF D).mpr (.inr (.inr (.inr (.inr (.inr rfl)))))
    have I' : Inv X pins σ (upd H' D (.lst ys)) s' := Ic.drained (S := D) (ex := F) (Nat.le_trans scsz (loF D dF)) (Nat.le_trans lD (by show L ≤ sizeLine; exact Nat.le_trans hL1 (by decide))) eD rD (fun b hb => let f := fpF b hb; ⟨f.2.2.2.1, f.2.1, f.2.2.2.2.1, f.2.2.2.2.2⟩) os' bare' un' ok' (nF D dF)
    obtain ⟨_, f1, f2, f3, f4, f5⟩ := fpF C cF
    refine ⟨m, hm, fun h'' sb => ⟨.ref D, upd H' D (.lst ys), I'.turned (t' := s'.toks) (fun b o hb k => (sb.2 b hb).trans k) ?_ f1 f3 f4 f5, rfl, qD D (nF D dF)⟩⟩
    rw [upd_ne (adn (by omega))]
    exact nF C cF
  have loop : codeAny (model X.prog X.w) X.A (.compLoop (.ListComp (.Name row p1) [⟨.Tuple [.Name ka p2, .Name row p3] kk p4, .Call (.Name "zip" p5) [.Call (.Name "range" p6) [a] [] p7, e] [] p8, [], 0⟩] scope pos) 0 (.ref (bb + 3)) (.ref D) ce)
      (compPost (model X.prog X.w) X.A X.xe none (fun v s' => ∃ x H', Inv X pins σ H' s' ∧ RelV x v ∧ Q x H') (.ref D) C) { s3 with heap := h6 } := by
    refine compLoop_any (fun n s => ZJ X.prog X.w X.A.in1.in1 X.stack H2 sc F (bb + 3) (bb + 1) (bb + 2) bb ga C D g L (fun out H' => ∀ p, H' p = none → Q (.ref p) (upd H' p (.lst out))) n s) ?_ L ?_
    · intro n s J
      obtain ⟨x0, y0, hTO⟩ := J.hTO
      obtain ⟨mm, oC, es, ep, hoC, rC⟩ := J.ns
      obtain ⟨acc0, c0, hD0, hacc⟩ := J.lst
      have mz : bb + 3 ∈ F := (mF _).mpr (.inl rfl)
      have mTI : bb + 1 ∈ F := (mF _).mpr (.inr (.inl rfl))
      have mTO : bb + 2 ∈ F := (mF _).mpr (.inr (.inr (.inl rfl)))
      have mi : bb ∈ F := (mF _).mpr (.inr (.inr (.inr (.inl rfl))))
      have mC : C ∈ F := (mF C).mpr (.inr (.inr (.inr (.inr (.inl rfl)))))
      have mD : D ∈ F := (mF D).mpr (.inr (.inr (.inr (.inr (.inr rfl)))))
      have neF : ∀ {b c : Addr}, b ∉ F → c ∈ F → b ≠ c := fun hb hc e => hb (e ▸ hc)
      have loN : ∀ {b : Addr}, b < bb → b ∉ F := fun hb hf => absurd (Nat.lt_of_lt_of_le hb (loF _ hf)) (Nat.lt_irrefl _)
      have Cz : C ≠ bb + 3 := adn (by omega)
      have CTO : C ≠ bb + 2 := adn (by omega)
      have CTI : C ≠ bb + 1 := adn (by omega)
      have Ci : C ≠ bb := adn (by omega)
      have CD : C ≠ D := adn (by omega)
      have Dz : D ≠ bb + 3 := adn (by omega)
      have DTO : D ≠ bb + 2 := adn (by omega)
      have DTI : D ≠ bb + 1 := adn (by omega)
      have Di : D ≠ bb := adn (by omega)
      by_cases n0 : n = 0
      · refine zipG_end hh dz J.hz J.hTI hTO J.hi (by omega) fun h3 kh3 => ?_
        obtain ⟨H', ys, acc, c, un', ok', nF, eD, rD, lD, qD⟩ := J.full n0
        obtain ⟨un2, ok2⟩ := leave_un un' (fun _ q => q) ok' nF fun b o nb q => kh3 b o (neF nb mz) (neF nb mi) q
        exact fin { s with heap := h3 } ⟨mm, oC, es, ep, kh3 C _ Cz Ci hoC, rC⟩ J.os J.bare ⟨H', ys, acc, c, un2, ok2, nF, kh3 D _ Dz Di eD, rD, lD, qD⟩
      · obtain ⟨m, rfl⟩ : ∃ m, n = m + 1 := ⟨n - 1, by omega⟩
        refine zipG_next dz J.hz J.hTI hTO J.hi (by omega) fun h tk hz1 hTI1 hTO1 hi1 kh1 => ?_
        obtain ⟨gs, hgs, hgo⟩ := J.more (by omega)
        have hC1 : h.get? C = some oC := kh1 C _ Cz CTO Ci hoC
        have hD1 : h.get? D = some (lstObj acc0 c0) := kh1 D _ Dz DTO Di hD0
        have oCd : ∀ u, oC.data ≠ .cell u := fun u q => by rw [rC.1] at q; cases q
        have hold : Hold F D s { s with heap := h, toks := s.toks + 1 } := by
          refine ⟨rfl, rfl, fun b o nb q => kh1 b o (neF nb mz) (neF nb mTO) (neF nb mi) q, fun b hb => ?_, fun o q => kh1 D o Dz DTO Di q⟩
          rcases (mF b).mp hb with rfl | rfl | rfl | rfl | rfl | rfl
          · exact ⟨_, hz1, fun u q => by cases q⟩
          · exact ⟨_, hTI1, fun u q => by cases q⟩
          · exact ⟨_, hTO1, fun u q => by cases q⟩
          · exact ⟨_, hi1, fun u q => by cases q⟩
          · exact ⟨_, hC1, oCd⟩
          · exact ⟨_, hD1, fun u q => by cases q⟩
        have gen1 : h.IsGen ga g := by
          obtain ⟨o, nm, qn, ho, r⟩ := J.gen
          have ng := loN ga2
          exact ⟨o, nm, qn, kh1 _ _ (neF ng mz) (neF ng mTO) (neF ng mi) ho, r⟩
        have lim1 : h.NoLimit := by
          obtain ⟨mc, hns, hnn⟩ := J.lim
          have ng := loN hcs
          exact ⟨mc, hns.at' fun o q => kh1 _ o (neF ng mz) (neF ng mTO) (neF ng mi) q, hnn⟩
        have hgl : g + 1 ≤ s.gens.size := (Array.getElem?_eq_some_iff.mp hgs).1
        refine wpAny_gsz (n := g + 1) hgl (nextOf_gen (P := X.prog) (w := X.w) (A := X.A.in1) (s := { s with heap := h, toks := s.toks + 1 }) (a := ga) (g := g) (n := m + 1) (gs := gs)
          (G := fun (n : Nat) (s₀ s1 : Shared) => ∃ H' ys, ZAt X.prog X.w X.stack H2 sc F D ga g s₀ ys H' s1 ∧ ys.length ≤ L ∧ ∀ p, H' p = none → Q (.ref p) (upd H' p (.lst ys)))
          (Y := ZItem X.prog X.w X.stack H2 sc F D ga g L (fun out H' => ∀ p, H' p = none → Q (.ref p) (upd H' p (.lst out)))) hh lim1 (hr.mono (by omega) : Room k X.A).depth gen1 hgs (hgo _ hold) (fun v s1 gs' hbare hv hsz => ?_) (fun s1 ⟨H', ys, zat, hlen, hq⟩ h' ea kh' hst hsz => ?_))
        · obtain ⟨ys, x, H', hlen, rv, zat, hq, hmore⟩ := hv
          have mine : ∀ b o, b ∈ F → h.get? b = some o → s1.heap.get? b = some o := fun b o hb q => by
            obtain ⟨o', q1, q2, _⟩ := zat.mine b hb
            have q1 : h.get? b = some o' := q1
            rw [q] at q1
            cases q1
            exact q2
          have nF : ∀ b, b ∈ F → H' b = none := fun b hb => let ⟨_, _, _, q, _⟩ := zat.mine b hb; q
          have hz2 := mine _ _ mz hz1
          have hC2 := mine C _ mC hC1
          have hD2 := mine D _ mD hD1
          have hTI2 := mine _ _ mTI hTI1
          have hi2 := mine _ _ mi hi1
          refine ⟨hz2, mine _ _ mTO hTO1, fun h3 hz3 hTO3 hT3 kh3 => ?_⟩
          have Tz : s1.heap.objs.size ≠ bb + 3 := Nat.ne_of_gt (Heap.lt_size hz2)
          show wpAny (model X.prog X.w) X.A (letOwnedTupleGo (.Tuple [.Name ka p2, .Name row p3] kk p4) (.ref (bb + 3)) (.ref s1.heap.objs.size)) _ _ _
          refine wpAny_letOwnedTupleGo_zip hz3 fun h5' hz5 sb5 => ?_
          have hT5 : IsPair h5' s1.heap.objs.size (.int ((L : Int) - ((m + 1 : Nat) : Int)) tk) v := sb5.extBut _ _ Tz hT3
          refine assign_Tuple_tuple hh ⟨_, hT5, rfl, _, rfl⟩ (by rw [hal]; rfl) (haf ce) fun h6' hx6 => ?_
          rw [hae]
          have hC6 : h6'.get? C = some oC := hx6 _ _ (Nat.ne_of_lt (Heap.lt_size (sb5.extBut _ _ Cz (kh3 C _ Cz CTO hC2)))) (sb5.extBut _ _ Cz (kh3 C _ Cz CTO hC2))
          refine assignInOrder_cons (wpAny_assign_Name (wpAny_storeName_local fka (m := mm) (by rw [fC]; exact ⟨oC, es, ep, hC6, rC⟩) (fun h7 ns7 sb7 => ?_) fplain))
          refine assignInOrder_cons (wpAny_assign_Name (wpAny_storeName_local frow ns7 (fun h8 ns8 sb8 => assignInOrder_nil ?_) fplain))
          refine wpAny_tests_nil ?_
          rw [if_pos rfl]
          refine wpAny_Name (wpAny_loadName_local fkind frow ns8 (v := v) (by simp) ?_) hdr
          rw [fC] at sb7 sb8 ns8
          have k38 : ∀ b o, b ≠ bb + 3 → b ≠ C → h3.get? b = some o → h8.get? b = some o := fun b o q1 q2 q => by
            have q5 := sb5.extBut _ _ q1 q
            exact sb8.extBut _ _ q2 (sb7.extBut _ _ q2 (hx6 _ _ (Nat.ne_of_lt (Heap.lt_size q5)) q5))
          have zC : bb + 3 ≠ C := fun q => Cz q.symm
          have hz8 : IsZip h8 (bb + 3) (bb + 1) (bb + 2) .none := sb8.extBut _ _ zC (sb7.extBut _ _ zC (hx6 _ _ (Nat.ne_of_lt (Heap.lt_size hz5)) hz5))
          have hD8 : h8.get? D = some (lstObj acc0 c0) := k38 D _ Dz (fun q => CD q.symm) (kh3 D _ Dz DTO hD2)
          refine append_at hD8 (fun h9 sb9 hD9 => ⟨m, by omega, ?_⟩) (by show acc0.size ≤ sizeLine; exact Nat.le_trans (by omega) (Nat.le_trans hL1 (by decide)))
          have k19 : ∀ b o, b ≠ bb + 3 → b ≠ bb + 2 → b ≠ C → b ≠ D → s1.heap.get? b = some o → h9.get? b = some o := fun b o q1 q2 q3 q4 q => sb9.extBut _ _ q4 (k38 b o q1 q3 (kh3 b o q1 q2 q))
          have hns9 : ∃ m, h9.Ns C m := by
            obtain ⟨o8, e8, p8, g8, r8⟩ := ns8
            exact ⟨_, o8, e8, p8, sb9.extBut _ _ CD g8, r8⟩
          have gsz : g < s1.gens.size := by
            have q : (s1.setGen g gs').gens.size = s1.gens.size := setGen_size _ _ _
            have hsz : g + 1 ≤ (s1.setGen g gs').gens.size := hsz
            omega
          have bare9 : AllBare (s1.setGen g gs').gens := allBare_setGen zat.bare hbare
          have keepF : ∀ b o, b ∉ F → s1.heap.get? b = some o → h9.get? b = some o := fun b o nb q => k19 b o (neF nb mz) (neF nb mTO) (neF nb mC) (neF nb mD) q
          refine ⟨by have := J.le; omega, sb9.extBut _ _ (fun q => Dz q.symm) hz8, k19 _ _ dz.a dz.d (fun q => CTI q.symm) (fun q => DTI q.symm) hTI2, ⟨.int ((L : Int) - ((m + 1 : Nat) : Int)) tk, v, ?_⟩, ?_, hns9, ⟨_, _, hD9, by rw [Array.size_push]; omega⟩, zat.os, bare9, ?_, ?_, fun m0 => ⟨gs', setGen_at gsz, fun s' hs' => ?_⟩, fun m0 => ?_⟩
          · exact sb9.extBut _ _ (fun q => DTO q.symm) (sb8.extBut _ _ (fun q => CTO q.symm) (sb7.extBut _ _ (fun q => CTO q.symm) (hx6 _ _ (Nat.ne_of_lt (Heap.lt_size (sb5.extBut _ _ dz.b hTO3))) (sb5.extBut _ _ dz.b hTO3))))
          · have q := k19 _ _ dz.c (fun q => dz.f q.symm) (fun q => Ci q.symm) (fun q => Di q.symm) hi2
            have q1 : (L : Int) - ((m + 1 : Nat) : Int) + 1 = (L : Int) - (m : Int) := by omega
            have q2 : ((m + 1 : Nat) : Int) - 1 = (m : Int) := by omega
            rw [q1, q2] at q
            exact q
          · obtain ⟨mc, hns, hnn⟩ := zat.lim
            have ng := loN hcs
            exact ⟨mc, hns.at' fun o q => keepF _ o ng q, hnn⟩
          · obtain ⟨o, nm, qn, ho, r⟩ := zat.gen
            exact ⟨o, nm, qn, keepF _ _ (loN ga2) ho, r⟩
          · refine hmore m0 (s'.setGen g .running) ⟨hs'.os, allBare_setGen (by rw [hs'.gens]; exact bare9) rfl, fun b o nb q => hs'.rest b o nb (keepF b o nb q), hs'.mine, fun acc c q => ?_⟩
            rw [hD2] at q
            cases q
            exact ⟨_, hs'.lst _ hD9⟩
          · obtain ⟨un2, ok2⟩ := leave_un zat.un (fun _ q => absurd q List.not_mem_nil) zat.ok nF keepF
            obtain ⟨acc, c, rD, eD⟩ := zat.out
            have eD : h.get? D = some (lstObj acc c) := eD
            rw [hD1] at eD
            cases eD
            refine ⟨H', ys ++ [x], _, _, un2, ok2, nF, hD9, ?_, ?_, hq m0⟩
            · rw [Array.toList_push]
              exact rD.append (.cons rv .nil)
            · rw [List.length_append, List.length_singleton]
              have := hlen
              omega
        · have mine : ∀ b o, b ∈ F → h.get? b = some o → s1.heap.get? b = some o := fun b o hb q => by
            obtain ⟨o', q1, q2, _⟩ := zat.mine b hb
            have q1 : h.get? b = some o' := q1
            rw [q] at q1
            cases q1
            exact q2
          refine ⟨ea, rfl, kh' _ _ (mine _ _ mz hz1), hst, fun h3 kh3 _ => ?_⟩
          have nF : ∀ b, b ∈ F → H' b = none := fun b hb => let ⟨_, _, _, q, _⟩ := zat.mine b hb; q
          obtain ⟨un2, ok2⟩ := leave_un zat.un (fun _ q => absurd q List.not_mem_nil) zat.ok nF fun b o nb q => kh3 b o (neF nb mz) (kh' b o q)
          obtain ⟨acc, c, rD, eD⟩ := zat.out
          have eD : h.get? D = some (lstObj acc c) := eD
          exact fin { s1.setGen g .finished with heap := h3 } ⟨mm, oC, es, ep, kh3 C _ Cz (kh' _ _ (mine C _ mC hC1)), rC⟩ zat.os (allBare_setGen zat.bare rfl) ⟨H', ys, acc, c, un2, ok2, nF, kh3 D _ Dz (kh' _ _ (mine D _ mD eD)), rD, hlen, hq⟩
    · refine ⟨Nat.le_refl _, hz6, hTI6, ⟨_, _, hTO6⟩, ?_, ⟨_, nsC⟩, ⟨#[], 0, hD6, by simp⟩, gos, gb, gl.keeps k36, gg.keeps k36, fun _ => ⟨_, ggs, fun s' hs' => ⟨rfl, ?_⟩⟩, fun q => absurd q (by omega)⟩
      · rw [Int.sub_self]
        exact hi6
      · refine wake X.A.in1.in1 F D (s'.setGen g .running) ⟨hr.hd, by have := hr.dp; show X.A.depth + 3 * k + 5 < _; omega, by have := hr.un; show X.A.units + 1 + 1 + 16 * k + 200 < _; omega⟩ Ic.ok.frames ((mF D).mpr (.inr (.inr (.inr (.inr (.inr rfl)))))) (fun b hb => ⟨by rw [hbb]; exact loF b hb, hs'.mine b hb⟩) (fun b o q => hs'.rest b o (fun nb => ?_) (k36 b o q)) ⟨0, hs'.lst _ hD6⟩ (hs'.os.trans gos) (allBare_setGen (by rw [hs'.gens]; exact gb) rfl)
        have q1 := Heap.lt_size q
        rw [hbb] at q1
        exact absurd (Nat.lt_of_lt_of_le q1 (loF b nb)) (Nat.lt_irrefl _)
  exact codeAny_compStart_list loop (wpAny_pyIter_zip (s := { s3 with heap := h6 }) hz6 loop)
end
end Ur
/-! K1: the law's own draws: the pen, draw, pick, around. -/
namespace Ur
open PySem PySem.Spec PyProof.Rows L2
def topS (i : Nat) : Stmt := PySem.Challenge.pw_paintposts_k09_meetings_in_order.main.body.getD i (.Pass ⟨0, 0, 0, 0⟩)

/-- the built-in names are not the module's -/
structure Blt (mg : Str → Option Value) : Prop where
  len_ : mg "len" = none
  int_ : mg "int" = none
  abs_ : mg "abs" = none
  list_ : mg "list" = none
  range_ : mg "range" = none
  min_ : mg "min" = none
  max_ : mg "max" = none
  repr_ : mg "repr" = none
  str_ : mg "str" = none
  bool_ : mg "bool" = none
  isinstance_ : mg "isinstance" = none
  any_ : mg "any" = none
  divmod_ : mg "divmod" = none

/-! ### the pen -/
def penK (l : Addr) (b r : Int) : List (Key × V) := [(Sum.inr "cells", .ref l), (Sum.inr "begun", .int b), (Sum.inr "rest", .int r)]
theorem pen_made (l : Addr) (b r : Int) : mergeK [] [(Sum.inr "cells", V.ref l), (Sum.inr "begun", V.int b), (Sum.inr "rest", V.int r)] = penK l b r := rfl
theorem pen_cells (l : Addr) (b r : Int) : valV (penK l b r) (Sum.inr "cells") = some (.ref l) := rfl
theorem pen_begun (l : Addr) (b r : Int) : valV (penK l b r) (Sum.inr "begun") = some (.int b) := rfl
theorem pen_rest (l : Addr) (b r : Int) : valV (penK l b r) (Sum.inr "rest") = some (.int r) := rfl
theorem pen_b (l : Addr) (b r c : Int) : putK (penK l b r) (Sum.inr "begun") (.int c) = penK l c r := rfl
theorem pen_r (l : Addr) (b r c : Int) : putK (penK l b r) (Sum.inr "rest") (.int c) = penK l b c := rfl
structure Pen (H : Hp) (p l : Addr) (n : Nat) : Prop where
  ex : ∃ (cs : List Int) (b r : Int), H p = some (.dK (penK l b r)) ∧ H l = some (.lst (cs.map V.int)) ∧ cs.length ≤ 63 ∧ 0 ≤ b ∧ b ≤ (n : Int) ∧ 0 ≤ r
section
variable {H H' : Hp} {p l q : Addr} {n m : Nat} {o : HO}
theorem Pen.dk (P : Pen H p l n) : ∃ kvs, H p = some (.dK kvs) := let ⟨cs, b, r, h, _⟩ := P.ex; ⟨_, h⟩
theorem Pen.same (P : Pen H p l n) (s : Same H H') : Pen H' p l n := let ⟨cs, b, r, h, h2, z⟩ := P.ex; ⟨cs, b, r, s _ _ h, s _ _ h2, z⟩
theorem Pen.new (P : Pen H p l n) (h : H q = none) : Pen (upd H q o) p l n := P.same (same_new h o)
theorem Pen.le (P : Pen H p l n) (h : n ≤ m) : Pen H p l m := let ⟨cs, b, r, h1, h2, h3, h4, h5, h6⟩ := P.ex; ⟨cs, b, r, h1, h2, h3, h4, by omega, h6⟩
/-- a place that was free is neither of the pen's two -/
theorem Pen.ne (P : Pen H p l n) (h : H q = none) : q ≠ p := let ⟨_, e⟩ := P.dk; (ne_of_none e h).symm
theorem Pen.nl (P : Pen H p l n) (h : H q = none) : q ≠ l := let ⟨_, _, _, _, e, _⟩ := P.ex; (ne_of_none e h).symm
theorem Pen.upd (P : Pen H p l n) (h1 : q ≠ p) (h2 : q ≠ l) : Pen (upd H q o) p l n := let ⟨cs, b, r, h, h3, z⟩ := P.ex; ⟨cs, b, r, by rw [upd_ne h1.symm]; exact h, by rw [upd_ne h2.symm]; exact h3, z⟩
end
theorem cut_all {xs : List V} {n : Nat} (h : xs.length ≤ n) : cutV xs none (some (n : Int)) = xs := by
  unfold cutV
  rw [HT.sIx_none, HT.sIx_nat, Nat.min_eq_right h, List.drop_zero, Nat.sub_zero, List.take_length]
abbrev s__law_pen : Stmt := (topS 17)
abbrev N_sc__law_pen : List Str := ["_law_script"]
abbrev P__law_pen : List Str := ["_law_script"]
theorem sc__law_pen : FnScope N_sc__law_pen P__law_pen (defScope s__law_pen) := ⟨rfl, rfl, rfl, by decide +kernel, rfl, by decide +kernel, by decide +kernel⟩
def spPen (K : PySem.W.Frag) : Sp := fun vs H Q _ => ∃ (a : Addr) (ns : List Int), vs = [.ref a] ∧ SqL K H a (ns.map V.int) ∧ ns.length ≤ 63 ∧ ∀ p l H', Pen H' p l 0 → H p = none → H l = none → Same H H' → Q (.ref p) H'
section
variable {P : Program} {w : World} {K : PySem.W.Frag} {mg : Str → Option Value} {base : Heap}
theorem ok_pen (D : Dfn K mg "_law_pen" s__law_pen P__law_pen) (B : Blt mg) : Cal P w K mg base 1 "_law_pen" P__law_pen (spPen K) := by
  refine D.cal sc__law_pen (fun vs H Q E h => ?_) fun f cdv A outer s H vs Q E hr h => ?_
  · obtain ⟨a, ns, rfl, _⟩ := h
    rfl
  obtain ⟨a, ns, rfl, hS, hlen, k⟩ := h
  have hu := hu_of hr
  refine ⟨_, (pss_one (ps_ret (pe_disp (pps_cons pe_str (pe_callTy call_list_of rfl B.list_ (by decide +kernel) (pa_cons (pe_slice sl_list (pv 0) po_none (po_some pe_int)) pa_nil)) (pps_cons pe_str pe_int (pps_cons pe_str pe_int pps_nil))) (by rfl) (by rfl) (fun z => by cases z) (by decide)))), ?_⟩
  intro p hp
  refine ⟨_, rfl, 63, rfl, a, _, rfl, (same_new hp _).seq hS, fun q hq => ?_⟩
  refine ⟨q, _, rfl, .inl (SqL.of upd_same), fun l hl => ?_⟩
  have npq : p ≠ q := ne_of_none upd_same hq
  have npl : p ≠ l := by
    intro e
    rw [← e, upd_ne npq, upd_same] at hl
    cases hl
  have nql : q ≠ l := ne_of_none upd_same hl
  refine ⟨by rw [upd_ne npl, upd_ne npq, upd_same], [(Sum.inr "cells", .ref l), (Sum.inr "begun", .int 0), (Sum.inr "rest", .int 0)], rfl, (by show 3 ≤ 15; decide), ?_⟩
  have hl0 : H l = none := by
    rw [upd_ne nql.symm, upd_ne npl.symm] at hl
    exact hl
  refine k p l _ ⟨ns, 0, 0, ?_, ?_, ?_, by decide, by decide, by decide⟩ hp hl0 ?_
  · rw [pen_made]; exact upd_same
  · rw [upd_ne npl.symm, upd_same]
    exact congrArg (fun z => some (HO.lst z)) (cut_all (n := 63) (by rw [List.length_map]; exact hlen))
  · exact hlen
  · intro b o e
    have n1 := ne_of_none e hp
    have e1 : (upd H p (.dK [])) b = some o := by rw [upd_ne n1]; exact e
    have n2 := ne_of_none e1 hq
    have e2 := (by rw [upd_ne n2]; exact e1 : (upd (upd H p (.dK [])) q (.lst (cutV (ns.map V.int) none (some 63)))) b = some o)
    rw [upd_ne n1, upd_ne (ne_of_none e2 hl)]
    exact e2
end

/-! ### draw -/
abbrev s__law_draw : Stmt := (topS 18)
abbrev N_sc__law_draw : List Str := ["_law_pen_here", "_law_many", "_law_digit", "_law_site", "_law_cell", "_law_mixed"]
abbrev P__law_draw : List Str := ["_law_pen_here", "_law_many"]
theorem sc__law_draw : FnScope N_sc__law_draw P__law_draw (defScope s__law_draw) := ⟨rfl, rfl, rfl, by decide +kernel, rfl, by decide +kernel, by decide +kernel⟩
/-- the greatest bound that k further calls can serve -/
def Bd : Nat → Int
  | 0 => 60000000
  | k + 1 => 60000000 * (Bd k - 1)
def spDraw (k : Nat) : Sp := fun vs H Q _ => ∃ (p l : Addr) (many : Int) (n : Nat), vs = [.ref p, .int many] ∧ Pen H p l n ∧ n + k ≤ 2 ^ 40 ∧ 1 ≤ many ∧ many ≤ Bd k ∧ k ≤ 16 ∧
  ∀ v H', 0 ≤ v → v < many → Pen H' p l (n + (k + 1)) → Keep p H H' → Q (.int v) H'
/-- what is promised with k calls left: nothing with none -/
def spD : Nat → Sp
  | 0 => fun _ _ _ _ => False
  | k + 1 => spDraw k
theorem Dfn.none_left {P : Program} {w : World} {K : PySem.W.Frag} {mg : Str → Option Value} {base : Heap} {x : Str} {st : Stmt} {ps : List Str} (D : Dfn K mg x st ps) : Cal P w K mg base 0 x ps (fun _ _ _ _ => False) := by
  obtain ⟨f, fd, F, b, m⟩ := D
  exact ⟨f, fd, ⟨fun _ _ _ _ h => h.elim, fun _ _ _ _ _ _ _ _ _ _ _ _ _ h => h.elim⟩, F.kp, b, m⟩
theorem dpI {K : PySem.W.Frag} {H : Hp} : ∀ cs : List Int, DpAll K H (cs.map V.int) (cs.map PyData.int)
  | [] => .nil
  | c :: cs => .cons (.int c) (dpI cs)
theorem shI0 : ∀ cs : List Int, PyData.canLayAll0 (cs.map PyData.int) = true
  | [] => rfl
  | c :: cs => by
    show (PyData.canLay0 (.int c) && PyData.canLayAll0 (cs.map PyData.int)) = true
    rw [shI0 cs]
    all_goals rfl
theorem shD0 : ∀ cs : List Int, PyData.depthAll (cs.map PyData.int) = 0
  | [] => rfl
  | c :: cs => by
    show max (PyData.depth (.int c)) (PyData.depthAll (cs.map PyData.int)) = 0
    rw [shD0 cs]
    all_goals rfl
theorem shI (cs : List Int) : SeqAt.shaped (.list (cs.map PyData.int)) = true := by
  show (PyData.canLayAll0 (cs.map PyData.int) && decide (PyData.depthAll (cs.map PyData.int) + 1 ≤ 64)) = true
  rw [shI0, shD0]
  all_goals rfl
theorem get_cells {H : Hp} {p l : Addr} {b r : Int} (h : H p = some (.dK (penK l b r))) : DGet H p (.str "cells") (some (.ref l)) := DGet.k (k := Sum.inr "cells") h
theorem get_begun {H : Hp} {p l : Addr} {b r : Int} (h : H p = some (.dK (penK l b r))) : DGet H p (.str "begun") (some (.int b)) := DGet.k (k := Sum.inr "begun") h
theorem get_rest {H : Hp} {p l : Addr} {b r : Int} (h : H p = some (.dK (penK l b r))) : DGet H p (.str "rest") (some (.int r)) := DGet.k (k := Sum.inr "rest") h
theorem put_begun {H : Hp} {p l : Addr} {b r c : Int} (h : H p = some (.dK (penK l b r))) : DPut H p (.str "begun") (.int c) (upd H p (.dK (penK l c r))) := DPut.k (k := Sum.inr "begun") h (by show 3 < sizeLine; decide)
theorem put_rest {H : Hp} {p l : Addr} {b r c : Int} (h : H p = some (.dK (penK l b r))) : DPut H p (.str "rest") (.int c) (upd H p (.dK (penK l b c))) := DPut.k (k := Sum.inr "rest") h (by show 3 < sizeLine; decide)
theorem Bd_le (k : Nat) (h : k ≤ 16) : Bd k < 2 ^ 480 := by
  have : k = 0 ∨ k = 1 ∨ k = 2 ∨ k = 3 ∨ k = 4 ∨ k = 5 ∨ k = 6 ∨ k = 7 ∨ k = 8 ∨ k = 9 ∨ k = 10 ∨ k = 11 ∨ k = 12 ∨ k = 13 ∨ k = 14 ∨ k = 15 ∨ k = 16 := by omega
  rcases this with rfl | rfl | rfl | rfl | rfl | rfl | rfl | rfl | rfl | rfl | rfl | rfl | rfl | rfl | rfl | rfl | rfl <;> decide +kernel
theorem em0 (a : Int) {m : Int} (h : 0 < m) : 0 ≤ a % m := Int.emod_nonneg a (by omega)
theorem em1 (a : Int) {m : Int} (h : 0 < m) : a % m < m := Int.emod_lt_of_pos a h
section
variable {P : Program} {w : World} {K : PySem.W.Frag} {mg : Str → Option Value} {base : Heap}
set_option maxHeartbeats 16000000 in
theorem draw_step {k : Nat} (D : Dfn K mg "_law_draw" s__law_draw P__law_draw) (B : Blt mg) (G : Cal P w K mg base k "_law_draw" P__law_draw (spD k)) : Cal P w K mg base (k + 1) "_law_draw" P__law_draw (spDraw k) := by
  refine D.cal sc__law_draw (fun vs H Q E h => ?_) fun f cdv A outer s H vs Q E hr h => ?_
  · obtain ⟨p, l, many, n, rfl, _⟩ := h
    rfl
  obtain ⟨p, l, many, n, rfl, Pn, hn, h1, hm, hk, q⟩ := h
  have hu := hu_of hr
  obtain ⟨cs, b, r, hp, hl, hcs, hb0, hbn, hr0⟩ := Pn.ex
  have hm2 : many.natAbs < 2 ^ 480 := by have := Bd_le k hk; omega
  have dv : ∀ r : Int, CDivW r many := fun r => wide_div (by omega) hm2 (by decide) (by decide)
  have nlp : l ≠ p := ne_of hl hp (by intro z; cases z)
  have pw : CPow 10 18 := ⟨by decide, by decide, by decide⟩
  refine ⟨_, (pss_cons (ps_if (pt_cmpR op_gt (pe_dget hu (pv 0) pe_str (fun _ _ => rfl)) pe_int (nomark _)) (pss_cons (ps_set (i := 2) sc__law_draw.nd rfl (Or.inl rfl) (pe_op op_mod (pe_callTy call_int1 rfl B.int_ (by decide +kernel) (pa_cons (pe_dget hu (pv 0) pe_str (fun _ _ => rfl)) pa_nil)) (pv 1))) (pss_cons (ps_dput hu (pv 0) pe_str (pe_op op_fdivW (pe_dget hu (pv 0) pe_str (fun _ _ => rfl)) (pv 1)) rfl) (pss_one (ps_ret (pv 2))))) pss_nil) (pss_cons (ps_set (i := 3) sc__law_draw.nd rfl (Or.inl rfl) (pe_dget hu (pv 0) pe_str (fun _ _ => rfl))) (pss_cons (ps_dput hu (pv 0) pe_str (pe_op op_add (pv 3) pe_int) rfl) (pss_cons (ps_set (i := 4) sc__law_draw.nd rfl (Or.inl rfl) (pe_op op_add (pe_op op_mul pe_int (pv 3)) pe_int)) (C8.pss_cut (ps_if (pt_cmpR (op_neD hr.units) (pe_dget hu (pv 0) pe_str (fun _ _ => rfl)) (pe_lst pa_nil) (nomark _)) (pss_one (ps_set (i := 4) sc__law_draw.nd rfl (Or.inl rfl) (pe_ix ix_list (pe_dget hu (pv 0) pe_str (fun _ _ => rfl)) (pe_op op_mod (pe_callTy call_int1 rfl B.int_ (by decide +kernel) (pa_cons (pv 3) pa_nil)) (pe_callB call_len_seq rfl B.len_ PySem.boot_len (pa_cons (pe_dget hu (pv 0) pe_str (fun _ _ => rfl)) pa_nil))) (fun _ _ => rfl)))) pss_nil) (C8.pss_cut (ps_if (PW.pt (pw_and (pt_cmpR op_lt (pv 3) (pe_callB call_len_seq rfl B.len_ PySem.boot_len (pa_cons (pe_dget hu (pv 0) pe_str (fun _ _ => rfl)) pa_nil)) (nomark _)) (pw_and1 (pt_cmpR op_ge (pe_callB call_abs rfl B.abs_ (by decide +kernel) (pa_cons (pv 4) pa_nil)) (pe_op op_pow pe_int pe_int) (nomark _))))) (pss_cons (ps_dput hu (pv 0) pe_str (pe_op op_fdivW (pe_op op_sub (pe_callB call_abs rfl B.abs_ (by decide +kernel) (pa_cons (pv 4) pa_nil)) (pe_op op_pow pe_int pe_int)) (pv 1)) rfl) (pss_one (ps_ret (pe_op op_mod (pe_op op_sub (pe_callB call_abs rfl B.abs_ (by decide +kernel) (pa_cons (pv 4) pa_nil)) (pe_op op_pow pe_int pe_int)) (pv 1))))) pss_nil) (C8.pss_cut (ps_set (i := 5) sc__law_draw.nd rfl (Or.inl rfl) (pe_op op_mod (pe_callTy call_int1 rfl B.int_ (by decide +kernel) (pa_cons (pe_op op_add (pe_op op_add (pe_op op_mul (pe_op op_mod (pe_callTy call_int1 rfl B.int_ (by decide +kernel) (pa_cons (pv 4) pa_nil)) pe_int) pe_int) (pe_op op_mul (pe_op op_mul pe_int (pv 3)) (pv 3))) pe_int) pa_nil)) pe_int)) (C8.pss_cut (ps_set (i := 5) sc__law_draw.nd rfl (Or.inl rfl) (pe_op op_mod (pe_callTy call_int1 rfl B.int_ (by decide +kernel) (pa_cons (pe_op op_add (pe_op op_add (pe_op op_add (pe_op op_mul (pv 5) (pv 5)) (pe_op op_mul pe_int (pv 5))) (pe_op op_mul pe_int (pv 3))) pe_int) pa_nil)) pe_int)) (C8.pss_cut (ps_set (i := 5) sc__law_draw.nd rfl (Or.inl rfl) (pe_op op_fdivW (pe_op op_mod (pe_callTy call_int1 rfl B.int_ (by decide +kernel) (pa_cons (pe_op op_mul (pv 5) (pe_op op_add (pv 5) pe_int)) pa_nil)) pe_int) pe_int)) (C8.pss_cut (ps_if (pt_cmpR op_gt (pv 1) pe_int (nomark _)) (pss_one (ps_set (i := 5) sc__law_draw.nd rfl (Or.inl rfl) (pe_op op_add (pe_op op_mod (pe_callTy call_int1 rfl B.int_ (by decide +kernel) (pa_cons (pv 5) pa_nil)) pe_int) (pe_op op_mul pe_int (pe_cal G hr (pa_cons (pv 0) (pa_cons (pe_op op_add (pe_op op_fdivW (pv 1) pe_int) pe_int) pa_nil))))))) pss_nil) (pss_one (ps_ret (pe_op op_mod (pe_callTy call_int1 rfl B.int_ (by decide +kernel) (pa_cons (pv 5) pa_nil)) (pv 1)))))))))))))), ?_⟩
  refine ⟨_, rfl, p, .int r, rfl, get_rest hp, _, _, rfl, rfl, _, rfl, ?_⟩
  refine ite2 (fun c => ?_) (fun c => ?_)
  · refine ⟨_, rfl, p, .int r, rfl, get_rest hp, .inl ⟨_, rfl, _, rfl, _, _, rfl, rfl, by omega, ?_⟩⟩
    refine ⟨_, rfl, p, .int r, rfl, get_rest hp, _, rfl, _, _, rfl, rfl, dv _, _, rfl, p, _, rfl, put_rest hp, ?_⟩
    refine ⟨_, rfl, ?_⟩
    exact q _ _ (em0 _ (by omega)) (em1 _ (by omega)) ⟨cs, b, r / many, upd_same, by rw [upd_ne nlp]; exact hl, hcs, hb0, by omega, Int.ediv_nonneg hr0 (by omega)⟩ Keep.at_
  refine ⟨_, rfl, p, .int b, rfl, get_begun hp, ?_⟩
  refine ⟨_, rfl, _, _, rfl, rfl, _, rfl, p, _, rfl, put_begun hp, ?_⟩
  refine ⟨_, rfl, _, _, rfl, rfl, .inl ⟨by decide, by decide⟩, _, _, rfl, rfl, ?_⟩
  have hp1 : (upd H p (.dK (penK l (b + 1) r))) p = some (.dK (penK l (b + 1) r)) := upd_same
  have hl1 : (upd H p (.dK (penK l (b + 1) r))) l = some (.lst (cs.map V.int)) := by rw [upd_ne nlp]; exact hl
  have kp1 : Keep p H (upd H p (.dK (penK l (b + 1) r))) := Keep.at_
  generalize upd H p (.dK (penK l (b + 1) r)) = H1 at hp1 hl1 kp1 ⊢
  refine ⟨fun σ' H' => ∃ c : Int, σ' = [some (.ref p), some (.int many), none, some (.int b), some (.int c), none] ∧ H' p = some (.dK (penK l (b + 1) r)) ∧ H' l = some (.lst (cs.map V.int)) ∧ Keep p H H', ?_, ?_⟩
  · refine ⟨_, rfl, p, .ref l, rfl, get_cells hp1, (by show 0 ≤ sizeLine; decide), fun e he => ?_⟩
    have hp2 := same_new he (.lst []) _ _ hp1
    have hl2 := same_new he (.lst []) _ _ hl1
    have kp2 := kp1.new (o := .lst []) he
    refine ⟨.list (cs.map PyData.int), .list [], .lst (SqL.of hl2) (dpI cs), .lst (SqL.of upd_same) .nil, shI cs, rfl, _, rfl, ?_⟩
    generalize upd H1 e (.lst []) = H2 at hp2 hl2 kp2 ⊢
    cases hcs0 : cs with
    | nil =>
      refine iteF ?_
      exact ⟨_, rfl, hp2, by rw [← hcs0]; exact hl2, kp2⟩
    | cons c0 cr =>
      refine iteT ?_
      have hlen : 0 < ((cs.map V.int).length : Int) := by rw [List.length_map, hcs0, List.length_cons]; omega
      obtain ⟨c, hc⟩ : ∃ c, atI (cs.map V.int) (b % ((cs.map V.int).length : Int)) = some (.int c) := by
        have h0 := em0 b hlen
        have h1 := em1 b hlen
        generalize b % ((cs.map V.int).length : Int) = i at h0 h1
        obtain ⟨j, rfl⟩ : ∃ j : Nat, i = (j : Int) := ⟨i.toNat, by omega⟩
        rw [List.length_map] at h1
        have hj : j < cs.length := by omega
        exact ⟨cs[j], atI_nat (by rw [List.getElem?_map, List.getElem?_eq_getElem hj]; all_goals rfl)⟩
      refine ⟨_, rfl, p, .ref l, rfl, get_cells hp2, _, rfl, .inl ⟨_, rfl, _, rfl, p, .ref l, rfl, get_cells hp2, l, _, rfl, .inl (SqL.of hl2), _, _, rfl, rfl, hlen, l, _, _, _, rfl, rfl, SqL.of hl2, hc, ?_⟩⟩
      exact ⟨c, rfl, hp2, by rw [← hcs0]; exact hl2, kp2⟩
  rintro σ' H3 ⟨c, rfl, hp3, hl3, kp3⟩
  refine ⟨fun σ' H' => σ' = [some (.ref p), some (.int many), none, some (.int b), some (.int c), none] ∧ H' = H3, ?_, ?_⟩
  · refine ⟨_, rfl, _, rfl, p, .ref l, rfl, get_cells hp3, l, _, rfl, .inl (SqL.of hl3), _, _, rfl, rfl, _, rfl, ?_⟩
    refine ite2 (fun _ => ?_) (fun _ => ?_)
    · refine ⟨_, rfl, _, rfl, _, _, rfl, rfl, pw, _, _, rfl, rfl, _, rfl, ?_⟩
      refine ite2 (fun c2 => ?_) (fun _ => ?_)
      · refine ⟨_, rfl, _, rfl, _, _, rfl, rfl, pw, _, _, rfl, rfl, _, rfl, _, _, rfl, rfl, dv _, _, rfl, p, _, rfl, put_rest hp3, ?_⟩
        refine ⟨_, rfl, _, rfl, _, _, rfl, rfl, pw, _, _, rfl, rfl, _, rfl, _, _, rfl, rfl, by omega, ?_⟩
        have c3 := of_decide_eq_true c2
        exact q _ _ (em0 _ (by omega)) (em1 _ (by omega)) ⟨cs, b + 1, _, upd_same, by rw [upd_ne nlp]; exact hl3, hcs, by omega, by omega, Int.ediv_nonneg (by omega) (by omega)⟩ (kp3.trans Keep.at_)
      · exact ⟨rfl, rfl⟩
    · exact iteF ⟨rfl, rfl⟩
  rintro σ' H' ⟨rfl, rfl⟩
  have c1 : -(2 ^ 64) < c % 4294967279 ∧ c % 4294967279 < 2 ^ 64 := by
    have := em0 c (m := 4294967279) (by decide)
    have := em1 c (m := 4294967279) (by decide)
    omega
  have c2 : -(2 ^ 64) < 40503 * b ∧ 40503 * b < 2 ^ 64 := by omega
  refine ⟨fun σ' H'' => ∃ m : Int, σ' = [some (.ref p), some (.int many), none, some (.int b), some (.int c), some (.int m)] ∧ 0 ≤ m ∧ m < 4294967291 ∧ H'' = H', ?_, ?_⟩
  · refine ⟨_, rfl, .inl ⟨_, rfl, _, _, rfl, rfl, by omega, _, _, rfl, rfl, .inl c1, _, rfl, _, _, rfl, rfl, .inl ⟨by decide, by decide⟩, _, rfl, _, _, rfl, rfl, .inl c2, _, _, rfl, rfl, _, _, rfl, rfl, .inl ⟨_, rfl, _, _, rfl, rfl, by omega, ?_⟩⟩⟩
    exact ⟨_, rfl, em0 _ (by decide), em1 _ (by decide), rfl⟩
  rintro σ' H' ⟨m1, rfl, d0, d1, rfl⟩
  have m1b : -(2 ^ 64) < m1 ∧ m1 < 2 ^ 64 := by omega
  refine ⟨fun σ' H'' => ∃ m : Int, σ' = [some (.ref p), some (.int many), none, some (.int b), some (.int c), some (.int m)] ∧ 0 ≤ m ∧ m < 4294967291 ∧ H'' = H', ?_, ?_⟩
  · refine ⟨_, rfl, _, rfl, _, _, rfl, rfl, .inl m1b, _, rfl, _, _, rfl, rfl, .inl ⟨by decide, by decide⟩, _, _, rfl, rfl, _, rfl, _, _, rfl, rfl, .inl ⟨by decide, by decide⟩, _, _, rfl, rfl, _, _, rfl, rfl, .inl ⟨_, rfl, _, _, rfl, rfl, by omega, ?_⟩⟩
    exact ⟨_, rfl, em0 _ (by decide), Int.lt_trans (em1 _ (by decide)) (by decide), rfl⟩
  rintro σ' H' ⟨m2, rfl, e0, e1, rfl⟩
  have m2b : -(2 ^ 64) < m2 ∧ m2 < 2 ^ 64 := by omega
  refine ⟨fun σ' H'' => ∃ m : Int, σ' = [some (.ref p), some (.int many), none, some (.int b), some (.int c), some (.int m)] ∧ H'' = H', ?_, ?_⟩
  · refine ⟨_, rfl, _, rfl, _, _, rfl, rfl, _, _, rfl, rfl, .inl m2b, .inl ⟨_, rfl, _, _, rfl, rfl, by omega, _, _, rfl, rfl, wide_div (b := 7) (by decide) (by decide) (by decide) (by decide), ?_⟩⟩
    exact ⟨_, rfl, rfl⟩
  rintro σ' H' ⟨m3, rfl, rfl⟩
  refine ⟨fun σ' H' => ∃ m : Int, σ' = [some (.ref p), some (.int many), none, some (.int b), some (.int c), some (.int m)] ∧ Pen H' p l (n + (k + 1)) ∧ Keep p H H', ?_, ?_⟩
  · have P3 : Pen H' p l (n + 1) := ⟨cs, b + 1, r, hp3, hl3, hcs, by omega, by omega, hr0⟩
    refine ⟨_, rfl, _, _, rfl, rfl, _, rfl, ?_⟩
    refine ite2 (fun c4 => ?_) (fun c4 => ?_)
    · have c5 := of_decide_eq_true c4
      have dk : ∃ j, k = j + 1 := by
        cases k with
        | zero => exact absurd hm (by show ¬ many ≤ 60000000; omega)
        | succ j => exact ⟨j, rfl⟩
      obtain ⟨j, rfl⟩ := dk
      have hB : many ≤ 60000000 * (Bd j - 1) := hm
      refine ⟨_, rfl, .inl ⟨_, rfl, _, _, rfl, rfl, by omega, _, rfl, _, rfl, _, _, rfl, rfl, wide_div (b := 26) (by decide) (by decide) (by decide) (by decide), _, _, rfl, rfl, p, l, _, n + 1, rfl, P3, by omega, by omega, by omega, by omega, fun v H4 v0 v1 P4 k4 => ?_⟩⟩
      refine ⟨_, _, rfl, rfl, .inl ⟨by decide, by decide⟩, _, _, rfl, rfl, ?_⟩
      exact ⟨_, rfl, P4.le (by omega), kp3.trans k4⟩
    · exact ⟨_, rfl, P3.le (by omega), kp3⟩
  rintro σ' H5 ⟨m, rfl, P5, k5⟩
  refine ⟨_, rfl, .inl ⟨_, rfl, _, rfl, _, _, rfl, rfl, by omega, ?_⟩⟩
  exact q _ _ (em0 _ (by omega)) (em1 _ (by omega)) P5 k5
theorem ok_drawN (D : Dfn K mg "_law_draw" s__law_draw P__law_draw) (B : Blt mg) : ∀ k : Nat, Cal P w K mg base k "_law_draw" P__law_draw (spD k)
  | 0 => D.none_left
  | k + 1 => draw_step D B (ok_drawN D B k)
/-- what callers use: bounds up to 10 ^ 81 -/
def spDr : Sp := fun vs H Q _ => ∃ (p l : Addr) (many : Int) (n : Nat), vs = [.ref p, .int many] ∧ Pen H p l n ∧ n ≤ 2 ^ 39 ∧ 1 ≤ many ∧ many ≤ 10 ^ 81 ∧
  ∀ v H', 0 ≤ v → v < many → Pen H' p l (n + 12) → Keep p H H' → Q (.int v) H'
theorem ok_draw (D : Dfn K mg "_law_draw" s__law_draw P__law_draw) (B : Blt mg) : Cal P w K mg base 12 "_law_draw" P__law_draw spDr := by
  obtain ⟨f, fd, F, r⟩ := ok_drawN (P := P) (w := w) (base := base) D B 12
  refine ⟨f, fd, F.imp fun vs H Q E h => ?_, r⟩
  obtain ⟨p, l, many, n, rfl, a, b, c, d, e⟩ := h
  exact ⟨p, l, many, n, rfl, a, (by show n + 11 ≤ 2 ^ 40; omega), c, Int.le_trans d (by decide +kernel), by decide, e⟩
end
end Ur
/-! K2: pick, around, power, great, names. -/
namespace Ur
open PySem PySem.Spec PyProof.Rows L2
/-! ### pick -/
abbrev s__law_pick : Stmt := (topS 19)
abbrev N_sc__law_pick : List Str := ["_law_pen_here", "_law_options"]
abbrev P__law_pick : List Str := ["_law_pen_here", "_law_options"]
theorem sc__law_pick : FnScope N_sc__law_pick P__law_pick (defScope s__law_pick) := ⟨rfl, rfl, rfl, by decide +kernel, rfl, by decide +kernel, by decide +kernel⟩
def spPickL (K : PySem.W.Frag) : Sp := fun vs H Q _ => ∃ (p l a : Addr) (xs : List V) (n : Nat), vs = [.ref p, .ref a] ∧ Pen H p l n ∧ n ≤ 2 ^ 39 ∧ SqL K H a xs ∧ 1 ≤ xs.length ∧ xs.length ≤ 1000000 ∧
  ∀ v H', v ∈ xs → Pen H' p l (n + 12) → Keep p H H' → Q v H'
def spPickS : Sp := fun vs H Q _ => ∃ (p l : Addr) (z : Str) (n : Nat), vs = [.ref p, .str z] ∧ Pen H p l n ∧ n ≤ 2 ^ 39 ∧ 1 ≤ z.length ∧ z.length ≤ 1000000 ∧
  ∀ c H', c ∈ z.cps.toList → Pen H' p l (n + 12) → Keep p H H' → Q (.str ⟨#[c]⟩) H'
theorem at_some {α : Type} {xs : List α} {i : Int} (h0 : 0 ≤ i) (h1 : i < (xs.length : Int)) : ∃ v, atI xs i = some v ∧ v ∈ xs := by
  obtain ⟨j, rfl⟩ : ∃ j : Nat, i = (j : Int) := ⟨i.toNat, by omega⟩
  have hj : j < xs.length := by omega
  exact ⟨xs[j], atI_nat (List.getElem?_eq_getElem hj), List.getElem_mem hj⟩
section
variable {P : Program} {w : World} {K : PySem.W.Frag} {mg : Str → Option Value} {base : Heap}
theorem ok_pickL (D : Dfn K mg "_law_pick" s__law_pick P__law_pick) (B : Blt mg) (CD : Cal P w K mg base 12 "_law_draw" P__law_draw spDr) : Cal P w K mg base 13 "_law_pick" P__law_pick (spPickL K) := by
  refine D.cal sc__law_pick (fun vs H Q E h => ?_) fun f cdv A outer s H vs Q E hr h => ?_
  · obtain ⟨p, l, a, xs, n, rfl, _⟩ := h
    rfl
  obtain ⟨p, l, a, xs, n, rfl, Pn, hn, hS, h1, h2, q⟩ := h
  obtain ⟨kvs, hp⟩ := Pn.dk
  refine ⟨_, (pss_one (ps_ret (pe_ix ix_list (pv 1) (pe_cal CD (hr.mono (by decide)) (pa_cons (pv 0) (pa_cons (pe_callB call_len_seq rfl B.len_ PySem.boot_len (pa_cons (pv 1) pa_nil)) pa_nil))) (fun _ _ => rfl)))), ?_⟩
  refine ⟨_, rfl, _, rfl, _, rfl, a, _, rfl, .inl hS, p, l, _, n, rfl, Pn, hn, by omega, by omega, fun v H1 v0 v1 P1 k1 => ?_⟩
  obtain ⟨x, hx, hm⟩ := at_some v0 v1
  exact ⟨a, xs, v, x, rfl, rfl, k1.lst hp hS, hx, q _ _ hm P1 k1⟩
theorem ok_pickS (D : Dfn K mg "_law_pick" s__law_pick P__law_pick) (B : Blt mg) (CD : Cal P w K mg base 12 "_law_draw" P__law_draw spDr) : Cal P w K mg base 13 "_law_pick" P__law_pick spPickS := by
  refine D.cal sc__law_pick (fun vs H Q E h => ?_) fun f cdv A outer s H vs Q E hr h => ?_
  · obtain ⟨p, l, z, n, rfl, _⟩ := h
    rfl
  obtain ⟨p, l, z, n, rfl, Pn, hn, h1, h2, q⟩ := h
  have hz : z.length ≤ sizeLine := Nat.le_trans h2 (by decide)
  refine ⟨_, (pss_one (ps_ret (pe_ix ix_str (pv 1) (pe_cal CD (hr.mono (by decide)) (pa_cons (pv 0) (pa_cons (pe_callB call_len_str rfl B.len_ PySem.boot_len (pa_cons (pv 1) pa_nil)) pa_nil))) (fun _ _ => rfl)))), ?_⟩
  refine ⟨_, rfl, _, rfl, _, rfl, _, rfl, hz, p, l, _, n, rfl, Pn, hn, by omega, by omega, fun v H1 v0 v1 P1 k1 => ?_⟩
  have e : z.length = z.cps.toList.length := by show z.cps.size = _; rw [Array.length_toList]
  obtain ⟨x, hx, hm⟩ := at_some (xs := z.cps.toList) v0 (by omega)
  exact ⟨z, v, x, rfl, rfl, hz, hx, q _ _ hm P1 k1⟩
end
/-! ### around -/
abbrev s__law_around : Stmt := (topS 20)
abbrev N_sc__law_around : List Str := ["_law_pen_here", "_law_most"]
abbrev P__law_around : List Str := ["_law_pen_here", "_law_most"]
theorem sc__law_around : FnScope N_sc__law_around P__law_around (defScope s__law_around) := ⟨rfl, rfl, rfl, by decide +kernel, rfl, by decide +kernel, by decide +kernel⟩
def spAround : Sp := fun vs H Q _ => ∃ (p l : Addr) (most : Int) (n : Nat), vs = [.ref p, .int most] ∧ Pen H p l n ∧ n ≤ 2 ^ 39 ∧ 0 ≤ most ∧ most ≤ 10 ^ 80 ∧
  ∀ v H', -most ≤ v → v ≤ most → Pen H' p l (n + 12) → Keep p H H' → Q (.int v) H'
section
variable {P : Program} {w : World} {K : PySem.W.Frag} {mg : Str → Option Value} {base : Heap}
theorem ok_around (D : Dfn K mg "_law_around" s__law_around P__law_around) (CD : Cal P w K mg base 12 "_law_draw" P__law_draw spDr) : Cal P w K mg base 13 "_law_around" P__law_around spAround := by
  refine D.cal sc__law_around (fun vs H Q E h => ?_) fun f cdv A outer s H vs Q E hr h => ?_
  · obtain ⟨p, l, most, n, rfl, _⟩ := h
    rfl
  obtain ⟨p, l, most, n, rfl, Pn, hn, h1, h2, q⟩ := h
  refine ⟨_, (pss_one (ps_ret (pe_op op_sub (pe_cal CD (hr.mono (by decide)) (pa_cons (pv 0) (pa_cons (pe_op op_add (pe_op op_mul pe_int (pv 1)) pe_int) pa_nil))) (pv 1)))), ?_⟩
  refine ⟨_, rfl, _, rfl, _, _, rfl, rfl, .inl ⟨by decide, by decide⟩, _, _, rfl, rfl, p, l, _, n, rfl, Pn, hn, by omega, by omega, fun v H1 v0 v1 P1 k1 => ?_⟩
  exact ⟨_, rfl, _, _, rfl, rfl, q _ _ (by omega) (by omega) P1 k1⟩
end
/-! ### power, great -/
abbrev s__law_power : Stmt := (topS 21)
abbrev N_sc__law_power : List Str := ["_law_figures", "_law_found", "_law_k"]
abbrev P__law_power : List Str := ["_law_figures"]
theorem sc__law_power : FnScope N_sc__law_power P__law_power (defScope s__law_power) := ⟨rfl, rfl, rfl, by decide +kernel, rfl, by decide +kernel, by decide +kernel⟩
def spPower : Sp := fun vs H Q _ => ∃ (g : Nat), vs = [.int (g : Int)] ∧ g ≤ 100 ∧ Q (.int (10 ^ g)) H
theorem pow_bits {i : Nat} (h : i ≤ 100) : ((10 : Int) ^ i).natAbs < 2 ^ 400 := by
  have e : ((10 : Int) ^ i).natAbs = 10 ^ i := by rw [Int.natAbs_pow]; rfl
  rw [e]
  exact Nat.lt_of_le_of_lt (Nat.pow_le_pow_right (by decide) h) (by decide +kernel)
section
variable {P : Program} {w : World} {K : PySem.W.Frag} {mg : Str → Option Value} {base : Heap}
theorem ok_power (D : Dfn K mg "_law_power" s__law_power P__law_power) (B : Blt mg) : Cal P w K mg base 1 "_law_power" P__law_power spPower := by
  refine D.cal sc__law_power (fun vs H Q E h => ?_) fun f cdv A outer s H vs Q E hr h => ?_
  · obtain ⟨g, rfl, _⟩ := h
    rfl
  obtain ⟨g, rfl, hg, q⟩ := h
  refine ⟨_, (pss_cons (ps_set (i := 1) sc__law_power.nd rfl (Or.inl rfl) pe_int) (pss_cons (ps_for PassesOwn.never rfl (pi_range1 rfl B.range_ (pa_cons (pv 0) pa_nil)) (pg_name (i := 2) sc__law_power.nd rfl (Or.inl rfl)) (pss_one (ps_set (i := 1) sc__law_power.nd rfl (Or.inl rfl) (pe_op op_mulW (pv 1) pe_int)))) (pss_one (ps_ret (pv 1))))), ?_⟩
  refine ⟨_, rfl, (g : Int), rfl, by omega, by omega, for_range (lo := 0) (n := (g : Int).toNat) (fun i σ H' => i ≤ g ∧ H' = H ∧ ∃ v, σ = [some (.int (g : Int)), some (.int (10 ^ i)), v]) ⟨by omega, rfl, _, rfl⟩ ?_ ?_⟩
  · rintro i σ H' hi ⟨hi2, rfl, v, rfl⟩
    refine ⟨_, rfl, _, _, rfl, rfl, wide_mul (a := 400) (b := 4) (pow_bits (by omega)) (by decide) (by decide) (by decide) (by decide), ?_⟩
    exact ⟨by omega, rfl, _, by rw [Int.pow_succ]; rfl⟩
  · rintro σ H' ⟨hi2, rfl, v, rfl⟩
    exact ⟨_, rfl, q⟩
end
theorem pow10_le {a b : Nat} (h : a ≤ b) : (10 : Int) ^ a ≤ 10 ^ b := by
  have z := Nat.pow_le_pow_right (n := 10) (by decide) h
  exact_mod_cast z
abbrev s__law_great : Stmt := (topS 22)
abbrev N_sc__law_great : List Str := ["_law_pen_here", "_law_figures", "_law_most", "_law_some"]
abbrev P__law_great : List Str := ["_law_pen_here", "_law_figures"]
theorem sc__law_great : FnScope N_sc__law_great P__law_great (defScope s__law_great) := ⟨rfl, rfl, rfl, by decide +kernel, rfl, by decide +kernel, by decide +kernel⟩
def spGreat : Sp := fun vs H Q _ => ∃ (p l : Addr) (g n : Nat), vs = [.ref p, .int (g : Int)] ∧ Pen H p l n ∧ n + 72 ≤ 2 ^ 39 ∧ 1 ≤ g ∧ g ≤ 80 ∧
  ∀ v H', 0 ≤ v → v < 10 ^ g → Pen H' p l (n + 72) → Keep p H H' → Q (.int v) H'
section
variable {P : Program} {w : World} {K : PySem.W.Frag} {mg : Str → Option Value} {base : Heap}
theorem ok_great (D : Dfn K mg "_law_great" s__law_great P__law_great) (CW : Cal P w K mg base 1 "_law_power" P__law_power spPower) (CD : Cal P w K mg base 12 "_law_draw" P__law_draw spDr) (CP : Cal P w K mg base 13 "_law_pick" P__law_pick (spPickL K)) :
    Cal P w K mg base 14 "_law_great" P__law_great spGreat := by
  refine D.cal sc__law_great (fun vs H Q E h => ?_) fun f cdv A outer s H vs Q E hr h => ?_
  · obtain ⟨p, l, g, n, rfl, _⟩ := h
    rfl
  obtain ⟨p, l, g, n, rfl, Pn, hn, g1, g2, q⟩ := h
  obtain ⟨kvs, hp⟩ := Pn.dk
  have big : (10 : Int) ≤ 10 ^ g := pow10_le g1
  have top : (10 : Int) ^ g ≤ 10 ^ 81 := pow10_le (by omega)
  refine ⟨_, (pss_cons (ps_set (i := 2) sc__law_great.nd rfl (Or.inl rfl) (pe_cal CW (hr.mono (by decide)) (pa_cons (pv 1) pa_nil))) (pss_cons (ps_set (i := 3) sc__law_great.nd rfl (Or.inl rfl) (pe_lst (pa_cons (pe_cal CD (hr.mono (by decide)) (pa_cons (pv 0) (pa_cons pe_int pa_nil))) (pa_cons (pe_cal CD (hr.mono (by decide)) (pa_cons (pv 0) (pa_cons (pv 2) pa_nil))) (pa_cons (pe_cal CD (hr.mono (by decide)) (pa_cons (pv 0) (pa_cons (pv 2) pa_nil))) pa_nil))))) (pss_one (ps_ret (pe_cal CP (hr.mono (by decide)) (pa_cons (pv 0) (pa_cons (pe_op op_cat (pv 3) (pe_lst (pa_cons (pe_op op_add (pe_op op_fdivW (pv 2) pe_int) (pe_cal CD (hr.mono (by decide)) (pa_cons (pv 0) (pa_cons pe_int pa_nil)))) (pa_cons (pe_op op_sub (pe_op op_sub (pv 2) pe_int) (pe_cal CD (hr.mono (by decide)) (pa_cons (pv 0) (pa_cons pe_int pa_nil)))) pa_nil)))) pa_nil))))))), ?_⟩
  refine ⟨_, rfl, g, rfl, by omega, ?_⟩
  generalize (10 : Int) ^ g = most at big top q ⊢
  refine ⟨_, rfl, p, l, _, n, rfl, Pn, by omega, by omega, by omega, fun v1 H1 a1 b1 P1 k1 => ?_⟩
  refine ⟨_, rfl, _, rfl, p, l, _, _, rfl, P1, by omega, by omega, by omega, fun v2 H2 a2 b2 P2 k2 => ?_⟩
  refine ⟨_, rfl, _, rfl, p, l, _, _, rfl, P2, by omega, by omega, by omega, fun v3 H3 a3 b3 P3 k3 => ?_⟩
  refine ⟨(by show 3 ≤ sizeLine; decide), fun t ht => ?_⟩
  have P4 := P3.new (o := .lst [.int v1, .int v2, .int v3]) ht
  have k4 := ((k1.trans k2).trans k3).new (o := .lst [.int v1, .int v2, .int v3]) ht
  have ht4 : (upd H3 t (.lst [.int v1, .int v2, .int v3])) t = some (.lst [.int v1, .int v2, .int v3]) := upd_same
  have tp := P3.ne ht
  have tl := P3.nl ht
  generalize upd H3 t (.lst [.int v1, .int v2, .int v3]) = H4 at P4 k4 ht4 ⊢
  refine ⟨_, rfl, _, rfl, _, rfl, _, _, rfl, rfl, wide_div (b := 4) (by decide) (by decide) (by decide) (by decide), _, rfl, p, l, _, _, rfl, P4, by omega, by omega, by omega, fun v4 H5 a4 b4 P5 k5 => ?_⟩
  refine ⟨_, _, rfl, rfl, _, rfl, _, _, rfl, rfl, _, rfl, p, l, _, _, rfl, P5, by omega, by omega, by omega, fun v5 H6 a5 b5 P6 k6 => ?_⟩
  refine ⟨_, _, rfl, rfl, (by show 2 ≤ sizeLine; decide), fun u hu => ?_⟩
  have e6 := k6 _ _ (k5 _ _ ht4 tp) tp
  have e7 := same_new hu (.lst [.int (most / 10 + v4), .int (most - 1 - v5)]) _ _ e6
  refine ⟨t, u, _, _, rfl, rfl, e7, upd_same, (by show 5 ≤ sizeLine; decide), fun y hy => ?_⟩
  refine ⟨p, l, y, _, _, rfl, (P6.new hu).new hy, by omega, SqL.of upd_same, by show 1 ≤ 5; decide, by show 5 ≤ 1000000; decide, fun v H7 hv P7 k7 => ?_⟩
  have z : ∃ i : Int, v = .int i ∧ 0 ≤ i ∧ i < most := by
    simp only [List.mem_append, List.mem_cons, List.not_mem_nil, or_false] at hv
    rcases hv with (rfl | rfl | rfl) | (rfl | rfl) <;> exact ⟨_, rfl, by omega, by omega⟩
  obtain ⟨i, rfl, i0, i1⟩ := z
  exact q i H7 i0 i1 (P7.le (by omega)) ((((k4.trans k5).trans k6).new hu).new hy |>.trans k7)
end
end Ur
/-! K3: names. -/
namespace Ur
open PySem PySem.Spec PyProof.Rows L2
/-- small letters only -/
def LetOk (z : Str) : Prop := ∀ c ∈ z.cps.toList, 97 ≤ c ∧ c ≤ 122
def NameOk (z : Str) : Prop := 1 ≤ z.length ∧ z.length ≤ 8 ∧ LetOk z
theorem LetOk.app {a b : Str} (x : LetOk a) (y : LetOk b) : LetOk (a ++ b) := fun c h => by
  rw [Str.cps_append, Array.toList_append, List.mem_append] at h
  exact h.elim (x c) (y c)
theorem LetOk.empty : LetOk Str.empty := fun c h => by simp [Str.empty] at h
theorem LetOk.one {c : Nat} (h : 97 ≤ c ∧ c ≤ 122) : LetOk ⟨#[c]⟩ := fun d hd => by
  have e : d = c := by simpa using hd
  rw [e]; exact h
def lett : Str := Str.ofString "abcdefghijklmnopqrstuvwxyz"
theorem lett_ok : LetOk lett := by unfold LetOk; decide +kernel
theorem lett_len : lett.length = 26 := by decide +kernel
theorem lett_tl : lett.cps.toList.length = 26 := by decide +kernel
theorem join_ok : ∀ ss : List Str, (∀ z ∈ ss, z.length = 1 ∧ LetOk z) → (Txt.join Str.empty ss).length = ss.length ∧ LetOk (Txt.join Str.empty ss) := by
  intro ss h
  rw [show Txt.join Str.empty ss = Str.join Str.empty ss from PySem.StrLaws.glued_eq_join _ _]
  induction ss with
  | nil => exact ⟨rfl, LetOk.empty⟩
  | cons a r ih =>
    have ha := h a List.mem_cons_self
    have hr := ih fun z hz => h z (List.mem_cons_of_mem _ hz)
    cases r with
    | nil => exact ⟨ha.1, ha.2⟩
    | cons b r =>
      show (a ++ Str.empty ++ Str.join Str.empty (b :: r)).length = (b :: r).length + 1 ∧ LetOk (a ++ Str.empty ++ Str.join Str.empty (b :: r))
      rw [Str.append_empty, Str.length_append, hr.1, ha.1]
      exact ⟨by omega, ha.2.app hr.2⟩
theorem sum_ones : ∀ ss : List Str, (∀ z ∈ ss, z.length = 1 ∧ LetOk z) → (ss.map (·.length)).sum = ss.length
  | [], _ => rfl
  | a :: r, h => by
    rw [List.map_cons, List.sum_cons, sum_ones r fun z hz => h z (List.mem_cons_of_mem _ hz), (h a List.mem_cons_self).1, List.length_cons]
    omega
theorem mem_snoc {α : Type} {P : α → Prop} {l : List α} {a : α} (h : ∀ z ∈ l, P z) (ha : P a) : ∀ z ∈ l ++ [a], P z := fun z hz => by
  rcases List.mem_append.mp hz with q | q
  · exact h z q
  · rw [List.mem_singleton.mp q]; exact ha
abbrev s__law_names : Stmt := (topS 23)
abbrev N_sc__law_names : List Str := ["_law_pen_here", "_law_many", "_law_letters", "_law_stem", "_law_k", "_law_front", "_law_found", "_law_step", "_law_own", "_law_tail"]
abbrev P__law_names : List Str := ["_law_pen_here", "_law_many"]
theorem sc__law_names : FnScope N_sc__law_names P__law_names (defScope s__law_names) := ⟨rfl, rfl, rfl, by decide +kernel, rfl, by decide +kernel, by decide +kernel⟩
def spNames : Sp := fun vs H Q _ => ∃ (p l : Addr) (m n : Nat), vs = [.ref p, .int (m : Int)] ∧ Pen H p l n ∧ n + 12 * (m + 9) ≤ 2 ^ 39 ∧ m ≤ 1000 ∧
  ∀ (F : Addr) (ss : List Str) (H' : Hp), H' F = some (.lst (ss.map V.str)) → ss.length = m → (∀ z ∈ ss, NameOk z) → H F = none → Pen H' p l (n + 12 * (m + 9)) → Keep p H H' → Q (.ref F) H'
section
variable {P : Program} {w : World} {K : PySem.W.Frag} {mg : Str → Option Value} {base : Heap}
set_option maxHeartbeats 16000000 in
theorem ok_names (D : Dfn K mg "_law_names" s__law_names P__law_names) (B : Blt mg) (CD : Cal P w K mg base 12 "_law_draw" P__law_draw spDr) (CP : Cal P w K mg base 13 "_law_pick" P__law_pick (spPickL K)) (CS : Cal P w K mg base 13 "_law_pick" P__law_pick spPickS) :
    Cal P w K mg base 14 "_law_names" P__law_names spNames := by
  refine D.cal sc__law_names (fun vs H Q E h => ?_) fun f cdv A outer s H vs Q E hr h => ?_
  · obtain ⟨p, l, m, n, rfl, _⟩ := h
    rfl
  obtain ⟨p, l, m, n, rfl, Pn, hn, hm, q⟩ := h
  obtain ⟨kvs, hp⟩ := Pn.dk
  have small : ∀ x : Nat, x ≤ 1000 → x ≤ sizeLine := fun x h => Nat.le_trans h (by decide)
  refine ⟨_, (pss_cons (ps_set (i := 2) sc__law_names.nd rfl (Or.inr rfl) pe_str) (C8.pss_cut (ps_set (i := 3) sc__law_names.nd rfl (Or.inl rfl) (pe_join pe_str (pe_lc (own := [("_law_k", 4)]) (g := gName 4) (tt := tYes) rfl sc__law_names.nd (pi_range1 rfl B.range_ (pa_cons (pe_cal CD (hr.mono (by decide)) (pa_cons (pv 0) (pa_cons pe_int pa_nil))) pa_nil)) (blkOk_by (N := N_sc__law_names) (sc := defScope s__law_names) (by decide +kernel)) (fun _ _ _ _ _ => pg_name (i := 4) sc__law_names.nd rfl (Or.inl rfl)) (fun _ _ _ _ _ => pts_nil) (fun _ _ _ _ _ => (pe_cal CS (hr.mono (by decide)) (pa_cons (pv 0) (pa_cons (pv 2) pa_nil))))))) (pss_cons (ps_par (i := 5) (j := 6) rfl sc__law_names.nd rfl rfl (by decide) rfl rfl (pa_cons (pe_cal CD (hr.mono (by decide)) (pa_cons (pv 0) (pa_cons pe_int pa_nil))) (pa_cons (pe_lst pa_nil) pa_nil)) (by rfl)) (pss_cons (ps_set (i := 7) sc__law_names.nd rfl (Or.inl rfl) (pe_cal CP (hr.mono (by decide)) (pa_cons (pv 0) (pa_cons (pe_lst (pa_cons pe_int (pa_cons pe_int (pa_cons pe_int (pa_cons pe_int (pa_cons pe_int (pa_cons pe_int (pa_cons pe_int (pa_cons pe_int (pa_cons pe_int (pa_cons pe_int (pa_cons pe_int (pa_cons pe_int pa_nil))))))))))))) pa_nil)))) (pss_cons (ps_for PassesOwn.never rfl (pi_range1 rfl B.range_ (pa_cons (pv 1) pa_nil)) (pg_name (i := 4) sc__law_names.nd rfl (Or.inl rfl)) (pss_cons (ps_set (i := 8) sc__law_names.nd rfl (Or.inl rfl) (pe_ix ix_str (pv 2) (pe_op op_mod (pe_callTy call_int1 rfl B.int_ (by decide +kernel) (pa_cons (pe_op op_add (pv 5) (pe_op op_mul (pv 7) (pv 4))) pa_nil)) pe_int) (fun _ _ => rfl))) (C8.pss_cut (ps_set (i := 9) sc__law_names.nd rfl (Or.inl rfl) (pe_ifExp (pt_cmpR op_lt (pv 4) pe_int (nomark _)) pe_str (pe_cal CS (hr.mono (by decide)) (pa_cons (pv 0) (pa_cons (pv 2) pa_nil))))) (pss_one (ps_expr (pe_bm PySem.F.plainAttrs_list PySem.F.slot_list_append PySem.F.type_list_append mt_append (pv 6) (pa_cons (pe_op op_add_str (pe_ix ix_list (pe_lst (pa_cons (pe_op op_add_str (pv 3) (pv 8)) (pa_cons (pe_op op_add_str (pv 8) (pv 3)) pa_nil))) (pe_op op_mod (pe_callB call_len_str rfl B.len_ PySem.boot_len (pa_cons (pv 3) pa_nil)) pe_int) (fun _ _ => rfl)) (pv 9)) pa_nil))))))) (pss_one (ps_ret (pv 6)))))))), ?_⟩
  refine ⟨fun σ' H' => ∃ stem : Str, σ' = [some (.ref p), some (.int (m : Int)), some (.str lett), some (.str stem), none, none, none, none, none, none] ∧ stem.length ≤ 6 ∧ LetOk stem ∧ Pen H' p l (n + 84) ∧ Keep p H H', ?_, ?_⟩
  · refine ⟨⟨_, rfl⟩, _, rfl, p, l, 7, n, rfl, Pn, by omega, by omega, by omega, fun v0 H1 a0 b0 P1 k1 => ?_⟩
    refine ⟨v0, rfl, by omega, by omega, fun D hD => lc_range (lo := 0) (n := v0.toNat) (fun i H' => ∃ ss : List Str, H' D = some (.lst (ss.map V.str)) ∧ ss.length = i ∧ (∀ z ∈ ss, z.length = 1 ∧ LetOk z) ∧ Pen H' p l (n + 12 + 12 * i) ∧ Keep p H H')
      ⟨[], upd_same, rfl, fun z hz => absurd hz List.not_mem_nil, (P1.new hD).le (by omega), k1.new hD⟩ ?_ ?_⟩
    · rintro i H' hi ⟨ss, hs, hl, ho, Pi, ki⟩
      refine ⟨rfl, ?_⟩
      refine ⟨_, rfl, _, rfl, p, l, lett, _, rfl, Pi, by omega, by rw [lett_len]; decide, by rw [lett_len]; decide, fun c H3 hc P3 k3 => ?_⟩
      have nD := P1.ne hD
      have nDl := P1.nl hD
      have hD0 : H D = none := k1.none_of hD nD
      refine ⟨ss.map V.str, k3 _ _ hs nD, by rw [List.length_map]; exact small1000 (by omega), ss ++ [⟨#[c]⟩], by rw [upd_same, List.map_append]; rfl, by rw [List.length_append, hl]; rfl, mem_snoc ho ⟨rfl, LetOk.one (lett_ok c hc)⟩, (P3.le (by omega)).upd nD nDl, (ki.trans k3).at_new hD0⟩
    · rintro H' ⟨ss, hs, hl, ho, Pi, ki⟩
      refine ⟨_, D, ss, rfl, rfl, .inl (SqL.of hs), ?_, ?_⟩
      · rw [sum_ones ss ho]
        show ss.length + ss.length * 0 ≤ _
        omega
      · obtain ⟨j1, j2⟩ := join_ok ss ho
        exact ⟨_, rfl, by show (Txt.join Str.empty ss).length ≤ 6; omega, j2, Pi.le (by omega), ki⟩
  rintro σ' H1 ⟨stem, rfl, st1, st2, P1, k1⟩
  refine ⟨_, rfl, p, l, 26, _, rfl, P1, by omega, by omega, by omega, fun fr H2 f0 f1 P2 k2 => ?_⟩
  refine ⟨(by show 0 ≤ sizeLine; decide), fun F hF => ?_⟩
  have nF := P2.ne hF
  have nFl := P2.nl hF
  have hF0 : H F = none := (k1.trans k2).none_of hF nF
  refine ⟨_, _, rfl, ?_⟩
  refine ⟨_, rfl, (by show 12 ≤ sizeLine; decide), fun t ht => ?_⟩
  refine ⟨p, l, t, _, _, rfl, (P2.new hF).new ht, by omega, SqL.of upd_same, by show 1 ≤ 12; decide, by show 12 ≤ 1000000; decide, fun st H4 hst P4 k4 => ?_⟩
  obtain ⟨sp, hsp, rfl⟩ : ∃ i : Int, i ∈ ([1, 3, 5, 7, 9, 11, 15, 17, 19, 21, 23, 25] : List Int) ∧ V.int i = st := List.mem_map.mp (show st ∈ ([1, 3, 5, 7, 9, 11, 15, 17, 19, 21, 23, 25] : List Int).map V.int from hst)
  have sp1 : 1 ≤ sp ∧ sp ≤ 25 := (by decide : ∀ i ∈ ([1, 3, 5, 7, 9, 11, 15, 17, 19, 21, 23, 25] : List Int), 1 ≤ i ∧ i ≤ 25) sp hsp
  have hF4 : H4 F = some (.lst []) := k4 _ _ (same_new ht (.lst (([1, 3, 5, 7, 9, 11, 15, 17, 19, 21, 23, 25] : List Int).map V.int)) _ _ upd_same) nF
  have k5 : Keep p H H4 := (((k1.trans k2).new hF).new ht).trans k4
  refine ⟨_, rfl, (m : Int), rfl, by omega, by omega, for_range (lo := 0) (n := (m : Int).toNat) (fun i σ' H' => ∃ (ss : List Str) (k own tail : Option V), σ' = [some (.ref p), some (.int (m : Int)), some (.str lett), some (.str stem), k, some (.int fr), some (.ref F), some (.int sp), own, tail] ∧
      H' F = some (.lst (ss.map V.str)) ∧ ss.length = i ∧ i ≤ m ∧ (∀ z ∈ ss, NameOk z) ∧ Pen H' p l (n + 108 + 12 * i) ∧ Keep p H H') ⟨[], none, none, none, rfl, hF4, rfl, Nat.zero_le _, fun z hz => absurd hz List.not_mem_nil, P4.le (by omega), k5⟩ ?_ ?_⟩
  · rintro i σ' H' hi ⟨ss, k, own, tail, rfl, hFi, hl, him, ho, Pi, ki⟩
    have him : i < m := by omega
    obtain ⟨c, hc, hcm⟩ := at_some (xs := lett.cps.toList) (em0 (fr + sp * (0 + (i : Int))) (m := 26) (by decide)) (by rw [lett_tl]; exact em1 _ (by decide))
    refine ⟨_, rfl, _, rfl, _, rfl, _, rfl, _, _, rfl, rfl, .inl (by omega), _, _, rfl, rfl, .inl ⟨_, rfl, _, _, rfl, rfl, by omega, lett, _, c, rfl, rfl, by rw [lett_len]; decide, hc, ?_⟩⟩
    have hcl := lett_ok c hcm
    refine ⟨fun σ' H'' => ∃ t : Str, σ' = [some (.ref p), some (.int (m : Int)), some (.str lett), some (.str stem), some (.int (0 + (i : Int))), some (.int fr), some (.ref F), some (.int sp), some (.str ⟨#[c]⟩), some (.str t)] ∧ t.length ≤ 1 ∧ LetOk t ∧ Pen H'' p l (n + 108 + 12 * i + 12) ∧ Keep p H' H'', ?_, ?_⟩
    · refine ⟨_, rfl, _, _, rfl, rfl, _, rfl, ?_⟩
      refine ite2 (fun _ => ?_) (fun _ => ?_)
      · exact ⟨Str.empty, rfl, by decide, LetOk.empty, Pi.le (by omega), Keep.refl⟩
      · refine ⟨_, rfl, _, rfl, p, l, lett, _, rfl, Pi, by omega, by rw [lett_len]; decide, by rw [lett_len]; decide, fun c2 H3 hc2 P3 k3 => ?_⟩
        exact ⟨⟨#[c2]⟩, rfl, Nat.le_refl 1, LetOk.one (lett_ok c2 hc2), P3, k3⟩
    rintro σ' H3 ⟨t, rfl, t1, t2, P3, k3⟩
    have hF3 := k3 _ _ hFi nF
    have cl : (⟨#[c]⟩ : Str).length = 1 := rfl
    refine ⟨_, rfl, .inl ⟨rfl, _, SqL.of hF3⟩, ?_⟩
    refine ⟨_, rfl, _, rfl, _, _, rfl, rfl, small _ (by rw [cl]; omega), _, rfl, _, rfl, _, _, rfl, rfl, small _ (by rw [cl]; omega), (by show 2 ≤ sizeLine; decide), fun u hu => ?_⟩
    obtain ⟨v, hv, hvm⟩ := at_some (xs := [V.str (stem ++ ⟨#[c]⟩), V.str (⟨#[c]⟩ ++ stem)]) (em0 (stem.length : Int) (m := 2) (by decide)) (em1 (stem.length : Int) (m := 2) (by decide))
    obtain ⟨g, rfl, g1, g2⟩ : ∃ g : Str, v = .str g ∧ g.length = stem.length + 1 ∧ LetOk g := by
      simp only [List.mem_cons, List.not_mem_nil, or_false] at hvm
      rcases hvm with rfl | rfl
      · exact ⟨_, rfl, by rw [Str.length_append, cl], st2.app (LetOk.one hcl)⟩
      · exact ⟨_, rfl, by rw [Str.length_append, cl]; omega, (LetOk.one hcl).app st2⟩
    refine ⟨_, rfl, _, rfl, small _ (by omega), _, _, rfl, rfl, by omega, u, _, _, _, rfl, rfl, SqL.of upd_same, hv, _, rfl, _, _, rfl, rfl, small _ (by omega), ?_⟩
    have hF5 := same_new hu (.lst [V.str (stem ++ ⟨#[c]⟩), V.str (⟨#[c]⟩ ++ stem)]) _ _ hF3
    refine ⟨F, _, _, rfl, rfl, hF5, by rw [List.length_map]; exact small1000 (by omega), ?_⟩
    refine ⟨ss ++ [g ++ t], _, _, _, rfl, by rw [upd_same, List.map_append]; rfl, by rw [List.length_append, hl]; rfl, by omega, mem_snoc ho ⟨by rw [Str.length_append]; omega, by rw [Str.length_append]; omega, g2.app t2⟩, ((P3.new hu).le (by omega)).upd nF nFl, ((ki.trans k3).new hu).at_new hF0⟩
  · rintro σ' H' ⟨ss, k, own, tail, rfl, hFi, hl, him, ho, Pi, ki⟩
    refine ⟨_, rfl, ?_⟩
    exact q F ss H' hFi (by omega) ho hF0 (Pi.le (by omega)) ki
end
end Ur
/-! K4: the painter: is_integer, is_between, is_name, __init__, its fields. -/
namespace Ur
open PySem PySem.Spec PyProof.Rows L2
abbrev s_is_integer : Stmt := (topS 6)
abbrev N_sc_is_integer : List Str := ["value"]
abbrev P_is_integer : List Str := ["value"]
theorem sc_is_integer : FnScope N_sc_is_integer P_is_integer (defScope s_is_integer) := ⟨rfl, rfl, rfl, by decide +kernel, rfl, by decide +kernel, by decide +kernel⟩
def spIsInt : Sp := fun vs H Q _ => ∃ (i : Int), vs = [.int i] ∧ Q (.bl true) H
abbrev s_is_between : Stmt := (topS 7)
abbrev N_sc_is_between : List Str := ["value", "least", "most"]
abbrev P_is_between : List Str := ["value", "least", "most"]
theorem sc_is_between : FnScope N_sc_is_between P_is_between (defScope s_is_between) := ⟨rfl, rfl, rfl, by decide +kernel, rfl, by decide +kernel, by decide +kernel⟩
def spBetween : Sp := fun vs H Q _ => ∃ (v a b : Int), vs = [.int v, .int a, .int b] ∧ Q (.bl (decide (a ≤ v ∧ v ≤ b))) H
section
variable {P : Program} {w : World} {K : PySem.W.Frag} {mg : Str → Option Value} {base : Heap}
theorem ok_is_integer (D : Dfn K mg "is_integer" s_is_integer P_is_integer) (B : Blt mg) : Cal P w K mg base 1 "is_integer" P_is_integer spIsInt := by
  refine D.cal sc_is_integer (fun vs H Q E h => ?_) fun f cdv A outer s H vs Q E hr h => ?_
  · obtain ⟨i, rfl, _⟩ := h
    rfl
  obtain ⟨i, rfl, q⟩ := h
  refine ⟨_, (pss_one (ps_ret (pe_and (pe_callB call_isi rfl B.isinstance_ (by decide +kernel) (pa_cons (pv 0) (pa_cons (pe_bltn (v := .ty "int") rfl B.int_ (by decide +kernel) rfl) pa_nil))) (pe_one (pe_not (pe_callB call_isi rfl B.isinstance_ (by decide +kernel) (pa_cons (pv 0) (pa_cons (pe_bltn (v := .ty "bool") rfl B.bool_ (by decide +kernel) rfl) pa_nil)))))))), ?_⟩
  refine ⟨_, rfl, _, _, _, _, true, rfl, ClsV.ty "int", (TyX.base (TyOf.int i)), kit_ty (by decide +kernel), true, rfl, ?_⟩
  exact ⟨_, rfl, _, _, _, _, false, rfl, ClsV.ty "bool", (TyX.base (TyOf.int i)), kit_ty (by decide +kernel), false, rfl, q⟩
theorem ok_is_between (D : Dfn K mg "is_between" s_is_between P_is_between) (CI : Cal P w K mg base 1 "is_integer" P_is_integer spIsInt) : Cal P w K mg base 2 "is_between" P_is_between spBetween := by
  refine D.cal sc_is_between (fun vs H Q E h => ?_) fun f cdv A outer s H vs Q E hr h => ?_
  · obtain ⟨v, a, b, rfl, _⟩ := h
    rfl
  obtain ⟨v, a, b, rfl, q⟩ := h
  refine ⟨_, (pss_one (ps_ret (pe_and (pe_cal CI (hr.mono (by decide)) (pa_cons (pv 0) pa_nil)) (pe_one (pe_chain op_le op_le (pv 1) (pv 0) (pv 2)))))), ?_⟩
  refine ⟨_, rfl, v, rfl, true, rfl, ?_⟩
  refine ⟨_, rfl, _, rfl, _, _, rfl, rfl, _, rfl, ?_⟩
  refine ite2 (fun c => ?_) (fun c => ?_)
  · have c := of_decide_eq_true c
    refine ⟨_, rfl, _, _, rfl, rfl, ?_⟩
    have e : decide (a ≤ v ∧ v ≤ b) = decide (v ≤ b) := by simp [c]
    rw [e] at q
    exact q
  · have c : ¬ a ≤ v := of_decide_eq_false (Bool.eq_false_iff.mpr c)
    have e : decide (a ≤ v ∧ v ≤ b) = false := by simp [c]
    rw [e] at q
    exact q
end
/-! ### names -/
abbrev s_Painter_is_name : Stmt := (inClass (topS 15) 15)
abbrev N_sc_Painter_is_name : List Str := ["value"]
abbrev P_Painter_is_name : List Str := ["value"]
theorem sc_Painter_is_name : FnScope N_sc_Painter_is_name P_Painter_is_name (defScope s_Painter_is_name) := ⟨rfl, rfl, rfl, by decide +kernel, rfl, by decide +kernel, by decide +kernel⟩
theorem uni_alpha : ∀ c : Nat, 97 ≤ c → c ≤ 122 → Unicode.isAlpha c = true ∧ Unicode.isLower c = true ∧ Unicode.isUpper c = false ∧ Unicode.isTitle c = false := by
  intro c h1 h2
  have z : ∀ i : Fin 26, Unicode.isAlpha (97 + i.val) = true ∧ Unicode.isLower (97 + i.val) = true ∧ Unicode.isUpper (97 + i.val) = false ∧ Unicode.isTitle (97 + i.val) = false := by decide +kernel
  have := z ⟨c - 97, by omega⟩
  have e : 97 + (c - 97) = c := by omega
  simpa only [e] using this
theorem arr_all {a : Array Nat} {f : Nat → Bool} (h : ∀ c ∈ a.toList, f c = true) : a.all f = true := by
  rw [← Array.all_toList]
  exact List.all_eq_true.mpr h
theorem arr_none {a : Array Nat} {f : Nat → Bool} (h : ∀ c ∈ a.toList, f c = false) : a.any f = false := by
  rw [← Array.any_toList]
  exact List.any_eq_false.mpr fun x hx => by rw [h x hx]; decide
theorem arr_some {a : Array Nat} {f : Nat → Bool} (h : ∀ c ∈ a.toList, f c = true) (n : 1 ≤ a.toList.length) : a.any f = true := by
  rw [← Array.any_toList]
  cases e : a.toList with
  | nil => rw [e] at n; exact absurd n (by decide)
  | cons x r => rw [List.any_cons, h x (by rw [e]; exact List.mem_cons_self), Bool.true_or]
theorem name_len {z : Str} (h : NameOk z) : 1 ≤ z.cps.toList.length := by
  have e : z.length = z.cps.size := rfl
  have := h.1
  rw [Array.length_toList]
  omega
theorem name_ascii {z : Str} (h : NameOk z) : Txt.isascii z = true := arr_all fun c hc => decide_eq_true (by have := h.2.2 c hc; omega)
theorem name_alpha {z : Str} (h : NameOk z) : Txt.isalpha z = true := by
  show (decide (z.length > 0) && z.cps.all Unicode.isAlpha) = true
  rw [arr_all fun c hc => (uni_alpha c (h.2.2 c hc).1 (h.2.2 c hc).2).1, decide_eq_true (by have := h.1; omega)]
  rfl
theorem name_lower {z : Str} (h : NameOk z) : Txt.islower z = true := by
  show (z.cps.any Unicode.isLower && !(z.cps.any fun c => Unicode.isUpper c || Unicode.isTitle c)) = true
  rw [arr_some (fun c hc => (uni_alpha c (h.2.2 c hc).1 (h.2.2 c hc).2).2.1) (name_len h), arr_none fun c hc => by
    obtain ⟨_, _, a, b⟩ := uni_alpha c (h.2.2 c hc).1 (h.2.2 c hc).2
    rw [a, b]
    rfl]
  rfl
def spIsName : Sp := fun vs H Q _ => ∃ z : Str, vs = [.str z] ∧ NameOk z ∧ Q (.bl true) H
section
variable {P : Program} {w : World} {K : PySem.W.Frag} {mg : Str → Option Value} {base : Heap}
theorem ok_is_name {f : Addr} {fd : FuncData} (F : Fun K "is_name" "Painter.is_name" s_Painter_is_name f fd) (B : Blt mg) : FnOk P w K mg base CX0 1 f fd P_Painter_is_name spIsName := by
  refine F.ok sc_Painter_is_name (fun vs H Q E h => ?_) (fun cdv A outer s H vs Q E hr h => ?_)
  · obtain ⟨z, rfl, _⟩ := h
    rfl
  obtain ⟨z, rfl, ok, q⟩ := h
  have hl : z.length ≤ sizeLine := Nat.le_trans ok.2.1 (by decide)
  refine ⟨_, (pss_cons (ps_if (PW.pt (pw_or (pt_not (pt_val (pe_callB call_isi rfl B.isinstance_ (by decide +kernel) (pa_cons (pv 0) (pa_cons (pe_bltn (v := .ty "str") rfl B.str_ (by decide +kernel) rfl) pa_nil))))) (pw_or1 (pt_cmpR op_gt (pe_callB call_len_str rfl B.len_ PySem.boot_len (pa_cons (pv 0) pa_nil)) pe_int (nomark _))))) (pss_one (ps_ret pe_bl)) pss_nil) (pss_one (ps_ret (pe_and (pe_m0 PySem.F.slot_str_isascii PySem.F.type_str_isascii mt_isascii (pv 0)) (pe_and (pe_m0 PySem.F.slot_str_isalpha PySem.F.type_str_isalpha mt_isalpha (pv 0)) (pe_one (pe_m0 PySem.F.slot_str_islower PySem.F.type_str_islower mt_islower (pv 0)))))))), ?_⟩
  refine ⟨_, rfl, _, _, _, _, true, rfl, ClsV.ty "str", (TyX.base (TyOf.str z)), kit_ty (by decide +kernel), true, rfl, ?_⟩
  refine iteF ?_
  refine ⟨_, rfl, _, rfl, hl, _, _, rfl, rfl, _, rfl, ?_⟩
  have c : decide ((8 : Int) < (z.length : Int)) = false := decide_eq_false (by have := ok.2.1; omega)
  show (if decide ((8 : Int) < (z.length : Int)) = true then _ else _)
  rw [c]
  refine iteF ?_
  refine ⟨_, rfl, ⟨_, rfl⟩, z, rfl, rfl, trivial, true, by rw [name_ascii ok], ?_⟩
  refine ⟨_, rfl, ⟨_, rfl⟩, z, rfl, rfl, trivial, true, by rw [name_alpha ok], ?_⟩
  refine ⟨_, rfl, ⟨_, rfl⟩, z, rfl, rfl, trivial, ?_⟩
  rw [name_lower ok]
  exact q
end
/-! ### the class -/
def pfs (nm : Str) (d p s : Int) : List (Str × V) := [("_name", .str nm), ("_day", .int d), ("_post", .int p), ("_stride", .int s)]
theorem pfs_mk (nm : Str) (d p s : Int) : putF "_stride" (.int s) (putF "_post" (.int p) (putF "_day" (.int d) (putF "_name" (.str nm) []))) = pfs nm d p s := rfl
theorem pfs_name (nm : Str) (d p s : Int) : (pfs nm d p s).lookup ("_name" : Str) = some (V.str nm) := rfl
theorem pfs_day (nm : Str) (d p s : Int) : (pfs nm d p s).lookup ("_day" : Str) = some (V.int d) := rfl
theorem pfs_post (nm : Str) (d p s : Int) : (pfs nm d p s).lookup ("_post" : Str) = some (V.int p) := rfl
theorem pfs_stride (nm : Str) (d p s : Int) : (pfs nm d p s).lookup ("_stride" : Str) = some (V.int s) := rfl
structure PTxt (K : PySem.W.Frag) (mg : Str → Option Value) (C : Addr) : Prop where
  cl : Cls K C
  nN : NoAttr K C "_name"
  nD : NoAttr K C "_day"
  nP : NoAttr K C "_post"
  nS : NoAttr K C "_stride"
  mgP : mg "Painter" = some (.ref C)
  rd : ClX.CRead K C (.type "type")
  cD : ∃ u, ClX.CVal K C (.type "type") "MAX_DAY" (.int (10 ^ 30)) u
  cP : ∃ u, ClX.CVal K C (.type "type") "MAX_POST" (.int (10 ^ 30)) u
  cS : ∃ u, ClX.CVal K C (.type "type") "MAX_STRIDE" (.int (10 ^ 18)) u
/-- a painter's parts are as the document asks -/
structure PartOk (nm : Str) (d p s : Int) : Prop where
  nm : NameOk nm
  d0 : 0 ≤ d
  d1 : d ≤ 10 ^ 30
  p0 : -(10 ^ 30) ≤ p
  p1 : p ≤ 10 ^ 30
  s0 : -(10 ^ 18) ≤ s
  s1 : s ≤ 10 ^ 18
  sn : s ≠ 0
abbrev s_Painter_init : Stmt := (inClass (topS 15) 3)
abbrev N_sc_Painter_init : List Str := ["self", "name", "day", "post", "stride"]
abbrev P_Painter_init : List Str := ["self", "name", "day", "post", "stride"]
theorem sc_Painter_init : FnScope N_sc_Painter_init P_Painter_init (defScope s_Painter_init) := ⟨rfl, rfl, rfl, by decide +kernel, rfl, by decide +kernel, by decide +kernel⟩
def spInit (C : Addr) : Sp := fun vs H Q _ => ∃ (x dx : Addr) (nm : Str) (d p s : Int), vs = [.ref x, .str nm, .int d, .int p, .int s] ∧ H x = some (.ins C dx []) ∧ PartOk nm d p s ∧
  ∀ H', H' x = some (.ins C dx (pfs nm d p s)) → (∀ b o, H b = some o → b ≠ x → H' b = some o) → Q .non H'
section
variable {P : Program} {w : World} {K : PySem.W.Frag} {mg : Str → Option Value} {base : Heap}
set_option maxHeartbeats 16000000 in
theorem ok_init {C pN f fN : Addr} {fd fdN : FuncData} (F : Fun K "__init__" "Painter.__init__" s_Painter_init f fd) (T : PTxt K mg C) (smP : SMet K C (.type "type") "is_name" pN fN) (FN : FnOk P w K mg base CX0 1 fN fdN P_Painter_is_name spIsName) (bN : Binds K fdN P_Painter_is_name [])
    (CB : Cal P w K mg base 2 "is_between" P_is_between spBetween) : FnOk P w K mg base CX0 3 f fd P_Painter_init (spInit C) := by
  refine F.ok sc_Painter_init (fun vs H Q E h => ?_) (fun cdv A outer s H vs Q E hr h => ?_)
  · obtain ⟨x, dx, nm, d, p, st, rfl, _⟩ := h
    rfl
  obtain ⟨x, dx, nm, d, p, st, rfl, hx, ok, q⟩ := h
  obtain ⟨uD, cD⟩ := T.cD
  obtain ⟨uP, cP⟩ := T.cP
  obtain ⟨uS, cS⟩ := T.cS
  refine ⟨_, (pss_cons (ps_if (pt_not (pt_val (pe_smeth (pe_glob (v := .ref C) rfl T.mgP rfl) T.rd smP FN bN (hr.mono (by decide)) pass0 (pa_cons (pv 1) pa_nil)))) (pss_one ps_never) pss_nil) (pss_cons (ps_if (pt_not (pt_val (pe_cal CB (hr.mono (by decide)) (pa_cons (pv 2) (pa_cons pe_int (pa_cons (ClX.pe_cval (pe_glob (v := .ref C) rfl T.mgP rfl)) pa_nil)))))) (pss_one ps_never) pss_nil) (pss_cons (ps_if (pt_not (pt_val (pe_cal CB (hr.mono (by decide)) (pa_cons (pv 3) (pa_cons (pe_un un_neg (ClX.pe_cval (pe_glob (v := .ref C) rfl T.mgP rfl))) (pa_cons (ClX.pe_cval (pe_glob (v := .ref C) rfl T.mgP rfl)) pa_nil)))))) (pss_one ps_never) pss_nil) (pss_cons (ps_if (PW.pt (pw_or (pt_not (pt_val (pe_cal CB (hr.mono (by decide)) (pa_cons (pv 4) (pa_cons (pe_un un_neg (ClX.pe_cval (pe_glob (v := .ref C) rfl T.mgP rfl))) (pa_cons (ClX.pe_cval (pe_glob (v := .ref C) rfl T.mgP rfl)) pa_nil)))))) (pw_or1 (pt_cmpR op_eq (pv 4) pe_int (nomark _))))) (pss_one ps_never) pss_nil) (pss_cons (ps_fld (pv 0) (pv 1) rfl) (pss_cons (ps_fld (pv 0) (pv 2) rfl) (pss_cons (ps_fld (pv 0) (pv 3) rfl) (pss_one (ps_fld (pv 0) (pv 4) rfl))))))))), ?_⟩
  refine ⟨rfl, _, rfl, nm, rfl, ok.nm, true, rfl, iteF ?_⟩
  refine ⟨_, rfl, C, _, _, _, rfl, T.rd, cD, d, _, _, rfl, _, rfl, iteNS ⟨ok.d0, ok.d1⟩ ?_⟩
  refine ⟨_, rfl, C, _, _, _, rfl, T.rd, cP, _, rfl, C, _, _, _, rfl, T.rd, cP, p, _, _, rfl, _, rfl, iteNS ⟨ok.p0, ok.p1⟩ ?_⟩
  refine ⟨_, rfl, C, _, _, _, rfl, T.rd, cS, _, rfl, C, _, _, _, rfl, T.rd, cS, st, _, _, rfl, _, rfl, iteNS ⟨ok.s0, ok.s1⟩ ?_⟩
  have c : decide (V.int st = V.int 0) = false := decide_eq_false fun e => ok.sn (V.int.inj e)
  refine ⟨_, rfl, rfl, _, rfl, ?_⟩
  show (if decide (V.int st = V.int 0) = true then _ else _)
  rw [c]
  refine iteF ?_
  refine ⟨_, rfl, _, rfl, x, C, dx, [], rfl, hx, T.cl, T.nN, (by show 0 < 1000; decide), ?_⟩
  refine ⟨_, rfl, _, rfl, x, C, dx, _, rfl, upd_same, T.cl, T.nD, (by show 1 < 1000; decide), ?_⟩
  refine ⟨_, rfl, _, rfl, x, C, dx, _, rfl, upd_same, T.cl, T.nP, (by show 2 < 1000; decide), ?_⟩
  refine ⟨_, rfl, _, rfl, x, C, dx, _, rfl, upd_same, T.cl, T.nS, (by show 3 < 1000; decide), ?_⟩
  refine q _ upd_same fun b o e hb => ?_
  rw [upd_ne hb, upd_ne hb, upd_ne hb, upd_ne hb]
  exact e
/-- a painter stands at a -/
def PnAt (C : Addr) (H : Hp) (a : Addr) (nm : Str) (d p s : Int) : Prop := ∃ dx, H a = some (.ins C dx (pfs nm d p s))
/-- what is made and what it promises: Painter(..) -/
def MkP (P : Program) (w : World) (K : PySem.W.Frag) (mg : Str → Option Value) (base : Heap) (C : Addr) : Prop := ∃ f fd, Mk K C f ∧ FnOk P w K mg base CX0 3 f fd P_Painter_init (spInit C) ∧ Binds K fd P_Painter_init []
/-- a property that hands out the attribute -/
def PropC (P : Program) (w : World) (K : PySem.W.Frag) (mg : Str → Option Value) (base : Heap) (C : Addr) (f a : Str) : Prop := ∃ p g fd, PropOf K C f p g ∧ FnOk P w K mg base CX0 1 g fd ["self"] (getSp C a) ∧ Binds K fd ["self"] []
end
section
variable {X : Cx} {C : Addr} {e : Expr} {es : List Expr} {pos p : Pos} {ta : TE} {t : TA} {f a : Str}
theorem pe_prC (he : PE X e ta) (c : Cls X.K C) (hp : PropC X.prog X.w X.K X.mg X.base C f a) (hr : Room 2 X.A) (hab : attributeBase e f X.env (eval e X.env) = eval e X.env := by rfl) : PE X (.Attribute e f pos) (tProp C (getSp C a) [] E0 ta) := by
  obtain ⟨p, g, fd, h1, F, b⟩ := hp
  exact pe_prop he c h1 F hr b .nil pass0 hab
theorem pe_mkP (hp : MkP X.prog X.w X.K X.mg X.base C) (T : PTxt X.K X.mg C) (hr : Room 4 X.A) (ha : PA X (e :: es) t) (hg : Gl X "Painter" := by rfl)
    (he : starEach (e :: es) X.env = (false, eval e X.env) :: starEach es X.env := by rfl) (hpl : (backTo pos (starEach es X.env)).any (·.1) = false := by rfl) : PE X (.Call (.Name "Painter" p) (e :: es) [] pos) (tMake C (spInit C) [] E0 t) := by
  obtain ⟨f, fd, M, F, b⟩ := hp
  exact pe_make M F hr hg T.mgP b .nil pass0 ha (he := he) (hpl := hpl)
end
def AnyR (d p s : Int) : Prop := 0 ≤ d ∧ d ≤ 10 ^ 30 ∧ -(10 ^ 30) ≤ p ∧ p ≤ 10 ^ 30 ∧ -(10 ^ 18) ≤ s ∧ s ≤ 10 ^ 18 ∧ s ≠ 0
theorem AnyR.ok {nm : Str} {d p s : Int} (h : AnyR d p s) (z : NameOk nm) : PartOk nm d p s := by unfold AnyR at h; exact ⟨z, by omega, by omega, by omega, by omega, by omega, by omega, by omega⟩
end Ur
/-! K4B: picks of whole numbers, rows. -/
namespace Ur
open PySem PySem.Spec PyProof.Rows L2
/-- a pick out of whole numbers -/
def spPickI (K : PySem.W.Frag) : Sp := fun vs H Q _ => ∃ (p l a : Addr) (ns : List Int) (n : Nat), vs = [.ref p, .ref a] ∧ Pen H p l n ∧ n ≤ 2 ^ 39 ∧ SqL K H a (ns.map V.int) ∧ 1 ≤ ns.length ∧ ns.length ≤ 1000000 ∧
  ∀ i H', i ∈ ns → Pen H' p l (n + 12) → Keep p H H' → Q (.int i) H'
/-- one painter's row: a tuple of four -/
def Row (H : Hp) (t : Addr) (R : Int → Int → Int → Prop) : Prop := ∃ nm d p s, H t = some (.tup [.str nm, .int d, .int p, .int s]) ∧ NameOk nm ∧ R d p s
theorem Row.same {H H' : Hp} {t : Addr} {R : Int → Int → Int → Prop} (r : Row H t R) (h : Same H H') : Row H' t R := let ⟨nm, d, p, s, e, z⟩ := r; ⟨nm, d, p, s, h _ _ e, z⟩
theorem Row.keep {H H' : Hp} {t p : Addr} {R : Int → Int → Int → Prop} {kvs : List (Key × V)} (r : Row H t R) (k : Keep p H H') (hp : H p = some (.dK kvs)) : Row H' t R :=
  let ⟨nm, d, q, s, e, z⟩ := r; ⟨nm, d, q, s, k _ _ e (ne_of e hp (by intro z; cases z)), z⟩
theorem Row.updL {H : Hp} {t F : Addr} {R : Int → Int → Int → Prop} {xs ys : List V} (r : Row H t R) (hF : H F = some (.lst xs)) : Row (upd H F (.lst ys)) t R :=
  let ⟨nm, d, q, s, e, z⟩ := r; ⟨nm, d, q, s, by rw [upd_ne (ne_of e hF (by intro z; cases z))]; exact e, z⟩
theorem cut_mem {xs : List V} {lo hi : Option Int} {v : V} (h : v ∈ cutV xs lo hi) : v ∈ xs := List.mem_of_mem_drop (List.mem_of_mem_take h)
theorem cut_last {xs : List V} (h : 1 ≤ xs.length) : (cutV xs none (some (-1))).length = xs.length - 1 := by
  unfold cutV
  rw [HT.sIx_none, List.drop_zero, Nat.sub_zero, List.length_take]
  show min (if (-1 : Int) < 0 then (-1 + (xs.length : Int)).toNat else min (-1 : Int).toNat xs.length) xs.length = _
  rw [if_pos (by decide)]
  omega
theorem ix_last {n : Nat} (h : 1 ≤ n) : ixN n (-1) = some (n - 1) := by
  unfold ixN
  rw [if_neg (by decide), if_pos (by omega)]
  congr 1
  omega
theorem mem_set_or {α : Type} : ∀ {l : List α} {j : Nat} {a x : α}, x ∈ l.set j a → x = a ∨ x ∈ l := fun h => (List.mem_or_eq_of_mem_set h).elim Or.inr Or.inl
section
variable {P : Program} {w : World} {K : PySem.W.Frag} {mg : Str → Option Value} {base : Heap}
theorem ok_pickI (C : Cal P w K mg base 13 "_law_pick" P__law_pick (spPickL K)) : Cal P w K mg base 13 "_law_pick" P__law_pick (spPickI K) := by
  obtain ⟨f, fd, F, r⟩ := C
  refine ⟨f, fd, F.imp fun vs H Q E h => ?_, r⟩
  obtain ⟨p, l, a, ns, n, rfl, h1, h2, h3, h4, h5, q⟩ := h
  refine ⟨p, l, a, _, n, rfl, h1, h2, h3, by rw [List.length_map]; exact h4, by rw [List.length_map]; exact h5, fun v H' hv P' k' => ?_⟩
  obtain ⟨i, hi, rfl⟩ := List.mem_map.mp hv
  exact q i H' hi P' k'
end
theorem iteDT {c A B : Prop} [Decidable c] (hc : c) (h : A) : if decide c = true then A else B := by
  rw [decide_eq_true hc]
  exact iteT h
theorem iteDF {c A B : Prop} [Decidable c] (hc : ¬ c) (h : B) : if decide c = true then A else B := by
  rw [decide_eq_false hc]
  exact iteF h
theorem iteNN {c A B : Prop} [Decidable c] (hc : ¬ c) (h : A) : if (!decide c) = true then A else B := by
  rw [decide_eq_false hc]
  exact iteT h
theorem at_last {α : Type} (ws : List α) (x : α) : atI (ws ++ [x]) (-1) = some x := by
  unfold atI
  rw [ix_last (by rw [List.length_append]; exact Nat.le_add_left _ _), List.length_append]
  show (ws ++ [x])[ws.length + 1 - 1]? = some x
  rw [Nat.add_sub_cancel, List.getElem?_append_right (Nat.le_refl _), Nat.sub_self]
  rfl
end Ur
/-! K8: a painter's properties and methods: name, day, post, stride, text, post_after. -/
namespace Ur
open PySem PySem.Spec PyProof.Rows L2
/-- a property, a method, with what they promise -/
def PropS (P : Program) (w : World) (K : PySem.W.Frag) (mg : Str → Option Value) (base : Heap) (C : Addr) (f : Str) (k : Nat) (sp : Sp) : Prop := ∃ p g fd, PropOf K C f p g ∧ FnOk P w K mg base CX0 k g fd ["self"] sp ∧ Binds K fd ["self"] []
def MethS (P : Program) (w : World) (K : PySem.W.Frag) (mg : Str → Option Value) (base : Heap) (C : Addr) (m : Str) (k : Nat) (ps : List Str) (sp : Sp) : Prop := ∃ f fd, Meth K C m f ∧ FnOk P w K mg base CX0 k f fd ps sp ∧ Binds K fd ps []
section
variable {X : Cx} {C : Addr} {o e : Expr} {es : List Expr} {pos apos : Pos} {ta : TE} {t : TA} {f m : Str} {k : Nat} {sp : Sp} {ps : List Str} {pl : Sem Bool}
theorem pe_prS (he : PE X e ta) (c : Cls X.K C) (hp : PropS X.prog X.w X.K X.mg X.base C f k sp) (hr : Room (k + 1) X.A) (hab : attributeBase e f X.env (eval e X.env) = eval e X.env := by rfl) : PE X (.Attribute e f pos) (tProp C sp [] E0 ta) := by
  obtain ⟨p, g, fd, h1, F, b⟩ := hp
  exact pe_prop he c h1 F hr b .nil pass0 hab
theorem pe_meS (he : PE X o ta) (c : Cls X.K C) (hm : MethS X.prog X.w X.K X.mg X.base C m k ps sp) (hr : Room k X.A) (ha : PA X (e :: es) t)
    (hst : starEach (e :: es) X.env = (false, eval e X.env) :: starEach es X.env := by rfl) (hpl : (backTo pos (starEach es X.env)).any (·.1) = false := by rfl)
    (ht : eval (.Call (.Attribute o m apos) (e :: es) [] pos) X.env = (do let ov ← eval o X.env; standAt apos.atName; let (f, first) ← holding [ov] (getMethod ov m pl); callWith pos f first (backTo pos (starEach (e :: es) X.env)) (backToKw pos (keywordEach [] X.env))) := by rfl) :
    PE X (.Call (.Attribute o m apos) (e :: es) [] pos) (tMeth C m sp [] E0 ta t) := by
  obtain ⟨f, fd, h1, F, b⟩ := hm
  exact pe_meth he c h1 F hr b .nil pass0 ha hst hpl ht
end
def lineOf (nm : Str) (d p s : Int) : Str := nm ++ (" " ++ ((toString d : Str) ++ (" " ++ ((toString p : Str) ++ (" " ++ (toString s : Str))))))
theorem line_join (nm : Str) (d p s : Int) : Txt.join " " [nm, (toString d : Str), (toString p : Str), (toString s : Str)] = lineOf nm d p s := by
  rw [show Txt.join " " [nm, (toString d : Str), (toString p : Str), (toString s : Str)] = Str.join " " [nm, (toString d : Str), (toString p : Str), (toString s : Str)] from PySem.StrLaws.glued_eq_join _ _]
  show nm ++ " " ++ ((toString d : Str) ++ " " ++ ((toString p : Str) ++ " " ++ (toString s : Str))) = lineOf nm d p s
  unfold lineOf
  simp only [Str.append_assoc]
/-- whole numbers that can be written -/
structure Short (d p s : Int) : Prop where
  d : d.natAbs.log2 < 1920
  p : p.natAbs.log2 < 1920
  s : s.natAbs.log2 < 1920
theorem AnyR.short {d p s : Int} (h : AnyR d p s) : Short d p s := by
  unfold AnyR at h
  exact ⟨log2_of (b := 120) (by omega) (by decide) (by decide), log2_of (b := 120) (by omega) (by decide) (by decide), log2_of (b := 120) (by omega) (by decide) (by decide)⟩
theorem PartOk.short {nm : Str} {d p s : Int} (h : PartOk nm d p s) : Short d p s := by
  have := h.d0; have := h.d1; have := h.p0; have := h.p1; have := h.s0; have := h.s1
  exact ⟨log2_of (b := 120) (by omega) (by decide) (by decide), log2_of (b := 120) (by omega) (by decide) (by decide), log2_of (b := 120) (by omega) (by decide) (by decide)⟩
theorem ilen {i : Int} (h : i.natAbs.log2 < 1920) : (toString i : Str).length ≤ 1921 := PyProof.Rows.int_text_len_1921 h
theorem sameTup {K : PySem.W.Frag} {H H' : Hp} {a : Addr} {xs : List V} (e : Same H H') (h : SqT K H a xs) : SqT K H' a xs := by
  rcases h with (h | ⟨o, h⟩) | h
  · exact .inl (.inl (e _ _ h))
  · exact .inl (.inr ⟨o, e _ _ h⟩)
  · exact .inr h
theorem sameAt {H H' : Hp} {a : Addr} {o : HO} (k : Same H H') (h : H a = none) : Same H (upd H' a o) := fun b u e => by rw [upd_ne (ne_of_none e h)]; exact k b u e
/-! ### the properties -/
abbrev s_Painter_name : Stmt := (inClass (topS 15) 4)
abbrev N_sc_Painter_name : List Str := ["self"]
abbrev P_Painter_name : List Str := ["self"]
theorem sc_Painter_name : FnScope N_sc_Painter_name P_Painter_name (defScope s_Painter_name) := ⟨rfl, rfl, rfl, by decide +kernel, rfl, by decide +kernel, by decide +kernel⟩
section
variable {P : Program} {w : World} {K : PySem.W.Frag} {mg : Str → Option Value} {base : Heap} {C : Addr} {f : Addr} {fd : FuncData}
theorem ok_get_name (F : Fun K "name" "Painter.name" s_Painter_name f fd) (T : PTxt K mg C) : FnOk P w K mg base CX0 1 f fd ["self"] (getSp C "_name") := by
  refine F.ok sc_Painter_name (fun vs H Q E h => ?_) (fun cdv A outer s H vs Q E hr h => ?_)
  · obtain ⟨a, dx, fs, v, rfl, _⟩ := h
    rfl
  obtain ⟨a, dx, fs, v, rfl, ha, hl, q⟩ := h
  exact ⟨_, (pss_one (ps_ret (pe_fld (pv 0) rfl))), _, rfl, a, C, dx, fs, v, rfl, ha, T.cl, T.nN, hl, q⟩
end
abbrev s_Painter_day : Stmt := (inClass (topS 15) 5)
abbrev N_sc_Painter_day : List Str := ["self"]
abbrev P_Painter_day : List Str := ["self"]
theorem sc_Painter_day : FnScope N_sc_Painter_day P_Painter_day (defScope s_Painter_day) := ⟨rfl, rfl, rfl, by decide +kernel, rfl, by decide +kernel, by decide +kernel⟩
section
variable {P : Program} {w : World} {K : PySem.W.Frag} {mg : Str → Option Value} {base : Heap} {C : Addr} {f : Addr} {fd : FuncData}
theorem ok_get_day (F : Fun K "day" "Painter.day" s_Painter_day f fd) (T : PTxt K mg C) : FnOk P w K mg base CX0 1 f fd ["self"] (getSp C "_day") := by
  refine F.ok sc_Painter_day (fun vs H Q E h => ?_) (fun cdv A outer s H vs Q E hr h => ?_)
  · obtain ⟨a, dx, fs, v, rfl, _⟩ := h
    rfl
  obtain ⟨a, dx, fs, v, rfl, ha, hl, q⟩ := h
  exact ⟨_, (pss_one (ps_ret (pe_fld (pv 0) rfl))), _, rfl, a, C, dx, fs, v, rfl, ha, T.cl, T.nD, hl, q⟩
end
abbrev s_Painter_post : Stmt := (inClass (topS 15) 6)
abbrev N_sc_Painter_post : List Str := ["self"]
abbrev P_Painter_post : List Str := ["self"]
theorem sc_Painter_post : FnScope N_sc_Painter_post P_Painter_post (defScope s_Painter_post) := ⟨rfl, rfl, rfl, by decide +kernel, rfl, by decide +kernel, by decide +kernel⟩
section
variable {P : Program} {w : World} {K : PySem.W.Frag} {mg : Str → Option Value} {base : Heap} {C : Addr} {f : Addr} {fd : FuncData}
theorem ok_get_post (F : Fun K "post" "Painter.post" s_Painter_post f fd) (T : PTxt K mg C) : FnOk P w K mg base CX0 1 f fd ["self"] (getSp C "_post") := by
  refine F.ok sc_Painter_post (fun vs H Q E h => ?_) (fun cdv A outer s H vs Q E hr h => ?_)
  · obtain ⟨a, dx, fs, v, rfl, _⟩ := h
    rfl
  obtain ⟨a, dx, fs, v, rfl, ha, hl, q⟩ := h
  exact ⟨_, (pss_one (ps_ret (pe_fld (pv 0) rfl))), _, rfl, a, C, dx, fs, v, rfl, ha, T.cl, T.nP, hl, q⟩
end
abbrev s_Painter_stride : Stmt := (inClass (topS 15) 7)
abbrev N_sc_Painter_stride : List Str := ["self"]
abbrev P_Painter_stride : List Str := ["self"]
theorem sc_Painter_stride : FnScope N_sc_Painter_stride P_Painter_stride (defScope s_Painter_stride) := ⟨rfl, rfl, rfl, by decide +kernel, rfl, by decide +kernel, by decide +kernel⟩
section
variable {P : Program} {w : World} {K : PySem.W.Frag} {mg : Str → Option Value} {base : Heap} {C : Addr} {f : Addr} {fd : FuncData}
theorem ok_get_stride (F : Fun K "stride" "Painter.stride" s_Painter_stride f fd) (T : PTxt K mg C) : FnOk P w K mg base CX0 1 f fd ["self"] (getSp C "_stride") := by
  refine F.ok sc_Painter_stride (fun vs H Q E h => ?_) (fun cdv A outer s H vs Q E hr h => ?_)
  · obtain ⟨a, dx, fs, v, rfl, _⟩ := h
    rfl
  obtain ⟨a, dx, fs, v, rfl, ha, hl, q⟩ := h
  exact ⟨_, (pss_one (ps_ret (pe_fld (pv 0) rfl))), _, rfl, a, C, dx, fs, v, rfl, ha, T.cl, T.nS, hl, q⟩
end
abbrev s_Painter_text : Stmt := (inClass (topS 15) 8)
abbrev N_sc_Painter_text : List Str := ["self"]
abbrev P_Painter_text : List Str := ["self"]
theorem sc_Painter_text : FnScope N_sc_Painter_text P_Painter_text (defScope s_Painter_text) := ⟨rfl, rfl, rfl, by decide +kernel, rfl, by decide +kernel, by decide +kernel⟩
def spText (C : Addr) : Sp := fun vs H Q _ => ∃ (a : Addr) (nm : Str) (d p s : Int), vs = [.ref a] ∧ PnAt C H a nm d p s ∧ nm.length ≤ 1000 ∧ Short d p s ∧ Q (.str (lineOf nm d p s)) H
section
variable {P : Program} {w : World} {K : PySem.W.Frag} {mg : Str → Option Value} {base : Heap} {C : Addr} {f : Addr} {fd : FuncData}
theorem ok_text (F : Fun K "text" "Painter.text" s_Painter_text f fd) (T : PTxt K mg C) : FnOk P w K mg base CX0 1 f fd ["self"] (spText C) := by
  refine F.ok sc_Painter_text (fun vs H Q E h => ?_) (fun cdv A outer s H vs Q E hr h => ?_)
  · obtain ⟨a, nm, d, p, st, rfl, _⟩ := h
    rfl
  obtain ⟨a, nm, d, p, st, rfl, ⟨dx, ha⟩, hn, sh, q⟩ := h
  have a1 := ilen sh.d
  have a2 := ilen sh.p
  have a3 := ilen sh.s
  have big : (20000 : Nat) ≤ sizeLine := by decide
  have sp : (" " : Str).length = 1 := by decide +kernel
  refine ⟨_, (pss_one (ps_ret (pe_joined (.cons (pe_fmt (pe_fld (pv 0) rfl)) (.cons pe_str (.cons (pe_fmt (pe_fld (pv 0) rfl)) (.cons pe_str (.cons (pe_fmt (pe_fld (pv 0) rfl)) (.cons pe_str (.cons (pe_fmt (pe_fld (pv 0) rfl)) .nil)))))))))), ?_⟩
  refine ⟨_, rfl, a, C, dx, _, _, rfl, ha, T.cl, T.nN, pfs_name _ _ _ _, .inl ⟨nm, rfl, by omega, nm, rfl, by rw [Str.empty_append]; omega, ?_⟩⟩
  refine ⟨_, rfl, by rw [Str.empty_append, Str.length_append, sp]; omega, ?_⟩
  refine ⟨_, rfl, a, C, dx, _, _, rfl, ha, T.cl, T.nD, pfs_day _ _ _ _, .inr ⟨d, rfl, sh.d, _, rfl, by simp only [Str.empty_append, Str.length_append, sp]; omega, ?_⟩⟩
  refine ⟨_, rfl, by simp only [Str.empty_append, Str.length_append, sp]; omega, ?_⟩
  refine ⟨_, rfl, a, C, dx, _, _, rfl, ha, T.cl, T.nP, pfs_post _ _ _ _, .inr ⟨p, rfl, sh.p, _, rfl, by simp only [Str.empty_append, Str.length_append, sp]; omega, ?_⟩⟩
  refine ⟨_, rfl, by simp only [Str.empty_append, Str.length_append, sp]; omega, ?_⟩
  refine ⟨_, rfl, a, C, dx, _, _, rfl, ha, T.cl, T.nS, pfs_stride _ _ _ _, .inr ⟨st, rfl, sh.s, _, rfl, by simp only [Str.empty_append, Str.length_append, sp]; omega, ?_⟩⟩
  have e : Str.empty ++ nm ++ " " ++ (toString d : Str) ++ " " ++ (toString p : Str) ++ " " ++ (toString st : Str) = lineOf nm d p st := by
    unfold lineOf
    simp only [Str.empty_append, Str.append_assoc]
  rw [← e] at q
  exact q
end
end Ur
/-! KC: common numbers, common posts. -/
namespace Ur
open PySem PySem.Spec PyProof.Rows L2
abbrev s_divisor_and_factor : Stmt := (topS 11)
abbrev N_sc_divisor_and_factor : List Str := ["number", "modulus", "divisor", "factor", "rest", "rest_factor", "times"]
abbrev P_divisor_and_factor : List Str := ["number", "modulus"]
theorem sc_divisor_and_factor : FnScope N_sc_divisor_and_factor P_divisor_and_factor (defScope s_divisor_and_factor) := ⟨rfl, rfl, rfl, by decide +kernel, rfl, by decide +kernel, by decide +kernel⟩
def spDF : Sp := fun vs H Q _ => ∃ n m : Int, vs = [.int n, .int m] ∧ 0 ≤ n ∧ n < m ∧ m < 2 ^ 100 ∧ ∀ (d f : Int) (t : Addr) (H' : Hp), DivFac n m d f → H' t = some (.tup [.int d, .int f]) → Same H H' → Q (.ref t) H'
def restOf (σ : List (Option L2.V)) : Nat := match σ[4]? with
  | some (some (L2.V.int r)) => r.toNat
  | _ => 0
section
variable {P : Program} {w : World} {K : PySem.W.Frag} {mg : Str → Option Value} {base : Heap}
theorem ok_df (D : Dfn K mg "divisor_and_factor" s_divisor_and_factor P_divisor_and_factor) : Cal P w K mg base 1 "divisor_and_factor" P_divisor_and_factor spDF := by
  refine D.cal sc_divisor_and_factor (fun vs H Q E h => ?_) fun f cdv A outer s H vs Q E hr h => ?_
  · obtain ⟨n, m, rfl, _⟩ := h
    rfl
  obtain ⟨n, m, rfl, n0, n1, m1, q⟩ := h
  refine ⟨_, (pss_cons (ps_par (i := 2) (j := 3) rfl sc_divisor_and_factor.nd rfl rfl (by decide) rfl rfl (pa_cons (pv 0) (pa_cons pe_int pa_nil)) (by rfl)) (pss_cons (ps_par (i := 4) (j := 5) rfl sc_divisor_and_factor.nd rfl rfl (by decide) rfl rfl (pa_cons (pv 1) (pa_cons pe_int pa_nil)) (by rfl)) (pss_cons (ps_while PassesOwn.never (pt_cmpR op_ne (pv 4) pe_int (nomark _)) (pss_cons (ps_set (i := 6) sc_divisor_and_factor.nd rfl (Or.inl rfl) (pe_op op_fdivW (pv 2) (pv 4))) (pss_cons (ps_par (i := 2) (j := 4) rfl sc_divisor_and_factor.nd rfl rfl (by decide) rfl rfl (pa_cons (pv 4) (pa_cons (pe_op op_sub (pv 2) (pe_op op_mulW (pv 6) (pv 4))) pa_nil)) (by rfl)) (pss_one (ps_par (i := 3) (j := 5) rfl sc_divisor_and_factor.nd rfl rfl (by decide) rfl rfl (pa_cons (pv 5) (pa_cons (pe_op op_sub (pv 3) (pe_op op_mulW (pv 6) (pv 5))) pa_nil)) (by rfl)))))) (pss_one (ps_ret (pe_tup (pa_cons (pv 2) (pa_cons (pv 3) pa_nil)))))))), ?_⟩
  refine ⟨_, rfl, _, _, rfl, _, rfl, _, _, rfl, ?_⟩
  refine while_by (fun σ' H' => ∃ (d f r g : Int) (t : Option V), σ' = [some (.int n), some (.int m), some (.int d), some (.int f), some (.int r), some (.int g), t] ∧ Euc n m d r f g ∧ d ≤ m ∧ r ≤ m ∧ H' = H) (fun σ _ => restOf σ) ⟨_, _, _, _, _, rfl, Euc.start n0 (by omega), by omega, by omega, rfl⟩ ?_ (fun σ H Q Q' k ⟨v, hv, hs, b, hb, q⟩ => ⟨v, hv, hs, b, hb, k _ _ q⟩)
  rintro σ' H' ⟨d, f, r, g, t, rfl, E, dm, rm, rfl⟩
  refine ⟨_, rfl, rfl, _, rfl, ?_⟩
  by_cases hr0 : r = 0
  · subst hr0
    refine iteNS rfl ?_
    refine ⟨_, rfl, _, rfl, (by show 2 ≤ sizeLine; decide), fun t ht => ?_⟩
    exact q d f t _ (E.done (by omega)) upd_same (same_new ht _)
  · have c : (!decide (V.int r = V.int 0)) = true := by
      rw [decide_eq_false fun e => hr0 (V.int.inj e)]
      rfl
    show (if (!decide (V.int r = V.int 0)) = true then _ else _)
    rw [if_pos c]
    have r0 := E.r0
    have d0 := E.d0
    have f0 := E.f0
    have f1 := E.f1
    have g0 := E.g0
    have g1 := E.g1
    have t0 : 0 ≤ d / r := Int.ediv_nonneg d0 r0
    have t1 : d / r ≤ d := Int.ediv_le_self r d0
    have em := Int.emod_lt_of_pos d (show 0 < r by omega)
    have en := Int.emod_nonneg d hr0
    have e : d - d / r * r = d % r := by
      have h := Int.mul_ediv_add_emod d r
      have h2 : r * (d / r) = d / r * r := Int.mul_comm _ _
      omega
    refine ⟨_, rfl, _, rfl, _, _, rfl, rfl, wide_div (b := 120) (by omega) (by omega) (by decide) (by decide), ?_⟩
    refine ⟨_, rfl, _, rfl, _, rfl, _, rfl, _, _, rfl, rfl, wide_mul (a := 120) (b := 120) (by omega) (by omega) (by decide) (by decide) (by decide), _, _, rfl, rfl, _, _, rfl, ?_⟩
    refine ⟨_, rfl, _, rfl, _, rfl, _, rfl, _, _, rfl, rfl, wide_mul (a := 120) (b := 120) (by omega) (by omega) (by decide) (by decide) (by decide), _, _, rfl, rfl, _, _, rfl, ?_⟩
    refine ⟨⟨_, _, _, _, _, rfl, E.step hr0, rm, by omega, rfl⟩, ?_⟩
    show (d - d / r * r).toNat < r.toNat
    omega
end
def optV : Option Int → V
  | none => .non
  | some i => .int i
/-- the numbers as the program hands them back -/
def CNval (H : Hp) (v : V) : Option (Int × Option Int × Int) → Prop
  | none => v = .non
  | some (a, l, s) => ∃ t, v = .ref t ∧ H t = some (.tup [.int a, optV l, .int s])
/-- two painters -/
structure Two (C : Addr) (H : Hp) (a1 a2 : Addr) (nm1 : Str) (d1 p1 s1 : Int) (nm2 : Str) (d2 p2 s2 : Int) : Prop where
  h1 : PnAt C H a1 nm1 d1 p1 s1
  h2 : PnAt C H a2 nm2 d2 p2 s2
  o1 : PartOk nm1 d1 p1 s1
  o2 : PartOk nm2 d2 p2 s2
theorem PnAt.same {C : Addr} {H H' : Hp} {a : Addr} {nm : Str} {d p s : Int} (h : PnAt C H a nm d p s) (k : Same H H') : PnAt C H' a nm d p s := let ⟨dx, e⟩ := h; ⟨dx, k _ _ e⟩
theorem Two.same {C : Addr} {H H' : Hp} {a1 a2 : Addr} {nm1 nm2 : Str} {d1 p1 s1 d2 p2 s2 : Int} (h : Two C H a1 a2 nm1 d1 p1 s1 nm2 d2 p2 s2) (k : Same H H') : Two C H' a1 a2 nm1 d1 p1 s1 nm2 d2 p2 s2 := ⟨h.h1.same k, h.h2.same k, h.o1, h.o2⟩
abbrev s_common_numbers : Stmt := (topS 10)
abbrev N_sc_common_numbers : List Str := ["one", "other", "size", "divisor", "factor", "gap", "step", "residue", "least", "most"]
abbrev P_common_numbers : List Str := ["one", "other"]
theorem sc_common_numbers : FnScope N_sc_common_numbers P_common_numbers (defScope s_common_numbers) := ⟨rfl, rfl, rfl, by decide +kernel, rfl, by decide +kernel, by decide +kernel⟩
def spCN (C : Addr) : Sp := fun vs H Q _ => ∃ (a1 a2 : Addr) (nm1 : Str) (d1 p1 s1 : Int) (nm2 : Str) (d2 p2 s2 : Int), vs = [.ref a1, .ref a2] ∧ Two C H a1 a2 nm1 d1 p1 s1 nm2 d2 p2 s2 ∧
  ∀ (r : Option (Int × Option Int × Int)) (v : V) (H' : Hp), Comm p1 s1 p2 s2 r → CNval H' v r → Same H H' → Q v H'
theorem df_both {s1 s2 d f : Int} (D : DivFac (s1 % (s2.natAbs : Int)) (s2.natAbs : Int) d f) : d ∣ s1 ∧ d ∣ s2 := by
  obtain ⟨d0, ⟨a, ha⟩, ⟨b, hb⟩, _⟩ := D
  have e1 : s1 = (s2.natAbs : Int) * (s1 / (s2.natAbs : Int)) + s1 % (s2.natAbs : Int) := (Int.mul_ediv_add_emod s1 _).symm
  refine ⟨⟨b * (s1 / (s2.natAbs : Int)) + a, by grind⟩, Int.dvd_natAbs.mp ⟨b, hb⟩⟩
section
variable {P : Program} {w : World} {K : PySem.W.Frag} {mg : Str → Option Value} {base : Heap} {C : Addr}
set_option maxHeartbeats 16000000 in
theorem ok_cn (D : Dfn K mg "common_numbers" s_common_numbers P_common_numbers) (B : Blt mg) (T : PTxt K mg C) (hPost : PropS P w K mg base C "post" 1 (getSp C "_post")) (hStride : PropS P w K mg base C "stride" 1 (getSp C "_stride"))
    (CDF : Cal P w K mg base 1 "divisor_and_factor" P_divisor_and_factor spDF) : Cal P w K mg base 3 "common_numbers" P_common_numbers (spCN C) := by
  refine D.cal sc_common_numbers (fun vs H Q E h => ?_) fun f cdv A outer s H vs Q E hr h => ?_
  · obtain ⟨a1, a2, _, _, _, _, _, _, _, _, rfl, _⟩ := h
    rfl
  obtain ⟨a1, a2, nm1, d1, p1, s1, nm2, d2, p2, s2, rfl, Tw, q⟩ := h
  obtain ⟨dx1, h1⟩ := Tw.h1
  obtain ⟨dx2, h2⟩ := Tw.h2
  obtain ⟨_, _, _, p10, p11, s10, s11, s1n⟩ := Tw.o1
  obtain ⟨_, _, _, p20, p21, s20, s21, s2n⟩ := Tw.o2
  refine ⟨_, (C8.pss_cut (ps_set (i := 2) sc_common_numbers.nd rfl (Or.inl rfl) (pe_callB call_abs rfl B.abs_ (by decide +kernel) (pa_cons (pe_prS (pv 1) T.cl hStride (hr.mono (by decide))) pa_nil))) (pss_cons (ps_asg (pe_cal CDF (hr.mono (by decide)) (pa_cons (pe_op op_mod (pe_prS (pv 0) T.cl hStride (hr.mono (by decide))) (pv 2)) (pa_cons (pv 2) pa_nil))) (pg_tup rfl (pgs_cons (pg_name (i := 3) sc_common_numbers.nd rfl (Or.inl rfl)) (pgs_cons (pg_name (i := 4) sc_common_numbers.nd rfl (Or.inl rfl)) pgs_nil)))) (pss_cons (ps_set (i := 5) sc_common_numbers.nd rfl (Or.inl rfl) (pe_op op_sub (pe_prS (pv 1) T.cl hPost (hr.mono (by decide))) (pe_prS (pv 0) T.cl hPost (hr.mono (by decide))))) (pss_cons (ps_if (pt_cmpR op_ne (pe_op op_mod (pv 5) (pv 3)) pe_int (nomark _)) (pss_one (ps_ret pe_non)) pss_nil) (pss_cons (ps_set (i := 6) sc_common_numbers.nd rfl (Or.inl rfl) (pe_op op_fdivW (pv 2) (pv 3))) (C8.pss_cut (ps_set (i := 7) sc_common_numbers.nd rfl (Or.inl rfl) (pe_op op_mod (pe_op op_mulW (pe_op op_fdivW (pv 5) (pv 3)) (pv 4)) (pv 6))) (pss_cons (ps_if (pt_cmpR op_eq (pe_cmpR op_gt (pe_prS (pv 0) T.cl hStride (hr.mono (by decide))) pe_int (nomark _)) (pe_cmpR op_gt (pe_prS (pv 1) T.cl hStride (hr.mono (by decide))) pe_int (nomark _)) (nomark _)) (pss_cons (ps_set (i := 8) sc_common_numbers.nd rfl (Or.inl rfl) (pe_callB (call_max2 rfl) rfl B.max_ (by decide +kernel) (pa_cons pe_int (pa_cons (pe_un un_neg (pe_op op_fdivX (pe_un un_neg (pv 5)) (pe_prS (pv 0) T.cl hStride (hr.mono (by decide))))) pa_nil)))) (pss_one (ps_ret (pe_tup (pa_cons (pe_op op_add (pv 8) (pe_op op_mod (pe_op op_sub (pv 7) (pv 8)) (pv 6))) (pa_cons pe_non (pa_cons (pv 6) pa_nil))))))) pss_nil) (pss_cons (ps_set (i := 9) sc_common_numbers.nd rfl (Or.inl rfl) (pe_op op_fdivX (pv 5) (pe_prS (pv 0) T.cl hStride (hr.mono (by decide))))) (pss_cons (ps_if (pt_cmpR op_gt (pv 7) (pv 9) (nomark _)) (pss_one (ps_ret pe_non)) pss_nil) (pss_one (ps_ret (pe_tup (pa_cons (pv 7) (pa_cons (pe_op op_sub (pv 9) (pe_op op_mod (pe_op op_sub (pv 9) (pv 7)) (pv 6))) (pa_cons (pv 6) pa_nil))))))))))))))), ?_⟩
  refine ⟨fun σ' H' => σ' = [some (.ref a1), some (.ref a2), some (.int (s2.natAbs : Int)), none, none, none, none, none, none, none] ∧ H' = H, ?_, ?_⟩
  · refine ⟨_, rfl, a2, dx2, _, rfl, h2, a2, dx2, _, _, rfl, h2, pfs_stride _ _ _ _, _, rfl, ?_⟩
    have e : (if s2 < 0 then -s2 else s2) = (s2.natAbs : Int) := by split <;> omega
    exact ⟨by rw [e]; rfl, rfl⟩
  rintro σ' H' ⟨rfl, rfl⟩
  have sz : 0 < (s2.natAbs : Int) := by omega
  refine ⟨_, rfl, a1, dx1, _, rfl, h1, a1, dx1, _, _, rfl, h1, pfs_stride _ _ _ _, _, rfl, _, _, rfl, rfl, sz, _, rfl, _, _, rfl, em0 _ sz, em1 _ sz, by omega, fun d f t H1 D ht sm1 => ?_⟩
  refine ⟨t, _, rfl, SqT.of ht, rfl, _, _, rfl, _, _, rfl, rfl, ?_⟩
  have h1' := sm1 _ _ h1
  have h2' := sm1 _ _ h2
  refine ⟨_, rfl, a2, dx2, _, rfl, h2', a2, dx2, _, _, rfl, h2', pfs_post _ _ _ _, _, rfl, a1, dx1, _, rfl, h1', a1, dx1, _, _, rfl, h1', pfs_post _ _ _ _, _, _, rfl, rfl, ?_⟩
  have dp := D.pos
  refine ⟨_, rfl, _, rfl, _, _, rfl, rfl, dp, rfl, _, rfl, ?_⟩
  by_cases hg : (p2 - p1) % d = 0
  · have c : (V.int ((p2 - p1) % d) = V.int 0) := by rw [hg]
    refine iteNS c ?_
    have M := meet_of (gap := p2 - p1) s2n D (Int.dvd_of_emod_eq_zero hg)
    have dle : d ≤ (s2.natAbs : Int) := Int.le_of_dvd sz D.dm
    refine ⟨_, rfl, _, rfl, _, _, rfl, rfl, wide_div (b := 120) dp (by omega) (by decide) (by decide), ?_⟩
    have stp := M.st.1
    have stl : (s2.natAbs : Int) / d ≤ s2.natAbs := Int.ediv_le_self d (by omega)
    have gq : ((p2 - p1) / d).natAbs < 2 ^ 200 := by
      have : ((p2 - p1) / d).natAbs ≤ (p2 - p1).natAbs := Int.natAbs_ediv_le_natAbs (p2 - p1) d
      omega
    have f0 := D.f0
    have f1 := D.f1
    refine ⟨fun σ' H' => ∃ st res : Int, σ' = [some (.ref a1), some (.ref a2), some (.int (s2.natAbs : Int)), some (.int d), some (.int f), some (.int (p2 - p1)), some (.int st), some (.int res), none, none] ∧ Meet s1 s2 (p2 - p1) d st res ∧ st ≤ s2.natAbs ∧ H' = H1, ?_, ?_⟩
    · refine ⟨_, rfl, _, rfl, _, _, rfl, rfl, wide_div (b := 120) dp (by omega) (by decide) (by decide), _, rfl, _, _, rfl, rfl, wide_mul (a := 200) (b := 120) gq (by omega) (by decide) (by decide) (by decide), _, rfl, _, _, rfl, rfl, stp, ?_⟩
      exact ⟨_, _, rfl, M, stl, rfl⟩
    rintro σ' H' ⟨st, res, rfl, M, stl, rfl⟩
    have stp := M.st.1
    refine ⟨_, rfl, a1, dx1, _, rfl, h1', a1, dx1, _, _, rfl, h1', pfs_stride _ _ _ _, _, _, rfl, rfl, _, rfl, a2, dx2, _, rfl, h2', a2, dx2, _, _, rfl, h2', pfs_stride _ _ _ _, _, _, rfl, rfl, rfl, _, rfl, ?_⟩
    have dvx : CDivX (p2 - p1) s1 := ⟨s1n, Nat.lt_of_lt_of_le (PySem.Flt.log2_lt_of (by decide) (show s1.natAbs < 2 ^ 120 by omega)) (by decide)⟩
    have dvy : CDivX (-(p2 - p1)) s1 := dvx
    refine ite2 (fun c => ?_) (fun c => ?_)
    · have hs : 0 < s1 ↔ 0 < s2 := by
        have e := V.bl.inj (of_decide_eq_true c)
        by_cases a : 0 < s1
        · rw [decide_eq_true a] at e
          exact ⟨fun _ => of_decide_eq_true e.symm, fun _ => a⟩
        · rw [decide_eq_false a] at e
          exact ⟨fun z => absurd z a, fun z => by rw [decide_eq_true z] at e; cases e⟩
      refine ⟨_, rfl, _, rfl, _, rfl, a1, dx1, _, rfl, h1', a1, dx1, _, _, rfl, h1', pfs_stride _ _ _ _, _, _, rfl, rfl, dvy, _, rfl, _, _, rfl, ?_⟩
      refine ⟨_, rfl, _, rfl, _, rfl, _, _, rfl, rfl, _, rfl, _, _, rfl, rfl, stp, _, _, rfl, rfl, _, rfl, (by show 3 ≤ sizeLine; decide), fun t ht => ?_⟩
      exact q _ _ _ (comm_same s1n s2n hs M) ⟨t, rfl, upd_same⟩ (sm1.trans (same_new ht _))
    · have hs : ¬ (0 < s1 ↔ 0 < s2) := by
        intro z
        have z2 : decide (0 < s1) = decide (0 < s2) := by
          by_cases a : 0 < s1
          · rw [decide_eq_true a, decide_eq_true (z.mp a)]
          · rw [decide_eq_false a, decide_eq_false fun y => a (z.mpr y)]
        exact c (decide_eq_true (congrArg V.bl z2))
      refine ⟨_, rfl, _, rfl, a1, dx1, _, rfl, h1', a1, dx1, _, _, rfl, h1', pfs_stride _ _ _ _, _, _, rfl, rfl, dvx, ?_⟩
      refine ⟨_, rfl, _, rfl, _, _, rfl, rfl, _, rfl, ?_⟩
      refine ite2 (fun c => ?_) (fun c => ?_)
      · have c := of_decide_eq_true c
        exact q _ _ _ (comm_no s1n s2n hs M c) rfl sm1
      · have c : ¬ (p2 - p1).fdiv s1 < res := of_decide_eq_false (Bool.eq_false_iff.mpr c)
        refine ⟨_, rfl, _, rfl, _, rfl, _, rfl, _, _, rfl, rfl, _, rfl, _, _, rfl, rfl, stp, _, _, rfl, rfl, _, rfl, (by show 3 ≤ sizeLine; decide), fun t ht => ?_⟩
        exact q _ _ _ (comm_opp s1n s2n hs M (by omega)) ⟨t, rfl, upd_same⟩ (sm1.trans (same_new ht _))
  · have c : (!decide (V.int ((p2 - p1) % d) = V.int 0)) = true := by
      rw [decide_eq_false fun e => hg (V.int.inj e)]
      rfl
    show (if (!decide (V.int ((p2 - p1) % d) = V.int 0)) = true then _ else _)
    rw [if_pos c]
    obtain ⟨y1, y2⟩ := df_both D
    exact q _ _ _ (comm_gap y1 y2 fun z => hg (Int.emod_eq_zero_of_dvd z)) rfl sm1
end
end Ur
/-! KP: common posts. -/
namespace Ur
open PySem PySem.Spec PyProof.Rows L2
/-- the posts as the program hands them back -/
def cpT (p1 s1 : Int) : Option (Int × Option Int × Int) → Option (Int × Option Int × Int)
  | none => none
  | some (a, l, s) => some (p1 + a * s1, l.map (fun x => p1 + x * s1), s * (s1.natAbs : Int))
def optD : Option Int → PyData
  | none => .none
  | some i => .int i
def cnD : Option (Int × Option Int × Int) → PyData
  | none => .none
  | some (a, l, s) => .tuple [.int a, optD l, .int s]
theorem optDp {K : PySem.W.Frag} {H : Hp} : ∀ o : Option Int, Dp K H (optV o) (optD o)
  | none => .non
  | some i => .int i
theorem CNval.dp {K : PySem.W.Frag} {H : Hp} {v : V} : ∀ {r : Option (Int × Option Int × Int)}, CNval H v r → Dp K H v (cnD r)
  | none, h => by
    have h : v = .non := h
    subst h
    exact .non
  | some (a, l, s), h => by
    obtain ⟨t, rfl, ht⟩ := h
    exact .tup (SqT.of ht) (.cons (.int _) (.cons (optDp l) (.cons (.int _) .nil)))
theorem CNval.same {H H' : Hp} {v : V} (k : Same H H') : ∀ {r : Option (Int × Option Int × Int)}, CNval H v r → CNval H' v r
  | none, h => h
  | some (a, l, s), h => let ⟨t, e, ht⟩ := h; ⟨t, e, k _ _ ht⟩
theorem Comm.first_le {p1 s1 p2 s2 a s : Int} {l : Option Int} (C : Comm p1 s1 p2 s2 (some (a, l, s))) : 0 ≤ a ∧ a ≤ (p2 - p1).natAbs + s ∧ Steps s1 s2 s ∧ ∀ x, l = some x → 0 ≤ x ∧ x ≤ (p2 - p1).natAbs := by
  cases C with
  | inf h1 h2 h3 h4 h5 => exact ⟨h3, h4, h2, fun x e => by cases e⟩
  | fin h1 h2 h3 h4 h5 h6 h7 => exact ⟨h3, by have := h2.1; omega, h2, fun x e => by cases e; omega⟩
theorem step_le {s1 s2 s : Int} (h : s2 ≠ 0) (S : Steps s1 s2 s) : s ≤ s2.natAbs := by
  have z := (S.2 (s2.natAbs : Int)).mp (Int.dvd_trans (Int.dvd_natAbs.mpr (Int.dvd_refl s2)) ⟨s1, rfl⟩)
  exact Int.le_of_dvd (by omega) z
end Ur
/-! KD: the law's own pairs of painters: made, duo, steps to a post. -/
namespace Ur
open PySem PySem.Spec PyProof.Rows L2
abbrev s__law_made : Stmt := (topS 27)
abbrev N_sc__law_made : List Str := ["_law_painter", "_law_name", "_law_start", "_law_post", "_law_stride"]
abbrev P__law_made : List Str := ["_law_painter"]
theorem sc__law_made : FnScope N_sc__law_made P__law_made (defScope s__law_made) := ⟨rfl, rfl, rfl, by decide +kernel, rfl, by decide +kernel, by decide +kernel⟩
def spMade (K : PySem.W.Frag) (C : Addr) : Sp := fun vs H Q _ => ∃ (t : Addr) (nm : Str) (d p s : Int), vs = [.ref t] ∧ SqT K H t [.str nm, .int d, .int p, .int s] ∧ PartOk nm d p s ∧ ∀ x H', PnAt C H' x nm d p s → Same H H' → Q (.ref x) H'
section
variable {P : Program} {w : World} {K : PySem.W.Frag} {mg : Str → Option Value} {base : Heap} {C : Addr}
theorem ok_made (D : Dfn K mg "_law_made" s__law_made P__law_made) (T : PTxt K mg C) (hMk : MkP P w K mg base C) : Cal P w K mg base 5 "_law_made" P__law_made (spMade K C) := by
  refine D.cal sc__law_made (fun vs H Q E h => ?_) fun f cdv A outer s H vs Q E hr h => ?_
  · obtain ⟨t, nm, d, p, st, rfl, _⟩ := h
    rfl
  obtain ⟨t, nm, d, p, st, rfl, ht, ok, q⟩ := h
  refine ⟨_, (pss_cons (ps_asg (pv 0) (pg_tup rfl (pgs_cons (pg_name (i := 1) sc__law_made.nd rfl (Or.inl rfl)) (pgs_cons (pg_name (i := 2) sc__law_made.nd rfl (Or.inl rfl)) (pgs_cons (pg_name (i := 3) sc__law_made.nd rfl (Or.inl rfl)) (pgs_cons (pg_name (i := 4) sc__law_made.nd rfl (Or.inl rfl)) pgs_nil)))))) (pss_one (ps_ret (pe_mkP hMk T (hr.mono (by decide)) (pa_cons (pv 1) (pa_cons (pv 2) (pa_cons (pv 3) (pa_cons (pv 4) pa_nil)))))))), ?_⟩
  refine ⟨_, rfl, t, _, rfl, ht, rfl, _, _, rfl, _, _, rfl, _, _, rfl, _, _, rfl, rfl, ?_⟩
  refine ⟨_, rfl, _, rfl, _, rfl, _, rfl, fun x dx nx ndx nex => ?_⟩
  exact ⟨x, dx, nm, d, p, st, rfl, upd_same, ok, fun H7 hx7 kp7 => ⟨rfl, q x H7 ⟨dx, hx7⟩ (Same.made nx ndx kp7)⟩⟩
end
def DuoR (d p s : Int) : Prop := 0 ≤ d ∧ d ≤ 7 ∧ -9 ≤ p ∧ p ≤ 9 ∧ -9 ≤ s ∧ s ≤ 9 ∧ s ≠ 0
theorem DuoR.ok {nm : Str} {d p s : Int} (h : DuoR d p s) (z : NameOk nm) : PartOk nm d p s := by unfold DuoR at h; exact ⟨z, by omega, by omega, by omega, by omega, by omega, by omega, by omega⟩
abbrev s__law_duo : Stmt := (topS 28)
abbrev N_sc__law_duo : List Str := ["_law_pen_here", "_law_names_here", "_law_found", "_law_k", "_law_stride"]
abbrev P__law_duo : List Str := ["_law_pen_here"]
theorem sc__law_duo : FnScope N_sc__law_duo P__law_duo (defScope s__law_duo) := ⟨rfl, rfl, rfl, by decide +kernel, rfl, by decide +kernel, by decide +kernel⟩
def spDuo : Sp := fun vs H Q _ => ∃ (p l : Addr) (n : Nat), vs = [.ref p] ∧ Pen H p l n ∧ n + 1000 ≤ 2 ^ 39 ∧
  ∀ (F t1 t2 : Addr) (H' : Hp), H' F = some (.lst [.ref t1, .ref t2]) → Row H' t1 DuoR → Row H' t2 DuoR → H F = none → Pen H' p l (n + 1000) → Keep p H H' → Q (.ref F) H'
theorem len2 {α : Type} {l : List α} (h : l.length = 2) : ∃ a b, l = [a, b] := by
  match l, h with
  | [a, b], _ => exact ⟨a, b, rfl⟩
section
variable {P : Program} {w : World} {K : PySem.W.Frag} {mg : Str → Option Value} {base : Heap}
set_option maxHeartbeats 40000000 in
theorem ok_duo (D : Dfn K mg "_law_duo" s__law_duo P__law_duo) (B : Blt mg) (CD : Cal P w K mg base 12 "_law_draw" P__law_draw spDr) (CI : Cal P w K mg base 13 "_law_pick" P__law_pick (spPickI K)) (CA : Cal P w K mg base 13 "_law_around" P__law_around spAround)
    (CN : Cal P w K mg base 14 "_law_names" P__law_names spNames) : Cal P w K mg base 15 "_law_duo" P__law_duo spDuo := by
  refine D.cal sc__law_duo (fun vs H Q E h => ?_) fun f cdv A outer s H vs Q E hr h => ?_
  · obtain ⟨p, l, n, rfl, _⟩ := h
    rfl
  obtain ⟨p, l, n, rfl, Pn, hn, q⟩ := h
  refine ⟨_, (pss_cons (ps_par (i := 1) (j := 2) rfl sc__law_duo.nd rfl rfl (by decide) rfl rfl (pa_cons (pe_cal CN (hr.mono (by decide)) (pa_cons (pv 0) (pa_cons pe_int pa_nil))) (pa_cons (pe_lst pa_nil) pa_nil)) (by rfl)) (pss_cons (ps_for PassesOwn.never rfl (pi_range1 rfl B.range_ (pa_cons pe_int pa_nil)) (pg_name (i := 3) sc__law_duo.nd rfl (Or.inl rfl)) (pss_cons (ps_set (i := 4) sc__law_duo.nd rfl (Or.inl rfl) (pe_op op_mul (pe_op op_add pe_int (pe_cal CI (hr.mono (by decide)) (pa_cons (pv 0) (pa_cons (pe_lst (pa_cons (pe_cal CD (hr.mono (by decide)) (pa_cons (pv 0) (pa_cons pe_int pa_nil))) (pa_cons (pe_cal CD (hr.mono (by decide)) (pa_cons (pv 0) (pa_cons pe_int pa_nil))) pa_nil))) pa_nil)))) (pe_cal CI (hr.mono (by decide)) (pa_cons (pv 0) (pa_cons (pe_lst (pa_cons pe_int (pa_cons (pe_un un_neg pe_int) pa_nil))) pa_nil))))) (pss_one (ps_expr (pe_bm PySem.F.plainAttrs_list PySem.F.slot_list_append PySem.F.type_list_append mt_append (pv 2) (pa_cons (pe_tup (pa_cons (pe_ix ix_list (pv 1) (pv 3) (fun _ _ => rfl)) (pa_cons (pe_cal CD (hr.mono (by decide)) (pa_cons (pv 0) (pa_cons pe_int pa_nil))) (pa_cons (pe_cal CA (hr.mono (by decide)) (pa_cons (pv 0) (pa_cons pe_int pa_nil))) (pa_cons (pv 4) pa_nil))))) pa_nil)))))) (C8.pss_cut (ps_if (pt_cmpR op_eq (pe_cal CD (hr.mono (by decide)) (pa_cons (pv 0) (pa_cons pe_int pa_nil))) pe_int (nomark _)) (pss_one (ps_asg (pe_op op_catT (pe_tup (pa_cons (pe_ix ix_list (pv 1) pe_int (fun _ _ => rfl)) (pa_cons (pe_cal CI (hr.mono (by decide)) (pa_cons (pv 0) (pa_cons (pe_lst (pa_cons (pe_ix ix_tup (pe_ix ix_list (pv 2) pe_int (fun _ _ => rfl)) pe_int (fun _ _ => rfl)) (pa_cons (pe_ix ix_tup (pe_ix ix_list (pv 2) pe_int (fun _ _ => rfl)) pe_int (fun _ _ => rfl)) pa_nil))) pa_nil))) pa_nil))) (pe_slice sl_tup (pe_ix ix_list (pv 2) pe_int (fun _ _ => rfl)) (po_some pe_int) po_none)) (pg_sub (pv 2) pe_int set_list))) pss_nil) (pss_one (ps_ret (pv 2)))))), ?_⟩
  refine ⟨_, rfl, p, l, 2, n, rfl, Pn, by omega, by decide, fun L ss H1 hL hss hok hL0 P1 k1 => ?_⟩
  obtain ⟨z1, z2, rfl⟩ := len2 hss
  have zok1 := hok z1 List.mem_cons_self
  have zok2 := hok z2 (List.mem_cons_of_mem _ List.mem_cons_self)
  refine ⟨(by show 0 ≤ sizeLine; decide), fun F hF => ⟨_, _, rfl, ?_⟩⟩
  have nL : L ≠ p := Pn.ne hL0
  have nF := P1.ne hF
  have nFl := P1.nl hF
  have hF0 : H F = none := k1.none_of hF nF
  have nLF : L ≠ F := ne_of_none hL hF
  refine ⟨2, rfl, by decide, by decide, for_range (lo := 0) (n := 2) (fun i σ' H' => ∃ (ts : List Addr) (k st : Option V), σ' = [some (.ref p), some (.ref L), some (.ref F), k, st] ∧ H' F = some (.lst (ts.map V.ref)) ∧ ts.length = i ∧ (∀ t ∈ ts, Row H' t DuoR) ∧ H' L = some (.lst [.str z1, .str z2]) ∧ Pen H' p l (n + 132 + 100 * i) ∧ Keep p H H')
    ⟨[], none, none, rfl, upd_same, rfl, fun t ht => absurd ht List.not_mem_nil, same_new hF _ _ _ hL, (P1.new hF).le (by omega), k1.new hF⟩ ?_ ?_⟩
  · rintro i σ' H' hi ⟨ts, k, st, rfl, hFi, hl, hrow, hLi, Pi, ki⟩
    obtain ⟨kvi, hpi⟩ := Pi.dk
    refine ⟨_, rfl, _, rfl, p, l, 6, _, rfl, Pi, by omega, by omega, by omega, fun a1 H3 c1 d1 P3 k3 => ?_⟩
    refine ⟨_, rfl, p, l, 9, _, rfl, P3, by omega, by omega, by omega, fun a2 H4 c2 d2 P4 k4 => ?_⟩
    refine ⟨(by show 2 ≤ sizeLine; decide), fun t1 h1 => ?_⟩
    refine ⟨p, l, t1, [a1, a2], _, rfl, P4.new h1, by omega, SqL.of upd_same, by show 1 ≤ 2; decide, by show 2 ≤ 1000000; decide, fun v1 H5 hv1 P5 k5 => ?_⟩
    have v1b : 0 ≤ v1 ∧ v1 ≤ 8 := by
      simp only [List.mem_cons, List.not_mem_nil, or_false] at hv1
      omega
    refine ⟨_, _, rfl, rfl, _, rfl, _, rfl, (by show 2 ≤ sizeLine; decide), fun t2 h2 => ?_⟩
    refine ⟨p, l, t2, [1, -1], _, rfl, P5.new h2, by omega, SqL.of upd_same, by decide, by decide, fun v2 H6 hv2 P6 k6 => ?_⟩
    have v2b : v2 = 1 ∨ v2 = -1 := by simpa only [List.mem_cons, List.not_mem_nil, or_false] using hv2
    refine ⟨_, _, rfl, rfl, .inl (by omega), ?_⟩
    have pb : -9 ≤ (1 + v1) * v2 ∧ (1 + v1) * v2 ≤ 9 ∧ (1 + v1) * v2 ≠ 0 := by rcases v2b with rfl | rfl <;> omega
    have kk : Keep p H' H6 := (((k3.trans k4).new h1).trans k5 |>.new h2).trans k6
    have hF6 := kk _ _ hFi nF
    have hL6 := kk _ _ hLi nL
    refine ⟨_, rfl, .inl ⟨rfl, _, SqL.of hF6⟩, ?_⟩
    obtain ⟨zv, hzv, hzm⟩ := at_some (xs := [V.str z1, V.str z2]) (i := 0 + (i : Int)) (by omega) (by show 0 + (i : Int) < 2; omega)
    obtain ⟨z, rfl, zok⟩ : ∃ z, zv = .str z ∧ NameOk z := by
      simp only [List.mem_cons, List.not_mem_nil, or_false] at hzm
      rcases hzm with rfl | rfl
      · exact ⟨_, rfl, zok1⟩
      · exact ⟨_, rfl, zok2⟩
    refine ⟨_, rfl, _, rfl, L, _, _, _, rfl, rfl, SqL.of hL6, hzv, _, rfl, p, l, 8, _, rfl, P6, by omega, by omega, by omega, fun dt H7 c7 d7 P7 k7 => ?_⟩
    refine ⟨_, rfl, p, l, 9, _, rfl, P7, by omega, by omega, by omega, fun ps H8 c8 d8 P8 k8 => ?_⟩
    refine ⟨_, rfl, (by show 4 ≤ sizeLine; decide), fun t5 h5 => ?_⟩
    obtain ⟨od, hod⟩ : ∃ o : HO, o = .tup [.str z, .int dt, .int ps, .int ((1 + v1) * v2)] := ⟨_, rfl⟩
    rw [← hod]
    have k9 := ((kk.trans k7).trans k8).new (o := od) h5
    have hF9 := k9 _ _ hFi nF
    refine ⟨F, _, _, rfl, rfl, hF9, by rw [List.length_map]; exact small1000 (by omega), ?_⟩
    have row5 : Row (upd H8 t5 od) t5 DuoR := ⟨z, dt, ps, (1 + v1) * v2, by rw [upd_same, hod], zok, by unfold DuoR; refine ⟨by omega, by omega, by omega, by omega, pb⟩⟩
    have rows9 : ∀ t ∈ ts ++ [t5], Row (upd H8 t5 od) t DuoR := mem_snoc (fun t ht => (hrow t ht).keep k9 hpi) row5
    exact ⟨ts ++ [t5], _, _, rfl, by rw [upd_same, List.map_append]; rfl, by rw [List.length_append, hl]; rfl, fun t ht => (rows9 t ht).updL hF9, by rw [upd_ne nLF]; exact k9 _ _ hLi nL, ((P8.new h5).le (by omega)).upd nF nFl, (ki.trans k9).at_new hF0⟩
  rintro σ' H2 ⟨ts, k, st, rfl, hF2, hl2, rows2, hL2, P2, k2⟩
  obtain ⟨t1, t2, rfl⟩ := len2 hl2
  have r1 := rows2 t1 List.mem_cons_self
  have r2 := rows2 t2 (List.mem_cons_of_mem _ List.mem_cons_self)
  refine ⟨fun σ' H' => ∃ (t1 t2 : Addr), σ' = [some (.ref p), some (.ref L), some (.ref F), k, st] ∧ H' F = some (.lst [.ref t1, .ref t2]) ∧ Row H' t1 DuoR ∧ Row H' t2 DuoR ∧ Pen H' p l (n + 1000) ∧ Keep p H H', ?_, ?_⟩
  · refine ⟨_, rfl, p, l, 6, _, rfl, P2, by omega, by omega, by omega, fun v H3 v0 v1 P3 k3 => ?_⟩
    obtain ⟨kv2, hp2⟩ := P2.dk
    have hF3 : H3 F = some (.lst [.ref t1, .ref t2]) := k3 _ _ hF2 nF
    have hL3 := k3 _ _ hL2 nL
    have r13 := r1.keep k3 hp2
    have r23 := r2.keep k3 hp2
    refine ⟨rfl, _, rfl, ?_⟩
    refine ite2 (fun _ => ?_) (fun _ => ⟨t1, t2, rfl, hF3, r13, r23, P3.le (by omega), k2.trans k3⟩)
    obtain ⟨na, da, pa, sa, ea, oka, Ra⟩ := id r13
    obtain ⟨nb, db, pb, sb, eb, okb, Rb⟩ := id r23
    obtain ⟨kv3, hp3⟩ := P3.dk
    refine ⟨_, rfl, L, _, _, _, rfl, rfl, SqL.of hL3, rfl, _, rfl, _, rfl, F, _, _, _, rfl, rfl, SqL.of hF3, rfl, t1, _, _, _, rfl, rfl, SqT.of ea, rfl, _, rfl, F, _, _, _, rfl, rfl, SqL.of hF3, rfl, t2, _, _, _, rfl, rfl, SqT.of eb, rfl, (by show 2 ≤ sizeLine; decide), fun u hu => ?_⟩
    refine ⟨p, l, u, [da, db], _, rfl, P3.new hu, by omega, SqL.of upd_same, by show 1 ≤ 2; decide, by show 2 ≤ 1000000; decide, fun dv H4 hdv P4 k4 => ?_⟩
    refine ⟨(by show 2 ≤ sizeLine; decide), fun w1 hw1 => ?_⟩
    have k5 : Keep p H3 _ := ((Keep.refl.new hu).trans k4).new (o := .tup [.str z2, .int dv]) hw1
    have hF5 := k5 _ _ hF3 nF
    have ea5 := k5 _ _ ea (ne_of ea hp3 (by intro z; cases z))
    refine ⟨_, rfl, F, _, _, _, rfl, rfl, SqL.of hF5, rfl, _, rfl, t1, _, rfl, SqT.of ea5, fun z => absurd z.1 (by show ¬ (2 = 0); decide), fun y1 hy1 => ?_⟩
    refine ⟨w1, y1, [.str z2, .int dv], [.int pa, .int sa], rfl, rfl, SqT.of (same_new hy1 _ _ _ upd_same), SqT.of upd_same, (fun e => by cases e), (by show 4 ≤ sizeLine; decide), (fun e => by cases e), fun _ y hy => ?_⟩
    have k6 := (k5.new hy1).new (o := .tup ([.str z2, .int dv] ++ [.int pa, .int sa])) hy
    have hF6 := k6 _ _ hF3 nF
    refine ⟨_, rfl, F, _, _, 1, rfl, rfl, hF6, rfl, ?_⟩
    have dvb : 0 ≤ dv ∧ dv ≤ 7 := by
      simp only [List.mem_cons, List.not_mem_nil, or_false] at hdv
      unfold DuoR at Ra Rb
      omega
    refine ⟨t1, y, rfl, upd_same, (r13.keep k6 hp3).updL hF6, Row.updL ⟨z2, dv, pa, sa, upd_same, zok2, by unfold DuoR at Ra ⊢; omega⟩ hF6, ((((P4.new hw1).new hy1).new hy).le (by omega)).upd nF nFl, (k2.trans (k3.trans k6)).at_new hF0⟩
  rintro σ' H' ⟨t1, t2, rfl, hF', r1, r2, P', k'⟩
  exact ⟨_, rfl, q F t1 t2 H' hF' r1 r2 hF0 P' k'⟩
end
abbrev s__law_steps_to : Stmt := (topS 30)
abbrev N_sc__law_steps_to : List Str := ["_law_painter", "_law_post", "_law_steps"]
abbrev P__law_steps_to : List Str := ["_law_painter", "_law_post"]
theorem sc__law_steps_to : FnScope N_sc__law_steps_to P__law_steps_to (defScope s__law_steps_to) := ⟨rfl, rfl, rfl, by decide +kernel, rfl, by decide +kernel, by decide +kernel⟩
def spSteps (K : PySem.W.Frag) : Sp := fun vs H Q _ => ∃ (t : Addr) (x : V) (d : V) (p s q : Int), vs = [.ref t, .int q] ∧ SqT K H t [x, d, .int p, .int s] ∧ s ≠ 0 ∧ s.natAbs < 2 ^ 200 ∧ ∀ r, StepsTo p s q r → Q (optV r) H
section
variable {P : Program} {w : World} {K : PySem.W.Frag} {mg : Str → Option Value} {base : Heap}
theorem ok_steps (D : Dfn K mg "_law_steps_to" s__law_steps_to P__law_steps_to) (B : Blt mg) : Cal P w K mg base 1 "_law_steps_to" P__law_steps_to (spSteps K) := by
  refine D.cal sc__law_steps_to (fun vs H Q E h => ?_) fun f cdv A outer s H vs Q E hr h => ?_
  · obtain ⟨t, x, d, p, st, q, rfl, _⟩ := h
    rfl
  obtain ⟨t, x, d, p, st, q, rfl, ht, hs, hs2, k⟩ := h
  have dv : CDivX (q - p) st := ⟨hs, Nat.lt_of_lt_of_le (PySem.Flt.log2_lt_of (by decide) hs2) (by decide)⟩
  have Z := steps_to_spec (p := p) (q := q) hs
  refine ⟨_, (pss_cons (ps_set (i := 2) sc__law_steps_to.nd rfl (Or.inl rfl) (pe_op op_fdivX (pe_op op_sub (pv 1) (pe_ix ix_tup (pv 0) pe_int (fun _ _ => rfl))) (pe_ix ix_tup (pv 0) pe_int (fun _ _ => rfl)))) (pss_one (ps_ret (pe_ifExp (PW.pt (pw_and (pt_cmpR op_eq (pe_op op_modN (pe_callTy call_int1 rfl B.int_ (by decide +kernel) (pa_cons (pe_op op_sub (pv 1) (pe_ix ix_tup (pv 0) pe_int (fun _ _ => rfl))) pa_nil)) (pe_ix ix_tup (pv 0) pe_int (fun _ _ => rfl))) pe_int (nomark _)) (pw_and1 (pt_cmpR op_ge (pv 2) pe_int (nomark _))))) (pv 2) pe_non)))), ?_⟩
  refine ⟨_, rfl, _, rfl, t, _, _, _, rfl, rfl, ht, rfl, _, _, rfl, rfl, _, rfl, t, _, _, _, rfl, rfl, ht, rfl, _, _, rfl, rfl, dv, ?_⟩
  refine ⟨_, rfl, _, rfl, t, _, _, _, rfl, rfl, ht, rfl, _, _, rfl, rfl, .inl ⟨_, rfl, _, rfl, t, _, _, _, rfl, rfl, ht, rfl, _, _, rfl, rfl, hs, rfl, _, rfl, ?_⟩⟩
  by_cases c : (q - p).fmod st = 0
  · have e : decide (V.int ((q - p).fmod st) = V.int 0) = true := decide_eq_true (by rw [c])
    show (if decide (V.int ((q - p).fmod st) = V.int 0) = true then _ else _)
    rw [if_pos e]
    refine ⟨_, rfl, _, _, rfl, rfl, _, rfl, ?_⟩
    refine ite2 (fun c2 => ?_) (fun c2 => ?_)
    · have c2 : 0 ≤ (q - p).fdiv st := of_decide_eq_true c2
      rw [if_pos ⟨c, c2⟩] at Z
      exact ⟨_, rfl, k _ Z⟩
    · have c2 : ¬ 0 ≤ (q - p).fdiv st := of_decide_eq_false (Bool.eq_false_iff.mpr c2)
      rw [if_neg fun z => c2 z.2] at Z
      exact k _ Z
  · have e : ¬ decide (V.int ((q - p).fmod st) = V.int 0) = true := by
      rw [decide_eq_false fun e => c (V.int.inj e)]
      decide
    show (if decide (V.int ((q - p).fmod st) = V.int 0) = true then _ else _)
    rw [if_neg e]
    rw [if_neg fun z => c z.1] at Z
    exact iteF (k _ Z)
end
end Ur
/-! KG: two painters with great numbers and a planted post. -/
namespace Ur
open PySem PySem.Spec PyProof.Rows L2
theorem pw12g : CPow 10 12 := by refine ⟨by decide, by decide, ?_⟩ <;> decide
theorem e12g : (10 : Int) ^ (12 : Int).toNat = 10 ^ 12 := rfl
theorem len2g {α : Type} {l : List α} (h : l.length = 2) : ∃ a b, l = [a, b] := by
  match l, h with
  | [a, b], _ => exact ⟨a, b, rfl⟩
/-- as drawn: there is room left for a little move -/
def GrR (d p s : Int) : Prop := 0 ≤ d ∧ d ≤ 2 * 10 ^ 29 ∧ -(10 ^ 29) ≤ p ∧ p ≤ 10 ^ 29 ∧ -(10 ^ 18) ≤ s ∧ s ≤ 10 ^ 18 ∧ s ≠ 0
/-- as handed back -/
def GdR (d p s : Int) : Prop := 0 ≤ d ∧ d ≤ 2 * 10 ^ 29 ∧ -(2 * 10 ^ 29) ≤ p ∧ p ≤ 2 * 10 ^ 29 ∧ -(10 ^ 18) ≤ s ∧ s ≤ 10 ^ 18 ∧ s ≠ 0
theorem gr_gd {d p s : Int} (h : GrR d p s) : GdR d p s := by unfold GrR at h; unfold GdR; omega
theorem gd_any {d p s : Int} (h : GdR d p s) : AnyR d p s := by unfold GdR at h; unfold AnyR; omega
theorem Row.gd {H : Hp} {t : Addr} (r : Row H t GrR) : Row H t GdR := let ⟨nm, d, p, s, e, z, y⟩ := r; ⟨nm, d, p, s, e, z, gr_gd y⟩
theorem Row.gany {H : Hp} {t : Addr} (r : Row H t GdR) : Row H t AnyR := let ⟨nm, d, p, s, e, z, y⟩ := r; ⟨nm, d, p, s, e, z, gd_any y⟩
theorem mul_bd2 {a b A B : Int} (h0 : 1 ≤ a) (h1 : a ≤ A) (h2 : 1 ≤ b) (h3 : b ≤ B) : 1 ≤ a * b ∧ a * b ≤ A * B := by
  have x1 : a * b ≤ a * B := Int.mul_le_mul_of_nonneg_left h3 (by omega)
  have x2 : a * B ≤ A * B := Int.mul_le_mul_of_nonneg_right h1 (by omega)
  have x3 : a * 1 ≤ a * b := Int.mul_le_mul_of_nonneg_left h2 (by omega)
  omega
theorem sgn_bd {a v A : Int} (h0 : 0 ≤ a) (h1 : a ≤ A) (hv : v = 1 ∨ v = -1) : -A ≤ a * v ∧ a * v ≤ A ∧ (a ≠ 0 → a * v ≠ 0) := by rcases hv with rfl | rfl <;> omega
abbrev s__law_great_duo : Stmt := (topS 29)
abbrev N_sc__law_great_duo : List Str := ["_law_pen_here", "_law_names_here", "_law_hub", "_law_found", "_law_lot", "_law_base", "_law_k", "_law_stride", "_law_steps", "_law_start"]
abbrev P__law_great_duo : List Str := ["_law_pen_here"]
theorem sc__law_great_duo : FnScope N_sc__law_great_duo P__law_great_duo (defScope s__law_great_duo) := ⟨rfl, rfl, rfl, by decide +kernel, rfl, by decide +kernel, by decide +kernel⟩
def spGDuoR : Sp := fun vs H Q _ => ∃ (p l : Addr) (n : Nat), vs = [.ref p] ∧ Pen H p l n ∧ n + 2000 ≤ 2 ^ 39 ∧
  ∀ (u t1 t2 : Addr) (hub : Int) (H' : Hp), H' u = some (.tup [.ref t1, .ref t2, .int hub]) → Row H' t1 GdR → Row H' t2 GdR → -(10 ^ 28) ≤ hub → hub ≤ 10 ^ 28 → Pen H' p l (n + 2000) → Keep p H H' → Q (.ref u) H'
def spGDuo : Sp := fun vs H Q _ => ∃ (p l : Addr) (n : Nat), vs = [.ref p] ∧ Pen H p l n ∧ n + 2000 ≤ 2 ^ 39 ∧
  ∀ (u t1 t2 : Addr) (hub : Int) (H' : Hp), H' u = some (.tup [.ref t1, .ref t2, .int hub]) → Row H' t1 AnyR → Row H' t2 AnyR → -(10 ^ 28) ≤ hub → hub ≤ 10 ^ 28 → Pen H' p l (n + 2000) → Keep p H H' → Q (.ref u) H'
section
variable {P : Program} {w : World} {K : PySem.W.Frag} {mg : Str → Option Value} {base : Heap}
set_option maxHeartbeats 40000000 in
theorem ok_gduoR (D : Dfn K mg "_law_great_duo" s__law_great_duo P__law_great_duo) (B : Blt mg) (CD : Cal P w K mg base 12 "_law_draw" P__law_draw spDr) (CI : Cal P w K mg base 13 "_law_pick" P__law_pick (spPickI K)) (CG : Cal P w K mg base 14 "_law_great" P__law_great spGreat)
    (CN : Cal P w K mg base 14 "_law_names" P__law_names spNames) : Cal P w K mg base 15 "_law_great_duo" P__law_great_duo spGDuoR := by
  refine D.cal sc__law_great_duo (fun vs H Q E h => ?_) fun f cdv A outer s H vs Q E hr h => ?_
  · obtain ⟨p, l, n, rfl, _⟩ := h
    rfl
  obtain ⟨p, l, n, rfl, Pn, hn, q⟩ := h
  refine ⟨_, (C8.pss_cut (ps_par3 (i := 1) (j := 2) (l := 3) rfl sc__law_great_duo.nd rfl rfl rfl (by decide) (by decide) (by decide) rfl rfl rfl (pa_cons (pe_cal CN (hr.mono (by decide)) (pa_cons (pv 0) (pa_cons pe_int pa_nil))) (pa_cons (pe_op op_mulW (pe_cal CG (hr.mono (by decide)) (pa_cons (pv 0) (pa_cons pe_int pa_nil))) (pe_cal CI (hr.mono (by decide)) (pa_cons (pv 0) (pa_cons (pe_lst (pa_cons pe_int (pa_cons (pe_un un_neg pe_int) pa_nil))) pa_nil)))) (pa_cons (pe_lst pa_nil) pa_nil))) (by rfl)) (C8.pss_cut (ps_par (i := 4) (j := 5) rfl sc__law_great_duo.nd rfl rfl (by decide) rfl rfl (pa_cons (pe_op op_add pe_int (pe_cal CI (hr.mono (by decide)) (pa_cons (pv 0) (pa_cons (pe_lst (pa_cons (pe_cal CD (hr.mono (by decide)) (pa_cons (pv 0) (pa_cons pe_int pa_nil))) (pa_cons (pe_cal CG (hr.mono (by decide)) (pa_cons (pv 0) (pa_cons pe_int pa_nil))) pa_nil))) pa_nil)))) (pa_cons (pe_op op_add (pe_op op_pow pe_int pe_int) (pe_cal CG (hr.mono (by decide)) (pa_cons (pv 0) (pa_cons pe_int pa_nil)))) pa_nil)) (by rfl)) (pss_cons (ps_for PassesOwn.never rfl (pi_range1 rfl B.range_ (pa_cons pe_int pa_nil)) (pg_name (i := 6) sc__law_great_duo.nd rfl (Or.inl rfl)) (C8.pss_cut (ps_set (i := 7) sc__law_great_duo.nd rfl (Or.inl rfl) (pe_op op_mulW (pe_op op_mulW (pv 4) (pe_op op_add pe_int (pe_cal CI (hr.mono (by decide)) (pa_cons (pv 0) (pa_cons (pe_lst (pa_cons (pe_cal CD (hr.mono (by decide)) (pa_cons (pv 0) (pa_cons pe_int pa_nil))) (pa_cons (pe_cal CG (hr.mono (by decide)) (pa_cons (pv 0) (pa_cons pe_int pa_nil))) pa_nil))) pa_nil))))) (pe_cal CI (hr.mono (by decide)) (pa_cons (pv 0) (pa_cons (pe_lst (pa_cons pe_int (pa_cons (pe_un un_neg pe_int) pa_nil))) pa_nil))))) (pss_cons (ps_set (i := 8) sc__law_great_duo.nd rfl (Or.inl rfl) (pe_cal CI (hr.mono (by decide)) (pa_cons (pv 0) (pa_cons (pe_lst (pa_cons (pe_cal CD (hr.mono (by decide)) (pa_cons (pv 0) (pa_cons pe_int pa_nil))) (pa_cons (pe_cal CG (hr.mono (by decide)) (pa_cons (pv 0) (pa_cons pe_int pa_nil))) pa_nil))) pa_nil)))) (C8.pss_cut (ps_set (i := 9) sc__law_great_duo.nd rfl (Or.inl rfl) (pe_op op_sub (pe_op op_add (pv 5) (pe_cal CI (hr.mono (by decide)) (pa_cons (pv 0) (pa_cons (pe_lst (pa_cons pe_int (pa_cons (pe_cal CD (hr.mono (by decide)) (pa_cons (pv 0) (pa_cons pe_int pa_nil))) (pa_cons (pe_cal CG (hr.mono (by decide)) (pa_cons (pv 0) (pa_cons pe_int pa_nil))) pa_nil)))) pa_nil)))) (pv 8))) (pss_one (ps_expr (pe_bm PySem.F.plainAttrs_list PySem.F.slot_list_append PySem.F.type_list_append mt_append (pv 3) (pa_cons (pe_tup (pa_cons (pe_ix ix_list (pv 1) (pv 6) (fun _ _ => rfl)) (pa_cons (pv 9) (pa_cons (pe_op op_sub (pv 2) (pe_op op_mulW (pv 8) (pv 7))) (pa_cons (pv 7) pa_nil))))) pa_nil)))))))) (C8.pss_cut (ps_if (pt_cmpR op_eq (pe_cal CD (hr.mono (by decide)) (pa_cons (pv 0) (pa_cons pe_int pa_nil))) pe_int (nomark _)) (pss_one (ps_asg (pe_op op_catT (pe_op op_catT (pe_slice sl_tup (pe_ix ix_list (pv 3) pe_int (fun _ _ => rfl)) po_none (po_some pe_int)) (pe_tup (pa_cons (pe_op op_add (pe_op op_add (pe_ix ix_tup (pe_ix ix_list (pv 3) pe_int (fun _ _ => rfl)) pe_int (fun _ _ => rfl)) pe_int) (pe_cal CD (hr.mono (by decide)) (pa_cons (pv 0) (pa_cons pe_int pa_nil)))) pa_nil))) (pe_slice sl_tup (pe_ix ix_list (pv 3) pe_int (fun _ _ => rfl)) (po_some pe_int) po_none)) (pg_sub (pv 3) pe_int set_list))) pss_nil) (pss_one (ps_ret (pe_tup (pa_cons (pe_ix ix_list (pv 3) pe_int (fun _ _ => rfl)) (pa_cons (pe_ix ix_list (pv 3) pe_int (fun _ _ => rfl)) (pa_cons (pv 2) pa_nil)))))))))), ?_⟩
  refine ⟨fun σ' H' => ∃ (L F : Addr) (z1 z2 : Str) (hub : Int), σ' = [some (.ref p), some (.ref L), some (.int hub), some (.ref F), none, none, none, none, none, none] ∧ NameOk z1 ∧ NameOk z2 ∧ -(10 ^ 28) ≤ hub ∧ hub ≤ 10 ^ 28 ∧ H' L = some (.lst [.str z1, .str z2]) ∧ H' F = some (.lst []) ∧ F ≠ p ∧ F ≠ l ∧ L ≠ F ∧ L ≠ p ∧ H F = none ∧ Pen H' p l (n + 216) ∧ Keep p H H', ?_, ?_⟩
  · refine ⟨_, rfl, p, l, 2, n, rfl, Pn, by omega, by decide, fun L ss H1 hL hss hok hL0 P1 k1 => ?_⟩
    obtain ⟨z1, z2, rfl⟩ := len2g hss
    have zok1 := hok z1 List.mem_cons_self
    have zok2 := hok z2 (List.mem_cons_of_mem _ List.mem_cons_self)
    have nL : L ≠ p := Pn.ne hL0
    refine ⟨_, rfl, p, l, 28, _, rfl, P1, by omega, by decide, by decide, fun h0 H2 h00 h01 P2 k2 => ?_⟩
    refine ⟨_, rfl, _, rfl, (by show 2 ≤ sizeLine; decide), fun t2 ht2 => ?_⟩
    refine ⟨p, l, t2, [1, -1], _, rfl, P2.new ht2, by omega, SqL.of upd_same, by decide, by decide, fun g0 H3 hg0 P3 k3 => ?_⟩
    have gb : g0 = 1 ∨ g0 = -1 := by simpa only [List.mem_cons, List.not_mem_nil, or_false] using hg0
    refine ⟨_, _, rfl, rfl, wide_mul (a := 200) (b := 4) (by omega) (by rcases gb with rfl | rfl <;> decide) (by decide) (by decide) (by decide), (by show 0 ≤ sizeLine; decide), fun F hF => ⟨_, _, _, rfl, ?_⟩⟩
    obtain ⟨hub0, hub1, _⟩ := sgn_bd (A := 10 ^ 28) h00 (by omega) gb
    have kA : Keep p H H3 := (k1.trans (k2.new ht2)).trans k3
    have hL3 : H3 L = some (.lst ([z1, z2].map V.str)) := ((k2.new ht2).trans k3) _ _ hL nL
    have nF := P3.ne hF
    have nFl := P3.nl hF
    exact ⟨L, F, z1, z2, h0 * g0, rfl, zok1, zok2, hub0, hub1, same_new hF _ _ _ hL3, upd_same, nF, nFl, ne_of_none hL3 hF, nL, kA.none_of hF nF, (P3.new hF).le (by omega), kA.new hF⟩
  rintro σ' H4 ⟨L, F, z1, z2, hub, rfl, zok1, zok2, hub0, hub1, hL4, hF4, nF, nFl, nLF, nL, hF0, P4, k4⟩
  -- lot and base
  refine ⟨fun σ' H' => ∃ (lot bs : Int), σ' = [some (.ref p), some (.ref L), some (.int hub), some (.ref F), some (.int lot), some (.int bs), none, none, none, none] ∧ 1 ≤ lot ∧ lot ≤ 10 ^ 9 ∧ 10 ^ 12 ≤ bs ∧ bs ≤ 10 ^ 12 + 10 ^ 29 ∧ Pen H' p l (n + 500) ∧ Keep p H4 H', ?_, ?_⟩
  · refine ⟨_, rfl, _, rfl, p, l, 9, _, rfl, P4, by omega, by omega, by omega, fun a1 H5 c1 d1 P5 k5 => ?_⟩
    refine ⟨_, rfl, p, l, 9, _, rfl, P5, by omega, by decide, by decide, fun a2 H6 c2 d2 P6 k6 => ?_⟩
    refine ⟨(by show 2 ≤ sizeLine; decide), fun t1 ht1 => ?_⟩
    refine ⟨p, l, t1, [a1, a2], _, rfl, P6.new ht1, by omega, SqL.of upd_same, by show 1 ≤ 2; decide, by show 2 ≤ 1000000; decide, fun v1 H7 hv1 P7 k7 => ?_⟩
    have v1b : 0 ≤ v1 ∧ v1 ≤ 10 ^ 9 - 1 := by
      simp only [List.mem_cons, List.not_mem_nil, or_false] at hv1
      omega
    refine ⟨_, _, rfl, rfl, _, _, rfl, rfl, pw12g, _, rfl, p, l, 29, _, rfl, P7, by omega, by decide, by decide, fun b1 H8 e1 e2 P8 k8 => ?_⟩
    refine ⟨_, _, rfl, rfl, _, _, rfl, ?_⟩
    exact ⟨_, _, rfl, by omega, by omega, by rw [e12g]; omega, by rw [e12g]; omega, P8.le (by omega), (((k5.trans k6).new ht1).trans k7).trans k8⟩
  rintro σ' H8 ⟨lot, bs, rfl, l0, l1, b0, b1', P8, kB⟩
  have hF8 := kB _ _ hF4 nF
  have hL8 := kB _ _ hL4 nL
  have k08 := k4.trans kB
  refine ⟨2, rfl, by decide, by decide, for_range (lo := 0) (n := 2) (fun i σ' H' => ∃ (ts : List Addr) (o1 o2 o3 o4 : Option V), σ' = [some (.ref p), some (.ref L), some (.int hub), some (.ref F), some (.int lot), some (.int bs), o1, o2, o3, o4] ∧ H' F = some (.lst (ts.map V.ref)) ∧ ts.length = i ∧ (∀ t ∈ ts, Row H' t GrR) ∧ H' L = some (.lst [.str z1, .str z2]) ∧ Pen H' p l (n + 500 + 500 * i) ∧ Keep p H H')
    ⟨[], none, none, none, none, rfl, hF8, rfl, fun t ht => absurd ht List.not_mem_nil, hL8, P8.le (by omega), k08⟩ ?_ ?_⟩
  · rintro i σ' H' hi ⟨ts, o1, o2, o3, o4, rfl, hFi, hl, hrow, hLi, Pi, ki⟩
    obtain ⟨kvi, hpi⟩ := Pi.dk
    -- the stride
    refine ⟨fun σ' H9 => ∃ str : Int, σ' = [some (.ref p), some (.ref L), some (.int hub), some (.ref F), some (.int lot), some (.int bs), some (.int (0 + (i : Int))), some (.int str), o3, o4] ∧ -(10 ^ 17) ≤ str ∧ str ≤ 10 ^ 17 ∧ str ≠ 0 ∧ Pen H9 p l (n + 500 + 500 * i + 108) ∧ Keep p H' H9, ?_, ?_⟩
    · refine ⟨_, rfl, _, rfl, _, rfl, p, l, 6, _, rfl, Pi, by omega, by omega, by omega, fun a1 H3 c1 d1 P3 k3 => ?_⟩
      refine ⟨_, rfl, p, l, 8, _, rfl, P3, by omega, by decide, by decide, fun a2 H4 c2 d2 P4 k4 => ?_⟩
      refine ⟨(by show 2 ≤ sizeLine; decide), fun t1 h1 => ?_⟩
      refine ⟨p, l, t1, [a1, a2], _, rfl, P4.new h1, by omega, SqL.of upd_same, by show 1 ≤ 2; decide, by show 2 ≤ 1000000; decide, fun v1 H5 hv1 P5 k5 => ?_⟩
      have v1b : 0 ≤ v1 ∧ v1 ≤ 10 ^ 8 - 1 := by
        simp only [List.mem_cons, List.not_mem_nil, or_false] at hv1
        omega
      refine ⟨_, _, rfl, rfl, _, _, rfl, rfl, wide_mul (a := 64) (b := 64) (by omega) (by omega) (by decide) (by decide) (by decide), ?_⟩
      obtain ⟨mb0, mb1⟩ := mul_bd2 (A := 10 ^ 9) (B := 10 ^ 8) l0 l1 (show 1 ≤ 1 + v1 by omega) (by omega)
      refine ⟨_, rfl, _, rfl, (by show 2 ≤ sizeLine; decide), fun t2 h2 => ?_⟩
      refine ⟨p, l, t2, [1, -1], _, rfl, P5.new h2, by omega, SqL.of upd_same, by decide, by decide, fun v2 H6 hv2 P6 k6 => ?_⟩
      have v2b : v2 = 1 ∨ v2 = -1 := by simpa only [List.mem_cons, List.not_mem_nil, or_false] using hv2
      refine ⟨_, _, rfl, rfl, wide_mul (a := 64) (b := 4) (by omega) (by rcases v2b with rfl | rfl <;> decide) (by decide) (by decide) (by decide), ?_⟩
      obtain ⟨sb0, sb1, sb2⟩ := sgn_bd (A := 10 ^ 17) (show 0 ≤ lot * (1 + v1) by omega) (by omega) v2b
      exact ⟨_, rfl, sb0, sb1, sb2 (by omega), P6.le (by omega), (((k3.trans k4).new h1).trans k5 |>.new h2).trans k6⟩
    rintro σ' H6 ⟨str, rfl, sb0, sb1, sn, P6, kk⟩
    -- the steps
    refine ⟨_, rfl, _, rfl, p, l, 9, _, rfl, P6, by omega, by omega, by omega, fun a3 H7 c3 d3 P7 k7 => ?_⟩
    refine ⟨_, rfl, p, l, 11, _, rfl, P7, by omega, by decide, by decide, fun a4 H8 c4 d4 P8 k8 => ?_⟩
    refine ⟨(by show 2 ≤ sizeLine; decide), fun t3 h3 => ?_⟩
    refine ⟨p, l, t3, [a3, a4], _, rfl, P8.new h3, by omega, SqL.of upd_same, by show 1 ≤ 2; decide, by show 2 ≤ 1000000; decide, fun sp H9 hsp P9 k9 => ?_⟩
    have spb : 0 ≤ sp ∧ sp ≤ 10 ^ 11 - 1 := by
      simp only [List.mem_cons, List.not_mem_nil, or_false] at hsp
      omega
    -- the start
    refine ⟨fun σ' H10 => ∃ dt : Int, σ' = [some (.ref p), some (.ref L), some (.int hub), some (.ref F), some (.int lot), some (.int bs), some (.int (0 + (i : Int))), some (.int str), some (.int sp), some (.int dt)] ∧ 0 ≤ dt ∧ dt ≤ 2 * 10 ^ 29 ∧ Pen H10 p l (n + 500 + 500 * i + 400) ∧ Keep p H9 H10, ?_, ?_⟩
    · refine ⟨_, rfl, _, rfl, _, rfl, p, l, 5, _, rfl, P9, by omega, by omega, by omega, fun a5 H10 c5 d5 P10 k10 => ?_⟩
      refine ⟨_, rfl, p, l, 20, _, rfl, P10, by omega, by decide, by decide, fun a6 H11 c6 d6 P11 k11 => ?_⟩
      refine ⟨(by show 3 ≤ sizeLine; decide), fun t4 h4 => ?_⟩
      refine ⟨p, l, t4, [0, a5, a6], _, rfl, P11.new h4, by omega, SqL.of upd_same, by show 1 ≤ 3; decide, by show 3 ≤ 1000000; decide, fun ad H12 had P12 k12 => ?_⟩
      have adb : 0 ≤ ad ∧ ad ≤ 10 ^ 20 := by
        simp only [List.mem_cons, List.not_mem_nil, or_false] at had
        omega
      refine ⟨_, _, rfl, rfl, _, rfl, _, _, rfl, rfl, ?_⟩
      exact ⟨_, rfl, by omega, by omega, P12.le (by omega), ((k10.trans k11).new h4).trans k12⟩
    rintro σ' H12 ⟨dt, rfl, dt0, dt1, P12, k12⟩
    have kk2 : Keep p H' H12 := ((((kk.trans k7).trans k8).new h3).trans k9).trans k12
    have hF12 := kk2 _ _ hFi nF
    have hL12 := kk2 _ _ hLi nL
    refine ⟨_, rfl, .inl ⟨rfl, _, SqL.of hF12⟩, ?_⟩
    obtain ⟨zv, hzv, hzm⟩ := at_some (xs := [V.str z1, V.str z2]) (i := 0 + (i : Int)) (by omega) (by show 0 + (i : Int) < 2; omega)
    obtain ⟨z, rfl, zok⟩ : ∃ z, zv = .str z ∧ NameOk z := by
      simp only [List.mem_cons, List.not_mem_nil, or_false] at hzm
      rcases hzm with rfl | rfl
      · exact ⟨_, rfl, zok1⟩
      · exact ⟨_, rfl, zok2⟩
    have mb := mul_bd (a := sp) (b := str) (A := 10 ^ 11) (B := 10 ^ 17) spb.1 (by omega) sb0 sb1 (by decide)
    refine ⟨_, rfl, _, rfl, L, _, _, _, rfl, rfl, SqL.of hL12, hzv, _, rfl, _, rfl, _, rfl, _, rfl, _, _, rfl, rfl, wide_mul (a := 64) (b := 64) (by omega) (by omega) (by decide) (by decide) (by decide), _, _, rfl, rfl, _, rfl, (by show 4 ≤ sizeLine; decide), fun t5 h5 => ?_⟩
    obtain ⟨od, hod⟩ : ∃ o : HO, o = .tup [.str z, .int dt, .int (hub - sp * str), .int str] := ⟨_, rfl⟩
    rw [← hod]
    have k9 := kk2.new (o := od) h5
    have hF9 := k9 _ _ hFi nF
    refine ⟨F, _, _, rfl, rfl, hF9, by rw [List.length_map]; exact small1000 (by omega), ?_⟩
    have row5 : Row (upd H12 t5 od) t5 GrR := ⟨z, dt, hub - sp * str, str, by rw [upd_same, hod], zok, by unfold GrR; refine ⟨by omega, by omega, by omega, by omega, by omega, by omega, sn⟩⟩
    have rows9 : ∀ t ∈ ts ++ [t5], Row (upd H12 t5 od) t GrR := mem_snoc (fun t ht => (hrow t ht).keep k9 hpi) row5
    exact ⟨ts ++ [t5], _, _, _, _, rfl, by rw [upd_same, List.map_append]; rfl, by rw [List.length_append, hl]; rfl, fun t ht => (rows9 t ht).updL hF9, by rw [upd_ne nLF]; exact k9 _ _ hLi nL, ((P12.new h5).le (by omega)).upd nF nFl, (ki.trans k9).at_new hF0⟩
  rintro σ' H2 ⟨ts, o1, o2, o3, o4, rfl, hF2, hl2, rows2, hL2, P2, k2⟩
  obtain ⟨t1, t2, rfl⟩ := len2g hl2
  have r1 := rows2 t1 List.mem_cons_self
  have r2 := rows2 t2 (List.mem_cons_of_mem _ List.mem_cons_self)
  refine ⟨fun σ' H' => ∃ (t1 t2 : Addr), σ' = [some (.ref p), some (.ref L), some (.int hub), some (.ref F), some (.int lot), some (.int bs), o1, o2, o3, o4] ∧ H' F = some (.lst [.ref t1, .ref t2]) ∧ Row H' t1 GdR ∧ Row H' t2 GdR ∧ Pen H' p l (n + 2000) ∧ Keep p H H', ?_, ?_⟩
  · refine ⟨_, rfl, p, l, 4, _, rfl, P2, by omega, by omega, by omega, fun v H3 v0 v1 P3 k3 => ?_⟩
    obtain ⟨kv2, hp2⟩ := P2.dk
    have hF3 : H3 F = some (.lst [.ref t1, .ref t2]) := k3 _ _ hF2 nF
    have r13 := r1.keep k3 hp2
    have r23 := r2.keep k3 hp2
    refine ⟨rfl, _, rfl, ?_⟩
    refine ite2 (fun _ => ?_) (fun _ => ⟨t1, t2, rfl, hF3, r13.gd, r23.gd, P3.le (by omega), k2.trans k3⟩)
    obtain ⟨nb, db, pb, sb, eb, okb, Rb⟩ := id r23
    obtain ⟨kv3, hp3⟩ := P3.dk
    refine ⟨_, rfl, F, _, _, _, rfl, rfl, SqL.of hF3, rfl, _, rfl, t2, _, rfl, SqT.of eb, fun z => absurd z.2 (by show ¬ (2 = 4); decide), fun y1 hy1 => ?_⟩
    have kb : Keep p H3 (upd H3 y1 (.tup [.str nb, .int db])) := Keep.refl.new hy1
    have hF4 := kb _ _ hF3 nF
    have eb4 := kb _ _ eb (ne_of eb hp3 (by intro z; cases z))
    have hy14 : (upd H3 y1 (.tup [.str nb, .int db])) y1 = some (.tup [.str nb, .int db]) := upd_same
    have P4 := P3.new (o := .tup [.str nb, .int db]) hy1
    refine ⟨_, rfl, F, _, _, _, rfl, rfl, SqL.of hF4, rfl, t2, _, _, _, rfl, rfl, SqT.of eb4, rfl, _, _, rfl, rfl, _, rfl, p, l, 9, _, rfl, P4, by omega, by omega, by omega, fun dv H5 d0 d1 P5 k5 => ⟨_, _, rfl, rfl, (by show 1 ≤ sizeLine; decide), fun w1 hw1 => ?_⟩⟩
    have k6 := (kb.trans k5).new (o := .tup [.int (pb + 1 + dv)]) hw1
    have ny1 : y1 ≠ p := P3.ne hy1
    refine ⟨y1, w1, [.str nb, .int db], [.int (pb + 1 + dv)], rfl, rfl, SqT.of (same_new hw1 _ _ _ (k5 _ _ hy14 ny1)), SqT.of upd_same, (fun e => by cases e), (by show 3 ≤ sizeLine; decide), (fun e => by cases e), fun _ y2 hy2 => ?_⟩
    have k7 := k6.new (o := .tup ([.str nb, .int db] ++ [.int (pb + 1 + dv)])) hy2
    have hF7 := k7 _ _ hF3 nF
    have eb7 := k7 _ _ eb (ne_of eb hp3 (by intro z; cases z))
    refine ⟨_, rfl, F, _, _, _, rfl, rfl, SqL.of hF7, rfl, _, rfl, t2, _, rfl, SqT.of eb7, fun z => absurd z.1 (by show ¬ (3 = 0); decide), fun y3 hy3 => ?_⟩
    refine ⟨y2, y3, [.str nb, .int db, .int (pb + 1 + dv)], [.int sb], rfl, rfl, SqT.of (same_new hy3 _ _ _ upd_same), SqT.of upd_same, (fun e => by cases e), (by show 4 ≤ sizeLine; decide), (fun e => by cases e), fun _ y hy => ?_⟩
    have k9 := (k7.new (o := .tup [.int sb]) hy3).new (o := .tup [.str nb, .int db, .int (pb + 1 + dv), .int sb]) hy
    have hF9 := k9 _ _ hF3 nF
    refine ⟨_, rfl, F, _, _, 1, rfl, rfl, hF9, rfl, ?_⟩
    unfold GrR at Rb
    refine ⟨t1, y, rfl, upd_same, ((r13.gd).keep k9 hp3).updL hF9, Row.updL ⟨nb, db, pb + 1 + dv, sb, upd_same, okb, by unfold GdR; omega⟩ hF9, (((((P5.new hw1).new hy2).new hy3).new hy).le (by omega)).upd nF nFl, (k2.trans (k3.trans k9)).at_new hF0⟩
  rintro σ' H' ⟨t1, t2, rfl, hF', r1, r2, P', k'⟩
  refine ⟨_, rfl, F, _, _, _, rfl, rfl, SqL.of hF', rfl, _, rfl, F, _, _, _, rfl, rfl, SqL.of hF', rfl, _, rfl, (by show 3 ≤ sizeLine; decide), fun u hu => ?_⟩
  exact q u t1 t2 hub _ upd_same (r1.same (same_new hu _)) (r2.same (same_new hu _)) hub0 hub1 (P'.new hu) (k'.new hu)
theorem ok_gduo (D : Dfn K mg "_law_great_duo" s__law_great_duo P__law_great_duo) (B : Blt mg) (CD : Cal P w K mg base 12 "_law_draw" P__law_draw spDr) (CI : Cal P w K mg base 13 "_law_pick" P__law_pick (spPickI K)) (CG : Cal P w K mg base 14 "_law_great" P__law_great spGreat)
    (CN : Cal P w K mg base 14 "_law_names" P__law_names spNames) : Cal P w K mg base 15 "_law_great_duo" P__law_great_duo spGDuo := by
  obtain ⟨f, fd, F, r⟩ := ok_gduoR (P := P) (w := w) (base := base) D B CD CI CG CN
  refine ⟨f, fd, F.imp fun vs H Q E h => ?_, r⟩
  obtain ⟨p, l, n, rfl, h1, h2, q⟩ := h
  exact ⟨p, l, n, rfl, h1, h2, fun u t1 t2 hub H' a b c d e f g => q u t1 t2 hub H' a b.gany c.gany d e f g⟩
end
end Ur
/-! KI: the law's own inverse, greatest divisor, common numbers. -/
namespace Ur
open PySem PySem.Spec PyProof.Rows L2
abbrev s__law_inverse : Stmt := (topS 24)
abbrev N_sc__law_inverse : List Str := ["_law_thing", "_law_size", "_law_this", "_law_that", "_law_front", "_law_second", "_law_times"]
abbrev P__law_inverse : List Str := ["_law_thing", "_law_size"]
theorem sc__law_inverse : FnScope N_sc__law_inverse P__law_inverse (defScope s__law_inverse) := ⟨rfl, rfl, rfl, by decide +kernel, rfl, by decide +kernel, by decide +kernel⟩
def spInv : Sp := fun vs H Q _ => ∃ n m : Int, vs = [.int n, .int m] ∧ 0 < m ∧ m < 2 ^ 100 ∧ Int.gcd n m = 1 ∧ ∀ (i : Int) (H' : Hp), 0 ≤ i → i < m → m ∣ n * i - 1 → Same H H' → Q (.int i) H'
def restOf3 (σ : List (Option L2.V)) : Nat := match σ[3]? with
  | some (some (L2.V.int r)) => r.toNat
  | _ => 0
theorem inv_done {n m d f : Int} (D : DivFac (n % m) m d f) (mp : 0 < m) (hg : Int.gcd n m = 1) : m ∣ n * (f % m) - 1 := by
  obtain ⟨d0, dn, dm, cg, _⟩ := D
  have dn' : d ∣ n := by
    have e := Int.mul_ediv_add_emod n m
    obtain ⟨a, ha⟩ := dn
    obtain ⟨b, hb⟩ := dm
    exact ⟨b * (n / m) + a, by grind⟩
  have d1 : d = 1 := by
    have z : d.natAbs ∣ Int.gcd n m := Nat.dvd_gcd (Int.natAbs_dvd_natAbs.mpr dn') (Int.natAbs_dvd_natAbs.mpr dm)
    rw [hg] at z
    have := Nat.le_of_dvd (by decide) z
    omega
  subst d1
  obtain ⟨c, hc⟩ := cg
  have e1 := Int.mul_ediv_add_emod n m
  have e2 := Int.mul_ediv_add_emod f m
  generalize n % m = x at *
  generalize f % m = y at *
  generalize n / m = a at *
  generalize f / m = b at *
  exact ⟨c + a * y - x * b, by grind⟩
section
variable {P : Program} {w : World} {K : PySem.W.Frag} {mg : Str → Option Value} {base : Heap}
theorem ok_inv (D : Dfn K mg "_law_inverse" s__law_inverse P__law_inverse) (B : Blt mg) : Cal P w K mg base 1 "_law_inverse" P__law_inverse spInv := by
  refine D.cal sc__law_inverse (fun vs H Q E h => ?_) fun f cdv A outer s H vs Q E hr h => ?_
  · obtain ⟨n, m, rfl, _⟩ := h
    rfl
  obtain ⟨n, m, rfl, mp, m1, hg, q⟩ := h
  refine ⟨_, (pss_cons (ps_asg (pe_tup (pa_cons (pe_op op_mod (pe_callTy call_int1 rfl B.int_ (by decide +kernel) (pa_cons (pv 0) pa_nil)) (pv 1)) (pa_cons (pv 1) (pa_cons pe_int (pa_cons pe_int pa_nil))))) (pg_tup rfl (pgs_cons (pg_name (i := 2) sc__law_inverse.nd rfl (Or.inl rfl)) (pgs_cons (pg_name (i := 3) sc__law_inverse.nd rfl (Or.inl rfl)) (pgs_cons (pg_name (i := 4) sc__law_inverse.nd rfl (Or.inl rfl)) (pgs_cons (pg_name (i := 5) sc__law_inverse.nd rfl (Or.inl rfl)) pgs_nil)))))) (pss_cons (ps_while PassesOwn.never (pt_cmpR op_gt (pv 3) pe_int (nomark _)) (pss_cons (ps_set (i := 6) sc__law_inverse.nd rfl (Or.inl rfl) (pe_op op_fdivW (pv 2) (pv 3))) (pss_cons (ps_par (i := 2) (j := 3) rfl sc__law_inverse.nd rfl rfl (by decide) rfl rfl (pa_cons (pv 3) (pa_cons (pe_op op_sub (pv 2) (pe_op op_mulW (pv 6) (pv 3))) pa_nil)) (by rfl)) (pss_one (ps_par (i := 4) (j := 5) rfl sc__law_inverse.nd rfl rfl (by decide) rfl rfl (pa_cons (pv 5) (pa_cons (pe_op op_sub (pv 4) (pe_op op_mulW (pv 6) (pv 5))) pa_nil)) (by rfl)))))) (pss_one (ps_ret (pe_op op_mod (pe_callTy call_int1 rfl B.int_ (by decide +kernel) (pa_cons (pv 4) pa_nil)) (pv 1)))))), ?_⟩
  refine ⟨_, rfl, .inl ⟨_, rfl, _, rfl, _, _, rfl, rfl, mp, _, rfl, (by show 4 ≤ sizeLine; decide), fun t ht => ?_⟩⟩
  refine ⟨t, _, rfl, SqT.of upd_same, rfl, _, _, rfl, _, _, rfl, _, _, rfl, _, _, rfl, rfl, ?_⟩
  have nm0 := Int.emod_nonneg n (show m ≠ 0 by omega)
  have nm1 := Int.emod_lt_of_pos n mp
  refine while_by (fun σ' H' => ∃ (d r f g : Int) (t : Option V), σ' = [some (.int n), some (.int m), some (.int d), some (.int r), some (.int f), some (.int g), t] ∧ Euc (n % m) m d r f g ∧ d ≤ m ∧ r ≤ m ∧ Same H H') (fun σ _ => restOf3 σ) ⟨_, _, _, _, _, rfl, Euc.start nm0 mp, by omega, by omega, same_new ht _⟩ ?_ (fun σ H Q Q' k ⟨v, hv, x, y, e1, e2, b, hb, q⟩ => ⟨v, hv, x, y, e1, e2, b, hb, k _ _ q⟩)
  rintro σ' H' ⟨d, r, f, g, t, rfl, E, dm, rm, sm⟩
  have r0 := E.r0
  refine ⟨_, rfl, _, _, rfl, rfl, _, rfl, ?_⟩
  by_cases rp : 0 < r
  · refine iteDT rp ?_
    have d0 := E.d0
    have f0 := E.f0
    have f1 := E.f1
    have g0 := E.g0
    have g1 := E.g1
    have t0 : 0 ≤ d / r := Int.ediv_nonneg d0 r0
    have t1 : d / r ≤ d := Int.ediv_le_self r d0
    have em := Int.emod_lt_of_pos d (show 0 < r by omega)
    have en := Int.emod_nonneg d (show r ≠ 0 by omega)
    have e : d - d / r * r = d % r := by
      have h := Int.mul_ediv_add_emod d r
      have h2 : r * (d / r) = d / r * r := Int.mul_comm _ _
      omega
    refine ⟨_, rfl, _, rfl, _, _, rfl, rfl, wide_div (b := 120) (by omega) (by omega) (by decide) (by decide), ?_⟩
    refine ⟨_, rfl, _, rfl, _, rfl, _, rfl, _, _, rfl, rfl, wide_mul (a := 120) (b := 120) (by omega) (by omega) (by decide) (by decide) (by decide), _, _, rfl, rfl, _, _, rfl, ?_⟩
    refine ⟨_, rfl, _, rfl, _, rfl, _, rfl, _, _, rfl, rfl, wide_mul (a := 120) (b := 120) (by omega) (by omega) (by decide) (by decide) (by decide), _, _, rfl, rfl, _, _, rfl, ?_⟩
    refine ⟨⟨_, _, _, _, _, rfl, E.step (by omega), rm, by omega, sm⟩, ?_⟩
    show (d - d / r * r).toNat < r.toNat
    omega
  · refine iteDF rp ?_
    obtain rfl : r = 0 := by omega
    refine ⟨_, rfl, .inl ⟨_, rfl, _, rfl, _, _, rfl, rfl, mp, ?_⟩⟩
    exact q _ _ (Int.emod_nonneg f (by omega)) (Int.emod_lt_of_pos f mp) (inv_done (E.done mp) mp hg) sm
end
abbrev s__law_gcd : Stmt := (topS 25)
abbrev N_sc__law_gcd : List Str := ["_law_this", "_law_that"]
abbrev P__law_gcd : List Str := ["_law_this", "_law_that"]
theorem sc__law_gcd : FnScope N_sc__law_gcd P__law_gcd (defScope s__law_gcd) := ⟨rfl, rfl, rfl, by decide +kernel, rfl, by decide +kernel, by decide +kernel⟩
def spGcd : Sp := fun vs H Q _ => ∃ a b : Int, vs = [.int a, .int b] ∧ Q (.int (Int.gcd a b : Int)) H
def restOf1 (σ : List (Option L2.V)) : Nat := match σ[1]? with
  | some (some (L2.V.int r)) => r.toNat
  | _ => 0
theorem gcd_step {x y : Int} (hx : 0 ≤ x) (hy : 0 ≤ y) : Int.gcd y (x % y) = Int.gcd x y := by
  obtain ⟨a, rfl⟩ := Int.eq_ofNat_of_zero_le hx
  obtain ⟨b, rfl⟩ := Int.eq_ofNat_of_zero_le hy
  show Nat.gcd b ((a : Int) % (b : Int)).natAbs = Nat.gcd a b
  rw [← Int.natCast_emod, Int.natAbs_natCast, Nat.gcd_comm b (a % b), ← Nat.gcd_rec, Nat.gcd_comm]
section
variable {P : Program} {w : World} {K : PySem.W.Frag} {mg : Str → Option Value} {base : Heap}
theorem ok_gcd (D : Dfn K mg "_law_gcd" s__law_gcd P__law_gcd) (B : Blt mg) : Cal P w K mg base 1 "_law_gcd" P__law_gcd spGcd := by
  refine D.cal sc__law_gcd (fun vs H Q E h => ?_) fun f cdv A outer s H vs Q E hr h => ?_
  · obtain ⟨a, b, rfl, _⟩ := h
    rfl
  obtain ⟨a, b, rfl, q⟩ := h
  refine ⟨_, (pss_cons (ps_par (i := 0) (j := 1) rfl sc__law_gcd.nd rfl rfl (by decide) rfl rfl (pa_cons (pe_callB call_abs rfl B.abs_ (by decide +kernel) (pa_cons (pv 0) pa_nil)) (pa_cons (pe_callB call_abs rfl B.abs_ (by decide +kernel) (pa_cons (pv 1) pa_nil)) pa_nil)) (by rfl)) (pss_cons (ps_while PassesOwn.never (pt_cmpR op_gt (pv 1) pe_int (nomark _)) (pss_one (ps_par (i := 0) (j := 1) rfl sc__law_gcd.nd rfl rfl (by decide) rfl rfl (pa_cons (pv 1) (pa_cons (pe_op op_mod (pe_callTy call_int1 rfl B.int_ (by decide +kernel) (pa_cons (pv 0) pa_nil)) (pv 1)) pa_nil)) (by rfl)))) (pss_one (ps_ret (pv 0))))), ?_⟩
  refine ⟨_, rfl, _, rfl, _, rfl, _, rfl, _, _, rfl, ?_⟩
  have ea : (if a < 0 then -a else a) = (a.natAbs : Int) := by split <;> omega
  have eb : (if b < 0 then -b else b) = (b.natAbs : Int) := by split <;> omega
  refine while_by (fun σ' H' => ∃ (x y : Int), σ' = [some (.int x), some (.int y)] ∧ 0 ≤ x ∧ 0 ≤ y ∧ Int.gcd x y = Int.gcd a b ∧ H' = H) (fun σ _ => restOf1 σ) ⟨_, _, rfl, by omega, by omega, by rw [ea, eb]; simp [Int.gcd], rfl⟩ ?_ (fun σ H Q Q' k ⟨v, hv, x, y, e1, e2, b, hb, q⟩ => ⟨v, hv, x, y, e1, e2, b, hb, k _ _ q⟩)
  rintro σ' H' ⟨x, y, rfl, x0, y0, hg, rfl⟩
  refine ⟨_, rfl, _, _, rfl, rfl, _, rfl, ?_⟩
  by_cases yp : 0 < y
  · refine iteDT yp ?_
    refine ⟨_, rfl, _, rfl, .inl ⟨_, rfl, _, rfl, _, _, rfl, rfl, yp, _, _, rfl, ?_⟩⟩
    have e0 := Int.emod_nonneg x (show y ≠ 0 by omega)
    have e1 := Int.emod_lt_of_pos x yp
    refine ⟨⟨_, _, rfl, y0, e0, by rw [gcd_step x0 y0]; exact hg, rfl⟩, ?_⟩
    show (x % y).toNat < y.toNat
    omega
  · refine iteDF yp ?_
    obtain rfl : y = 0 := by omega
    refine ⟨_, rfl, ?_⟩
    have e : x = (Int.gcd a b : Int) := by rw [← hg, Int.gcd_zero_right]; omega
    rw [e]
    exact q
end
abbrev s__law_common : Stmt := (topS 26)
abbrev N_sc__law_common : List Str := ["_law_this", "_law_that", "_law_gap", "_law_part", "_law_period", "_law_k", "_law_j"]
abbrev P__law_common : List Str := ["_law_this", "_law_that"]
theorem sc__law_common : FnScope N_sc__law_common P__law_common (defScope s__law_common) := ⟨rfl, rfl, rfl, by decide +kernel, rfl, by decide +kernel, by decide +kernel⟩
def spCom (K : PySem.W.Frag) : Sp := fun vs H Q _ => ∃ (t1 t2 : Addr) (x1 e1 : V) (p1 s1 : Int) (x2 e2 : V) (p2 s2 : Int), vs = [.ref t1, .ref t2] ∧ SqT K H t1 [x1, e1, .int p1, .int s1] ∧ SqT K H t2 [x2, e2, .int p2, .int s2] ∧ s1 ≠ 0 ∧ s2 ≠ 0 ∧ s1.natAbs ≤ 10 ^ 18 ∧ s2.natAbs ≤ 10 ^ 18 ∧ p1.natAbs ≤ 10 ^ 30 ∧ p2.natAbs ≤ 10 ^ 30 ∧
  ∀ (v : V) (H' : Hp), Same H H' → ((v = .non ∧ CommW p1 s1 p2 s2 none) ∨ ∃ (t : Addr) (st k j sp : Int), v = .ref t ∧ H' t = some (.tup [.int k, .int st, .int j, .int sp]) ∧ Meet s1 s2 (p2 - p1) (Int.gcd s1 s2 : Int) st k ∧ j * s2 = k * s1 - (p2 - p1) ∧ sp * s2 = s1 * st) → Q v H'
theorem sgn_div {s : Int} (h : s ≠ 0) : ((s.natAbs : Int).fdiv s) * s = s.natAbs ∧ ((s.natAbs : Int).fdiv s).natAbs = 1 := by
  by_cases c : 0 < s
  · have e : (s.natAbs : Int) = 1 * s := by omega
    rw [e, Int.mul_fdiv_cancel 1 h]
    exact ⟨rfl, rfl⟩
  · have e : (s.natAbs : Int) = (-1) * s := by omega
    rw [e, Int.mul_fdiv_cancel (-1) h]
    exact ⟨rfl, rfl⟩
theorem on_div {p1 s1 p2 s2 d st k : Int} (h2 : s2 ≠ 0) (M : Meet s1 s2 (p2 - p1) d st k) : (p1 + k * s1 - p2).fdiv s2 * s2 = k * s1 - (p2 - p1) := by
  obtain ⟨y, hy⟩ := (M.at_ k).mpr ⟨0, by omega⟩
  have e : p1 + k * s1 - p2 = y * s2 := by rw [Int.mul_comm y]; omega
  rw [e, Int.mul_fdiv_cancel y h2]
  omega
section
variable {P : Program} {w : World} {K : PySem.W.Frag} {mg : Str → Option Value} {base : Heap}
set_option maxHeartbeats 16000000 in
theorem ok_com (D : Dfn K mg "_law_common" s__law_common P__law_common) (B : Blt mg) (CGd : Cal P w K mg base 1 "_law_gcd" P__law_gcd spGcd) (CIv : Cal P w K mg base 1 "_law_inverse" P__law_inverse spInv) : Cal P w K mg base 2 "_law_common" P__law_common (spCom K) := by
  refine D.cal sc__law_common (fun vs H Q E h => ?_) fun f cdv A outer s H vs Q E hr h => ?_
  · obtain ⟨t1, t2, _, _, _, _, _, _, _, _, rfl, _⟩ := h
    rfl
  obtain ⟨t1, t2, x1, e1, p1, s1, x2, e2, p2, s2, rfl, h1, h2, n1, n2, b1, b2, c1, c2, q⟩ := h
  obtain ⟨u, st, hu, hst, stp, d0, cop, dle⟩ := gcd_parts (s1 := s1) n2
  refine ⟨_, (pss_cons (ps_par (i := 2) (j := 3) rfl sc__law_common.nd rfl rfl (by decide) rfl rfl (pa_cons (pe_op op_sub (pe_ix ix_tup (pv 1) pe_int (fun _ _ => rfl)) (pe_ix ix_tup (pv 0) pe_int (fun _ _ => rfl))) (pa_cons (pe_cal CGd (hr.mono (by decide)) (pa_cons (pe_ix ix_tup (pv 0) pe_int (fun _ _ => rfl)) (pa_cons (pe_ix ix_tup (pv 1) pe_int (fun _ _ => rfl)) pa_nil))) pa_nil)) (by rfl)) (pss_cons (ps_if (pt_cmpR op_ne (pe_op op_mod (pe_callTy call_int1 rfl B.int_ (by decide +kernel) (pa_cons (pv 2) pa_nil)) (pv 3)) pe_int (nomark _)) (pss_one (ps_ret pe_non)) pss_nil) (C8.pss_cut (ps_set (i := 4) sc__law_common.nd rfl (Or.inl rfl) (pe_op op_fdivW (pe_callB call_abs rfl B.abs_ (by decide +kernel) (pa_cons (pe_ix ix_tup (pv 1) pe_int (fun _ _ => rfl)) pa_nil)) (pv 3))) (C8.pss_cut (ps_set (i := 5) sc__law_common.nd rfl (Or.inl rfl) (pe_op op_mod (pe_callTy call_int1 rfl B.int_ (by decide +kernel) (pa_cons (pe_op op_mulW (pe_op op_fdivW (pv 2) (pv 3)) (pe_cal CIv (hr.mono (by decide)) (pa_cons (pe_op op_fdivW (pe_ix ix_tup (pv 0) pe_int (fun _ _ => rfl)) (pv 3)) (pa_cons (pv 4) pa_nil)))) pa_nil)) (pv 4))) (C8.pss_cut (ps_set (i := 6) sc__law_common.nd rfl (Or.inl rfl) (pe_op op_fdivX (pe_op op_sub (pe_op op_add (pe_ix ix_tup (pv 0) pe_int (fun _ _ => rfl)) (pe_op op_mulW (pv 5) (pe_ix ix_tup (pv 0) pe_int (fun _ _ => rfl)))) (pe_ix ix_tup (pv 1) pe_int (fun _ _ => rfl))) (pe_ix ix_tup (pv 1) pe_int (fun _ _ => rfl)))) (pss_one (ps_ret (pe_tup (pa_cons (pv 5) (pa_cons (pv 4) (pa_cons (pv 6) (pa_cons (pe_op op_mulW (pe_op op_fdivW (pe_ix ix_tup (pv 0) pe_int (fun _ _ => rfl)) (pv 3)) (pe_op op_fdivX (pe_callB call_abs rfl B.abs_ (by decide +kernel) (pa_cons (pe_ix ix_tup (pv 1) pe_int (fun _ _ => rfl)) pa_nil)) (pe_ix ix_tup (pv 1) pe_int (fun _ _ => rfl)))) pa_nil)))))))))))), ?_⟩
  refine ⟨_, rfl, t2, _, _, _, rfl, rfl, h2, rfl, _, rfl, t1, _, _, _, rfl, rfl, h1, rfl, _, _, rfl, rfl, _, rfl, t1, _, _, _, rfl, rfl, h1, rfl, _, rfl, t2, _, _, _, rfl, rfl, h2, rfl, s1, s2, rfl, _, _, rfl, ?_⟩
  refine ⟨_, rfl, .inl ⟨_, rfl, _, rfl, _, _, rfl, rfl, d0, rfl, _, rfl, ?_⟩⟩
  by_cases hg : (p2 - p1) % (Int.gcd s1 s2 : Int) = 0
  · refine iteNS (congrArg V.int hg) ?_
    have dg : (Int.gcd s1 s2 : Int) ∣ p2 - p1 := Int.dvd_of_emod_eq_zero hg
    have eu : s1 / (Int.gcd s1 s2 : Int) = u := by
      conv => lhs; lhs; rw [hu]
      exact Int.mul_ediv_cancel_left _ (by omega)
    have ea : (if s2 < 0 then -s2 else s2) = (s2.natAbs : Int) := by split <;> omega
    have est : (s2.natAbs : Int) / (Int.gcd s1 s2 : Int) = st := by rw [hst]; exact Int.mul_ediv_cancel_left _ (by omega)
    have stl : st ≤ s2.natAbs := by rw [← est]; exact Int.ediv_le_self _ (by omega)
    have dbd : (Int.gcd s1 s2 : Int).natAbs < 2 ^ 100 := by omega
    have ul : u.natAbs ≤ s1.natAbs := by rw [← eu]; exact Int.natAbs_ediv_le_natAbs _ _
    refine ⟨fun σ' H' => σ' = [some (.ref t1), some (.ref t2), some (.int (p2 - p1)), some (.int (Int.gcd s1 s2 : Int)), some (.int st), none, none] ∧ H' = H, ?_, ?_⟩
    · refine ⟨_, rfl, t2, _, _, _, rfl, rfl, h2, rfl, _, rfl, _, rfl, _, _, rfl, rfl, wide_div (b := 100) d0 (by omega) (by decide) (by decide), ?_⟩
      rw [ea]
      exact ⟨congrArg (fun z => [some (V.ref t1), some (V.ref t2), some (V.int (p2 - p1)), some (V.int (Int.gcd s1 s2 : Int)), some (V.int z), none, none]) est, rfl⟩
    rintro σ' H' ⟨rfl, rfl⟩
    refine ⟨fun σ' H1 => ∃ k : Int, σ' = [some (.ref t1), some (.ref t2), some (.int (p2 - p1)), some (.int (Int.gcd s1 s2 : Int)), some (.int st), some (.int k), none] ∧ Meet s1 s2 (p2 - p1) (Int.gcd s1 s2 : Int) st k ∧ Same H' H1, ?_, ?_⟩
    · have gq : ((p2 - p1) / (Int.gcd s1 s2 : Int)).natAbs < 2 ^ 120 := by
        have : ((p2 - p1) / (Int.gcd s1 s2 : Int)).natAbs ≤ (p2 - p1).natAbs := Int.natAbs_ediv_le_natAbs (p2 - p1) _
        omega
      refine ⟨_, rfl, _, rfl, _, _, rfl, rfl, wide_div (b := 100) d0 (by omega) (by decide) (by decide), _, rfl, t1, _, _, _, rfl, rfl, h1, rfl, _, rfl, _, _, rfl, rfl, wide_div (b := 100) d0 (by omega) (by decide) (by decide), _, rfl, s1 / (Int.gcd s1 s2 : Int), st, rfl, stp, by omega, by rw [eu]; exact cop, fun i H1 i0 i1 hi sm => ?_⟩
      rw [eu] at hi
      refine ⟨_, _, rfl, rfl, wide_mul (a := 120) (b := 100) gq (by omega) (by decide) (by decide) (by decide), .inl ⟨_, rfl, _, rfl, _, _, rfl, rfl, stp, ?_⟩⟩
      exact ⟨_, rfl, meet_by d0 hu hst stp hi dg, sm⟩
    rintro σ' H1 ⟨k, rfl, M, sm⟩
    have k0 := M.r0
    have k1 := M.r1
    have h1' := sameTup sm h1
    have h2' := sameTup sm h2
    have dvx : CDivX (p1 + k * s1 - p2) s2 := ⟨n2, Nat.lt_of_lt_of_le (PySem.Flt.log2_lt_of (by decide) (show s2.natAbs < 2 ^ 120 by omega)) (by decide)⟩
    refine ⟨fun σ' H2 => ∃ j : Int, σ' = [some (.ref t1), some (.ref t2), some (.int (p2 - p1)), some (.int (Int.gcd s1 s2 : Int)), some (.int st), some (.int k), some (.int j)] ∧ j * s2 = k * s1 - (p2 - p1) ∧ H2 = H1, ?_, ?_⟩
    · refine ⟨_, rfl, t1, _, _, _, rfl, rfl, h1', rfl, _, rfl, _, rfl, t1, _, _, _, rfl, rfl, h1', rfl, _, _, rfl, rfl, wide_mul (a := 100) (b := 100) (by omega) (by omega) (by decide) (by decide) (by decide), _, _, rfl, rfl, _, rfl, t2, _, _, _, rfl, rfl, h2', rfl, _, _, rfl, rfl, _, rfl, t2, _, _, _, rfl, rfl, h2', rfl, _, _, rfl, rfl, dvx, ?_⟩
      exact ⟨_, rfl, on_div n2 M, rfl⟩
    rintro σ' H2 ⟨j, rfl, hj, rfl⟩
    obtain ⟨g1, g2⟩ := sgn_div n2
    have dvy : CDivX (s2.natAbs : Int) s2 := dvx
    refine ⟨_, rfl, _, rfl, _, rfl, _, rfl, t1, _, _, _, rfl, rfl, h1', rfl, _, rfl, _, _, rfl, rfl, wide_div (b := 100) d0 (by omega) (by decide) (by decide), _, rfl, t2, _, _, _, rfl, rfl, h2', rfl, _, rfl, _, rfl, t2, _, _, _, rfl, rfl, h2', rfl, _, _, rfl, rfl, (by rw [ea]; exact dvy), _, _, rfl, rfl, wide_mul (a := 100) (b := 4) (by rw [eu]; omega) (by rw [ea]; omega) (by decide) (by decide) (by decide), (by show 4 ≤ sizeLine; decide), fun t ht => ?_⟩
    refine q _ _ (sm.trans (same_new ht _)) (.inr ⟨t, st, k, j, u * (s2.natAbs : Int).fdiv s2, rfl, by rw [upd_same, eu, ea], M, hj, ?_⟩)
    rw [Int.mul_assoc, g1, hst]
    grind
  · refine iteNN (fun z => hg (V.int.inj z)) ?_
    refine q _ _ (Same.refl _) (.inl ⟨rfl, ?_⟩)
    exact (comm_gap (Int.gcd_dvd_left s1 s2) (Int.gcd_dvd_right s1 s2) fun z => hg (Int.emod_eq_zero_of_dvd z)).weak
end
end Ur
/-! KM: meetings, a generator. -/
namespace Ur
open PySem PySem.Spec PyProof.Rows L2 GenW
abbrev s_meetings : Stmt := (topS 13)
abbrev N_sc_meetings : List Str := ["one", "other", "numbers", "number", "last", "step", "post"]
abbrev P_meetings : List Str := ["one", "other"]
theorem sc_meetings : GScope N_sc_meetings P_meetings (defScope s_meetings) := ⟨rfl, rfl, rfl, by decide +kernel, rfl, by decide +kernel, by decide +kernel⟩
/-- the rows as they stand -/
inductive RowsAt (H : Hp) : List V → List (Int × Int × Int) → Prop
  | nil : RowsAt H [] []
  | snoc {vs : List V} {rs : List (Int × Int × Int)} {t : Addr} {a b c : Int} : RowsAt H vs rs → H t = some (.tup [.int a, .int b, .int c]) → RowsAt H (vs ++ [.ref t]) (rs ++ [(a, b, c)])
theorem RowsAt.same {H H' : Hp} {vs : List V} {rs : List (Int × Int × Int)} (h : RowsAt H vs rs) (k : Same H H') : RowsAt H' vs rs := by
  induction h with
  | nil => exact .nil
  | snoc _ e ih => exact .snoc ih (k _ _ e)
def spMZ (C : Addr) (L : Nat) : SpZ := fun vs H Q => ∃ (a1 a2 : Addr) (nm1 : Str) (d1 p1 s1 : Int) (nm2 : Str) (d2 p2 s2 : Int), vs = [.ref a1, .ref a2] ∧ Two C H a1 a2 nm1 d1 p1 s1 nm2 d2 p2 s2 ∧
  ∀ (r : Option (Int × Option Int × Int)) (m : Nat) (ys : List V) (H' : Hp), Comm p1 s1 p2 s2 r → Taken L r m → RowsAt H' ys (mRows p1 d1 s1 p2 d2 s2 r m) → Same H H' → Q ys H'
theorem orK {d : Bool} {X Y S : Prop} (b : Bool) (hk : if b = true then X else Y) (h1 : d = true → b = true) (h2 : d = false → (if b = true then X else Y) → S) : if d = true then (if true = true then X else Y) else S := by
  cases d with
  | true =>
    have e := h1 rfl
    subst e
    rw [if_pos rfl]
    exact hk
  | false =>
    rw [if_neg Bool.false_ne_true]
    exact h2 rfl hk
section
variable {P : Program} {w : World} {K : PySem.W.Frag} {mg : Str → Option Value} {base : Heap} {C : Addr}
set_option pp.deepTerms false in
set_option pp.maxSteps 3000 in
set_option maxHeartbeats 16000000 in
theorem ok_meetZ {f : Addr} {kV dc pm cdv ct oc : Value} {an od : Option Addr} {osl : Array (Option Value)} (L : Nat) (hL : 0 < L) (hL1 : L ≤ 1000) (lk : K.lookup f = some ⟨oc, od, .func (PySem.W.fnOf "meetings" "meetings" (defArgs s_meetings) (defBody s_meetings) (defScope s_meetings) .none kV dc pm an cdv ct), osl⟩) (hcd : PySem.W.codeIn K cdv "meetings" = true)
    (B : Blt mg) (T : PTxt K mg C) (hDay : PropS P w K mg base C "day" 1 (getSp C "_day")) (hPost : PropS P w K mg base C "post" 1 (getSp C "_post")) (hStride : PropS P w K mg base C "stride" 1 (getSp C "_stride")) (CCN : Cal P w K mg base 3 "common_numbers" P_common_numbers (spCN C)) :
    ZFn P w K mg base 4 L f (PySem.W.fnOf "meetings" "meetings" (defArgs s_meetings) (defBody s_meetings) (defScope s_meetings) .none kV dc pm an cdv ct) P_meetings (spMZ C L) := by
  refine zgfn_of hL lk hcd sc_meetings (fun vs H Q h => ?_) (fun A outer s H vs Q pn hr h => ?_)
  · obtain ⟨a1, a2, _, _, _, _, _, _, _, _, rfl, _⟩ := h
    rfl
  obtain ⟨a1, a2, nm1, d1, p1, s1, nm2, d2, p2, s2, rfl, Tw, q⟩ := h
  refine ⟨_, (zss_cons (zs_ps (ps_nox (ps_set (i := 2) sc_meetings.nd rfl (Or.inl rfl) (pe_cal CCN (hr.mono (by decide)) (pa_cons (pv 0) (pa_cons (pv 1) pa_nil)))))) (zss_cons (zs_ps (ps_nox (ps_if (pt_cmpR op_isN (pv 2) pe_non (nomark _)) (pss_one ps_retN) pss_nil))) (zss_cons (zs_ps (ps_nox (ps_asg (pv 2) (pg_tup rfl (pgs_cons (pg_name (i := 3) sc_meetings.nd rfl (Or.inl rfl)) (pgs_cons (pg_name (i := 4) sc_meetings.nd rfl (Or.inl rfl)) (pgs_cons (pg_name (i := 5) sc_meetings.nd rfl (Or.inl rfl)) pgs_nil))))))) (zss_cons (zs_while owns_gcx (PT.nox (PW.pt (pw_or (pt_cmpR op_isN (pv 4) pe_non (nomark _)) (pw_or1 (pt_cmpR op_le (pv 3) (pv 4) (nomark _)))))) (zss_cons (zs_ps (ps_nox (ps_set (i := 6) sc_meetings.nd rfl (Or.inl rfl) (pe_op op_add (pe_prS (pv 0) T.cl hPost (hr.mono (by decide))) (pe_op op_mulW (pv 3) (pe_prS (pv 0) T.cl hStride (hr.mono (by decide)))))))) (zss_cons (zs_yield (PE.nox (pe_tup (pa_cons (pv 6) (pa_cons (pe_op op_add (pe_prS (pv 0) T.cl hDay (hr.mono (by decide))) (pv 3)) (pa_cons (pe_op op_add (pe_prS (pv 1) T.cl hDay (hr.mono (by decide))) (pe_op op_fdivX (pe_op op_sub (pv 6) (pe_prS (pv 1) T.cl hPost (hr.mono (by decide)))) (pe_prS (pv 1) T.cl hStride (hr.mono (by decide))))) pa_nil)))))) (zss_cons (zs_ps (ps_nox (ps_aug (i := 3) sc_meetings.nd rfl (Or.inl rfl) (pv 5) ip_add))) zss_nil)))) zss_nil)))), ?_⟩
  refine ⟨_, rfl, _, rfl, a1, a2, nm1, d1, p1, s1, nm2, d2, p2, s2, rfl, Tw, fun r v H1 Cm hv sm => ?_⟩
  refine ⟨_, rfl, rfl, _, rfl, ?_⟩
  cases r with
  | none =>
    obtain rfl : v = .non := hv
    refine iteDT rfl ⟨rfl, q none 0 [] H1 Cm ⟨fun j h => absurd h (by omega), by omega, .inr fun z => z⟩ .nil sm⟩
  | some y =>
    obtain ⟨a, l, st⟩ := y
    obtain ⟨t, rfl, ht⟩ := hv
    obtain ⟨dx1, h1⟩ := Tw.h1
    obtain ⟨dx2, h2⟩ := Tw.h2
    have h1 := sm _ _ h1
    have h2 := sm _ _ h2
    obtain ⟨_, d10, d11, p10, p11, s10, s11, s1n⟩ := Tw.o1
    obtain ⟨_, d20, d21, p20, p21, s20, s21, s2n⟩ := Tw.o2
    obtain ⟨a0, ab, S, lb⟩ := Cm.first_le
    have sl := step_le s2n S
    have sp := S.1
    refine iteDF (by intro z; cases z) ?_
    refine ⟨_, rfl, t, _, rfl, SqT.of ht, rfl, _, _, rfl, _, _, rfl, _, _, rfl, rfl, ?_⟩
    refine ⟨fun m ys σ H' => m + ys.length = L ∧ 0 < m ∧ (∃ o6 : Option V, σ = [some (.ref a1), some (.ref a2), some (.ref t), some (.int (nthN (some (a, l, st)) ys.length)), some (optV l), some (.int st), o6]) ∧ RowsAt H' ys (mRows p1 d1 s1 p2 d2 s2 (some (a, l, st)) ys.length) ∧ (∀ j, j < ys.length → okN (some (a, l, st)) j) ∧ Same H1 H', ⟨L, by simp, hL, ⟨none, ?_⟩, .nil, fun j h => absurd h (by simp), Same.refl H1⟩, ?_⟩
    · rw [show nthN (some (a, l, st)) ([] : List V).length = a from by show a + ((0 : Nat) : Int) * st = a; omega]
      rfl
    · rintro m ys σ H2 ⟨hm, m0, ⟨o6, rfl⟩, rows, oks, sm2⟩
      have sm2' := sm.trans sm2
      refine ⟨_, rfl, rfl, _, rfl, ?_⟩
      show if decide (optV l = V.non) = true then _ else _
      by_cases o : okN (some (a, l, st)) ys.length
      · refine orK true ?_ (fun _ => rfl) (fun hd hk => ?_)
        · rw [if_pos rfl]
          refine ⟨_, fun _ _ _ z => z, ?_⟩
          have h1 := sm2 _ _ h1
          have h2 := sm2 _ _ h2
          have n0 := nthN_nn Cm ys.length
          have nb : nthN (some (a, l, st)) ys.length ≤ 10 ^ 32 := by
            show a + (ys.length : Int) * st ≤ 10 ^ 32
            have : (ys.length : Int) * st ≤ 1000 * 10 ^ 18 := Int.mul_le_mul (by omega) (by omega) (by omega) (by decide)
            omega
          generalize hn : nthN (some (a, l, st)) ys.length = n at n0 nb ⊢
          have mb := mul_bd (a := n) (b := s1) (A := 10 ^ 32) (B := 10 ^ 18) n0 nb (by omega) (by omega) (by decide)
          have dvx : CDivX (p1 + n * s1 - p2) s2 := ⟨s2n, Nat.lt_of_lt_of_le (PySem.Flt.log2_lt_of (by decide) (show s2.natAbs < 2 ^ 200 by omega)) (by decide)⟩
          refine ⟨_, rfl, a1, dx1, _, rfl, h1, a1, dx1, _, _, rfl, h1, pfs_post _ _ _ _, _, rfl, _, rfl, a1, dx1, _, rfl, h1, a1, dx1, _, _, rfl, h1, pfs_stride _ _ _ _, _, _, rfl, rfl, wide_mul (a := 200) (b := 120) (by omega) (by omega) (by decide) (by decide) (by decide), _, _, rfl, rfl, ?_⟩
          refine ⟨_, rfl, _, rfl, a1, dx1, _, rfl, h1, a1, dx1, _, _, rfl, h1, pfs_day _ _ _ _, _, rfl, _, _, rfl, rfl, _, rfl, a2, dx2, _, rfl, h2, a2, dx2, _, _, rfl, h2, pfs_day _ _ _ _, _, rfl, _, rfl, a2, dx2, _, rfl, h2, a2, dx2, _, _, rfl, h2, pfs_post _ _ _ _, _, _, rfl, rfl, _, rfl, a2, dx2, _, rfl, h2, a2, dx2, _, _, rfl, h2, pfs_stride _ _ _ _, _, _, rfl, rfl, dvx, _, _, rfl, rfl, (by show 3 ≤ sizeLine; decide), fun u hu => ?_⟩
          have sm3 := same_new hu (.tup [.int (p1 + n * s1), .int (d1 + n), .int (d2 + (p1 + n * s1 - p2).fdiv s2)])
          have rows' : RowsAt (upd H2 u (.tup [.int (p1 + n * s1), .int (d1 + n), .int (d2 + (p1 + n * s1 - p2).fdiv s2)])) (ys ++ [.ref u]) (mRows p1 d1 s1 p2 d2 s2 (some (a, l, st)) (ys.length + 1)) := by
            rw [mRows_snoc, hn]
            exact .snoc (rows.same sm3) upd_same
          have oks' : ∀ j, j < ys.length + 1 → okN (some (a, l, st)) j := fun j hj => by
            by_cases c : j < ys.length
            · exact oks j c
            · rw [show j = ys.length by omega]
              exact o
          refine ⟨fun e => q _ (ys.length + 1) _ _ Cm ⟨oks', by omega, .inl e⟩ rows' (sm2'.trans sm3), fun e => ?_⟩
          refine ⟨_, rfl, _, rfl, _, _, rfl, rfl, m - 1, by omega, by rw [List.length_append, List.length_singleton]; omega, by omega, ⟨some (.int (p1 + n * s1)), ?_⟩, by rw [List.length_append, List.length_singleton]; exact rows', by rw [List.length_append, List.length_singleton]; exact oks', sm2.trans sm3⟩
          rw [List.length_append, List.length_singleton]
          have en : nthN (some (a, l, st)) (ys.length + 1) = n + st := by
            rw [← hn]
            show a + ((ys.length + 1 : Nat) : Int) * st = a + (ys.length : Int) * st + st
            grind
          rw [en]
          rfl
        · cases l with
          | none => cases hd
          | some x => exact ⟨_, rfl, _, rfl, _, _, rfl, rfl, true, congrArg V.bl (decide_eq_true (show a + (ys.length : Int) * st ≤ x from o x rfl)), hk⟩
      · refine orK false ?_ (fun hd => ?_) (fun hd hk => ?_)
        · rw [if_neg Bool.false_ne_true]
          exact q _ ys.length ys H2 Cm ⟨oks, by omega, .inr o⟩ rows sm2'
        · cases l with
          | none => exact absurd (fun x e => by cases e) o
          | some x => cases hd
        · cases l with
          | none => cases hd
          | some x => exact ⟨_, rfl, _, rfl, _, _, rfl, rfl, false, congrArg V.bl (decide_eq_false (show ¬ a + (ys.length : Int) * st ≤ x from fun z => o fun y e => by cases e; exact z)), hk⟩
end
end Ur
/-! KML: meetings of ways with an end, read to the end. -/
namespace Ur
open PySem PySem.Spec PyProof.Rows L2 GenW
def spMG (C : Addr) : SpG := fun vs H Q _ => ∃ (a1 a2 : Addr) (nm1 : Str) (d1 p1 s1 : Int) (nm2 : Str) (d2 p2 s2 : Int), vs = [.ref a1, .ref a2] ∧ Two C H a1 a2 nm1 d1 p1 s1 nm2 d2 p2 s2 ∧ (p2 - p1).natAbs ≤ 1000 ∧ (∀ a l st, Comm p1 s1 p2 s2 (some (a, l, st)) → l ≠ none) ∧
  ∀ (r : Option (Int × Option Int × Int)) (m : Nat) (ys : List V) (H' : Hp), Comm p1 s1 p2 s2 r → (∀ j, j < m → okN r j) → ¬ okN r m → RowsAt H' ys (mRows p1 d1 s1 p2 d2 s2 r m) → Same H H' → Q ys H'
section
variable {P : Program} {w : World} {K : PySem.W.Frag} {mg : Str → Option Value} {base : Heap} {C : Addr}
set_option pp.deepTerms false in
set_option pp.maxSteps 3000 in
set_option maxHeartbeats 16000000 in
theorem ok_meetG {f : Addr} {kV dc pm cdv ct oc : Value} {an od : Option Addr} {osl : Array (Option Value)} (lk : K.lookup f = some ⟨oc, od, .func (PySem.W.fnOf "meetings" "meetings" (defArgs s_meetings) (defBody s_meetings) (defScope s_meetings) .none kV dc pm an cdv ct), osl⟩) (hcd : PySem.W.codeIn K cdv "meetings" = true)
    (B : Blt mg) (T : PTxt K mg C) (hDay : PropS P w K mg base C "day" 1 (getSp C "_day")) (hPost : PropS P w K mg base C "post" 1 (getSp C "_post")) (hStride : PropS P w K mg base C "stride" 1 (getSp C "_stride")) (CCN : Cal P w K mg base 3 "common_numbers" P_common_numbers (spCN C)) :
    GFn P w K mg base 4 f (PySem.W.fnOf "meetings" "meetings" (defArgs s_meetings) (defBody s_meetings) (defScope s_meetings) .none kV dc pm an cdv ct) P_meetings (spMG C) := by
  refine gfn_of lk hcd sc_meetings (fun vs H Q E h => ?_) (fun A outer s H vs Q E pn hr h => ?_)
  · obtain ⟨a1, a2, _, _, _, _, _, _, _, _, rfl, _⟩ := h
    rfl
  obtain ⟨a1, a2, nm1, d1, p1, s1, nm2, d2, p2, s2, rfl, Tw, near, fin, q⟩ := h
  refine ⟨_, (gss_cons (gs_ps (ps_nox (ps_set (i := 2) sc_meetings.nd rfl (Or.inl rfl) (pe_cal CCN (hr.mono (by decide)) (pa_cons (pv 0) (pa_cons (pv 1) pa_nil)))))) (gss_cons (gs_ps (ps_nox (ps_if (pt_cmpR op_isN (pv 2) pe_non (nomark _)) (pss_one ps_retN) pss_nil))) (gss_cons (gs_ps (ps_nox (ps_asg (pv 2) (pg_tup rfl (pgs_cons (pg_name (i := 3) sc_meetings.nd rfl (Or.inl rfl)) (pgs_cons (pg_name (i := 4) sc_meetings.nd rfl (Or.inl rfl)) (pgs_cons (pg_name (i := 5) sc_meetings.nd rfl (Or.inl rfl)) pgs_nil))))))) (gss_cons (gs_while owns_gcx (PT.nox (PW.pt (pw_or (pt_cmpR op_isN (pv 4) pe_non (nomark _)) (pw_or1 (pt_cmpR op_le (pv 3) (pv 4) (nomark _)))))) (gss_cons (gs_ps (ps_nox (ps_set (i := 6) sc_meetings.nd rfl (Or.inl rfl) (pe_op op_add (pe_prS (pv 0) T.cl hPost (hr.mono (by decide))) (pe_op op_mulW (pv 3) (pe_prS (pv 0) T.cl hStride (hr.mono (by decide)))))))) (gss_cons (gs_yield (PE.nox (pe_tup (pa_cons (pv 6) (pa_cons (pe_op op_add (pe_prS (pv 0) T.cl hDay (hr.mono (by decide))) (pv 3)) (pa_cons (pe_op op_add (pe_prS (pv 1) T.cl hDay (hr.mono (by decide))) (pe_op op_fdivX (pe_op op_sub (pv 6) (pe_prS (pv 1) T.cl hPost (hr.mono (by decide)))) (pe_prS (pv 1) T.cl hStride (hr.mono (by decide))))) pa_nil)))))) (gss_cons (gs_ps (ps_nox (ps_aug (i := 3) sc_meetings.nd rfl (Or.inl rfl) (pv 5) ip_add))) gss_nil)))) gss_nil)))), ?_⟩
  refine ⟨_, rfl, _, rfl, a1, a2, nm1, d1, p1, s1, nm2, d2, p2, s2, rfl, Tw, fun r v H1 Cm hv sm => ?_⟩
  refine ⟨_, rfl, rfl, _, rfl, ?_⟩
  cases r with
  | none =>
    obtain rfl : v = .non := hv
    refine iteDT rfl ⟨rfl, q none 0 [] H1 Cm (fun j h => absurd h (by omega)) (fun z => z) .nil sm⟩
  | some y =>
    obtain ⟨a, l, st⟩ := y
    obtain ⟨t, rfl, ht⟩ := hv
    obtain ⟨dx1, h1⟩ := Tw.h1
    obtain ⟨dx2, h2⟩ := Tw.h2
    have h1 := sm _ _ h1
    have h2 := sm _ _ h2
    obtain ⟨_, d10, d11, p10, p11, s10, s11, s1n⟩ := Tw.o1
    obtain ⟨_, d20, d21, p20, p21, s20, s21, s2n⟩ := Tw.o2
    obtain ⟨a0, ab, S, lb⟩ := Cm.first_le
    have sl := step_le s2n S
    have sp := S.1
    obtain ⟨x, rfl⟩ : ∃ x, l = some x := by
      cases l with
      | none => exact absurd rfl (fin _ _ _ Cm)
      | some x => exact ⟨x, rfl⟩
    obtain ⟨x0, x1⟩ := lb x rfl
    refine iteDF (by intro z; cases z) ?_
    refine ⟨_, rfl, t, _, rfl, SqT.of ht, rfl, _, _, rfl, _, _, rfl, _, _, rfl, rfl, ?_⟩
    refine ⟨fun m ys σ H' => (x + st - nthN (some (a, some x, st)) ys.length < m) ∧ (∃ o6 : Option V, σ = [some (.ref a1), some (.ref a2), some (.ref t), some (.int (nthN (some (a, some x, st)) ys.length)), some (optV (some x)), some (.int st), o6]) ∧ RowsAt H' ys (mRows p1 d1 s1 p2 d2 s2 (some (a, some x, st)) ys.length) ∧ (∀ j, j < ys.length → okN (some (a, some x, st)) j) ∧ Same H1 H', ⟨(x + st).toNat + 1, ?_, ⟨none, ?_⟩, .nil, fun j h => absurd h (by simp), Same.refl H1⟩, ?_⟩
    · have := nthN_nn Cm ([] : List V).length
      omega
    · rw [show nthN (some (a, some x, st)) ([] : List V).length = a from by show a + ((0 : Nat) : Int) * st = a; omega]
      rfl
    · rintro m ys σ H2 ⟨hm, ⟨o6, rfl⟩, rows, oks, sm2⟩
      have sm2' := sm.trans sm2
      refine ⟨_, rfl, rfl, _, rfl, iteDF (by intro z; cases z) ?_⟩
      by_cases o : okN (some (a, some x, st)) ys.length
      · refine ⟨_, rfl, _, rfl, _, _, rfl, rfl, true, congrArg V.bl (decide_eq_true (show a + (ys.length : Int) * st ≤ x from o x rfl)), ?_⟩
        · show if true = true then _ else _
          rw [if_pos rfl]
          refine ⟨_, fun _ _ _ z => z, ?_⟩
          have ox : a + (ys.length : Int) * st ≤ x := o x rfl
          have yl : (ys.length : Int) * 1 ≤ (ys.length : Int) * st := Int.mul_le_mul_of_nonneg_left (by omega) (by omega)
          have h1 := sm2 _ _ h1
          have h2 := sm2 _ _ h2
          have n0 := nthN_nn Cm ys.length
          have nb : nthN (some (a, some x, st)) ys.length ≤ 10 ^ 32 := by
            show a + (ys.length : Int) * st ≤ 10 ^ 32
            omega
          have nx : nthN (some (a, some x, st)) ys.length ≤ x := ox
          generalize hn : nthN (some (a, some x, st)) ys.length = n at n0 nb ⊢
          have mb := mul_bd (a := n) (b := s1) (A := 10 ^ 32) (B := 10 ^ 18) n0 nb (by omega) (by omega) (by decide)
          have dvx : CDivX (p1 + n * s1 - p2) s2 := ⟨s2n, Nat.lt_of_lt_of_le (PySem.Flt.log2_lt_of (by decide) (show s2.natAbs < 2 ^ 200 by omega)) (by decide)⟩
          refine ⟨_, rfl, a1, dx1, _, rfl, h1, a1, dx1, _, _, rfl, h1, pfs_post _ _ _ _, _, rfl, _, rfl, a1, dx1, _, rfl, h1, a1, dx1, _, _, rfl, h1, pfs_stride _ _ _ _, _, _, rfl, rfl, wide_mul (a := 200) (b := 120) (by omega) (by omega) (by decide) (by decide) (by decide), _, _, rfl, rfl, ?_⟩
          refine ⟨Nat.lt_of_lt_of_le (show ys.length < 1001 by omega) (by decide), _, rfl, _, rfl, a1, dx1, _, rfl, h1, a1, dx1, _, _, rfl, h1, pfs_day _ _ _ _, _, rfl, _, _, rfl, rfl, _, rfl, a2, dx2, _, rfl, h2, a2, dx2, _, _, rfl, h2, pfs_day _ _ _ _, _, rfl, _, rfl, a2, dx2, _, rfl, h2, a2, dx2, _, _, rfl, h2, pfs_post _ _ _ _, _, _, rfl, rfl, _, rfl, a2, dx2, _, rfl, h2, a2, dx2, _, _, rfl, h2, pfs_stride _ _ _ _, _, _, rfl, rfl, dvx, _, _, rfl, rfl, (by show 3 ≤ sizeLine; decide), fun u hu => ?_⟩
          have sm3 := same_new hu (.tup [.int (p1 + n * s1), .int (d1 + n), .int (d2 + (p1 + n * s1 - p2).fdiv s2)])
          have rows' : RowsAt (upd H2 u (.tup [.int (p1 + n * s1), .int (d1 + n), .int (d2 + (p1 + n * s1 - p2).fdiv s2)])) (ys ++ [.ref u]) (mRows p1 d1 s1 p2 d2 s2 (some (a, some x, st)) (ys.length + 1)) := by
            rw [mRows_snoc, hn]
            exact .snoc (rows.same sm3) upd_same
          have oks' : ∀ j, j < ys.length + 1 → okN (some (a, some x, st)) j := fun j hj => by
            by_cases c : j < ys.length
            · exact oks j c
            · rw [show j = ys.length by omega]
              exact o
          have en : nthN (some (a, some x, st)) (ys.length + 1) = n + st := by
            rw [← hn]
            show a + ((ys.length + 1 : Nat) : Int) * st = a + (ys.length : Int) * st + st
            grind
          refine ⟨_, rfl, _, rfl, _, _, rfl, rfl, m - 1, by omega, by rw [List.length_append, List.length_singleton, en]; omega, ⟨some (.int (p1 + n * s1)), ?_⟩, by rw [List.length_append, List.length_singleton]; exact rows', by rw [List.length_append, List.length_singleton]; exact oks', sm2.trans sm3⟩
          rw [List.length_append, List.length_singleton, en]
          rfl
      · refine ⟨_, rfl, _, rfl, _, _, rfl, rfl, false, congrArg V.bl (decide_eq_false (show ¬ a + (ys.length : Int) * st ≤ x from fun z => o fun y e => by cases e; exact z)), ?_⟩
        show if false = true then _ else _
        rw [if_neg Bool.false_ne_true]
        exact q _ ys.length ys H2 Cm oks o rows sm2'
end
end Ur
/-! KR: the law's own rows. -/
namespace Ur
open PySem PySem.Spec PyProof.Rows L2
theorem RowsAt.updL {H : Hp} {F : Addr} {xs : List V} {o : HO} (hF : H F = some (.lst xs)) {vs : List V} {rs : List (Int × Int × Int)} (h : RowsAt H vs rs) : RowsAt (upd H F o) vs rs := by
  induction h with
  | nil => exact .nil
  | snoc _ e ih => exact .snoc ih (by rw [upd_ne (ne_of e hF (by intro z; cases z))]; exact e)
theorem RowsAt.len {H : Hp} {vs : List V} {rs : List (Int × Int × Int)} (h : RowsAt H vs rs) : vs.length = rs.length := by
  induction h with
  | nil => rfl
  | snoc _ e ih => rw [List.length_append, List.length_append, ih]; rfl
abbrev s__law_rows : Stmt := (topS 31)
abbrev N_sc__law_rows : List Str := ["_law_one", "_law_other", "_law_found", "_law_k", "_law_post", "_law_steps"]
abbrev P__law_rows : List Str := ["_law_one", "_law_other"]
theorem sc__law_rows : FnScope N_sc__law_rows P__law_rows (defScope s__law_rows) := ⟨rfl, rfl, rfl, by decide +kernel, rfl, by decide +kernel, by decide +kernel⟩
def spRows (K : PySem.W.Frag) : Sp := fun vs H Q _ => ∃ (t1 t2 : Addr) (nm1 : Str) (d1 p1 s1 : Int) (nm2 : Str) (d2 p2 s2 : Int), vs = [.ref t1, .ref t2] ∧ SqT K H t1 [.str nm1, .int d1, .int p1, .int s1] ∧ SqT K H t2 [.str nm2, .int d2, .int p2, .int s2] ∧
  DuoR d1 p1 s1 ∧ DuoR d2 p2 s2 ∧ ∀ (F : Addr) (ys : List V) (H' : Hp), H' F = some (.lst ys) → ys.length ≤ 200 → (∀ r, Comm p1 s1 p2 s2 r → RowsAt H' ys (dueRows p1 d1 s1 p2 d2 s2 r)) → Same H H' → Q (.ref F) H'
section
variable {P : Program} {w : World} {K : PySem.W.Frag} {mg : Str → Option Value} {base : Heap}
set_option pp.deepTerms false in
set_option pp.maxSteps 3000 in
set_option maxHeartbeats 16000000 in
theorem ok_rows (D : Dfn K mg "_law_rows" s__law_rows P__law_rows) (B : Blt mg) (CS : Cal P w K mg base 1 "_law_steps_to" P__law_steps_to (spSteps K)) : Cal P w K mg base 3 "_law_rows" P__law_rows (spRows K) := by
  refine D.cal sc__law_rows (fun vs H Q E h => ?_) fun f cdv A outer s H vs Q E hr h => ?_
  · obtain ⟨t1, t2, _, _, _, _, _, _, _, _, rfl, _⟩ := h
    rfl
  obtain ⟨t1, t2, nm1, d1, p1, s1, nm2, d2, p2, s2, rfl, h1, h2, R1, R2, q⟩ := h
  unfold DuoR at R1 R2
  obtain ⟨R1a, R1b, R1c, R1d, R1e, R1f, R1g⟩ := R1
  obtain ⟨R2a, R2b, R2c, R2d, R2e, R2f, R2g⟩ := R2
  refine ⟨_, (pss_cons (ps_set (i := 2) sc__law_rows.nd rfl (Or.inl rfl) (pe_lst pa_nil)) (pss_cons (ps_for PassesOwn.never rfl (pi_range1 rfl B.range_ (pa_cons pe_int pa_nil)) (pg_name (i := 3) sc__law_rows.nd rfl (Or.inl rfl)) (pss_cons (ps_set (i := 4) sc__law_rows.nd rfl (Or.inl rfl) (pe_op op_add (pe_ix ix_tup (pv 0) pe_int (fun _ _ => rfl)) (pe_op op_mulW (pv 3) (pe_ix ix_tup (pv 0) pe_int (fun _ _ => rfl))))) (pss_cons (ps_set (i := 5) sc__law_rows.nd rfl (Or.inl rfl) (pe_cal CS (hr.mono (by decide)) (pa_cons (pv 1) (pa_cons (pv 4) pa_nil)))) (pss_one (ps_if (pt_cmpR op_notN (pv 5) pe_non (nomark _)) (pss_one (ps_expr (pe_bm PySem.F.plainAttrs_list PySem.F.slot_list_append PySem.F.type_list_append mt_append (pv 2) (pa_cons (pe_tup (pa_cons (pv 4) (pa_cons (pe_op op_add (pe_ix ix_tup (pv 0) pe_int (fun _ _ => rfl)) (pv 3)) (pa_cons (pe_op op_add (pe_ix ix_tup (pv 1) pe_int (fun _ _ => rfl)) (pv 5)) pa_nil)))) pa_nil)))) pss_nil))))) (pss_one (ps_ret (pv 2))))), ?_⟩
  refine ⟨(by show 0 ≤ sizeLine; decide), fun F hF => ?_⟩
  refine ⟨200, rfl, by decide, by decide, for_range (lo := 0) (n := 200) (fun i σ' H' => ∃ (o3 o4 o5 : Option V) (ys : List V), σ' = [some (.ref t1), some (.ref t2), some (.ref F), o3, o4, o5] ∧ H' F = some (.lst ys) ∧ ys.length ≤ i ∧ (∀ r, Comm p1 s1 p2 s2 r → RowsAt H' ys (((List.range i).filter (inR r)).map fun k : Nat => rowN p1 d1 s1 p2 d2 s2 (k : Int))) ∧ Same H H')
    ⟨none, none, none, [], rfl, upd_same, Nat.le_refl _, fun r _ => .nil, same_new hF _⟩ ?_ ?_⟩
  · rintro i σ' H1 hi ⟨o3, o4, o5, ys, rfl, hF1, ly, rows, sm⟩
    have h1' := sameTup sm h1
    have h2' := sameTup sm h2
    have kb : ((0 + (i : Int)) * s1).natAbs ≤ 200 * 9 := by
      rw [Int.natAbs_mul]
      exact Nat.mul_le_mul (by omega) (by omega)
    refine ⟨_, rfl, t1, _, _, _, rfl, rfl, h1', rfl, _, rfl, _, rfl, t1, _, _, _, rfl, rfl, h1', rfl, _, _, rfl, rfl, wide_mul (a := 64) (b := 64) (by omega) (by omega) (by decide) (by decide) (by decide), _, _, rfl, rfl, ?_⟩
    refine ⟨_, rfl, _, rfl, t2, .str nm2, .int d2, p2, s2, _, rfl, h2', R2g, by omega, fun rr Z => ?_⟩
    refine ⟨_, rfl, rfl, _, rfl, ?_⟩
    have on : ∀ r, Comm p1 s1 p2 s2 r → (inR r i = true ↔ rr ≠ none) := fun r C => by
      have o := stepsTo_on Z
      rw [show p1 + (0 + (i : Int)) * s1 = p1 + (i : Int) * s1 by rw [Int.zero_add], C.on_inR i] at o
      exact o
    cases rr with
    | none =>
      refine iteNS rfl ?_
      refine ⟨_, _, _, ys, rfl, hF1, by omega, fun r C => ?_, sm⟩
      have nf : ¬ inR r i = true := fun z => absurd rfl ((on r C).mp z)
      rw [range_snoc, List.filter_append, List.filter_cons, if_neg nf, List.filter_nil, List.append_nil]
      exact rows r C
    | some j =>
      obtain ⟨j0, ej⟩ := (Z j).mp rfl
      refine iteNN (by intro z; cases z) ?_
      refine ⟨_, rfl, .inl ⟨rfl, _, SqL.of hF1⟩, ?_⟩
      refine ⟨_, rfl, _, rfl, t1, _, _, _, rfl, rfl, h1', rfl, _, rfl, _, _, rfl, rfl, _, rfl, t2, _, _, _, rfl, rfl, h2', rfl, _, rfl, _, _, rfl, rfl, (by show 3 ≤ sizeLine; decide), fun u hu => ?_⟩
      have sm2 := same_new hu (.tup [.int (p1 + (0 + (i : Int)) * s1), .int (d1 + (0 + (i : Int))), .int (d2 + j)])
      refine ⟨F, _, _, rfl, rfl, sm2 _ _ hF1, small1000 (by omega), ?_⟩
      refine ⟨_, _, _, ys ++ [.ref u], rfl, upd_same, by rw [List.length_append, List.length_singleton]; omega, fun r C => ?_, ?_⟩
      · have yf : inR r i = true := (on r C).mpr (fun z => by cases z)
        rw [range_snoc, List.filter_append, List.filter_cons, if_pos yf, List.filter_nil, List.map_append]
        have er : [i].map (fun k : Nat => rowN p1 d1 s1 p2 d2 s2 (k : Int)) = [(p1 + (0 + (i : Int)) * s1, d1 + (0 + (i : Int)), d2 + j)] := by
          have e : (p1 + (i : Int) * s1 - p2).fdiv s2 = j := by
            have z : p1 + (i : Int) * s1 - p2 = j * s2 := by rw [Int.zero_add] at ej; omega
            rw [z, Int.mul_fdiv_cancel j R2g]
          show [rowN p1 d1 s1 p2 d2 s2 (i : Int)] = _
          unfold rowN
          rw [e, Int.zero_add]
        rw [er]
        exact (RowsAt.snoc ((rows r C).same sm2) upd_same).updL (sm2 _ _ hF1)
      · exact sameAt (sm.trans sm2) hF
  · rintro σ' H1 ⟨o3, o4, o5, ys, rfl, hF1, ly, rows, sm⟩
    exact ⟨_, rfl, q F ys H1 hF1 ly (fun r C => rows r C) sm⟩
end
theorem abs_of_mul {j s x : Int} (h : s ≠ 0) (e : j * s = x) : j.natAbs ≤ x.natAbs := by
  rw [← e, Int.natAbs_mul]
  exact Nat.le_mul_of_pos_right _ (by omega)
theorem abs_mul_lt {a b : Int} {A B : Nat} (h1 : a.natAbs ≤ A) (h2 : b.natAbs ≤ B) : (a * b).natAbs ≤ A * B := by
  rw [Int.natAbs_mul]
  exact Nat.mul_le_mul h1 h2
theorem fdiv_abs {j s : Int} (h : 0 < s) : (j.fdiv s).natAbs ≤ j.natAbs := by
  rw [Int.fdiv_eq_ediv_of_nonneg j (by omega)]
  exact Int.natAbs_ediv_le_natAbs j s
/-- the first number that is looked at -/
def lowV (j sp : Int) : Int := if 0 < sp then (if 0 - j.fdiv sp > 0 then 0 - j.fdiv sp else 0) else 0
theorem great_fact {p1 s1 p2 s2 d j k st sp : Int} {r : Option (Int × Option Int × Int)} (h1 : s1 ≠ 0) (h2 : s2 ≠ 0) (M : Meet s1 s2 (p2 - p1) d st k) (hj : j * s2 = k * s1 - (p2 - p1)) (hs : sp * s2 = s1 * st) (C : Comm p1 s1 p2 s2 r) (i : Nat) :
    (0 ≤ j + (lowV j sp + (i : Int)) * sp ↔ okN r i) ∧ (okN r i → k + (lowV j sp + (i : Int)) * st = nthN r i) := by
  have stp := M.st.1
  obtain ⟨_, spn⟩ := sp_sign h1 h2 stp hs
  by_cases pos : 0 < sp
  · obtain rfl := C.weak.uniq (due_inf h1 h2 M hj hs pos)
    have e : lowV j sp = (if 0 - j.fdiv sp > 0 then 0 - j.fdiv sp else 0) := if_pos pos
    rw [← e]
    refine ⟨⟨fun _ x z => (by cases z), fun _ => ?_⟩, fun _ => ?_⟩
    · have l1 : 0 - j.fdiv sp ≤ lowV j sp := by rw [e]; split <;> omega
      have l2 : -(lowV j sp + (i : Int)) ≤ j / sp := by rw [Int.fdiv_eq_ediv_of_nonneg j (by omega)] at l1; omega
      rw [Int.le_ediv_iff_mul_le pos, Int.neg_mul] at l2
      omega
    · show k + (lowV j sp + (i : Int)) * st = k + lowV j sp * st + (i : Int) * st
      grind
  · have neg : sp < 0 := by omega
    have e : lowV j sp = 0 := if_neg pos
    rw [e, Int.zero_add]
    have ip : (i : Int) * sp ≤ 0 := Int.mul_nonpos_of_nonneg_of_nonpos (by omega) (by omega)
    by_cases j0 : j < 0
    · obtain rfl := C.weak.uniq (due_no h1 h2 M hj hs neg j0)
      exact ⟨⟨fun z => by omega, fun z => False.elim z⟩, fun z => False.elim z⟩
    · obtain rfl := C.weak.uniq (due_fin h1 h2 M hj hs neg (by omega))
      refine ⟨?_, fun _ => ?_⟩
      · have a1 : 0 ≤ j + (i : Int) * sp ↔ (i : Int) ≤ j.fdiv (0 - sp) := by
          rw [Int.fdiv_eq_ediv_of_nonneg j (by omega), Int.le_ediv_iff_mul_le (by omega), Int.mul_sub]
          omega
        rw [a1]
        constructor
        · intro z x ex
          cases ex
          have : (i : Int) * st ≤ j.fdiv (0 - sp) * st := Int.mul_le_mul_of_nonneg_right z (by omega)
          omega
        · intro z
          have z := z _ rfl
          by_cases c : (i : Int) ≤ j.fdiv (0 - sp)
          · exact c
          · have : (j.fdiv (0 - sp) + 1) * st ≤ (i : Int) * st := Int.mul_le_mul_of_nonneg_right (by omega) (by omega)
            rw [Int.add_mul] at this
            omega
      · show k + (i : Int) * st = k + 0 * st + (i : Int) * st
        omega
theorem great_row {p1 d1 s1 p2 d2 s2 j k st sp x n : Int} (h2 : s2 ≠ 0) (hj : j * s2 = k * s1 - (p2 - p1)) (hs : sp * s2 = s1 * st) (hn : k + x * st = n) : rowN p1 d1 s1 p2 d2 s2 n = (p1 + (k + x * st) * s1, d1 + k + x * st, d2 + j + x * sp) := by
  subst hn
  have e : p1 + (k + x * st) * s1 - p2 = (j + x * sp) * s2 := by
    rw [Int.add_mul, Int.add_mul, Int.mul_assoc x sp, hs]
    have : x * (s1 * st) = x * st * s1 := by grind
    omega
  unfold rowN
  rw [e, Int.mul_fdiv_cancel _ h2, Int.add_assoc d1, Int.add_assoc d2]
theorem taken_yes {p1 s1 p2 s2 : Int} {r : Option (Int × Option Int × Int)} (C : Comm p1 s1 p2 s2 r) {i m : Nat} (T : Taken i r m) (o : okN r i) : m = i ∧ Taken (i + 1) r (i + 1) := by
  obtain ⟨t1, t2, t3⟩ := T
  have e : m = i := by
    rcases t3 with t3 | t3
    · exact t3
    · exact absurd (okN_mono C t2 o) t3
  subst e
  refine ⟨rfl, fun j hj => ?_, Nat.le_refl _, .inl rfl⟩
  by_cases c : j < m
  · exact t1 j c
  · rw [show j = m by omega]
    exact o
theorem taken_no {p1 s1 p2 s2 : Int} {r : Option (Int × Option Int × Int)} (C : Comm p1 s1 p2 s2 r) {i m : Nat} (T : Taken i r m) (o : ¬ okN r i) : Taken (i + 1) r m := by
  obtain ⟨t1, t2, t3⟩ := T
  refine ⟨t1, by omega, .inr ?_⟩
  rcases t3 with t3 | t3
  · rw [t3]; exact o
  · exact t3
abbrev s__law_great_rows : Stmt := (topS 32)
abbrev N_sc__law_great_rows : List Str := ["_law_one", "_law_other", "_law_many", "_law_common_here", "_law_found", "_law_k", "_law_period", "_law_j", "_law_step", "_law_low", "_law_m"]
abbrev P__law_great_rows : List Str := ["_law_one", "_law_other", "_law_many"]
theorem sc__law_great_rows : FnScope N_sc__law_great_rows P__law_great_rows (defScope s__law_great_rows) := ⟨rfl, rfl, rfl, by decide +kernel, rfl, by decide +kernel, by decide +kernel⟩
def spGRows (K : PySem.W.Frag) : Sp := fun vs H Q _ => ∃ (t1 t2 : Addr) (nm1 : Str) (d1 p1 s1 : Int) (nm2 : Str) (d2 p2 s2 : Int), vs = [.ref t1, .ref t2, .int 9] ∧ SqT K H t1 [.str nm1, .int d1, .int p1, .int s1] ∧ SqT K H t2 [.str nm2, .int d2, .int p2, .int s2] ∧
  AnyR d1 p1 s1 ∧ AnyR d2 p2 s2 ∧ ∀ (F : Addr) (ys : List V) (H' : Hp), H' F = some (.lst ys) → ys.length ≤ 9 → (∀ r, Comm p1 s1 p2 s2 r → ∃ m, Taken 9 r m ∧ RowsAt H' ys (mRows p1 d1 s1 p2 d2 s2 r m)) → Same H H' → Q (.ref F) H'
section
variable {P : Program} {w : World} {K : PySem.W.Frag} {mg : Str → Option Value} {base : Heap}
set_option pp.deepTerms false in
set_option pp.maxSteps 3000 in
set_option maxHeartbeats 16000000 in
theorem ok_grows (D : Dfn K mg "_law_great_rows" s__law_great_rows P__law_great_rows) (B : Blt mg) (CCo : Cal P w K mg base 2 "_law_common" P__law_common (spCom K)) : Cal P w K mg base 3 "_law_great_rows" P__law_great_rows (spGRows K) := by
  refine D.cal sc__law_great_rows (fun vs H Q E h => ?_) fun f cdv A outer s H vs Q E hr h => ?_
  · obtain ⟨t1, t2, _, _, _, _, _, _, _, _, rfl, _⟩ := h
    rfl
  obtain ⟨t1, t2, nm1, d1, p1, s1, nm2, d2, p2, s2, rfl, h1, h2, R1, R2, q⟩ := h
  unfold AnyR at R1 R2
  obtain ⟨R1a, R1b, R1c, R1d, R1e, R1f, R1g⟩ := R1
  obtain ⟨R2a, R2b, R2c, R2d, R2e, R2f, R2g⟩ := R2
  refine ⟨_, (pss_cons (ps_par (i := 3) (j := 4) rfl sc__law_great_rows.nd rfl rfl (by decide) rfl rfl (pa_cons (pe_cal CCo (hr.mono (by decide)) (pa_cons (pv 0) (pa_cons (pv 1) pa_nil))) (pa_cons (pe_lst pa_nil) pa_nil)) (by rfl)) (pss_cons (ps_if (pt_cmpR op_isN (pv 3) pe_non (nomark _)) (pss_one (ps_ret (pe_lst pa_nil))) pss_nil) (pss_cons (ps_asg (pv 3) (pg_tup rfl (pgs_cons (pg_name (i := 5) sc__law_great_rows.nd rfl (Or.inl rfl)) (pgs_cons (pg_name (i := 6) sc__law_great_rows.nd rfl (Or.inl rfl)) (pgs_cons (pg_name (i := 7) sc__law_great_rows.nd rfl (Or.inl rfl)) (pgs_cons (pg_name (i := 8) sc__law_great_rows.nd rfl (Or.inl rfl)) pgs_nil)))))) (C8.pss_cut (ps_set (i := 9) sc__law_great_rows.nd rfl (Or.inl rfl) (pe_ifExp (pt_cmpR op_gt (pv 8) pe_int (nomark _)) (pe_callB (call_max2 rfl) rfl B.max_ (by decide +kernel) (pa_cons pe_int (pa_cons (pe_op op_sub pe_int (pe_op op_fdivX (pv 7) (pv 8))) pa_nil))) pe_int)) (pss_cons (ps_for PassesOwn.never rfl (pi_rangeB rfl B.range_ (pa_cons (pv 9) (pa_cons (pe_op op_add (pv 9) (pv 2)) pa_nil))) (pg_name (i := 10) sc__law_great_rows.nd rfl (Or.inl rfl)) (pss_one (ps_if (pt_cmpR op_ge (pe_op op_add (pv 7) (pe_op op_mulW (pv 10) (pv 8))) pe_int (nomark _)) (pss_one (ps_expr (pe_bm PySem.F.plainAttrs_list PySem.F.slot_list_append PySem.F.type_list_append mt_append (pv 4) (pa_cons (pe_tup (pa_cons (pe_op op_add (pe_ix ix_tup (pv 0) pe_int (fun _ _ => rfl)) (pe_op op_mulW (pe_op op_add (pv 5) (pe_op op_mulW (pv 10) (pv 6))) (pe_ix ix_tup (pv 0) pe_int (fun _ _ => rfl)))) (pa_cons (pe_op op_add (pe_op op_add (pe_ix ix_tup (pv 0) pe_int (fun _ _ => rfl)) (pv 5)) (pe_op op_mulW (pv 10) (pv 6))) (pa_cons (pe_op op_add (pe_op op_add (pe_ix ix_tup (pv 1) pe_int (fun _ _ => rfl)) (pv 7)) (pe_op op_mulW (pv 10) (pv 8))) pa_nil)))) pa_nil)))) pss_nil))) (pss_one (ps_ret (pv 4)))))))), ?_⟩
  refine ⟨_, rfl, _, rfl, t1, t2, _, _, p1, s1, _, _, p2, s2, rfl, h1, h2, R1g, R2g, by omega, by omega, by omega, by omega, fun v H1 sm hv => ?_⟩
  refine ⟨(by show 0 ≤ sizeLine; decide), fun F hF => ⟨_, _, rfl, ?_⟩⟩
  have smF := sm.trans (same_new hF (.lst []))
  refine ⟨_, rfl, rfl, _, rfl, ?_⟩
  rcases hv with ⟨rfl, W⟩ | ⟨t, st, k, j, sp, rfl, ht, M, hj, hs⟩
  · refine iteDT rfl ⟨(by show 0 ≤ sizeLine; decide), fun e he => ?_⟩
    refine q e [] _ upd_same (by show 0 ≤ 9; omega) (fun r C => ?_) (smF.trans (same_new he _))
    obtain rfl := C.weak.uniq W
    exact ⟨0, ⟨fun j h => absurd h (by omega), by omega, .inr fun z => z⟩, .nil⟩
  have stp := M.st.1
  have k0 := M.r0
  have k1 := M.r1
  have stl := step_le R2g M.st
  obtain ⟨sg, spn⟩ := sp_sign R1g R2g stp hs
  have kb : (k * s1).natAbs ≤ 10 ^ 18 * 10 ^ 18 := abs_mul_lt (by omega) (by omega)
  have jb : j.natAbs ≤ 10 ^ 37 := by
    have := abs_of_mul R2g hj
    omega
  have spb : sp.natAbs ≤ 10 ^ 36 := by
    have a := abs_of_mul R2g hs
    have b : (s1 * st).natAbs ≤ 10 ^ 18 * 10 ^ 18 := abs_mul_lt (by omega) (by omega)
    omega
  have dvx : CDivX j sp := ⟨spn, Nat.lt_of_lt_of_le (PySem.Flt.log2_lt_of (by decide) (show sp.natAbs < 2 ^ 200 by omega)) (by decide)⟩
  have ht' := same_new hF (.lst []) _ _ ht
  refine iteDF (by intro z; cases z) ?_
  refine ⟨_, rfl, t, _, rfl, SqT.of ht', rfl, _, _, rfl, _, _, rfl, _, _, rfl, _, _, rfl, rfl, ?_⟩
  have hF1 : (upd H1 F (.lst [])) F = some (.lst []) := upd_same
  generalize upd H1 F (.lst []) = H2 at smF ht' hF1 ⊢
  have h1' := sameTup smF h1
  have h2' := sameTup smF h2
  have lowb : (lowV j sp).natAbs ≤ 10 ^ 37 := by
    unfold lowV
    split
    · rename_i pos
      have fb := fdiv_abs (j := j) pos
      split <;> omega
    · decide
  have F0 : H F = none := by
    cases e : H F with
    | none => rfl
    | some o => rw [sm _ _ e] at hF; cases hF
  refine ⟨fun σ' H' => σ' = [some (.ref t1), some (.ref t2), some (.int 9), some (.ref t), some (.ref F), some (.int k), some (.int st), some (.int j), some (.int sp), some (.int (lowV j sp)), none] ∧ H' = H2, ?_, ?_⟩
  · refine ⟨_, rfl, _, _, rfl, rfl, _, rfl, ?_⟩
    by_cases pos : 0 < sp
    · refine iteDT pos ?_
      refine ⟨_, rfl, _, rfl, _, _, rfl, rfl, dvx, _, _, rfl, rfl, _, _, rfl, ?_⟩
      exact ⟨by unfold lowV; rw [if_pos pos]; rfl, rfl⟩
    · refine iteDF pos ?_
      exact ⟨by unfold lowV; rw [if_neg pos]; rfl, rfl⟩
  rintro σ' H' ⟨rfl, rfl⟩
  generalize hlow : lowV j sp = low at lowb ⊢
  have fact : ∀ (i : Nat) r, Comm p1 s1 p2 s2 r → (0 ≤ j + (low + (i : Int)) * sp ↔ okN r i) ∧ (okN r i → k + (low + (i : Int)) * st = nthN r i) := fun i r C => by
    rw [← hlow]
    exact great_fact R1g R2g M hj hs C i
  have e9 : (low + 9 - low).toNat = 9 := by omega
  refine ⟨_, rfl, _, rfl, _, rfl, _, _, rfl, rfl, low, low + 9, rfl, ?_⟩
  rw [e9]
  refine for_range (lo := low) (n := 9) (fun i σ' H' => ∃ (o10 : Option V) (ys : List V), σ' = [some (.ref t1), some (.ref t2), some (.int 9), some (.ref t), some (.ref F), some (.int k), some (.int st), some (.int j), some (.int sp), some (.int low), o10] ∧ H' F = some (.lst ys) ∧ ys.length ≤ i ∧ (∀ r, Comm p1 s1 p2 s2 r → ∃ m, Taken i r m ∧ RowsAt H' ys (mRows p1 d1 s1 p2 d2 s2 r m)) ∧ Same H H')
    ⟨none, [], rfl, hF1, Nat.le_refl _, fun r C => ⟨0, ⟨fun j h => absurd h (by omega), Nat.le_refl _, .inl rfl⟩, .nil⟩, smF⟩ ?_ ?_
  · rintro i σ' H3 hi ⟨o10, ys, rfl, hF3, ly, rows, sm3⟩
    have h13 := sameTup sm3 h1
    have h23 := sameTup sm3 h2
    have lb : (low + (i : Int)).natAbs ≤ 2 * 10 ^ 37 := by omega
    have b1 : ((low + (i : Int)) * sp).natAbs ≤ 2 * 10 ^ 37 * 10 ^ 36 := abs_mul_lt lb spb
    have b2 : ((low + (i : Int)) * st).natAbs ≤ 2 * 10 ^ 37 * 10 ^ 18 := abs_mul_lt lb (by omega)
    refine ⟨_, rfl, _, rfl, _, rfl, _, _, rfl, rfl, wide_mul (a := 200) (b := 200) (by omega) (by omega) (by decide) (by decide) (by decide), _, _, rfl, rfl, _, _, rfl, rfl, _, rfl, ?_⟩
    by_cases c : 0 ≤ j + (low + (i : Int)) * sp
    · refine iteDT c ?_
      refine ⟨_, rfl, .inl ⟨rfl, _, SqL.of hF3⟩, ?_⟩
      refine ⟨_, rfl, t1, _, _, _, rfl, rfl, h13, rfl, _, rfl, _, rfl, _, rfl, _, _, rfl, rfl, wide_mul (a := 200) (b := 200) (by omega) (by omega) (by decide) (by decide) (by decide), _, _, rfl, rfl, _, rfl, t1, _, _, _, rfl, rfl, h13, rfl, _, _, rfl, rfl, wide_mul (a := 200) (b := 200) (by omega) (by omega) (by decide) (by decide) (by decide), _, _, rfl, rfl, ?_⟩
      refine ⟨_, rfl, t1, _, _, _, rfl, rfl, h13, rfl, _, rfl, _, _, rfl, rfl, _, rfl, _, rfl, _, _, rfl, rfl, wide_mul (a := 200) (b := 200) (by omega) (by omega) (by decide) (by decide) (by decide), _, _, rfl, rfl, ?_⟩
      refine ⟨_, rfl, t2, _, _, _, rfl, rfl, h23, rfl, _, rfl, _, _, rfl, rfl, _, rfl, _, rfl, _, _, rfl, rfl, wide_mul (a := 200) (b := 200) (by omega) (by omega) (by decide) (by decide) (by decide), _, _, rfl, rfl, (by show 3 ≤ sizeLine; decide), fun u hu => ?_⟩
      obtain ⟨od, hod⟩ : ∃ o : HO, o = .tup [.int (p1 + (k + (low + (i : Int)) * st) * s1), .int (d1 + k + (low + (i : Int)) * st), .int (d2 + j + (low + (i : Int)) * sp)] := ⟨_, rfl⟩
      rw [← hod]
      have sm4 := same_new hu od
      refine ⟨F, _, _, rfl, rfl, sm4 _ _ hF3, small1000 (by omega), ?_⟩
      refine ⟨_, ys ++ [.ref u], rfl, upd_same, by rw [List.length_append, List.length_singleton]; omega, fun r C => ?_, sameAt (sm3.trans sm4) F0⟩
      obtain ⟨m, T, rw_⟩ := rows r C
      obtain ⟨f1, f2⟩ := fact i r C
      have o := f1.mp c
      obtain ⟨rfl, T'⟩ := taken_yes C T o
      refine ⟨m + 1, T', ?_⟩
      rw [mRows_snoc, great_row R2g hj hs (f2 o)]
      exact (RowsAt.snoc (rw_.same sm4) (by rw [upd_same, hod])).updL (sm4 _ _ hF3)
    · refine iteDF c ?_
      refine ⟨_, ys, rfl, hF3, by omega, fun r C => ?_, sm3⟩
      obtain ⟨m, T, rw_⟩ := rows r C
      exact ⟨m, taken_no C T fun o => c ((fact i r C).1.mpr o), rw_⟩
  · rintro σ' H3 ⟨o10, ys, rfl, hF3, ly, rows, sm3⟩
    exact ⟨_, rfl, q F ys H3 hF3 ly rows sm3⟩
end
end Ur
/-! KS: rows of meetings as data that can be shown. -/
namespace Ur
open PySem PySem.Spec PyProof.Rows L2
def rowD (x : Int × Int × Int) : PyData := .tuple [.int x.1, .int x.2.1, .int x.2.2]
theorem dpApp {K : PySem.W.Frag} {H : Hp} {ws : List V} {es : List PyData} : ∀ {vs : List V} {ds : List PyData}, DpAll K H vs ds → DpAll K H ws es → DpAll K H (vs ++ ws) (ds ++ es)
  | _, _, .nil, h => h
  | _, _, .cons a b, h => .cons a (dpApp b h)
theorem RowsAt.dp {K : PySem.W.Frag} {H : Hp} {vs : List V} {rs : List (Int × Int × Int)} (h : RowsAt H vs rs) : DpAll K H vs (rs.map rowD) := by
  induction h with
  | nil => exact .nil
  | snoc _ e ih =>
    rw [List.map_append]
    exact dpApp ih (.cons (.tup (SqT.of e) (.cons (.int _) (.cons (.int _) (.cons (.int _) .nil)))) .nil)
theorem RowsAt.take {H : Hp} {vs : List V} {rs : List (Int × Int × Int)} (h : RowsAt H vs rs) (n : Nat) : RowsAt H (vs.take n) (rs.take n) := by
  induction h with
  | nil => rw [List.take_nil, List.take_nil]; exact .nil
  | @snoc us rs t a b c h e ih =>
    have el := h.len
    by_cases q : n ≤ us.length
    · rw [List.take_append_of_le_length q, List.take_append_of_le_length (by omega)]
      exact ih
    · rw [List.take_of_length_le (by rw [List.length_append, List.length_singleton]; omega), List.take_of_length_le (by rw [List.length_append, List.length_singleton]; omega)]
      exact .snoc h e
theorem cut_take {xs : List V} {n : Nat} : cutV xs none (some (n : Int)) = xs.take n := by
  unfold cutV
  rw [HT.sIx_none, HT.sIx_nat, List.drop_zero, Nat.sub_zero]
  by_cases h : n ≤ xs.length
  · rw [Nat.min_eq_left h]
  · rw [Nat.min_eq_right (by omega), List.take_length, List.take_of_length_le (by omega)]
def RowBd (b : Nat) (x : Int × Int × Int) : Prop := x.1.natAbs < 2 ^ b ∧ x.2.1.natAbs < 2 ^ b ∧ x.2.2.natAbs < 2 ^ b
theorem rows_shw {b : Nat} (b0 : 0 < b) (b1 : b ≤ 1920) : ∀ rs : List (Int × Int × Int), (∀ x ∈ rs, RowBd b x) → ShwAll (rs.map rowD) (rs.length * (3 * b + 4)) 1
  | [], _ => by
    have z := ShwAll.nil
    exact ⟨z.sh, z.nd, Nat.zero_le _, z.lv, Nat.zero_le _⟩
  | x :: rs, h => by
    obtain ⟨h1, h2, h3⟩ := h x List.mem_cons_self
    have t : Shw (rowD x) (b + 1 + (b + 1 + (b + 1 + 0))) _ := (ShwAll.cons (Shw.intb h1 b0 b1) (.cons (Shw.intb h2 b0 b1) (.cons (Shw.intb h3 b0 b1) .nil))).tup
    have z := ShwAll.cons t (rows_shw b0 b1 rs fun y hy => h y (List.mem_cons_of_mem _ hy))
    refine ⟨z.sh, z.nd, Nat.le_trans z.dp (by decide), z.lv, Nat.le_trans z.wt ?_⟩
    rw [List.length_cons, Nat.add_mul]
    omega
theorem rows_ok {b : Nat} (b0 : 0 < b) (b1 : b ≤ 1920) {rs : List (Int × Int × Int)} (h : ∀ x ∈ rs, RowBd b x) (hl : rs.length * (3 * b + 4) ≤ 8600) : ShwOk (.list (rs.map rowD)) := ((rows_shw b0 b1 rs h).lst).good hl (by decide)
theorem row_nat {p1 d1 s1 p2 d2 s2 n : Int} {Pb Nb Sb Db : Nat} (hn : n.natAbs ≤ Nb) (hp1 : p1.natAbs ≤ Pb) (hp2 : p2.natAbs ≤ Pb) (hs1 : s1.natAbs ≤ Sb) (hd1 : d1.natAbs ≤ Db) (hd2 : d2.natAbs ≤ Db) (on : On p2 s2 (p1 + n * s1)) (h2 : s2 ≠ 0) :
    (rowN p1 d1 s1 p2 d2 s2 n).1.natAbs ≤ Pb + Nb * Sb ∧ (rowN p1 d1 s1 p2 d2 s2 n).2.1.natAbs ≤ Db + Nb ∧ (rowN p1 d1 s1 p2 d2 s2 n).2.2.natAbs ≤ Db + (Pb + Nb * Sb + Pb) := by
  have m := abs_mul_lt hn hs1
  obtain ⟨y, y0, ey⟩ := on
  have e : p1 + n * s1 - p2 = y * s2 := by omega
  have yb := abs_of_mul h2 e.symm
  have m2 : (p1 + n * s1 - p2).natAbs ≤ Pb + Nb * Sb + Pb := by omega
  have er : rowN p1 d1 s1 p2 d2 s2 n = (p1 + n * s1, d1 + n, d2 + y) := by
    unfold rowN
    rw [e, Int.mul_fdiv_cancel y h2]
  rw [er]
  refine ⟨?_, ?_, ?_⟩
  · show (p1 + n * s1).natAbs ≤ _
    omega
  · show (d1 + n).natAbs ≤ _
    omega
  · show (d2 + y).natAbs ≤ _
    omega
theorem mem_mRows {p1 d1 s1 p2 d2 s2 : Int} {r : Option (Int × Option Int × Int)} {m : Nat} {x : Int × Int × Int} (h : x ∈ mRows p1 d1 s1 p2 d2 s2 r m) : ∃ j, j < m ∧ x = rowN p1 d1 s1 p2 d2 s2 (nthN r j) := by
  unfold mRows at h
  obtain ⟨j, hj, e⟩ := List.mem_map.mp h
  exact ⟨j, List.mem_range.mp hj, e.symm⟩
theorem nth_on {p1 s1 p2 s2 : Int} {r : Option (Int × Option Int × Int)} (C : Comm p1 s1 p2 s2 r) {j : Nat} (o : okN r j) : On p2 s2 (p1 + nthN r j * s1) := by
  have n0 := nthN_nn C j
  have e : (((nthN r j).toNat : Nat) : Int) = nthN r j := by omega
  have z := (C.on_inR (nthN r j).toNat).mpr ((inR_iff C _).mpr ⟨j, o, e⟩)
  rw [e] at z
  exact z
/-- the j-th number -/
theorem nth_bd {p1 s1 p2 s2 : Int} {r : Option (Int × Option Int × Int)} (C : Comm p1 s1 p2 s2 r) (h2 : s2 ≠ 0) {j : Nat} (o : okN r j) : (nthN r j).natAbs ≤ (p2 - p1).natAbs + (j + 1) * s2.natAbs := by
  cases r with
  | none => exact False.elim o
  | some y =>
    obtain ⟨a, l, st⟩ := y
    have sl := step_le' h2 C.pos.2.2.2
    have s0 := C.pos.2.1
    have a0 := C.pos.1
    have n0 := nthN_nn C j
    have jm : (j : Int) * st ≤ (j : Int) * (s2.natAbs : Int) := Int.mul_le_mul_of_nonneg_left sl (by omega)
    have ab : a ≤ (p2 - p1).natAbs + st := by
      cases C with
      | inf g1 g2 g3 g4 g5 => exact g4
      | fin g1 g2 g3 g4 g5 g6 g7 => omega
    have e : nthN (some (a, l, st)) j = a + (j : Int) * st := rfl
    have e2 : (((j + 1) * s2.natAbs : Nat) : Int) = (j : Int) * (s2.natAbs : Int) + (s2.natAbs : Int) := by rw [Int.natCast_mul, Int.natCast_add, Int.add_mul, Int.natCast_one, Int.one_mul]
    omega
theorem nth_end {p1 s1 p2 s2 : Int} {r : Option (Int × Option Int × Int)} (C : Comm p1 s1 p2 s2 r) (hf : ∀ a l st, r = some (a, l, st) → l ≠ none) {j : Nat} (o : okN r j) : (nthN r j).natAbs ≤ (p2 - p1).natAbs ∧ (j : Int) ≤ nthN r j := by
  cases r with
  | none => exact False.elim o
  | some y =>
    obtain ⟨a, l, st⟩ := y
    have s0 := C.pos.2.1
    have a0 := C.pos.1
    have n0 := nthN_nn C j
    have jm : (j : Int) * 1 ≤ (j : Int) * st := Int.mul_le_mul_of_nonneg_left (by omega) (by omega)
    have e : nthN (some (a, l, st)) j = a + (j : Int) * st := rfl
    cases l with
    | none => exact absurd rfl (hf _ _ _ rfl)
    | some x =>
      have := o x rfl
      have : x ≤ (p2 - p1).natAbs := by
        cases C with
        | fin g1 g2 g3 g4 g5 g6 g7 => exact g5
      omega
theorem taken_uniq {r : Option (Int × Option Int × Int)} {L m n : Nat} (S : Taken L r m) (T : Taken L r n) : m = n := by
  obtain ⟨s1, s2, s3⟩ := S
  obtain ⟨t1, t2, t3⟩ := T
  by_cases a : m < n
  · rcases s3 with s3 | s3
    · omega
    · exact absurd (t1 m a) s3
  · by_cases b : n < m
    · rcases t3 with t3 | t3
      · omega
      · exact absurd (s1 n b) t3
    · omega
theorem shR0 : ∀ rs : List (Int × Int × Int), PyData.canLayAll0 (rs.map rowD) = true
  | [] => rfl
  | x :: rs => by
    show (PyData.canLay0 (rowD x) && PyData.canLayAll0 (rs.map rowD)) = true
    rw [shR0 rs]
    all_goals rfl
theorem shRD : ∀ rs : List (Int × Int × Int), PyData.depthAll (rs.map rowD) ≤ 1
  | [] => Nat.zero_le _
  | x :: rs => by
    show max (PyData.depth (rowD x)) (PyData.depthAll (rs.map rowD)) ≤ 1
    have := shRD rs
    have e : PyData.depth (rowD x) = 1 := rfl
    omega
theorem shR (rs : List (Int × Int × Int)) : SeqAt.shaped (.list (rs.map rowD)) = true := by
  show (PyData.canLayAll0 (rs.map rowD) && decide (PyData.depthAll (rs.map rowD) + 1 ≤ 64)) = true
  rw [shR0, decide_eq_true (by have := shRD rs; omega)]
  rfl
theorem rows_shown {b1 : Nat} {rs ss : List (Int × Int × Int)} (e : rs = ss) : (PyData.list (rs.map rowD)).shown = (PyData.list (ss.map rowD)).shown := by rw [e]
end Ur
/-! L09: the law. -/
namespace Ur
open PySem PySem.Spec PyProof.Rows L2
theorem passE {X : Cx} : Passes (CX X.prog X.w) X E0 := fun _ _ _ _ _ _ _ h => by
  obtain ⟨_, _, _, _, _, _, _, _, _, _, _, _, z⟩ := h
  exact False.elim z
abbrev s_law : Stmt := (topS 33)
abbrev N_sc_law : List Str := ["_law_script", "_law_pen_here", "_law_turn", "_law_one", "_law_other", "_law_mine", "_law_yours", "_law_due", "_law_k", "_law_row", "_law_hub", "_law_again"]
abbrev P_law : List Str := ["_law_script"]
theorem sc_law : FnScope N_sc_law P_law (defScope s_law) := ⟨rfl, rfl, rfl, by decide +kernel, rfl, by decide +kernel, by decide +kernel⟩
def spLaw (K : PySem.W.Frag) : Sp := fun vs H Q _ => ∃ (a : Addr) (ns : List Int), vs = [.ref a] ∧ SqL K H a (ns.map V.int) ∧ ns.length ≤ 63 ∧ ∀ H', Q (.bl true) H'
section
variable {P : Program} {w : World} {K : PySem.W.Frag} {mg : Str → Option Value} {base : Heap} {C : Addr}
set_option pp.deepTerms false in
set_option pp.maxSteps 3000 in
set_option maxHeartbeats 40000000 in
theorem ok_law {f fm : Addr} {fd fdm : FuncData} (F : Fun K "law" "law" s_law f fd) (B : Blt mg) (hzip : mg "zip" = none) (CPen : Cal P w K mg base 1 "_law_pen" P__law_pen (spPen K)) (CDu : Cal P w K mg base 15 "_law_duo" P__law_duo spDuo) (CGD : Cal P w K mg base 15 "_law_great_duo" P__law_great_duo spGDuo) (CMd : Cal P w K mg base 5 "_law_made" P__law_made (spMade K C))
    (CRo : Cal P w K mg base 3 "_law_rows" P__law_rows (spRows K)) (CGR : Cal P w K mg base 3 "_law_great_rows" P__law_great_rows (spGRows K)) (FZ : ZFn P w K mg base 4 9 fm fdm P_meetings (spMZ C 9)) (FG : GFn P w K mg base 4 fm fdm P_meetings (spMG C)) (mM : mg "meetings" = some (.ref fm)) (kM : PySem.W.keepIn K (.ref fm) = true) (bM : Binds K fdm P_meetings []) : FnG P w K mg base 40 f fd P_law (spLaw K) := by
  refine runG F sc_law (fun vs H Q E h => ?_) (fun cdv A outer s H vs Q E hs hr h => ?_)
  · obtain ⟨a, ns, rfl, _⟩ := h
    rfl
  obtain ⟨a, ns, rfl, hS, hlen, q⟩ := h
  have hs : Still (A.deeper (envOfC "law" (defScope s_law) s.heap.objs.size f cdv)) := hs
  have hu6 : (A.deeper (envOfC "law" (defScope s_law) s.heap.objs.size f cdv)).units + 66 < cLine := by have := hr.un; omega
  refine ⟨_, (pss_cons (ps_set (i := 1) sc_law.nd rfl (Or.inl rfl) (pe_cal CPen (hr.mono (by decide)) (pa_cons (pv 0) pa_nil))) (pss_cons (ps_for PassesOwn.never rfl (pi_range1 rfl B.range_ (pa_cons (pe_op op_add pe_int (pe_callB (call_min2 rfl) rfl B.min_ (by decide +kernel) (pa_cons pe_int (pa_cons (pe_callB call_len_seq rfl B.len_ PySem.boot_len (pa_cons (pv 0) pa_nil)) pa_nil)))) pa_nil)) (pg_name (i := 2) sc_law.nd rfl (Or.inl rfl)) (pss_cons (ps_asg (pe_cal CDu (hr.mono (by decide)) (pa_cons (pv 1) pa_nil)) (pg_unl rfl (pgs_cons (pg_name (i := 3) sc_law.nd rfl (Or.inl rfl)) (pgs_cons (pg_name (i := 4) sc_law.nd rfl (Or.inl rfl)) pgs_nil)))) (pss_cons (ps_par3 (i := 5) (j := 6) (l := 7) rfl sc_law.nd rfl rfl rfl (by decide) (by decide) (by decide) rfl rfl rfl (pa_cons (pe_cal CMd (hr.mono (by decide)) (pa_cons (pv 3) pa_nil)) (pa_cons (pe_cal CMd (hr.mono (by decide)) (pa_cons (pv 4) pa_nil)) (pa_cons (pe_cal CRo (hr.mono (by decide)) (pa_cons (pv 3) (pa_cons (pv 4) pa_nil))) pa_nil))) (by rfl)) (C8.pss_cut (ps_if (pt_cmpR op_ne (pe_callB (call_reprS hs hu6) rfl B.repr_ (by decide +kernel) (pa_cons (pe_lcZ (own := [("_law_k", 8), ("_law_row", 9)]) rfl (hr.mono (by decide : 7 ≤ 39)) (by decide) (by decide) (by decide +kernel) (by decide +kernel) (pz_call FZ (hr.mono (by decide)) rfl mM kM bM (pa_cons (pv 5) (pa_cons (pv 6) pa_nil))) (pa_cons pe_int pa_nil) (blkOk_by (N := N_sc_law) (sc := defScope s_law) (by decide +kernel)) (by decide +kernel) (by decide +kernel) (by decide) rfl hzip rfl B.range_) pa_nil)) (pe_callB (call_reprS hs hu6) rfl B.repr_ (by decide +kernel) (pa_cons (pe_slice sl_list (pv 7) po_none (po_some pe_int)) pa_nil)) (nomark _)) (pss_one (ps_ret pe_bl)) pss_nil) (C8.pss_cut (ps_if (PW.pt (pw_and (PW.pt (pw_or (pt_cmpR op_lt (pe_op op_mul (pe_ix ix_tup (pv 3) pe_int (fun _ _ => rfl)) (pe_ix ix_tup (pv 4) pe_int (fun _ _ => rfl))) pe_int (nomark _)) (pw_or1 (pt_cmpR (op_eqD hr.units) (pv 7) (pe_lst pa_nil) (nomark _))))) (pw_and1 (pt_cmpR op_ne (pe_callB (call_reprS hs hu6) rfl B.repr_ (by decide +kernel) (pa_cons (pe_listG (pgen_call FG (hr.mono (by decide)) rfl mM kM bM .nil (pa_cons (pv 5) (pa_cons (pv 6) pa_nil))) passE (fun _ _ _ z => False.elim z) (hr.mono (by decide)) rfl B.list_ (by decide +kernel)) pa_nil)) (pe_callB (call_reprS hs hu6) rfl B.repr_ (by decide +kernel) (pa_cons (pv 7) pa_nil)) (nomark _))))) (pss_one (ps_ret pe_bl)) pss_nil) (pss_cons (ps_asg (pe_cal CGD (hr.mono (by decide)) (pa_cons (pv 1) pa_nil)) (pg_tup rfl (pgs_cons (pg_name (i := 3) sc_law.nd rfl (Or.inl rfl)) (pgs_cons (pg_name (i := 4) sc_law.nd rfl (Or.inl rfl)) (pgs_cons (pg_name (i := 10) sc_law.nd rfl (Or.inl rfl)) pgs_nil))))) (pss_cons (ps_par3 (i := 5) (j := 6) (l := 7) rfl sc_law.nd rfl rfl rfl (by decide) (by decide) (by decide) rfl rfl rfl (pa_cons (pe_cal CMd (hr.mono (by decide)) (pa_cons (pv 3) pa_nil)) (pa_cons (pe_cal CMd (hr.mono (by decide)) (pa_cons (pv 4) pa_nil)) (pa_cons (pe_cal CGR (hr.mono (by decide)) (pa_cons (pv 3) (pa_cons (pv 4) (pa_cons pe_int pa_nil)))) pa_nil))) (by rfl)) (pss_one (ps_for PassesOwn.never rfl (pi_range1 rfl B.range_ (pa_cons pe_int pa_nil)) (pg_name (i := 11) sc_law.nd rfl (Or.inl rfl)) (pss_one (ps_if (pt_cmpR op_ne (pe_callB (call_reprS hs hu6) rfl B.repr_ (by decide +kernel) (pa_cons (pe_lcZ (own := [("_law_k", 8), ("_law_row", 9)]) rfl (hr.mono (by decide : 7 ≤ 39)) (by decide) (by decide) (by decide +kernel) (by decide +kernel) (pz_call FZ (hr.mono (by decide)) rfl mM kM bM (pa_cons (pv 5) (pa_cons (pv 6) pa_nil))) (pa_cons pe_int pa_nil) (blkOk_by (N := N_sc_law) (sc := defScope s_law) (by decide +kernel)) (by decide +kernel) (by decide +kernel) (by decide) rfl hzip rfl B.range_) pa_nil)) (pe_callB (call_reprS hs hu6) rfl B.repr_ (by decide +kernel) (pa_cons (pv 7) pa_nil)) (nomark _)) (pss_one (ps_ret pe_bl)) pss_nil))))))))))) (pss_one (ps_ret pe_bl)))), ?_⟩
  refine ⟨_, rfl, a, ns, rfl, hS, hlen, fun p l H1 P1 hp0 hl0 s1 => ?_⟩
  have hn : 0 ≤ (3 + (if ((ns.map V.int).length : Int) < 9 then ((ns.map V.int).length : Int) else 9)) ∧ (3 + (if ((ns.map V.int).length : Int) < 9 then ((ns.map V.int).length : Int) else 9)) ≤ 12 := by split <;> omega
  refine ⟨_, rfl, a, _, rfl, .inl (s1.seq hS), _, _, rfl, _, _, rfl, rfl, _, rfl, by omega, by omega, ?_⟩
  generalize (3 + (if ((ns.map V.int).length : Int) < 9 then ((ns.map V.int).length : Int) else 9)) = N at hn ⊢
  refine for_range (lo := 0) (n := N.toNat) (fun i σ' H' => ∃ (o2 o3 o4 o5 o6 o7 o8 o9 o10 o11 : Option V), σ' = [some (.ref a), some (.ref p), o2, o3, o4, o5, o6, o7, o8, o9, o10, o11] ∧ Pen H' p l (5000 * i)) ⟨none, none, none, none, none, none, none, none, none, none, rfl, P1⟩ ?_ ?_
  · rintro i σ' H3 hi ⟨o2, o3, o4, o5, o6, o7, o8, o9, o10, o11, rfl, P3⟩
    refine ⟨_, rfl, p, l, _, rfl, P3, by omega, fun Fz t1 t2 H4 hF r1 r2 hF0 P4 k4 => ?_⟩
    refine ⟨Fz, _, rfl, SqL.of hF, rfl, _, _, rfl, _, _, rfl, rfl, ?_⟩
    obtain ⟨nma, da, pA, sa, ea, za, Ra⟩ := r1
    obtain ⟨nmb, db, pB, sb, eb, zb, Rb⟩ := r2
    have oka := Ra.ok za
    have okb := Rb.ok zb
    refine ⟨_, rfl, t1, nma, da, pA, sa, rfl, SqT.of ea, oka, fun x1 H5 pn1 sm5 => ?_⟩
    refine ⟨_, rfl, t2, nmb, db, pB, sb, rfl, SqT.of (sm5 _ _ eb), okb, fun x2 H6 pn2 sm6 => ?_⟩
    have sm46 := sm5.trans sm6
    refine ⟨_, rfl, _, rfl, t1, t2, nma, da, pA, sa, nmb, db, pB, sb, rfl, SqT.of (sm46 _ _ ea), SqT.of (sm46 _ _ eb), Ra, Rb, fun D ys H7 hD ly rows sm7 => ⟨_, _, _, rfl, ?_⟩⟩
    have sm47 := sm46.trans sm7
    have Tw7 : Two C H7 x1 x2 nma da pA sa nmb db pB sb := ⟨(pn1.same sm6).same sm7, pn2.same sm7, oka, okb⟩
    have Ra' := Ra
    have Rb' := Rb
    unfold DuoR at Ra' Rb'
    obtain ⟨A0, A1, A2, A3, A4, A5, A6⟩ := Ra'
    obtain ⟨B0, B1, B2, B3, B4, B5, B6⟩ := Rb'
    -- the first nine
    refine ⟨fun σ' H' => σ' = [some (V.ref a), some (.ref p), some (.int (0 + (i : Int))), some (.ref t1), some (.ref t2), some (.ref x1), some (.ref x2), some (.ref D), o8, o9, o10, o11] ∧ Same H7 H' ∧ ∃ r, Comm pA sa pB sb r, ?_, ?_⟩
    · refine ⟨rfl, _, rfl, _, rfl, x1, x2, nma, da, pA, sa, nmb, db, pB, sb, rfl, Tw7, fun r m zs H8 Cm Tk rw8 sm8 G hG => ?_⟩
      have shw : ShwOk (.list ((mRows pA da sa pB db sb r m).map rowD)) := by
        refine rows_ok (b := 40) (by decide) (by decide) (fun x hx => ?_) (by rw [mRows_len]; have := Tk.2.1; omega)
        obtain ⟨j, hj, rfl⟩ := mem_mRows hx
        have o := Tk.1 j hj
        have nb := nth_bd Cm B6 o
        have jb : (j + 1) * sb.natAbs ≤ 9 * 9 := Nat.mul_le_mul (by have := Tk.2.1; omega) (by omega)
        obtain ⟨g1, g2, g3⟩ := row_nat (d1 := da) (d2 := db) (Pb := 9) (Nb := 99) (Sb := 9) (Db := 7) (n := nthN r j) (by omega) (by omega) (by omega) (by omega) (by omega) (by omega) (nth_on Cm o) B6
        exact ⟨by omega, by omega, by omega⟩
      have dt := due_take9 (d1 := da) (d2 := db) Cm (by omega) (by omega) B6 Tk
      refine ⟨_, _, rfl, .lst (SqL.of upd_same) ((rw8.same (same_new hG _)).dp), shw, fun y1 ey1 => ?_⟩
      have sm9 := sm8.trans (same_new hG (.lst zs))
      refine ⟨_, rfl, 9, rfl, D, _, rfl, SqL.of (sm9 _ _ hD), fun S hS => ?_⟩
      refine ⟨_, .list (((dueRows pA da sa pB db sb r).take 9).map rowD), rfl, .lst (SqL.of upd_same) ?_, by rw [dt]; exact shw, fun y2 ey2 => ⟨rfl, _, rfl, iteNS (by rw [ey1, ey2, dt]) ⟨rfl, sm9.trans (same_new hS _), r, Cm⟩⟩⟩
      have e9 : cutV ys none (some 9) = ys.take 9 := cut_take (n := 9)
      rw [e9]
      exact (((rows r Cm).same (sm9.trans (same_new hS _))).take 9).dp
    rintro σ' H9 ⟨rfl, sm9, r, Cm⟩
    have hD9 := sm9 _ _ hD
    have rows9 := (rows r Cm).same sm9
    -- all of them
    refine ⟨fun σ' H' => σ' = [some (V.ref a), some (.ref p), some (.int (0 + (i : Int))), some (.ref t1), some (.ref t2), some (.ref x1), some (.ref x2), some (.ref D), o8, o9, o10, o11] ∧ Same H9 H', ?_, ?_⟩
    · have h1' := SqT.of (K := K) (sm9 _ _ (sm47 _ _ ea))
      have h2' := SqT.of (K := K) (sm9 _ _ (sm47 _ _ eb))
      refine ⟨_, rfl, t1, _, _, _, rfl, rfl, h1', rfl, _, rfl, t2, _, _, _, rfl, rfl, h2', rfl, _, _, rfl, rfl, .inl (by omega), _, _, rfl, rfl, _, rfl, ?_⟩
      by_cases c : sa * sb < 0
      · refine iteDT c ?_
        have finx : ∀ a l st, Comm pA sa pB sb (some (a, l, st)) → l ≠ none := fun a l st C e => by
          have := (C.sign A6 B6).mp e
          omega
        show if true = true then _ else _
        rw [if_pos rfl]
        refine ⟨_, rfl, _, rfl, x1, x2, nma, da, pA, sa, nmb, db, pB, sb, rfl, Tw7.same (sm9.trans (Same.refl H9)), by omega, finx, fun r2 m zs H12 Cm2 oks no rw12 sm12 G hG => ?_⟩
        obtain rfl := Cm.weak.uniq Cm2.weak
        have fr : ∀ a l st, r = some (a, l, st) → l ≠ none := fun a l st e => finx a l st (e ▸ Cm)
        have dt := due_all (d1 := da) (d2 := db) Cm (by omega) fr oks no
        have shw : ShwOk (.list ((mRows pA da sa pB db sb r m).map rowD)) := by
          have ml : m ≤ 19 := by
            by_cases c : m ≤ 19
            · exact c
            · have := nth_end Cm fr (oks 19 (by omega))
              omega
          refine rows_ok (b := 40) (by decide) (by decide) (fun x hx => ?_) (by rw [mRows_len]; omega)
          obtain ⟨j, hj, rfl⟩ := mem_mRows hx
          have o := oks j hj
          have nb := (nth_end Cm fr o).1
          obtain ⟨g1, g2, g3⟩ := row_nat (d1 := da) (d2 := db) (Pb := 9) (Nb := 18) (Sb := 9) (Db := 7) (n := nthN r j) (by omega) (by omega) (by omega) (by omega) (by omega) (by omega) (nth_on Cm o) B6
          exact ⟨by omega, by omega, by omega⟩
        refine ⟨_, _, rfl, .lst (SqL.of upd_same) ((rw12.same (same_new hG _)).dp), shw, fun y1 ey1 => ?_⟩
        have sm13 := ((Same.refl H9).trans sm12).trans (same_new hG (.lst zs))
        exact ⟨_, rfl, _, .list ((dueRows pA da sa pB db sb r).map rowD), rfl, .lst (SqL.of (sm13 _ _ hD9)) (rows9.same sm13).dp, by rw [dt]; exact shw, fun y2 ey2 => ⟨rfl, _, rfl, iteNS (by rw [ey1, ey2, dt]) ⟨rfl, sm13⟩⟩⟩
      · refine iteDF c ?_
        refine ⟨_, rfl, (by show 0 ≤ sizeLine; decide), fun e he => ?_⟩
        have sme := same_new he (.lst [])
        refine ⟨.list ((dueRows pA da sa pB db sb r).map rowD), .list [], .lst (SqL.of (sme _ _ hD9)) (rows9.same sme).dp, .lst (SqL.of upd_same) .nil, shR _, rfl, _, rfl, ?_⟩
        by_cases en : dueRows pA da sa pB db sb r = []
        · have ev : PyData.eqv (.list ((dueRows pA da sa pB db sb r).map rowD)) (.list []) = true := by rw [en]; rfl
          rw [ev]
          obtain rfl := due_nil Cm (by omega) (by omega) B6 en
          have finx : ∀ a l st, Comm pA sa pB sb (some (a, l, st)) → l ≠ none := fun a l st C => by
            cases Cm.weak.uniq C.weak
          show if true = true then _ else _
          rw [if_pos rfl]
          refine ⟨_, rfl, _, rfl, x1, x2, nma, da, pA, sa, nmb, db, pB, sb, rfl, Tw7.same (sm9.trans sme), by omega, finx, fun r2 m zs H12 Cm2 oks no rw12 sm12 G hG => ?_⟩
          obtain rfl := Cm2.weak.uniq Cm.weak
          have fr : ∀ a l st, (none : Option (Int × Option Int × Int)) = some (a, l, st) → l ≠ none := fun a l st e => finx a l st (e ▸ Cm)
          have dt := due_all (d1 := da) (d2 := db) Cm (by omega) fr oks no
          have shw : ShwOk (.list ((mRows pA da sa pB db sb none m).map rowD)) := by
            have ml : m ≤ 19 := by
              by_cases c : m ≤ 19
              · exact c
              · have := nth_end Cm fr (oks 19 (by omega))
                omega
            refine rows_ok (b := 40) (by decide) (by decide) (fun x hx => ?_) (by rw [mRows_len]; omega)
            obtain ⟨j, hj, rfl⟩ := mem_mRows hx
            have o := oks j hj
            have nb := (nth_end Cm fr o).1
            obtain ⟨g1, g2, g3⟩ := row_nat (d1 := da) (d2 := db) (Pb := 9) (Nb := 18) (Sb := 9) (Db := 7) (n := nthN none j) (by omega) (by omega) (by omega) (by omega) (by omega) (by omega) (nth_on Cm o) B6
            exact ⟨by omega, by omega, by omega⟩
          refine ⟨_, _, rfl, .lst (SqL.of upd_same) ((rw12.same (same_new hG _)).dp), shw, fun y1 ey1 => ?_⟩
          have sm13 := (sme.trans sm12).trans (same_new hG (.lst zs))
          exact ⟨_, rfl, _, .list ((dueRows pA da sa pB db sb none).map rowD), rfl, .lst (SqL.of (sm13 _ _ hD9)) (rows9.same sm13).dp, by rw [dt]; exact shw, fun y2 ey2 => ⟨rfl, _, rfl, iteNS (by rw [ey1, ey2, dt]) ⟨rfl, sm13⟩⟩⟩
        · have ev : PyData.eqv (.list ((dueRows pA da sa pB db sb r).map rowD)) (.list []) = false := by
            cases ee : dueRows pA da sa pB db sb r with
            | nil => exact absurd ee en
            | cons x xs => rfl
          rw [ev]
          show if false = true then _ else _
          rw [if_neg Bool.false_ne_true]
          show if false = true then _ else _
          rw [if_neg Bool.false_ne_true]
          exact ⟨rfl, sme⟩
    rintro σ' H10 ⟨rfl, sm10⟩
    -- great numbers
    have smA : Same H4 H10 := (sm47.trans sm9).trans sm10
    have P10 := P4.same smA
    refine ⟨_, rfl, p, l, _, rfl, P10, by omega, fun u u1 u2 hub H11 hu r1 r2 _ _ P11 k11 => ?_⟩
    refine ⟨u, _, rfl, SqT.of hu, rfl, _, _, rfl, _, _, rfl, _, _, rfl, rfl, ?_⟩
    clear Tw7 rows rows9 Cm r pn1 pn2 oka okb
    obtain ⟨nmc, dc, pC, sc, ec, zc, Rc⟩ := r1
    obtain ⟨nmd, dd, pD, sd, ed, zd, Rd⟩ := r2
    have okc := Rc.ok zc
    have okd := Rd.ok zd
    refine ⟨_, rfl, u1, nmc, dc, pC, sc, rfl, SqT.of ec, okc, fun y1 H12 pn1 sm12 => ?_⟩
    refine ⟨_, rfl, u2, nmd, dd, pD, sd, rfl, SqT.of (sm12 _ _ ed), okd, fun y2 H13 pn2 sm13 => ?_⟩
    have sm113 := sm12.trans sm13
    refine ⟨_, rfl, _, rfl, u1, u2, nmc, dc, pC, sc, nmd, dd, pD, sd, rfl, SqT.of (sm113 _ _ ec), SqT.of (sm113 _ _ ed), Rc, Rd, fun D2 ys2 H14 hD2 ly2 rows sm14 => ⟨_, _, _, rfl, ?_⟩⟩
    have Tw14 : Two C H14 y1 y2 nmc dc pC sc nmd dd pD sd := ⟨(pn1.same sm13).same sm14, pn2.same sm14, okc, okd⟩
    have P14 := (P11.same sm113).same sm14
    unfold AnyR at Rc Rd
    obtain ⟨E0', E1, E2, E3, E4, E5, E6⟩ := Rc
    obtain ⟨F0, F1, F2, F3, F4, F5, F6⟩ := Rd
    refine ⟨2, rfl, by decide, by decide, for_range (lo := 0) (n := 2) (fun j σ' H' => ∃ o11 : Option V, σ' = [some (V.ref a), some (.ref p), some (.int (0 + (i : Int))), some (.ref u1), some (.ref u2), some (.ref y1), some (.ref y2), some (.ref D2), o8, o9, some (.int hub), o11] ∧ Same H14 H') ⟨_, rfl, Same.refl H14⟩ ?_ ?_⟩
    · rintro j σ' H15 hj ⟨o11', rfl, sm15⟩
      refine ⟨rfl, _, rfl, _, rfl, y1, y2, nmc, dc, pC, sc, nmd, dd, pD, sd, rfl, Tw14.same sm15, fun r m zs H16 Cm Tk rw16 sm16 G hG => ?_⟩
      have shw : ShwOk (.list ((mRows pC dc sc pD dd sd r m).map rowD)) := by
        refine rows_ok (b := 200) (by decide) (by decide) (fun x hx => ?_) (by rw [mRows_len]; have := Tk.2.1; omega)
        obtain ⟨j, hj, rfl⟩ := mem_mRows hx
        have o := Tk.1 j hj
        have nb := nth_bd Cm F6 o
        have jb : (j + 1) * sd.natAbs ≤ 9 * 10 ^ 18 := Nat.mul_le_mul (by have := Tk.2.1; omega) (by omega)
        obtain ⟨g1, g2, g3⟩ := row_nat (d1 := dc) (d2 := dd) (Pb := 10 ^ 30) (Nb := 10 ^ 31) (Sb := 10 ^ 18) (Db := 10 ^ 30) (n := nthN r j) (by omega) (by omega) (by omega) (by omega) (by omega) (by omega) (nth_on Cm o) F6
        exact ⟨by omega, by omega, by omega⟩
      refine ⟨_, _, rfl, .lst (SqL.of upd_same) ((rw16.same (same_new hG _)).dp), shw, fun z1 ez1 => ?_⟩
      have smB := (sm15.trans sm16).trans (same_new hG (.lst zs))
      obtain ⟨m2, Tk2, rw2⟩ := rows r Cm
      obtain rfl := taken_uniq Tk Tk2
      exact ⟨_, rfl, _, .list ((mRows pC dc sc pD dd sd r m).map rowD), rfl, .lst (SqL.of (smB _ _ hD2)) (rw2.same smB).dp, shw, fun z2 ez2 => ⟨rfl, _, rfl, iteNS (by rw [ez1, ez2]) ⟨_, rfl, smB⟩⟩⟩
    · rintro σ' H15 ⟨o11', rfl, sm15⟩
      exact ⟨_, _, _, _, _, _, _, _, _, _, rfl, (P14.same sm15).le (by omega)⟩
  · rintro σ' H3 ⟨o2, o3, o4, o5, o6, o7, o8, o9, o10, o11, rfl, P3⟩
    exact q _
end
end Ur
/-! E09: the end. -/
namespace Ur
open PySem PySem.Spec PyProof.Rows L2
theorem all_mk {l : PySem.W.OpenLaw} {w : World} {K : PySem.W.Frag} {h : Heap} {mg : Str → Option Value} {fa : Addr} (X : K.In h) (G : h.Ns mainGlobals mg) (hfa : mg "law" = some (.ref fa))
    {f1 f2 f3 f4 f5 f6 f7 f8 f9 f10 f11 f12 f13 f14 f15 f16 f17 f18 f19 f20 f21 fL CPainter f22 p23 f23 p24 f24 p25 f25 p26 f26 : Addr}
    {od1 an1 od2 an2 od3 an3 od4 an4 od5 an5 od6 an6 od7 an7 od8 an8 od9 an9 od10 an10 od11 an11 od12 an12 od13 an13 od14 an14 od15 an15 od16 an16 od17 an17 od18 an18 od19 an19 od20 an20 od21 an21 odL anL od22 an22 od23 an23 od24 an24 od25 an25 od26 an26 : Option Addr}
    {sl1 sl2 sl3 sl4 sl5 sl6 sl7 sl8 sl9 sl10 sl11 sl12 sl13 sl14 sl15 sl16 sl17 sl18 sl19 sl20 sl21 slL sl22 sl23 sl24 sl25 sl26 : Array (Option Value)}
    {oc1 kV1 dc1 pm1 cd1 ct1 oc2 kV2 dc2 pm2 cd2 ct2 oc3 kV3 dc3 pm3 cd3 ct3 oc4 kV4 dc4 pm4 cd4 ct4 oc5 kV5 dc5 pm5 cd5 ct5 oc6 kV6 dc6 pm6 cd6 ct6 oc7 kV7 dc7 pm7 cd7 ct7 oc8 kV8 dc8 pm8 cd8 ct8 oc9 kV9 dc9 pm9 cd9 ct9 oc10 kV10 dc10 pm10 cd10 ct10 oc11 kV11 dc11 pm11 cd11 ct11 oc12 kV12 dc12 pm12 cd12 ct12 oc13 kV13 dc13 pm13 cd13 ct13 oc14 kV14 dc14 pm14 cd14 ct14 oc15 kV15 dc15 pm15 cd15 ct15 oc16 kV16 dc16 pm16 cd16 ct16 oc17 kV17 dc17 pm17 cd17 ct17 oc18 kV18 dc18 pm18 cd18 ct18 oc19 kV19 dc19 pm19 cd19 ct19 oc20 kV20 dc20 pm20 cd20 ct20 oc21 kV21 dc21 pm21 cd21 ct21 ocL kVL dcL pmL cdL ctL uPainterMAX_DAY uPainterMAX_POST uPainterMAX_STRIDE oc22 kV22 dc22 pm22 cd22 ct22 oc23 kV23 dc23 pm23 cd23 ct23 oc24 kV24 dc24 pm24 cd24 ct24 oc25 kV25 dc25 pm25 cd25 ct25 oc26 kV26 dc26 pm26 cd26 ct26 : Value}
    {r23 r24 r25 r26 : List Value}
    (a1 : PySem.W.nsIn K mainGlobals "meetings" = some (some (.ref f1)))
    (l1 : K.lookup f1 = some ⟨oc1, od1, .func (PySem.W.fnOf "meetings" "meetings" (defArgs s_meetings) (defBody s_meetings) (defScope s_meetings) .none kV1 dc1 pm1 an1 cd1 ct1), sl1⟩)
    (c1 : PySem.W.codeIn K cd1 "meetings" = true)
    (k1 : PySem.W.keepIn K (.ref f1) = true)
    (a2 : PySem.W.nsIn K mainGlobals "_law_pen" = some (some (.ref f2)))
    (l2 : K.lookup f2 = some ⟨oc2, od2, .func (PySem.W.fnOf "_law_pen" "_law_pen" (defArgs s__law_pen) (defBody s__law_pen) (defScope s__law_pen) .none kV2 dc2 pm2 an2 cd2 ct2), sl2⟩)
    (c2 : PySem.W.codeIn K cd2 "_law_pen" = true)
    (k2 : PySem.W.keepIn K (.ref f2) = true)
    (a3 : PySem.W.nsIn K mainGlobals "_law_draw" = some (some (.ref f3)))
    (l3 : K.lookup f3 = some ⟨oc3, od3, .func (PySem.W.fnOf "_law_draw" "_law_draw" (defArgs s__law_draw) (defBody s__law_draw) (defScope s__law_draw) .none kV3 dc3 pm3 an3 cd3 ct3), sl3⟩)
    (c3 : PySem.W.codeIn K cd3 "_law_draw" = true)
    (k3 : PySem.W.keepIn K (.ref f3) = true)
    (a4 : PySem.W.nsIn K mainGlobals "_law_pick" = some (some (.ref f4)))
    (l4 : K.lookup f4 = some ⟨oc4, od4, .func (PySem.W.fnOf "_law_pick" "_law_pick" (defArgs s__law_pick) (defBody s__law_pick) (defScope s__law_pick) .none kV4 dc4 pm4 an4 cd4 ct4), sl4⟩)
    (c4 : PySem.W.codeIn K cd4 "_law_pick" = true)
    (k4 : PySem.W.keepIn K (.ref f4) = true)
    (a5 : PySem.W.nsIn K mainGlobals "_law_around" = some (some (.ref f5)))
    (l5 : K.lookup f5 = some ⟨oc5, od5, .func (PySem.W.fnOf "_law_around" "_law_around" (defArgs s__law_around) (defBody s__law_around) (defScope s__law_around) .none kV5 dc5 pm5 an5 cd5 ct5), sl5⟩)
    (c5 : PySem.W.codeIn K cd5 "_law_around" = true)
    (k5 : PySem.W.keepIn K (.ref f5) = true)
    (a6 : PySem.W.nsIn K mainGlobals "_law_power" = some (some (.ref f6)))
    (l6 : K.lookup f6 = some ⟨oc6, od6, .func (PySem.W.fnOf "_law_power" "_law_power" (defArgs s__law_power) (defBody s__law_power) (defScope s__law_power) .none kV6 dc6 pm6 an6 cd6 ct6), sl6⟩)
    (c6 : PySem.W.codeIn K cd6 "_law_power" = true)
    (k6 : PySem.W.keepIn K (.ref f6) = true)
    (a7 : PySem.W.nsIn K mainGlobals "_law_great" = some (some (.ref f7)))
    (l7 : K.lookup f7 = some ⟨oc7, od7, .func (PySem.W.fnOf "_law_great" "_law_great" (defArgs s__law_great) (defBody s__law_great) (defScope s__law_great) .none kV7 dc7 pm7 an7 cd7 ct7), sl7⟩)
    (c7 : PySem.W.codeIn K cd7 "_law_great" = true)
    (k7 : PySem.W.keepIn K (.ref f7) = true)
    (a8 : PySem.W.nsIn K mainGlobals "_law_names" = some (some (.ref f8)))
    (l8 : K.lookup f8 = some ⟨oc8, od8, .func (PySem.W.fnOf "_law_names" "_law_names" (defArgs s__law_names) (defBody s__law_names) (defScope s__law_names) .none kV8 dc8 pm8 an8 cd8 ct8), sl8⟩)
    (c8 : PySem.W.codeIn K cd8 "_law_names" = true)
    (k8 : PySem.W.keepIn K (.ref f8) = true)
    (a9 : PySem.W.nsIn K mainGlobals "_law_inverse" = some (some (.ref f9)))
    (l9 : K.lookup f9 = some ⟨oc9, od9, .func (PySem.W.fnOf "_law_inverse" "_law_inverse" (defArgs s__law_inverse) (defBody s__law_inverse) (defScope s__law_inverse) .none kV9 dc9 pm9 an9 cd9 ct9), sl9⟩)
    (c9 : PySem.W.codeIn K cd9 "_law_inverse" = true)
    (k9 : PySem.W.keepIn K (.ref f9) = true)
    (a10 : PySem.W.nsIn K mainGlobals "_law_gcd" = some (some (.ref f10)))
    (l10 : K.lookup f10 = some ⟨oc10, od10, .func (PySem.W.fnOf "_law_gcd" "_law_gcd" (defArgs s__law_gcd) (defBody s__law_gcd) (defScope s__law_gcd) .none kV10 dc10 pm10 an10 cd10 ct10), sl10⟩)
    (c10 : PySem.W.codeIn K cd10 "_law_gcd" = true)
    (k10 : PySem.W.keepIn K (.ref f10) = true)
    (a11 : PySem.W.nsIn K mainGlobals "_law_common" = some (some (.ref f11)))
    (l11 : K.lookup f11 = some ⟨oc11, od11, .func (PySem.W.fnOf "_law_common" "_law_common" (defArgs s__law_common) (defBody s__law_common) (defScope s__law_common) .none kV11 dc11 pm11 an11 cd11 ct11), sl11⟩)
    (c11 : PySem.W.codeIn K cd11 "_law_common" = true)
    (k11 : PySem.W.keepIn K (.ref f11) = true)
    (a12 : PySem.W.nsIn K mainGlobals "_law_made" = some (some (.ref f12)))
    (l12 : K.lookup f12 = some ⟨oc12, od12, .func (PySem.W.fnOf "_law_made" "_law_made" (defArgs s__law_made) (defBody s__law_made) (defScope s__law_made) .none kV12 dc12 pm12 an12 cd12 ct12), sl12⟩)
    (c12 : PySem.W.codeIn K cd12 "_law_made" = true)
    (k12 : PySem.W.keepIn K (.ref f12) = true)
    (a13 : PySem.W.nsIn K mainGlobals "_law_duo" = some (some (.ref f13)))
    (l13 : K.lookup f13 = some ⟨oc13, od13, .func (PySem.W.fnOf "_law_duo" "_law_duo" (defArgs s__law_duo) (defBody s__law_duo) (defScope s__law_duo) .none kV13 dc13 pm13 an13 cd13 ct13), sl13⟩)
    (c13 : PySem.W.codeIn K cd13 "_law_duo" = true)
    (k13 : PySem.W.keepIn K (.ref f13) = true)
    (a14 : PySem.W.nsIn K mainGlobals "_law_great_duo" = some (some (.ref f14)))
    (l14 : K.lookup f14 = some ⟨oc14, od14, .func (PySem.W.fnOf "_law_great_duo" "_law_great_duo" (defArgs s__law_great_duo) (defBody s__law_great_duo) (defScope s__law_great_duo) .none kV14 dc14 pm14 an14 cd14 ct14), sl14⟩)
    (c14 : PySem.W.codeIn K cd14 "_law_great_duo" = true)
    (k14 : PySem.W.keepIn K (.ref f14) = true)
    (a15 : PySem.W.nsIn K mainGlobals "_law_steps_to" = some (some (.ref f15)))
    (l15 : K.lookup f15 = some ⟨oc15, od15, .func (PySem.W.fnOf "_law_steps_to" "_law_steps_to" (defArgs s__law_steps_to) (defBody s__law_steps_to) (defScope s__law_steps_to) .none kV15 dc15 pm15 an15 cd15 ct15), sl15⟩)
    (c15 : PySem.W.codeIn K cd15 "_law_steps_to" = true)
    (k15 : PySem.W.keepIn K (.ref f15) = true)
    (a16 : PySem.W.nsIn K mainGlobals "_law_rows" = some (some (.ref f16)))
    (l16 : K.lookup f16 = some ⟨oc16, od16, .func (PySem.W.fnOf "_law_rows" "_law_rows" (defArgs s__law_rows) (defBody s__law_rows) (defScope s__law_rows) .none kV16 dc16 pm16 an16 cd16 ct16), sl16⟩)
    (c16 : PySem.W.codeIn K cd16 "_law_rows" = true)
    (k16 : PySem.W.keepIn K (.ref f16) = true)
    (a17 : PySem.W.nsIn K mainGlobals "_law_great_rows" = some (some (.ref f17)))
    (l17 : K.lookup f17 = some ⟨oc17, od17, .func (PySem.W.fnOf "_law_great_rows" "_law_great_rows" (defArgs s__law_great_rows) (defBody s__law_great_rows) (defScope s__law_great_rows) .none kV17 dc17 pm17 an17 cd17 ct17), sl17⟩)
    (c17 : PySem.W.codeIn K cd17 "_law_great_rows" = true)
    (k17 : PySem.W.keepIn K (.ref f17) = true)
    (a18 : PySem.W.nsIn K mainGlobals "is_integer" = some (some (.ref f18)))
    (l18 : K.lookup f18 = some ⟨oc18, od18, .func (PySem.W.fnOf "is_integer" "is_integer" (defArgs s_is_integer) (defBody s_is_integer) (defScope s_is_integer) .none kV18 dc18 pm18 an18 cd18 ct18), sl18⟩)
    (c18 : PySem.W.codeIn K cd18 "is_integer" = true)
    (k18 : PySem.W.keepIn K (.ref f18) = true)
    (a19 : PySem.W.nsIn K mainGlobals "is_between" = some (some (.ref f19)))
    (l19 : K.lookup f19 = some ⟨oc19, od19, .func (PySem.W.fnOf "is_between" "is_between" (defArgs s_is_between) (defBody s_is_between) (defScope s_is_between) .none kV19 dc19 pm19 an19 cd19 ct19), sl19⟩)
    (c19 : PySem.W.codeIn K cd19 "is_between" = true)
    (k19 : PySem.W.keepIn K (.ref f19) = true)
    (a20 : PySem.W.nsIn K mainGlobals "divisor_and_factor" = some (some (.ref f20)))
    (l20 : K.lookup f20 = some ⟨oc20, od20, .func (PySem.W.fnOf "divisor_and_factor" "divisor_and_factor" (defArgs s_divisor_and_factor) (defBody s_divisor_and_factor) (defScope s_divisor_and_factor) .none kV20 dc20 pm20 an20 cd20 ct20), sl20⟩)
    (c20 : PySem.W.codeIn K cd20 "divisor_and_factor" = true)
    (k20 : PySem.W.keepIn K (.ref f20) = true)
    (a21 : PySem.W.nsIn K mainGlobals "common_numbers" = some (some (.ref f21)))
    (l21 : K.lookup f21 = some ⟨oc21, od21, .func (PySem.W.fnOf "common_numbers" "common_numbers" (defArgs s_common_numbers) (defBody s_common_numbers) (defScope s_common_numbers) .none kV21 dc21 pm21 an21 cd21 ct21), sl21⟩)
    (c21 : PySem.W.codeIn K cd21 "common_numbers" = true)
    (k21 : PySem.W.keepIn K (.ref f21) = true)
    (aL : PySem.W.nsIn K mainGlobals "law" = some (some (.ref fL)))
    (lL : K.lookup fL = some ⟨ocL, odL, .func (PySem.W.fnOf "law" "law" (defArgs s_law) (defBody s_law) (defScope s_law) .none kVL dcL pmL anL cdL ctL), slL⟩)
    (cL : PySem.W.codeIn K cdL "law" = true)
    (kL : PySem.W.keepIn K (.ref fL) = true)
    (gPainter : PySem.W.nsIn K mainGlobals "Painter" = some (some (.ref CPainter)))
    (pgPainter : PySem.W.plainGet K CPainter Str.empty = true)
    (hdPainter : PySem.W.hasDictIn K CPainter = true)
    (poPainter : PySem.W.plainOver K CPainter = true)
    (saPainter : PySem.W.findIn K (.ref CPainter) "__setattr__" = some (some (.builtin "object.__setattr__")))
    (rdPainter : PySem.W.readsIn K CPainter (.type "type") = true)
    (gaPainter : PySem.W.specialIn K (.ref CPainter) "__getattribute__" = some (some (.builtin "type.__getattribute__")))
    (nPainter_name : PySem.W.findIn K (.ref CPainter) "_name" = some none)
    (nPainter_day : PySem.W.findIn K (.ref CPainter) "_day" = some none)
    (nPainter_post : PySem.W.findIn K (.ref CPainter) "_post" = some none)
    (nPainter_stride : PySem.W.findIn K (.ref CPainter) "_stride" = some none)
    (vPainterMAX_DAY : PySem.W.findCls K (.ref CPainter) (.type "type") "MAX_DAY" = some (.val uPainterMAX_DAY))
    (wPainterMAX_DAY : L2.RelV (.int (10 ^ 30)) uPainterMAX_DAY)
    (vPainterMAX_POST : PySem.W.findCls K (.ref CPainter) (.type "type") "MAX_POST" = some (.val uPainterMAX_POST))
    (wPainterMAX_POST : L2.RelV (.int (10 ^ 30)) uPainterMAX_POST)
    (vPainterMAX_STRIDE : PySem.W.findCls K (.ref CPainter) (.type "type") "MAX_STRIDE" = some (.val uPainterMAX_STRIDE))
    (wPainterMAX_STRIDE : L2.RelV (.int (10 ^ 18)) uPainterMAX_STRIDE)
    (a22 : PySem.W.findIn K (.ref CPainter) "__init__" = some (some (.ref f22)))
    (i22 : PySem.W.isFn K (.ref f22) = true)
    (l22 : K.lookup f22 = some ⟨oc22, od22, .func (PySem.W.fnOf "__init__" "Painter.__init__" (defArgs s_Painter_init) (defBody s_Painter_init) (defScope s_Painter_init) .none kV22 dc22 pm22 an22 cd22 ct22), sl22⟩)
    (c22 : PySem.W.codeIn K cd22 "Painter.__init__" = true)
    (k22 : PySem.W.keepIn K (.ref f22) = true)
    (mkPainter : PySem.W.makesIn K CPainter = true)
    (kcPainter : PySem.W.keepIn K (.ref CPainter) = true)
    (a23 : PySem.W.findCls K (.ref CPainter) (.type "type") "is_name" = some (.get (.builtin "staticmethod.__get__") (.ref p23) .none (.ref CPainter)))
    (e23 : PySem.W.recIn K p23 "staticmethod" = some (.ref f23 :: r23))
    (l23 : K.lookup f23 = some ⟨oc23, od23, .func (PySem.W.fnOf "is_name" "Painter.is_name" (defArgs s_Painter_is_name) (defBody s_Painter_is_name) (defScope s_Painter_is_name) .none kV23 dc23 pm23 an23 cd23 ct23), sl23⟩)
    (c23 : PySem.W.codeIn K cd23 "Painter.is_name" = true)
    (k23 : PySem.W.keepIn K (.ref f23) = true)
    (a24 : PySem.W.findIn K (.ref CPainter) "day" = some (some (.ref p24)))
    (s24 : PySem.W.specialIn K (.ref p24) "__get__" = some (some (.builtin "property.__get__")))
    (t24 : PySem.W.takesIn K (.ref p24) = some true)
    (e24 : PySem.W.recIn K p24 "property" = some (.ref f24 :: r24))
    (l24 : K.lookup f24 = some ⟨oc24, od24, .func (PySem.W.fnOf "day" "Painter.day" (defArgs s_Painter_day) (defBody s_Painter_day) (defScope s_Painter_day) .none kV24 dc24 pm24 an24 cd24 ct24), sl24⟩)
    (c24 : PySem.W.codeIn K cd24 "Painter.day" = true)
    (k24 : PySem.W.keepIn K (.ref f24) = true)
    (a25 : PySem.W.findIn K (.ref CPainter) "post" = some (some (.ref p25)))
    (s25 : PySem.W.specialIn K (.ref p25) "__get__" = some (some (.builtin "property.__get__")))
    (t25 : PySem.W.takesIn K (.ref p25) = some true)
    (e25 : PySem.W.recIn K p25 "property" = some (.ref f25 :: r25))
    (l25 : K.lookup f25 = some ⟨oc25, od25, .func (PySem.W.fnOf "post" "Painter.post" (defArgs s_Painter_post) (defBody s_Painter_post) (defScope s_Painter_post) .none kV25 dc25 pm25 an25 cd25 ct25), sl25⟩)
    (c25 : PySem.W.codeIn K cd25 "Painter.post" = true)
    (k25 : PySem.W.keepIn K (.ref f25) = true)
    (a26 : PySem.W.findIn K (.ref CPainter) "stride" = some (some (.ref p26)))
    (s26 : PySem.W.specialIn K (.ref p26) "__get__" = some (some (.builtin "property.__get__")))
    (t26 : PySem.W.takesIn K (.ref p26) = some true)
    (e26 : PySem.W.recIn K p26 "property" = some (.ref f26 :: r26))
    (l26 : K.lookup f26 = some ⟨oc26, od26, .func (PySem.W.fnOf "stride" "Painter.stride" (defArgs s_Painter_stride) (defBody s_Painter_stride) (defScope s_Painter_stride) .none kV26 dc26 pm26 an26 cd26 ct26), sl26⟩)
    (c26 : PySem.W.codeIn K cd26 "Painter.stride" = true)
    (k26 : PySem.W.keepIn K (.ref f26) = true)
    (zlen : PySem.W.nsIn K mainGlobals "len" = some none)
    (zint : PySem.W.nsIn K mainGlobals "int" = some none)
    (zabs : PySem.W.nsIn K mainGlobals "abs" = some none)
    (zlist : PySem.W.nsIn K mainGlobals "list" = some none)
    (zrange : PySem.W.nsIn K mainGlobals "range" = some none)
    (zmin : PySem.W.nsIn K mainGlobals "min" = some none)
    (zmax : PySem.W.nsIn K mainGlobals "max" = some none)
    (zrepr : PySem.W.nsIn K mainGlobals "repr" = some none)
    (zstr : PySem.W.nsIn K mainGlobals "str" = some none)
    (zbool : PySem.W.nsIn K mainGlobals "bool" = some none)
    (zisinstance : PySem.W.nsIn K mainGlobals "isinstance" = some none)
    (zany : PySem.W.nsIn K mainGlobals "any" = some none)
    (zdivmod : PySem.W.nsIn K mainGlobals "divmod" = some none)
    (zzip : PySem.W.nsIn K mainGlobals "zip" = some none)
    : ∃ fd : FuncData, (∀ (s : Shared) (v : Value), BindsTo s fd ⟨[v], []⟩ [("_law_script", v)]) ∧ ∀ base : Heap, K.In base → base.Ns mainGlobals mg → FnG l.prog w K mg base 40 fa fd ["_law_script"] (spLaw K) := by
  have e := hfa.symm.trans (PySem.W.mg_of X G aL)
  cases e
  have F_law := fun_mk (st := s_law) lL cL kL
  have F_meetings := fun_mk (st := s_meetings) (x := "meetings") l1 c1 k1
  have m_meetings : mg "meetings" = some (.ref f1) := PySem.W.mg_of X G a1
  have kp_meetings := k1
  have D__law_pen : Dfn K mg "_law_pen" s__law_pen P__law_pen := ⟨f2, _, fun_mk l2 c2 k2, (fun_mk l2 c2 k2).binds fun _ _ _ _ _ _ us hl => match us, hl with | [_], _ => rfl, PySem.W.mg_of X G a2⟩
  have D__law_draw : Dfn K mg "_law_draw" s__law_draw P__law_draw := ⟨f3, _, fun_mk l3 c3 k3, (fun_mk l3 c3 k3).binds fun _ _ _ _ _ _ us hl => match us, hl with | [_, _], _ => rfl, PySem.W.mg_of X G a3⟩
  have D__law_pick : Dfn K mg "_law_pick" s__law_pick P__law_pick := ⟨f4, _, fun_mk l4 c4 k4, (fun_mk l4 c4 k4).binds fun _ _ _ _ _ _ us hl => match us, hl with | [_, _], _ => rfl, PySem.W.mg_of X G a4⟩
  have D__law_around : Dfn K mg "_law_around" s__law_around P__law_around := ⟨f5, _, fun_mk l5 c5 k5, (fun_mk l5 c5 k5).binds fun _ _ _ _ _ _ us hl => match us, hl with | [_, _], _ => rfl, PySem.W.mg_of X G a5⟩
  have D__law_power : Dfn K mg "_law_power" s__law_power P__law_power := ⟨f6, _, fun_mk l6 c6 k6, (fun_mk l6 c6 k6).binds fun _ _ _ _ _ _ us hl => match us, hl with | [_], _ => rfl, PySem.W.mg_of X G a6⟩
  have D__law_great : Dfn K mg "_law_great" s__law_great P__law_great := ⟨f7, _, fun_mk l7 c7 k7, (fun_mk l7 c7 k7).binds fun _ _ _ _ _ _ us hl => match us, hl with | [_, _], _ => rfl, PySem.W.mg_of X G a7⟩
  have D__law_names : Dfn K mg "_law_names" s__law_names P__law_names := ⟨f8, _, fun_mk l8 c8 k8, (fun_mk l8 c8 k8).binds fun _ _ _ _ _ _ us hl => match us, hl with | [_, _], _ => rfl, PySem.W.mg_of X G a8⟩
  have D__law_inverse : Dfn K mg "_law_inverse" s__law_inverse P__law_inverse := ⟨f9, _, fun_mk l9 c9 k9, (fun_mk l9 c9 k9).binds fun _ _ _ _ _ _ us hl => match us, hl with | [_, _], _ => rfl, PySem.W.mg_of X G a9⟩
  have D__law_gcd : Dfn K mg "_law_gcd" s__law_gcd P__law_gcd := ⟨f10, _, fun_mk l10 c10 k10, (fun_mk l10 c10 k10).binds fun _ _ _ _ _ _ us hl => match us, hl with | [_, _], _ => rfl, PySem.W.mg_of X G a10⟩
  have D__law_common : Dfn K mg "_law_common" s__law_common P__law_common := ⟨f11, _, fun_mk l11 c11 k11, (fun_mk l11 c11 k11).binds fun _ _ _ _ _ _ us hl => match us, hl with | [_, _], _ => rfl, PySem.W.mg_of X G a11⟩
  have D__law_made : Dfn K mg "_law_made" s__law_made P__law_made := ⟨f12, _, fun_mk l12 c12 k12, (fun_mk l12 c12 k12).binds fun _ _ _ _ _ _ us hl => match us, hl with | [_], _ => rfl, PySem.W.mg_of X G a12⟩
  have D__law_duo : Dfn K mg "_law_duo" s__law_duo P__law_duo := ⟨f13, _, fun_mk l13 c13 k13, (fun_mk l13 c13 k13).binds fun _ _ _ _ _ _ us hl => match us, hl with | [_], _ => rfl, PySem.W.mg_of X G a13⟩
  have D__law_great_duo : Dfn K mg "_law_great_duo" s__law_great_duo P__law_great_duo := ⟨f14, _, fun_mk l14 c14 k14, (fun_mk l14 c14 k14).binds fun _ _ _ _ _ _ us hl => match us, hl with | [_], _ => rfl, PySem.W.mg_of X G a14⟩
  have D__law_steps_to : Dfn K mg "_law_steps_to" s__law_steps_to P__law_steps_to := ⟨f15, _, fun_mk l15 c15 k15, (fun_mk l15 c15 k15).binds fun _ _ _ _ _ _ us hl => match us, hl with | [_, _], _ => rfl, PySem.W.mg_of X G a15⟩
  have D__law_rows : Dfn K mg "_law_rows" s__law_rows P__law_rows := ⟨f16, _, fun_mk l16 c16 k16, (fun_mk l16 c16 k16).binds fun _ _ _ _ _ _ us hl => match us, hl with | [_, _], _ => rfl, PySem.W.mg_of X G a16⟩
  have D__law_great_rows : Dfn K mg "_law_great_rows" s__law_great_rows P__law_great_rows := ⟨f17, _, fun_mk l17 c17 k17, (fun_mk l17 c17 k17).binds fun _ _ _ _ _ _ us hl => match us, hl with | [_, _, _], _ => rfl, PySem.W.mg_of X G a17⟩
  have D_is_integer : Dfn K mg "is_integer" s_is_integer P_is_integer := ⟨f18, _, fun_mk l18 c18 k18, (fun_mk l18 c18 k18).binds fun _ _ _ _ _ _ us hl => match us, hl with | [_], _ => rfl, PySem.W.mg_of X G a18⟩
  have D_is_between : Dfn K mg "is_between" s_is_between P_is_between := ⟨f19, _, fun_mk l19 c19 k19, (fun_mk l19 c19 k19).binds fun _ _ _ _ _ _ us hl => match us, hl with | [_, _, _], _ => rfl, PySem.W.mg_of X G a19⟩
  have D_divisor_and_factor : Dfn K mg "divisor_and_factor" s_divisor_and_factor P_divisor_and_factor := ⟨f20, _, fun_mk l20 c20 k20, (fun_mk l20 c20 k20).binds fun _ _ _ _ _ _ us hl => match us, hl with | [_, _], _ => rfl, PySem.W.mg_of X G a20⟩
  have D_common_numbers : Dfn K mg "common_numbers" s_common_numbers P_common_numbers := ⟨f21, _, fun_mk l21 c21 k21, (fun_mk l21 c21 k21).binds fun _ _ _ _ _ _ us hl => match us, hl with | [_, _], _ => rfl, PySem.W.mg_of X G a21⟩
  have cl_Painter : Cls K CPainter := ⟨pgPainter, hdPainter, poPainter, saPainter⟩
  have rd_Painter : ClX.CRead K CPainter (.type "type") := ⟨rdPainter, gaPainter⟩
  have mg_Painter : mg "Painter" = some (.ref CPainter) := PySem.W.mg_of X G gPainter
  have cv_Painter_MAX_DAY : ∃ u, ClX.CVal K CPainter (.type "type") "MAX_DAY" (.int (10 ^ 30)) u := ⟨_, vPainterMAX_DAY, wPainterMAX_DAY⟩
  have cv_Painter_MAX_POST : ∃ u, ClX.CVal K CPainter (.type "type") "MAX_POST" (.int (10 ^ 30)) u := ⟨_, vPainterMAX_POST, wPainterMAX_POST⟩
  have cv_Painter_MAX_STRIDE : ∃ u, ClX.CVal K CPainter (.type "type") "MAX_STRIDE" (.int (10 ^ 18)) u := ⟨_, vPainterMAX_STRIDE, wPainterMAX_STRIDE⟩
  have F_Painter_init := fun_mk (st := s_Painter_init) (x := "__init__") l22 c22 k22
  have b_Painter_init := F_Painter_init.binds (ps := P_Painter_init) fun _ _ _ _ _ _ us hl => match us, hl with | [_, _, _, _, _], _ => rfl
  have mk_Painter : Mk K CPainter f22 := ⟨mkPainter, a22, i22, kcPainter⟩
  have F_Painter_is_name := fun_mk (st := s_Painter_is_name) (x := "is_name") l23 c23 k23
  have b_Painter_is_name := F_Painter_is_name.binds (ps := P_Painter_is_name) fun _ _ _ _ _ _ us hl => match us, hl with | [_], _ => rfl
  have sm_Painter_is_name : SMet K CPainter (.type "type") "is_name" p23 f23 := ⟨a23, ⟨_, e23⟩, k23⟩
  have F_Painter_day := fun_mk (st := s_Painter_day) (x := "day") l24 c24 k24
  have b_Painter_day := F_Painter_day.binds (ps := P_Painter_day) fun _ _ _ _ _ _ us hl => match us, hl with | [_], _ => rfl
  have pr_Painter_day : PropOf K CPainter "day" p24 f24 := ⟨a24, s24, t24, ⟨_, e24⟩⟩
  have F_Painter_post := fun_mk (st := s_Painter_post) (x := "post") l25 c25 k25
  have b_Painter_post := F_Painter_post.binds (ps := P_Painter_post) fun _ _ _ _ _ _ us hl => match us, hl with | [_], _ => rfl
  have pr_Painter_post : PropOf K CPainter "post" p25 f25 := ⟨a25, s25, t25, ⟨_, e25⟩⟩
  have F_Painter_stride := fun_mk (st := s_Painter_stride) (x := "stride") l26 c26 k26
  have b_Painter_stride := F_Painter_stride.binds (ps := P_Painter_stride) fun _ _ _ _ _ _ us hl => match us, hl with | [_], _ => rfl
  have pr_Painter_stride : PropOf K CPainter "stride" p26 f26 := ⟨a26, s26, t26, ⟨_, e26⟩⟩
  have B : Blt mg := ⟨PySem.W.mg_none_of X G zlen, PySem.W.mg_none_of X G zint, PySem.W.mg_none_of X G zabs, PySem.W.mg_none_of X G zlist, PySem.W.mg_none_of X G zrange, PySem.W.mg_none_of X G zmin, PySem.W.mg_none_of X G zmax, PySem.W.mg_none_of X G zrepr, PySem.W.mg_none_of X G zstr, PySem.W.mg_none_of X G zbool, PySem.W.mg_none_of X G zisinstance, PySem.W.mg_none_of X G zany, PySem.W.mg_none_of X G zdivmod⟩
  have nb_zip : mg "zip" = none := PySem.W.mg_none_of X G zzip
  refine ⟨PySem.W.fnOf "law" "law" (defArgs s_law) (defBody s_law) (defScope s_law) .none kVL dcL pmL anL cdL ctL, fun s v => .of_eq rfl, fun base hKb _ => ?_⟩
  have T : PTxt K mg CPainter := ⟨cl_Painter, nPainter_name, nPainter_day, nPainter_post, nPainter_stride, mg_Painter, rd_Painter, cv_Painter_MAX_DAY, cv_Painter_MAX_POST, cv_Painter_MAX_STRIDE⟩
  have CD := ok_draw (P := l.prog) (w := w) (base := base) D__law_draw B
  have CP := ok_pickL (P := l.prog) (w := w) (base := base) D__law_pick B CD
  have CPS := ok_pickS (P := l.prog) (w := w) (base := base) D__law_pick B CD
  have CI := ok_pickI CP
  have CA := ok_around (P := l.prog) (w := w) (base := base) D__law_around CD
  have CW := ok_power (P := l.prog) (w := w) (base := base) D__law_power B
  have CG := ok_great (P := l.prog) (w := w) (base := base) D__law_great CW CD CP
  have CN := ok_names (P := l.prog) (w := w) (base := base) D__law_names B CD CP CPS
  have CPen := ok_pen (P := l.prog) (w := w) (base := base) D__law_pen B
  have CInt := ok_is_integer (P := l.prog) (w := w) (base := base) D_is_integer B
  have CB := ok_is_between (P := l.prog) (w := w) (base := base) D_is_between CInt
  have FN := ok_is_name (P := l.prog) (w := w) (base := base) F_Painter_is_name B
  have FI := ok_init (P := l.prog) (w := w) (base := base) F_Painter_init T sm_Painter_is_name FN b_Painter_is_name CB
  have hMk : MkP l.prog w K mg base CPainter := ⟨_, _, mk_Painter, FI, b_Painter_init⟩
  have hDay : PropS l.prog w K mg base CPainter "day" 1 (getSp CPainter "_day") := ⟨_, _, _, pr_Painter_day, ok_get_day F_Painter_day T, b_Painter_day⟩
  have hPost : PropS l.prog w K mg base CPainter "post" 1 (getSp CPainter "_post") := ⟨_, _, _, pr_Painter_post, ok_get_post F_Painter_post T, b_Painter_post⟩
  have hStride : PropS l.prog w K mg base CPainter "stride" 1 (getSp CPainter "_stride") := ⟨_, _, _, pr_Painter_stride, ok_get_stride F_Painter_stride T, b_Painter_stride⟩
  have CDF := ok_df (P := l.prog) (w := w) (base := base) D_divisor_and_factor
  have CCN := ok_cn (P := l.prog) (w := w) (base := base) D_common_numbers B T hPost hStride CDF
  have CMd := ok_made (P := l.prog) (w := w) (base := base) D__law_made T hMk
  have CDu := ok_duo (P := l.prog) (w := w) (base := base) D__law_duo B CD CI CA CN
  have CGD := ok_gduo (P := l.prog) (w := w) (base := base) D__law_great_duo B CD CI CG CN
  have CS := ok_steps (P := l.prog) (w := w) (base := base) D__law_steps_to B
  have CGd := ok_gcd (P := l.prog) (w := w) (base := base) D__law_gcd B
  have CIv := ok_inv (P := l.prog) (w := w) (base := base) D__law_inverse B
  have CCo := ok_com (P := l.prog) (w := w) (base := base) D__law_common B CGd CIv
  have CRo := ok_rows (P := l.prog) (w := w) (base := base) D__law_rows B CS
  have CGR := ok_grows (P := l.prog) (w := w) (base := base) D__law_great_rows B CCo
  have FZ := ok_meetZ (P := l.prog) (w := w) (base := base) 9 (by decide) (by decide) l1 c1 B T hDay hPost hStride CCN
  have FG := ok_meetG (P := l.prog) (w := w) (base := base) l1 c1 B T hDay hPost hStride CCN
  have bM := F_meetings.binds (ps := P_meetings) fun _ _ _ _ _ _ us hl => match us, hl with | [_, _], _ => rfl
  exact ok_law F_law B nb_zip CPen CDu CGD CMd CRo CGR FZ FG m_meetings kp_meetings bM
theorem walk {l : PySem.W.OpenLaw} {q : Program} {loose : List Str} {XP : (Str → Option Value) → Heap → Prop} {YP : World → Heap → Prop} {d : DefRec} {K : Params → PySem.W.Frag} (hn : l.most = some 63) (hdf : d.params.defaults = []) (hY : ∀ (w : World) (h : Heap), YP w h → (K w.params).In h)
    (F : ∀ (w : World) (mg : Str → Option Value) (fa : Addr) (h : Heap), (K w.params).In h → h.Ns mainGlobals mg → mg d.name = some (.ref fa) → ∃ fd : FuncData, (∀ (s : Shared) (u : Value), BindsTo s fd ⟨[u], []⟩ [("_law_script", u)]) ∧ ∀ base : Heap, (K w.params).In base → base.Ns mainGlobals mg → FnG l.prog w (K w.params) mg base 40 fa fd ["_law_script"] (spLaw (K w.params))) :
    PySem.W.WalkO q loose XP YP l.row.toRowW d [] (fun f vs => PySem.call f vs) :=
  walk_ofG (n := 63) (k := 40) (x := "_law_script") (sp := spLaw) hn (by decide) hdf ⟨rfl, by decide, by decide⟩ hY F fun _ _ a ns hl hS => ⟨a, ns, rfl, hS, hl, fun _ => rfl⟩
end Ur
open PySem PySem.W PyProof.Rows
set_option maxRecDepth 100000 in
set_option maxHeartbeats 0 in
theorem PySem.Challenge.cw_paintposts_k09_meetings_in_order_holds : PySem.Challenge.rw_paintposts_k09_meetings_in_order.Holds := by
  w_on; o_law; k_head; (case hw => w_witness2)
  k_fill
  refine Ur.walk (l := PySem.Challenge.rw_paintposts_k09_meetings_in_order) rfl rfl (fun w h Y => PySem.W.kIn_of Y) ?F
  case F =>
    intro w mg fa h KX G hmg
    refine' Ur.all_mk KX G hmg ?a1 ?l1 ?c1 ?k1 ?a2 ?l2 ?c2 ?k2 ?a3 ?l3 ?c3 ?k3 ?a4 ?l4 ?c4 ?k4 ?a5 ?l5 ?c5 ?k5 ?a6 ?l6 ?c6 ?k6 ?a7 ?l7 ?c7 ?k7 ?a8 ?l8 ?c8 ?k8 ?a9 ?l9 ?c9 ?k9 ?a10 ?l10 ?c10 ?k10 ?a11 ?l11 ?c11 ?k11 ?a12 ?l12 ?c12 ?k12 ?a13 ?l13 ?c13 ?k13 ?a14 ?l14 ?c14 ?k14 ?a15 ?l15 ?c15 ?k15 ?a16 ?l16 ?c16 ?k16 ?a17 ?l17 ?c17 ?k17 ?a18 ?l18 ?c18 ?k18 ?a19 ?l19 ?c19 ?k19 ?a20 ?l20 ?c20 ?k20 ?a21 ?l21 ?c21 ?k21 ?aL ?lL ?cL ?kL ?gPainter ?pgPainter ?hdPainter ?poPainter ?saPainter ?rdPainter ?gaPainter ?nPainter_name ?nPainter_day ?nPainter_post ?nPainter_stride ?vPainterMAX_DAY ?wPainterMAX_DAY ?vPainterMAX_POST ?wPainterMAX_POST ?vPainterMAX_STRIDE ?wPainterMAX_STRIDE ?a22 ?i22 ?l22 ?c22 ?k22 ?mkPainter ?kcPainter ?a23 ?e23 ?l23 ?c23 ?k23 ?a24 ?s24 ?t24 ?e24 ?l24 ?c24 ?k24 ?a25 ?s25 ?t25 ?e25 ?l25 ?c25 ?k25 ?a26 ?s26 ?t26 ?e26 ?l26 ?c26 ?k26 ?zlen ?zint ?zabs ?zlist ?zrange ?zmin ?zmax ?zrepr ?zstr ?zbool ?zisinstance ?zany ?zdivmod ?zzip
    (case a1 => k_is)
    (case l1 => k_is)
    (case c1 => k_is)
    (case k1 => k_is)
    (case a2 => k_is)
    (case l2 => k_is)
    (case c2 => k_is)
    (case k2 => k_is)
    (case a3 => k_is)
    (case l3 => k_is)
    (case c3 => k_is)
    (case k3 => k_is)
    (case a4 => k_is)
    (case l4 => k_is)
    (case c4 => k_is)
    (case k4 => k_is)
    (case a5 => k_is)
    (case l5 => k_is)
    (case c5 => k_is)
    (case k5 => k_is)
    (case a6 => k_is)
    (case l6 => k_is)
    (case c6 => k_is)
    (case k6 => k_is)
    (case a7 => k_is)
    (case l7 => k_is)
    (case c7 => k_is)
    (case k7 => k_is)
    (case a8 => k_is)
    (case l8 => k_is)
    (case c8 => k_is)
    (case k8 => k_is)
    (case a9 => k_is)
    (case l9 => k_is)
    (case c9 => k_is)
    (case k9 => k_is)
    (case a10 => k_is)
    (case l10 => k_is)
    (case c10 => k_is)
    (case k10 => k_is)
    (case a11 => k_is)
    (case l11 => k_is)
    (case c11 => k_is)
    (case k11 => k_is)
    (case a12 => k_is)
    (case l12 => k_is)
    (case c12 => k_is)
    (case k12 => k_is)
    (case a13 => k_is)
    (case l13 => k_is)
    (case c13 => k_is)
    (case k13 => k_is)
    (case a14 => k_is)
    (case l14 => k_is)
    (case c14 => k_is)
    (case k14 => k_is)
    (case a15 => k_is)
    (case l15 => k_is)
    (case c15 => k_is)
    (case k15 => k_is)
    (case a16 => k_is)
    (case l16 => k_is)
    (case c16 => k_is)
    (case k16 => k_is)
    (case a17 => k_is)
    (case l17 => k_is)
    (case c17 => k_is)
    (case k17 => k_is)
    (case a18 => k_is)
    (case l18 => k_is)
    (case c18 => k_is)
    (case k18 => k_is)
    (case a19 => k_is)
    (case l19 => k_is)
    (case c19 => k_is)
    (case k19 => k_is)
    (case a20 => k_is)
    (case l20 => k_is)
    (case c20 => k_is)
    (case k20 => k_is)
    (case a21 => k_is)
    (case l21 => k_is)
    (case c21 => k_is)
    (case k21 => k_is)
    (case aL => k_is)
    (case lL => k_is)
    (case cL => k_is)
    (case kL => k_is)
    (case gPainter => k_is)
    (case pgPainter => k_is)
    (case hdPainter => k_is)
    (case poPainter => k_is)
    (case saPainter => k_is)
    (case rdPainter => k_is)
    (case gaPainter => k_is)
    (case nPainter_name => k_is)
    (case nPainter_day => k_is)
    (case nPainter_post => k_is)
    (case nPainter_stride => k_is)
    (case vPainterMAX_DAY => k_is)
    (case wPainterMAX_DAY => exact ⟨_, rfl⟩)
    (case vPainterMAX_POST => k_is)
    (case wPainterMAX_POST => exact ⟨_, rfl⟩)
    (case vPainterMAX_STRIDE => k_is)
    (case wPainterMAX_STRIDE => exact ⟨_, rfl⟩)
    (case a22 => k_is)
    (case i22 => k_is)
    (case l22 => k_is)
    (case c22 => k_is)
    (case k22 => k_is)
    (case mkPainter => k_is)
    (case kcPainter => k_is)
    (case a23 => k_is)
    (case e23 => k_is)
    (case l23 => k_is)
    (case c23 => k_is)
    (case k23 => k_is)
    (case a24 => k_is)
    (case s24 => k_is)
    (case t24 => k_is)
    (case e24 => k_is)
    (case l24 => k_is)
    (case c24 => k_is)
    (case k24 => k_is)
    (case a25 => k_is)
    (case s25 => k_is)
    (case t25 => k_is)
    (case e25 => k_is)
    (case l25 => k_is)
    (case c25 => k_is)
    (case k25 => k_is)
    (case a26 => k_is)
    (case s26 => k_is)
    (case t26 => k_is)
    (case e26 => k_is)
    (case l26 => k_is)
    (case c26 => k_is)
    (case k26 => k_is)
    (case zlen => k_is)
    (case zint => k_is)
    (case zabs => k_is)
    (case zlist => k_is)
    (case zrange => k_is)
    (case zmin => k_is)
    (case zmax => k_is)
    (case zrepr => k_is)
    (case zstr => k_is)
    (case zbool => k_is)
    (case zisinstance => k_is)
    (case zany => k_is)
    (case zdivmod => k_is)
    (case zzip => k_is)
