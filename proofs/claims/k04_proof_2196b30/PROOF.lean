import PyProof.Rows.All
import Wide.All
import OpenK.AllK
import Wide.FinOn
import HandS.ForMost
import HandS.Property
import HandS.ClsMeth
import HandS.IsInst
import HandS.Wide
import HandS.StrMore
import HandS.FStr
import HandS.RaiseMore
import HandS.Codes
import HandS.Style
import HandS.Flow
import HandS.Defaults
import PyProof.ReprRoads
import PyProof.ReprLen
import PyProof.Rows.RegStrFacts
import KE.KExcIs
import KE.KNest
import HandS.Exc
import HandS.ExcInit
import HandS.ExcField
import HandS.WordsExc
import HandS.ExcIs
import HandS.Dict
import HandS.Lambda
import HandS.Call
import KE.GoesEnum
import HandS.Star
import HandS.Walk
import KE.KUnpackStar
import HandS.Text
import HandS.OwnEq
import KE.KOpsOwn
import HandS.NoneIn
import PySem.Challenge.RW_paintposts_k04_whole_painters_moved_comp
set_option Elab.async false
set_option linter.all false
set_option maxRecDepth 100000
set_option maxHeartbeats 4000000
/-! Ur0: what every law of this program starts with: short forms of calls, the pen, wide division, static methods. -/
namespace Ur
open PySem PySem.Spec PyProof.Rows L2

/-! ### calls in short -/
/-- a def of the text, where it stands -/
def Dfn (K : PySem.W.Frag) (mg : Str → Option Value) (x : Str) (st : Stmt) (ps : List Str) : Prop :=
  ∃ (f : Addr) (fd : FuncData), Fun K x x st f fd ∧ Binds K fd ps [] ∧ mg x = some (.ref f)
/-- a name of the module that can be called: it keeps the promise sp at level k -/
def Cal (P : Program) (w : World) (K : PySem.W.Frag) (mg : Str → Option Value) (base : Heap) (k : Nat) (x : Str) (ps : List Str) (sp : Sp) : Prop :=
  ∃ (f : Addr) (fd : FuncData), FnOk P w K mg base CX0 k f fd ps sp ∧ PySem.W.keepIn K (.ref f) = true ∧ Binds K fd ps [] ∧ mg x = some (.ref f)
section
variable {P : Program} {w : World} {K : PySem.W.Frag} {mg : Str → Option Value} {base : Heap} {k : Nat} {x : Str} {ps : List Str} {sp : Sp} {st : Stmt}
theorem Cal.mono {j : Nat} (c : Cal P w K mg base j x ps sp) (h : j ≤ k) : Cal P w K mg base k x ps sp :=
  let ⟨f, fd, F, r⟩ := c
  ⟨f, fd, F.mono h, r⟩
theorem Dfn.cal {N : List Str} (D : Dfn K mg x st ps) (S : FnScope N ps (defScope st)) (len : ∀ vs H Q E, sp vs H Q E → vs.length = ps.length)
    (hbody : ∀ (f : Addr) (cdv : Value) (A : Around) (outer : List Env) (s : Shared) (H : Hp) (vs : List V) (Q : VK) (E : XK), Room k (A.deeper (envOfC x (defScope st) s.heap.objs.size f cdv)) → sp vs H Q E →
      ∃ t, PSs (cxOf CX0 P w K mg base N x (defScope st) f cdv A outer s H E).nox (defBody st) t ∧ t { nx := fun _ H' => Q .non H', rt := Q } (start N vs) H) :
    Cal P w K mg base (k + 1) x ps sp := by
  obtain ⟨f, fd, F, b, m⟩ := D
  exact ⟨f, fd, F.ok S len fun cdv A outer s H vs Q E hr h => hbody f cdv A outer s H vs Q E hr h, F.kp, b, m⟩
end
section
variable {X : Cx} {k : Nat} {x : Str} {ps : List Str} {sp : Sp} {e : Expr} {es : List Expr} {t : TA} {p pos : Pos}
theorem pe_cal (c : Cal X.prog X.w X.K X.mg X.base k x ps sp) (hr : Room k X.A) (ha : PA X (e :: es) t) (hg : Gl X x := by rfl) (hdb : (x == ("__debug__" : Str)) = false := by decide)
    (he : starEach (e :: es) X.env = (false, eval e X.env) :: starEach es X.env := by rfl) (hpl : (backTo pos (starEach es X.env)).any (·.1) = false := by rfl) :
    PE X (.Call (.Name x p) (e :: es) [] pos) (tCall sp [] E0 t) := by
  obtain ⟨f, fd, F, kp, b, m⟩ := c
  exact pe_call F hr hg m kp b .nil pass0 ha (hdb := hdb) (he := he) (hpl := hpl)
end

/-! ### heaps: all stands as it stood, but what is at p -/
def Keep (p : Addr) (H H' : Hp) : Prop := ∀ b o, H b = some o → b ≠ p → H' b = some o
theorem Keep.refl {p : Addr} {H : Hp} : Keep p H H := fun _ _ h _ => h
theorem Keep.trans {p : Addr} {H H1 H2 : Hp} (a : Keep p H H1) (b : Keep p H1 H2) : Keep p H H2 := fun c o h n => b c o (a c o h n) n
theorem Keep.of {p : Addr} {H H' : Hp} (s : Same H H') : Keep p H H' := fun b o h _ => s b o h
theorem Keep.at_ {p : Addr} {H : Hp} {o : HO} : Keep p H (upd H p o) := fun b u h n => by rw [upd_ne n]; exact h
theorem same_new {H : Hp} {p : Addr} (h : H p = none) (o : HO) : Same H (upd H p o) := fun b u q => by rw [upd_ne (ne_of_none q h)]; exact q
theorem Keep.new {p q : Addr} {H H' : Hp} {o : HO} (a : Keep p H H') (h : H' q = none) : Keep p H (upd H' q o) := a.trans (Keep.of (same_new h o))
theorem Keep.at_new {p a : Addr} {H H' : Hp} {o : HO} (k : Keep p H H') (h : H a = none) : Keep p H (upd H' a o) := fun b u e n => by rw [upd_ne (ne_of_none e h)]; exact k b u e n
theorem Keep.lst {p a : Addr} {K : PySem.W.Frag} {H H' : Hp} {xs : List V} {kvs : List (Key × V)} (k : Keep p H H') (hp : H p = some (.dK kvs)) (h : SqL K H a xs) : SqL K H' a xs := by
  rcases h with (h | ⟨o, h⟩) | h
  · exact .inl (.inl (k _ _ h (ne_of h hp (by intro z; cases z))))
  · exact .inl (.inr ⟨o, k _ _ h (ne_of h hp (by intro z; cases z))⟩)
  · exact .inr h
theorem Keep.tup {p a : Addr} {K : PySem.W.Frag} {H H' : Hp} {xs : List V} {kvs : List (Key × V)} (k : Keep p H H') (hp : H p = some (.dK kvs)) (h : SqT K H a xs) : SqT K H' a xs := by
  rcases h with (h | ⟨o, h⟩) | h
  · exact .inl (.inl (k _ _ h (ne_of h hp (by intro z; cases z))))
  · exact .inl (.inr ⟨o, k _ _ h (ne_of h hp (by intro z; cases z))⟩)
  · exact .inr h
/-- a new address is none of the old ones, also where things were kept -/
theorem Keep.none_of {p a : Addr} {H H' : Hp} (k : Keep p H H') (h : H' a = none) (n : a ≠ p) : H a = none := by
  cases q : H a with
  | none => rfl
  | some o => rw [k a o q n] at h; cases h

/-! ### // by any divisor but 0, of up to 9000 bits -/
def CDivX (_ j : Int) : Prop := j ≠ 0 ∧ j.natAbs.log2 < 9000
theorem op_fdivX {X : Cx} : OpR X (binaryOp .FloorDiv) (rI CDivX fun i j => .int (i.fdiv j)) := opI fun i j _ _ _ _ _ hc q => PyProof.Rows.floordiv_int hc.1 q (.inl (PyProof.noPylong_of_log2 hc.2))
theorem log2_small {i : Int} {b : Nat} (h : i.natAbs < 2 ^ b) (hb : 0 < b) : i.natAbs.log2 < b := PySem.Flt.log2_lt_of hb h

/-! ### a static method, read off its class -/
structure SMet (K : PySem.W.Frag) (C : Addr) (mc : Value) (m : Str) (p g : Addr) : Prop where
  at_ : PySem.W.findCls K (.ref C) mc m = some (.get (.builtin "staticmethod.__get__") (.ref p) .none (.ref C))
  rc : ∃ rest, PySem.W.recIn K p "staticmethod" = some (.ref g :: rest)
  kp : PySem.W.keepIn K (.ref g) = true
def tSMeth (C : Addr) (sp : Sp) (E : XK) (ta : TE) (t : TA) : TE := fun σ H Q => ta σ H fun x H1 => x = .ref C ∧ t σ H1 fun vs H2 => sp vs H2 Q E
section
variable {X : Cx} {CX : CXT} {k : Nat} {C p g : Addr} {mc : Value} {sp : Sp} {E : XK} {o e : Expr} {es : List Expr} {m : Str} {pos apos : Pos} {ta : TE} {t : TA} {pl : Sem Bool} {fd : FuncData} {ps : List Str}
theorem pe_smeth (he : PE X o ta) (r : ClX.CRead X.K C mc) (c : SMet X.K C mc m p g) (F : FnOk X.prog X.w X.K X.mg X.base CX k g fd ps sp) (hb : Binds X.K fd ps []) (hr : Room k X.A) (hx : Passes CX X E) (ha : PA X (e :: es) t)
    (hst : starEach (e :: es) X.env = (false, eval e X.env) :: starEach es X.env := by rfl) (hpl : (backTo pos (starEach es X.env)).any (·.1) = false := by rfl)
    (ht : eval (.Call (.Attribute o m apos) (e :: es) [] pos) X.env = (do let ov ← eval o X.env; standAt apos.atName; let (f, first) ← holding [ov] (getMethod ov m pl); callWith pos f first (backTo pos (starEach (e :: es) X.env)) (backToKw pos (keywordEach [] X.env))) := by rfl) :
    PE X (.Call (.Attribute o m apos) (e :: es) [] pos) (tSMeth C sp E ta t) := by
  refine ⟨fun pins s σ H Q I h => ?_⟩
  refine PySem.W.methodCall_KW (pl := pl) (thn (he.run pins s σ H _ I h) fun u s1 ⟨x, H1, I1, rx, ex, q⟩ => ?_) ht
  subst ex
  obtain rfl : u = Value.ref C := rx
  obtain ⟨rest, hp⟩ := c.rc
  refine PySem.W.method_cls I1.kIn r.ga ?_
  refine PySem.W.cls_bind I1.kIn r.rd c.at_ (wpAny_call (PySem.W.sm_get (s := { s1 with toks := s1.toks + 1 }) I1.kIn hp (PySem.W.handed_on rfl ?_)))
  refine PySem.W.callWith_K (h₀ := X.base) I.ok.mod.kin c.kp (thn (ha.run pos pins _ σ H1 _ (I1.tok _) q) fun us s3 ⟨vs, H2, I3, rv, q2⟩ => ⟨I3.kIn, ?_⟩) hst hpl
  exact run_fn F hr hb .nil hx I3 rv (by rw [List.append_nil]; exact q2)
end
end Ur
/-! UrG: defs that show things (repr of lists and tuples): their promise holds where nothing is being shown around them. -/
namespace Ur
open PySem PySem.Spec PyProof.Rows L2
/-- nothing is being shown around -/
def Still (A : Around) : Prop := A.guards = some []
theorem Still.deeper {A : Around} {e : Env} (h : Still A) : Still (A.deeper e) := h
structure FnG (P : Program) (w : World) (K : PySem.W.Frag) (mg : Str → Option Value) (base : Heap) (k : Nat) (f : Addr) (fd : FuncData) (ps : List Str) (sp : Sp) : Prop where
  ln : ∀ vs H Q E, sp vs H Q E → vs.length = ps.length
  go : ∀ (A : Around) (out : List Env) (s : Shared) (H : Hp) (args : Args) (us : List Value) (vs : List V) (Q : VK) (E : XK), Still A → Room k A → Env0 P w K mg base A out s H → BindsTo s fd args (ps.zip us) → Vals vs us → sp vs H Q E → codeAny (model P w) A (.call (.ref f) args) (CR CX0 out P w H s Q E) s
section
variable {P : Program} {w : World} {K : PySem.W.Frag} {mg : Str → Option Value} {base : Heap} {k : Nat} {f : Addr} {fd : FuncData} {ps : List Str} {sp : Sp} {x qual : Str} {st : Stmt}
theorem FnG.of (F : FnOk P w K mg base CX0 k f fd ps sp) : FnG P w K mg base k f fd ps sp := ⟨F.len, fun A o s H a us vs Q E _ => F.run A o s H a us vs Q E⟩
theorem FnG.mono {j : Nat} (F : FnG P w K mg base j f fd ps sp) (h : j ≤ k) : FnG P w K mg base k f fd ps sp := ⟨F.ln, fun A o s H a us vs Q E g r => F.go A o s H a us vs Q E g (r.mono h)⟩
theorem runG {N : List Str} (F : Fun K x qual st f fd) (S : FnScope N ps (defScope st)) (len : ∀ vs H Q E, sp vs H Q E → vs.length = ps.length)
    (hbody : ∀ (cdv : Value) (A : Around) (out : List Env) (s : Shared) (H : Hp) (vs : List V) (Q : VK) (E : XK), Still A → Room k (A.deeper (envOfC qual (defScope st) s.heap.objs.size f cdv)) → sp vs H Q E → ∃ t, PSs (cxOf CX0 P w K mg base N qual (defScope st) f cdv A out s H E).nox (defBody st) t ∧ t { nx := fun _ H' => Q .non H', rt := Q } (start N vs) H) :
    FnG P w K mg base (k + 1) f fd ps sp := by
  obtain ⟨oc, od, kV, doc, pm, an, cdv, ct, osl, efd, lk, hcd⟩ := F.ex
  subst efd
  constructor
  · exact len
  intro A out s H args us vs Q E still room e0 hb rel ask
  have old : ∀ b o, base.get? b = some o → s.heap.get? b = some o := fun b o e => (e0.bs b o e).1
  have kin : K.In s.heap := e0.mod.kin.keeps old
  have kinds : ∀ y ∈ ps.zip us, (defScope st).names.lookup y.1 = some .local ∨ ((defScope st).names.lookup y.1 = some .cell ∧ ((cellsFrom (s.heap.objs.size + 1) (defScope st).names []).lookup y.1).isSome = true) := by
    intro y hy
    cases S.par y.1 (List.of_mem_zip (a := y.1) (b := y.2) hy).1 with
    | inl h => exact Or.inl h
    | inr h => exact Or.inr ⟨h, PySem.W.cellsFrom_some _ _ _ (Or.inl h)⟩
  refine codeAny_call_function room.depth (kin _ _ lk) rfl S.co S.gen rfl (PySem.W.codeRec_of kin hcd) (hb _ _ _ _ (wpAny_newFunctionEnv_cells S.kind kinds fun env he s1 made => ?_))
  subst he
  refine ⟨(e0.mod.nolimit.keeps old).keeps made.toInCall.keep, codeAny_func ?_⟩
  obtain ⟨t, ht0, hq⟩ := hbody cdv A out s H vs Q E still (room.deeper _) ask
  have J : Inv (cxOf CX0 P w K mg base N qual (defScope st) f cdv A out s H E) [] (start N vs) H s1 := inv_start S room.hd e0 (len _ _ _ _ ask) rel made
  refine wpAny_mono (ht0.nox.run [] s1 (start N vs) H _ J hq) ?_ (fun _ _ z => z)
  intro fl s2 done
  match fl, done with
  | .ret u, ⟨v, σ', H', J', rv, q⟩ => exact ⟨v, H', J'.os, J'.bare, J'.base, J'.hok, rv, q⟩
  | .next, ⟨σ', H', J', q⟩ => exact ⟨V.non, H', J'.os, J'.bare, J'.base, J'.hok, rfl, q⟩
  | .brk, ⟨_, _, _, q⟩ => exact q.elim
  | .cont, ⟨_, _, _, q⟩ => exact q.elim
/-- a name of the module that can be called where nothing is being shown -/
def CalG (P : Program) (w : World) (K : PySem.W.Frag) (mg : Str → Option Value) (base : Heap) (k : Nat) (x : Str) (ps : List Str) (sp : Sp) : Prop :=
  ∃ (f : Addr) (fd : FuncData), FnG P w K mg base k f fd ps sp ∧ PySem.W.keepIn K (.ref f) = true ∧ Binds K fd ps [] ∧ mg x = some (.ref f)
theorem Dfn.calG {N : List Str} (D : Dfn K mg x st ps) (S : FnScope N ps (defScope st)) (len : ∀ vs H Q E, sp vs H Q E → vs.length = ps.length)
    (hbody : ∀ (f : Addr) (cdv : Value) (A : Around) (out : List Env) (s : Shared) (H : Hp) (vs : List V) (Q : VK) (E : XK), Still A → Room k (A.deeper (envOfC x (defScope st) s.heap.objs.size f cdv)) → sp vs H Q E → ∃ t, PSs (cxOf CX0 P w K mg base N x (defScope st) f cdv A out s H E).nox (defBody st) t ∧ t { nx := fun _ H' => Q .non H', rt := Q } (start N vs) H) :
    CalG P w K mg base (k + 1) x ps sp := by
  obtain ⟨f, fd, F, b, m⟩ := D
  exact ⟨f, fd, runG F S len (hbody f), F.kp, b, m⟩
end
section
variable {X : Cx} {k : Nat} {x : Str} {ps : List Str} {sp : Sp} {e : Expr} {es : List Expr} {t : TA} {p pos : Pos}
theorem pe_calG (c : CalG X.prog X.w X.K X.mg X.base k x ps sp) (hs : Still X.A) (hr : Room k X.A) (ha : PA X (e :: es) t) (hg : Gl X x := by rfl) (hdb : (x == ("__debug__" : Str)) = false := by decide)
    (he : starEach (e :: es) X.env = (false, eval e X.env) :: starEach es X.env := by rfl) (hpl : (backTo pos (starEach es X.env)).any (·.1) = false := by rfl) :
    PE X (.Call (.Name x p) (e :: es) [] pos) (tCall sp [] E0 t) := by
  obtain ⟨f, fd, F, kp, b, m⟩ := c
  constructor
  intro pins s σ H Q I h
  refine wpAny_Call_Name_kw (ld_glob I hg m ?_ hdb)
  refine PySem.W.callWith_K (h₀ := X.base) I.ok.mod.kin kp (thn (ha.run pos pins s σ H _ I h) ?_) he hpl
  intro us s1 ⟨vs, H1, J, r, q⟩
  refine ⟨J.kIn, ?_⟩
  have q : sp (vs ++ []) H1 Q E0 := q
  rw [List.append_nil] at q
  have hl : us.length = ps.length := by rw [← r.length]; exact F.ln _ _ _ _ q
  have bb := b s1 us J.kIn (by rw [List.append_nil]; exact hl)
  rw [List.append_nil] at bb
  refine wpAny_call (codeAny_mono (F.go X.A X.stack s1 H1 ⟨us, []⟩ us vs Q E0 hs hr J.env0 bb r q) ?_)
  intro rr s2 hq
  match rr, hq with
  | .ok (.ret u), hq => exact J.after hq
  | .ok .next, hq => exact False.elim hq
  | .ok .brk, hq => exact False.elim hq
  | .ok .cont, hq => exact False.elim hq
  | .error _, hq => exact False.elim hq
/-- repr(x) of data: its own text -/
def rRepr (K : PySem.W.Frag) : List V → Hp → VK → Prop := fun xs H Q => ∃ (x : V) (d : PyData), xs = [x] ∧ Dp K H x d ∧ d.showable = true ∧ d.hasDict = false ∧ d.depth ≤ 64 ∧ d.shown.length ≤ sizeLine ∧ Q (.str d.shown) H
/-- .. of a value that is no list and no tuple -/
def rReprF : List V → Hp → VK → Prop := fun xs H Q => (xs = [.non] ∧ Q (.str (PyData.shown .none)) H) ∨ (∃ b, xs = [.bl b] ∧ Q (.str (PyData.shown (.bool b))) H) ∨ (∃ i, xs = [.int i] ∧ i.natAbs.log2 < 1920 ∧ Q (.str (PyData.shown (.int i))) H) ∨
  ∃ x : Str, xs = [.str x] ∧ (reprText x).length ≤ sizeLine ∧ Q (.str (PyData.shown (.str x))) H
theorem call_reprF : CallR X (.builtin "repr") rReprF := by
  intro pins s σ H xs us Q I r h
  rcases h with ⟨rfl, q⟩ | ⟨b, rfl, q⟩ | ⟨i, rfl, hz, q⟩ | ⟨x, rfl, hz, q⟩
  · obtain ⟨u, rfl, ru⟩ := vals1 r
    obtain rfl : u = Value.none := ru
    exact PySem.P.repr_of_none ⟨.str _, H, I.tok _, ⟨_, rfl⟩, q⟩
  · obtain ⟨u, rfl, ru⟩ := vals1 r
    obtain rfl : u = Value.bool b := ru
    exact PySem.P.repr_of_bool ⟨.str _, H, I.tok _, ⟨_, rfl⟩, q⟩
  · obtain ⟨u, rfl, t, rfl⟩ := vals1 r
    exact PySem.P.repr_of_int hz ⟨.str _, H, I.tok _, ⟨_, rfl⟩, q⟩
  · obtain ⟨u, rfl, t, rfl⟩ := vals1 r
    exact PySem.P.repr_of_str ⟨.str _, H, I.tok _, ⟨_, rfl⟩, q⟩ hz
theorem call_reprD (hs : Still X.A) (hu : X.A.units + 66 < cLine) : CallR X (.builtin "repr") (rRepr X.K) := by
  intro pins s σ H xs us Q I r h
  obtain ⟨x, d, rfl, hd, sh, nd, dp, sz, q⟩ := h
  have flat : rReprF [x] H Q → wpAny (model X.prog X.w) X.A (call (.builtin "repr") us) (EP X pins σ Q) X.xe s := fun z => call_reprF pins s σ H [x] us Q I r z
  cases d with
  | none => cases hd; exact flat (Or.inl ⟨rfl, q⟩)
  | bool b => cases hd; exact flat (Or.inr (Or.inl ⟨b, rfl, q⟩))
  | int i => cases hd; exact flat (Or.inr (Or.inr (Or.inl ⟨i, rfl, of_decide_eq_true sh, q⟩)))
  | str y => cases hd; exact flat (Or.inr (Or.inr (Or.inr ⟨y, rfl, sz, q⟩)))
  | dict _ => cases hd
  | list ds =>
    obtain ⟨u, rfl, ru⟩ := vals1 r
    obtain ⟨as, rd⟩ := Dp.reads I _ x u hd ru
    obtain ⟨a, rfl⟩ : ∃ a, x = .ref a := by cases hd; exact ⟨_, rfl⟩
    obtain rfl : u = Value.ref a := ru
    exact repr_of_reads' rd sh (fun z => by rw [nd] at z; cases z) hs (by omega) (fun _ _ e => e) (fun h' v tk kp => ⟨.str _, H, I.kept kp, ⟨v, rfl⟩, q⟩) sz
  | tuple ds =>
    obtain ⟨u, rfl, ru⟩ := vals1 r
    obtain ⟨as, rd⟩ := Dp.reads I _ x u hd ru
    obtain ⟨a, rfl⟩ : ∃ a, x = .ref a := by cases hd; exact ⟨_, rfl⟩
    obtain rfl : u = Value.ref a := ru
    exact repr_of_reads' rd sh (fun z => by rw [nd] at z; cases z) hs (by omega) (fun _ _ e => e) (fun h' v tk kp => ⟨.str _, H, I.kept kp, ⟨v, rfl⟩, q⟩) sz
end
/-! ### the law's own call -/
theorem law_callG {P : Program} {w : World} {K : PySem.W.Frag} {mg mb : Str → Option Value} {k : Nat} {fa a : Addr} {fd : FuncData} {x : Str} {sp : Sp} {s1 : Shared} {vs : List Value} {ns : List Int}
    (kin : K.In s1.heap) (hns : s1.heap.Ns mainGlobals mg) (hb : s1.heap.Ns builtinsNs mb) (hbb : ∀ x : Str, x ≠ "__name__" → mb x = bootBuiltins x) (hlim : s1.heap.NoLimit) (hg : s1.gens = #[])
    (ha : s1.heap.get? a = some { cls := .type "list", data := .seq vs.toArray }) (hi : IntsAre vs ns) (hl : ns.length ≤ sizeLine) (hr : Room k callerA)
    (F : ∀ base : Heap, K.In base → base.Ns mainGlobals mg → FnG P w K mg base k fa fd [x] sp) (hbind : ∀ (s : Shared) (u : Value), BindsTo s fd ⟨[u], []⟩ [(x, u)])
    (hsp : ∀ H : Hp, SqL K H a (ns.map V.int) → sp [.ref a] H (fun v _ => v = .bl true) fun _ _ _ => False) :
    codeAny (model P w) callerA (.call (.ref fa) ⟨[.ref a], []⟩) (fun r s' => r = .ok (.ret (.bool true)) ∧ OldK s1.heap s'.heap ∧ s'.os = s1.os ∧ AllBare s'.gens) s1 := by
  have rv : Vals (ns.map V.int) vs := vals_ints hi
  have lenV : vs.length = ns.length := hi.length
  -- the abstract heap: the script alone, where it is none of the module's own objects
  let ob : Obj := { cls := .type "list", data := .seq vs.toArray }
  obtain ⟨H, hH, hS, only⟩ : ∃ H : Hp, (∀ b u, H b = some u → b = a ∧ u = .frz ob (.lst (ns.map V.int)) ∧ K.lookup a = none) ∧ SqL K H a (ns.map V.int) ∧ True := by
    cases hk : K.lookup a with
    | some o =>
      have e : s1.heap.get? a = some o := kin a o hk
      have e2 : o = ob := Option.some.inj (e.symm.trans ha)
      refine ⟨fun _ => none, fun b u z => (nomatch z), Or.inr ⟨o, vs.toArray, 0, hk, by rw [e2], by rw [e2], by rw [e2], ?_, ?_⟩, trivial⟩
      · rw [List.size_toArray, lenV]; exact hl
      · simpa using rv
    | none =>
      refine ⟨fun b => if b = a then some (.frz ob (.lst (ns.map V.int))) else none, fun b u z => ?_, Or.inl (Or.inr ⟨ob, if_pos rfl⟩), trivial⟩
      by_cases hba : b = a
      · refine ⟨hba, ?_, rfl⟩
        have z : (if b = a then some (HO.frz ob (.lst (ns.map V.int))) else none) = some u := z
        rw [if_pos hba] at z
        exact (Option.some.inj z).symm
      · have z : (if b = a then some (HO.frz ob (.lst (ns.map V.int))) else none) = some u := z
        rw [if_neg hba] at z
        cases z
  have hok : HOk P w H s1.heap := by
    intro b u z
    obtain ⟨rfl, rfl, _⟩ := hH b u z
    exact ⟨ha, by rw [List.length_map]; exact hl, vs, _, rv, ha⟩
  have free : ∀ {b : Addr} {o : Obj}, s1.heap.get? b = some o → (b = a → o = ob → K.lookup a ≠ none) → H b = none := by
    intro b o e n
    cases z : H b with
    | none => rfl
    | some u =>
      obtain ⟨h1, _, h3⟩ := hH b u z
      subst h1
      exact absurd h3 (n rfl (Option.some.inj (e.symm.trans ha)))
  have nsB : ∀ {b : Addr} {m : Str → Option Value}, s1.heap.Ns b m → (hidT s1.heap H).Ns b m := by
    intro b m ⟨o, es, ep, e, d, r⟩
    refine ⟨o, es, ep, hidT_get e (free e fun _ z => ?_), d, r⟩
    rw [z] at d
    cases d
  have kinB : K.In (hidT s1.heap H) := by
    intro b o e
    refine hidT_get (kin b o e) (free (kin b o e) fun z _ => ?_)
    subst z
    rw [e]
    exact fun q => nomatch q
  have modB : Mod K mg (hidT s1.heap H) := by
    obtain ⟨mc, l1, l2⟩ := hlim
    exact ⟨kinB, nsB hns, ⟨mb, nsB hb, hbb⟩, ⟨mc, nsB l1, l2⟩⟩
  have none_in : ∀ b : Addr, b ∉ ([] : List Addr) := fun b z => nomatch z
  have e0 : Env0 P w K mg (hidT s1.heap H) callerA [] s1 H := ⟨rfl, modB, fun b o e => of_hidT e, Nat.le_of_eq (hidT_size _ _), trivial, fun b z => absurd z (none_in b), hok, .of_eq hg⟩
  refine codeAny_mono ((F _ kinB (nsB hns)).go callerA [] s1 H ⟨[.ref a], []⟩ [.ref a] [.ref a] _ _ rfl hr e0 (hbind s1 (.ref a)) (.cons rfl .nil) (hsp H hS)) ?_
  intro r s2 h
  match r, h with
  | .error _, h => exact False.elim h
  | .ok .next, h => exact False.elim h
  | .ok .brk, h => exact False.elim h
  | .ok .cont, h => exact False.elim h
  | .ok (.ret u), h =>
    obtain ⟨v, H2, os, bare, un, hok2, rv2, q⟩ := h
    have q : v = .bl true := q
    subst q
    obtain rfl : u = Value.bool true := rv2
    refine ⟨rfl, OldK.of_keep ?_, os, bare⟩
    intro b o e
    cases z : H b with
    | none => exact un.keep b o e z (none_in b) (none_in b)
    | some u =>
      obtain ⟨rfl, rfl, _⟩ := hH b u z
      have z2 := un.frzs b ob _ z
      have e2 := (hok2 b _ z2).1
      rw [ha] at e
      rw [← Option.some.inj e]
      exact e2
theorem walk_ofG {l : PySem.W.OpenLaw} {n k : Nat} {q : Program} {loose : List Str} {XP : (Str → Option Value) → Heap → Prop} {YP : World → Heap → Prop} {d : DefRec} {K : Params → PySem.W.Frag} {sp : PySem.W.Frag → Sp} {x : Str}
    (hn : l.most = some n) (hn2 : n ≤ sizeLine) (hdf : d.params.defaults = []) (hr : Room k callerA) (hY : ∀ (w : World) (h : Heap), YP w h → (K w.params).In h)
    (F : ∀ (w : World) (mg : Str → Option Value) (fa : Addr) (h : Heap), (K w.params).In h → h.Ns mainGlobals mg → mg d.name = some (.ref fa) →
      ∃ fd : FuncData, (∀ (s : Shared) (u : Value), BindsTo s fd ⟨[u], []⟩ [(x, u)]) ∧ ∀ base : Heap, (K w.params).In base → base.Ns mainGlobals mg → FnG l.prog w (K w.params) mg base k fa fd [x] (sp (K w.params)))
    (hsp : ∀ (K : PySem.W.Frag) (H : Hp) (a : Addr) (ns : List Int), ns.length ≤ n → SqL K H a (ns.map V.int) → sp K [.ref a] H (fun v _ => v = .bl true) fun _ _ _ => False) :
    PySem.W.WalkO q loose XP YP l.row.toRowW d [] (fun f vs => PySem.call f vs) := by
  refine Att.attach_call hn hdf ?_
  intro w s0 s1 mg mb fa o pm cd doc a vs ns G Y ho hd hcd hmg hobj hints hlen hg
  have kin := hY w _ Y
  obtain ⟨fd, hb, hF⟩ := F w mg fa _ kin G.T.g hmg
  exact law_callG kin G.T.g G.T.b G.T.builtins G.T.nolimit hg hobj hints (Nat.le_trans hlen hn2) hr hF hb fun H hS => hsp _ H a ns hlen hS
end Ur
/-! UrS: what can be shown, by its parts. -/
namespace Ur
open PySem PySem.Spec PyProof.Rows L2
/-- d can be shown: its weight is at most n, its depth at most k -/
structure Shw (d : PyData) (n k : Nat) : Prop where
  sh : d.showable = true
  nd : d.hasDict = false
  dp : d.depth ≤ k
  lv : d.leavesShort 1930 = true
  wt : d.weight ≤ n
structure ShwAll (ds : List PyData) (n k : Nat) : Prop where
  sh : PyData.showableAll ds = true
  nd : PyData.hasDictAll ds = false
  dp : PyData.depthAll ds ≤ k
  lv : PyData.leavesShortAll 1930 ds = true
  wt : PyData.weightAll ds ≤ n
theorem Shw.mono {d : PyData} {n k m j : Nat} (s : Shw d n k) (h1 : n ≤ m) (h2 : k ≤ j) : Shw d m j := ⟨s.sh, s.nd, Nat.le_trans s.dp h2, s.lv, Nat.le_trans s.wt h1⟩
theorem Shw.non : Shw .none 0 0 := ⟨rfl, rfl, Nat.le_refl _, rfl, Nat.le_refl _⟩
theorem Shw.bl (b : Bool) : Shw (.bool b) 0 0 := ⟨rfl, rfl, Nat.le_refl _, rfl, Nat.le_refl _⟩
theorem Shw.int {i : Int} (h : i.natAbs.log2 < 1920) : Shw (.int i) 1921 0 := by
  refine ⟨decide_eq_true h, rfl, Nat.le_refl _, decide_eq_true ?_, ?_⟩
  · have e : PyData.shown (.int i) = Str.ofString (toString i) := by simp only [PyData.shown]
    rw [e]
    exact Nat.le_trans (PyProof.Rows.int_text_len_1921 h) (by decide)
  · show (if i == 0 then 0 else i.natAbs.log2 + 1) ≤ 1921
    split <;> omega
theorem Shw.intb {i : Int} {b : Nat} (h : i.natAbs < 2 ^ b) (h0 : 0 < b) (h1 : b ≤ 1920) : Shw (.int i) b 0 := by
  have z := PySem.Flt.log2_lt_of h0 h
  refine ⟨decide_eq_true (Nat.lt_of_lt_of_le z h1), rfl, Nat.le_refl _, (Shw.int (Nat.lt_of_lt_of_le z h1)).lv, ?_⟩
  show (if i == 0 then 0 else i.natAbs.log2 + 1) ≤ b
  split <;> omega
theorem Shw.str {x : Str} (h : ∀ c ∈ x.cps.toList, c < 16 ^ 8) : Shw (.str x) x.length 0 := ⟨rfl, rfl, Nat.le_refl _, List.all_eq_true.mpr fun c hc => decide_eq_true (h c hc), Nat.le_refl _⟩
theorem ShwAll.nil : ShwAll [] 0 0 := ⟨rfl, rfl, Nat.le_refl _, rfl, Nat.le_refl _⟩
theorem ShwAll.cons {d : PyData} {ds : List PyData} {n k m j : Nat} (a : Shw d n k) (b : ShwAll ds m j) : ShwAll (d :: ds) (n + 1 + m) (max k j) := by
  refine ⟨?_, ?_, ?_, ?_, ?_⟩
  · show (d.showable && PyData.showableAll ds) = true
    rw [a.sh, b.sh]; rfl
  · show (d.hasDict || PyData.hasDictAll ds) = false
    rw [a.nd, b.nd]; rfl
  · show max d.depth (PyData.depthAll ds) ≤ max k j
    have := a.dp; have := b.dp; omega
  · show (d.leavesShort 1930 && PyData.leavesShortAll 1930 ds) = true
    rw [a.lv, b.lv]; rfl
  · show d.weight + 1 + PyData.weightAll ds ≤ n + 1 + m
    have := a.wt; have := b.wt; omega
theorem ShwAll.lst {ds : List PyData} {n k : Nat} (a : ShwAll ds n k) : Shw (.list ds) n (k + 1) := ⟨a.sh, a.nd, Nat.succ_le_succ a.dp, a.lv, a.wt⟩
theorem ShwAll.tup {ds : List PyData} {n k : Nat} (a : ShwAll ds n k) : Shw (.tuple ds) n (k + 1) := ⟨a.sh, a.nd, Nat.succ_le_succ a.dp, a.lv, a.wt⟩
theorem Shw.fits {d : PyData} {n k : Nat} (s : Shw d n k) (h : n ≤ 8600) : d.shown.length ≤ sizeLine := by
  have z := PyData.shown_le 1930 (by decide) d s.lv
  have w : (1930 + 2) * d.weight ≤ 1932 * 8600 := Nat.mul_le_mul_left _ (Nat.le_trans s.wt h)
  have e : sizeLine = 16777216 := by decide
  omega
/-- d can be shown -/
def ShwOk (d : PyData) : Prop := ∃ n k, Shw d n k ∧ n ≤ 8600 ∧ k ≤ 64
theorem Shw.good {d : PyData} {n k : Nat} (s : Shw d n k) (h : n ≤ 8600) (h2 : k ≤ 64) : ShwOk d := ⟨n, k, s, h, h2⟩
theorem ShwOk.int {i : Int} (h : i.natAbs.log2 < 1920) : ShwOk (.int i) := (Shw.int h).good (by decide) (by decide)
theorem ShwOk.non : ShwOk .none := Shw.non.good (by decide) (by decide)
/-- repr(x), x data that can be shown -/
def rReprS (K : PySem.W.Frag) : List V → Hp → VK → Prop := fun xs H Q => ∃ (x : V) (d : PyData), xs = [x] ∧ Dp K H x d ∧ ShwOk d ∧ ∀ z : Str, z = d.shown → Q (.str z) H
section
variable {X : Cx}
theorem call_reprS (hs : Still X.A) (hu : X.A.units + 66 < cLine) : CallR X (.builtin "repr") (rReprS X.K) := by
  intro pins s σ H xs us Q I r h
  obtain ⟨x, d, rfl, hd, ⟨n, k, sh, hn, hk⟩, q⟩ := h
  exact call_reprD hs hu pins s σ H [x] us Q I r ⟨x, d, rfl, hd, sh.sh, sh.nd, Nat.le_trans sh.dp hk, sh.fits hn, q _ rfl⟩
/-- str(x) of a whole number or a text -/
def rStrB : List V → Hp → VK → Prop := fun xs H Q => (∃ i, xs = [.int i] ∧ i.natAbs.log2 < 1920 ∧ Q (.str (toString i)) H) ∨ ∃ a, xs = [.str a] ∧ Q (.str a) H
theorem call_strB : CallR X (.type "str") rStrB := by
  intro pins s σ H xs us Q I r h
  rcases h with ⟨i, rfl, hz, q⟩ | ⟨a, rfl, q⟩
  · exact call_str_int pins s σ H _ us Q I r ⟨i, rfl, hz, q⟩
  · exact SkE.call_str_str pins s σ H _ us Q I r ⟨a, rfl, q⟩
end
theorem log2_of {i : Int} {b : Nat} (h : i.natAbs < 2 ^ b) (h0 : 0 < b) (h1 : b ≤ 1920) : i.natAbs.log2 < 1920 := Nat.lt_of_lt_of_le (PySem.Flt.log2_lt_of h0 h) h1
end Ur
/-! UrM: the mathematics of common posts, in plain numbers. -/
namespace Ur
/-! ### the divisor and its factor -/
structure Euc (n m d r f g : Int) : Prop where
  d0 : 0 ≤ d
  r0 : 0 ≤ r
  sg : (0 ≤ f ∧ g ≤ 0 ∧ f * r - g * d = m) ∨ (f ≤ 0 ∧ 0 ≤ g ∧ g * d - f * r = m)
  c1 : m ∣ n * f - d
  c2 : m ∣ n * g - r
  dv : ∀ c : Int, c ∣ d → c ∣ r → c ∣ n ∧ c ∣ m
  f0 : -m ≤ f
  f1 : f ≤ m
  g0 : -m ≤ g
  g1 : g ≤ m
theorem Euc.start {n m : Int} (hn : 0 ≤ n) (hm : 0 < m) : Euc n m n m 1 0 :=
  ⟨hn, by omega, Or.inl ⟨by omega, by omega, by omega⟩, ⟨0, by omega⟩, ⟨-1, by omega⟩, fun c a b => ⟨a, b⟩, by omega, by omega, by omega, by omega⟩
theorem le_of_mul {a b m : Int} (ha : 0 ≤ a) (hb : 1 ≤ b) (h : a * b ≤ m) : a ≤ m := by
  have := Int.mul_le_mul_of_nonneg_left hb ha
  omega
theorem Euc.step {n m d r f g : Int} (E : Euc n m d r f g) (hr : r ≠ 0) : Euc n m r (d - d / r * r) g (f - d / r * g) := by
  obtain ⟨d0, r0, sg, c1, c2, dv, f0, f1, g0, g1⟩ := E
  have rp : 0 < r := by omega
  have e : d - d / r * r = d % r := by
    have h := Int.mul_ediv_add_emod d r
    have h2 : r * (d / r) = d / r * r := Int.mul_comm _ _
    omega
  have m0 : 0 ≤ d % r := Int.emod_nonneg d (by omega)
  have t0 : 0 ≤ d / r := Int.ediv_nonneg d0 r0
  have q0 : 0 ≤ d - d / r * r := by omega
  generalize d / r = t at *
  have sg' : (0 ≤ g ∧ f - t * g ≤ 0 ∧ g * (d - t * r) - (f - t * g) * r = m) ∨ (g ≤ 0 ∧ 0 ≤ f - t * g ∧ (f - t * g) * r - g * (d - t * r) = m) := by
    rcases sg with ⟨a, b, c⟩ | ⟨a, b, c⟩
    · refine Or.inr ⟨b, ?_, by grind⟩
      have : t * g ≤ 0 := Int.mul_nonpos_of_nonneg_of_nonpos t0 b
      omega
    · refine Or.inl ⟨b, ?_, by grind⟩
      have : 0 ≤ t * g := Int.mul_nonneg t0 b
      omega
  refine ⟨r0, q0, sg', c2, ?_, fun c h1 h2 => dv c ?_ h1, g0, g1, ?_, ?_⟩
  · obtain ⟨a, ha⟩ := c1
    obtain ⟨b, hb⟩ := c2
    exact ⟨a - t * b, by grind⟩
  · obtain ⟨a, ha⟩ := h1
    obtain ⟨b, hb⟩ := h2
    exact ⟨b + t * a, by grind⟩
  · rcases sg' with ⟨a, b, c⟩ | ⟨a, b, c⟩
    · have z : 0 ≤ g * (d - t * r) := Int.mul_nonneg a q0
      have y : -(f - t * g) * r = -((f - t * g) * r) := Int.neg_mul _ _
      have := le_of_mul (a := -(f - t * g)) (b := r) (m := m) (by omega) (by omega) (by omega)
      omega
    · omega
  · rcases sg' with ⟨a, b, c⟩ | ⟨a, b, c⟩
    · omega
    · have z : g * (d - t * r) ≤ 0 := Int.mul_nonpos_of_nonpos_of_nonneg a q0
      exact le_of_mul (b := r) b (by omega) (by omega)
/-- what comes out: a divisor of both, and its factor -/
structure DivFac (n m d f : Int) : Prop where
  pos : 0 < d
  dn : d ∣ n
  dm : d ∣ m
  cg : m ∣ n * f - d
  f0 : -m ≤ f
  f1 : f ≤ m
theorem Euc.done {n m d f g : Int} (E : Euc n m d 0 f g) (hm : 0 < m) : DivFac n m d f := by
  have z := E.dv d (Int.dvd_refl d) (Int.dvd_zero d)
  refine ⟨?_, z.1, z.2, E.c1, E.f0, E.f1⟩
  have d0 := E.d0
  by_cases h : d = 0
  · have := z.2
    rw [h] at this
    have := Int.zero_dvd.mp this
    omega
  · omega
/-! ### common posts -/
/-- q is on the way that starts at p with the stride s -/
def On (p s q : Int) : Prop := ∃ j : Int, 0 ≤ j ∧ q = p + j * s
/-- how two strides meet: every step-th number of the first one -/
def Steps (s1 s2 step : Int) : Prop := 0 < step ∧ ∀ k : Int, s2 ∣ k * s1 ↔ step ∣ k
/-- the numbers of common posts, on the way of the first one -/
inductive Comm (p1 s1 p2 s2 : Int) : Option (Int × Option Int × Int) → Prop where
  | no : (∀ k : Int, 0 ≤ k → ¬ On p2 s2 (p1 + k * s1)) → Comm p1 s1 p2 s2 none
  | inf {first step : Int} : (0 < s1 ↔ 0 < s2) → Steps s1 s2 step → 0 ≤ first → first ≤ (p2 - p1).natAbs + step → (∀ k : Int, 0 ≤ k → (On p2 s2 (p1 + k * s1) ↔ first ≤ k ∧ step ∣ k - first)) → Comm p1 s1 p2 s2 (some (first, none, step))
  | fin {first last step : Int} : ¬ (0 < s1 ↔ 0 < s2) → Steps s1 s2 step → 0 ≤ first → first ≤ last → last ≤ (p2 - p1).natAbs → step ∣ last - first → (∀ k : Int, 0 ≤ k → (On p2 s2 (p1 + k * s1) ↔ first ≤ k ∧ k ≤ last ∧ step ∣ k - first)) → Comm p1 s1 p2 s2 (some (first, some last, step))
theorem dvd_abs {a b : Int} : (a.natAbs : Int) ∣ b ↔ a ∣ b := Int.natAbs_dvd
/-- n, m as the program has them: the first stride's remainder by the size of the second -/
structure Meet (s1 s2 gap d step res : Int) : Prop where
  d0 : 0 < d
  d1 : d ∣ s1
  d2 : d ∣ s2
  dg : d ∣ gap
  st : Steps s1 s2 step
  se : step * d = s2.natAbs
  /-- the numbers at which the two ways, taken as endless, have the same post -/
  at_ : ∀ k : Int, s2 ∣ k * s1 - gap ↔ step ∣ k - res
  r0 : 0 ≤ res
  r1 : res < step
theorem meet_of {s1 s2 gap d f : Int} (hs2 : s2 ≠ 0) (D : DivFac (s1 % (s2.natAbs : Int)) (s2.natAbs : Int) d f) (hg : d ∣ gap) :
    Meet s1 s2 gap d ((s2.natAbs : Int) / d) ((gap / d * f) % ((s2.natAbs : Int) / d)) := by
  obtain ⟨d0, dn, dm, cg, f0, f1⟩ := D
  generalize hm : (s2.natAbs : Int) = m at *
  have mp : 0 < m := by omega
  obtain ⟨st, hst⟩ := dm
  have est : m / d = st := by rw [hst]; exact Int.mul_ediv_cancel_left _ (by omega)
  rw [est]
  have stp : 0 < st := by
    by_cases h : 0 < st
    · exact h
    · have : d * st ≤ 0 := Int.mul_nonpos_of_nonneg_of_nonpos (by omega) (by omega)
      omega
  obtain ⟨gq, hgq⟩ := hg
  have egq : gap / d = gq := by rw [hgq]; exact Int.mul_ediv_cancel_left _ (by omega)
  rw [egq]
  -- d divides s1
  have e1 : s1 = m * (s1 / m) + s1 % m := (Int.mul_ediv_add_emod s1 m).symm
  obtain ⟨a, ha⟩ := dn
  have d1 : d ∣ s1 := ⟨st * (s1 / m) + a, by grind⟩
  obtain ⟨u, hu⟩ := d1
  -- u * f is 1 modulo st
  obtain ⟨b, hb⟩ := cg
  have uf : ∃ c, u * f - 1 = st * c := by
    refine ⟨b + f * (s1 / m), ?_⟩
    have z : d * (u * f - 1) = d * (st * (b + f * (s1 / m))) := by grind
    exact Int.eq_of_mul_eq_mul_left (by omega) z
  obtain ⟨c, hc⟩ := uf
  have key : ∀ x : Int, d * st ∣ d * x ↔ st ∣ x := fun x => ⟨fun h => Int.dvd_of_mul_dvd_mul_left (by omega) h, fun h => Int.mul_dvd_mul_left d h⟩
  have m2 : ∀ x : Int, s2 ∣ x ↔ m ∣ x := fun x => by rw [← hm]; exact Int.natAbs_dvd.symm
  refine ⟨d0, ⟨u, hu⟩, ?_, ⟨gq, hgq⟩, ⟨stp, fun k => ?_⟩, by rw [hm, hst]; exact Int.mul_comm _ _, fun k => ?_, Int.emod_nonneg _ (by omega), Int.emod_lt_of_pos _ stp⟩
  · have : d ∣ (s2.natAbs : Int) := by rw [hm]; exact ⟨st, hst⟩
    exact Int.dvd_natAbs.mp this
  · rw [m2, hst, hu, show k * (d * u) = d * (k * u) by grind, key]
    constructor
    · intro ⟨x, hx⟩
      exact ⟨x * f - k * c, by grind⟩
    · intro ⟨x, hx⟩
      exact ⟨x * u, by grind⟩
  · rw [m2, hst, hu, hgq, show k * (d * u) - d * gq = d * (k * u - gq) by grind, key]
    have er : gq * f = st * (gq * f / st) + gq * f % st := (Int.mul_ediv_add_emod _ _).symm
    generalize gq * f / st = w at er
    generalize gq * f % st = res at er
    constructor
    · intro ⟨x, hx⟩
      exact ⟨x * f - k * c + w, by grind⟩
    · intro ⟨x, hx⟩
      exact ⟨x * u + gq * c - w * u, by grind⟩
theorem le_fdiv {k a s : Int} (hs : s ≠ 0) : k ≤ a.fdiv s ↔ (0 < s → k * s ≤ a) ∧ (s < 0 → a ≤ k * s) := by
  by_cases h : 0 < s
  · rw [Int.fdiv_eq_ediv_of_nonneg a (by omega), Int.le_ediv_iff_mul_le h]
    exact ⟨fun z => ⟨fun _ => z, fun y => by omega⟩, fun z => z.1 h⟩
  · have h2 : 0 < -s := by omega
    have e : a.fdiv s = (-a) / (-s) := by
      rw [← Int.fdiv_eq_ediv_of_nonneg (-a) (by omega : (0 : Int) ≤ -s), Int.neg_fdiv_neg]
    rw [e, Int.le_ediv_iff_mul_le h2, Int.mul_neg]
    exact ⟨fun z => ⟨fun y => by omega, fun _ => by omega⟩, fun z => by have := z.2 (by omega); omega⟩
theorem on_iff {p1 s1 p2 s2 k : Int} (hs : s2 ≠ 0) : On p2 s2 (p1 + k * s1) ↔ s2 ∣ k * s1 - (p2 - p1) ∧ (0 < s2 → p2 - p1 ≤ k * s1) ∧ (s2 < 0 → k * s1 ≤ p2 - p1) := by
  generalize k * s1 = x
  constructor
  · rintro ⟨j, j0, h⟩
    refine ⟨⟨j, by grind⟩, fun z => ?_, fun z => ?_⟩
    · have : 0 ≤ j * s2 := Int.mul_nonneg j0 (by omega)
      omega
    · have : j * s2 ≤ 0 := Int.mul_nonpos_of_nonneg_of_nonpos j0 (by omega)
      omega
  · rintro ⟨⟨j, hj⟩, h1, h2⟩
    refine ⟨j, ?_, by grind⟩
    by_cases c : 0 ≤ j
    · exact c
    · exfalso
      by_cases z : 0 < s2
      · have := h1 z
        have : s2 * j ≤ s2 * (-1) := Int.mul_le_mul_of_nonneg_left (by omega) (by omega)
        omega
      · have := h2 (by omega)
        have : s2 * (-1) ≤ s2 * j := Int.mul_le_mul_of_nonpos_left (by omega) (by omega)
        omega
theorem abs_mul_ge {g s : Int} (hs : s ≠ 0) : (0 < s → (g.natAbs : Int) * 1 ≤ g.natAbs * s) ∧ (s < 0 → (g.natAbs : Int) * s ≤ g.natAbs * (-1)) :=
  ⟨fun h => Int.mul_le_mul_of_nonneg_left (by omega) (by omega), fun h => Int.mul_le_mul_of_nonneg_left (by omega) (by omega)⟩
/-- a number behind a bound, one of each step -/
theorem from_on {step res low k : Int} (hp : 0 < step) : (low ≤ k ∧ step ∣ k - res) ↔ (low + (res - low) % step ≤ k ∧ step ∣ k - (low + (res - low) % step)) := by
  have e : res - low = step * ((res - low) / step) + (res - low) % step := (Int.mul_ediv_add_emod _ _).symm
  have r0 : 0 ≤ (res - low) % step := Int.emod_nonneg _ (by omega)
  have r1 : (res - low) % step < step := Int.emod_lt_of_pos _ hp
  generalize (res - low) / step = q at e
  generalize (res - low) % step = r at *
  constructor
  · rintro ⟨h, x, hx⟩
    refine ⟨?_, x + q, by grind⟩
    by_cases c : low + r ≤ k
    · exact c
    · have z : step * (x + q) = k - (low + r) := by grind
      have : step * (x + q) ≤ step * (-1) := Int.mul_le_mul_of_nonneg_left (by
        by_cases y : x + q ≤ -1
        · exact y
        · have : 0 ≤ step * (x + q) := Int.mul_nonneg (by omega) (by omega)
          omega) (by omega)
      omega
  · rintro ⟨h, x, hx⟩
    exact ⟨by omega, x - q, by grind⟩
theorem comm_same {p1 s1 p2 s2 d step res : Int} (h1 : s1 ≠ 0) (h2 : s2 ≠ 0) (hs : 0 < s1 ↔ 0 < s2) (M : Meet s1 s2 (p2 - p1) d step res) :
    Comm p1 s1 p2 s2 (some ((if -((-(p2 - p1)).fdiv s1) > 0 then -((-(p2 - p1)).fdiv s1) else 0) + (res - (if -((-(p2 - p1)).fdiv s1) > 0 then -((-(p2 - p1)).fdiv s1) else 0)) % step, none, step)) := by
  have sp := M.st.1
  have low : ∀ k : Int, -((-(p2 - p1)).fdiv s1) ≤ k ↔ (0 < s2 → p2 - p1 ≤ k * s1) ∧ (s2 < 0 → k * s1 ≤ p2 - p1) := fun k => by
    have z := le_fdiv (k := -k) (a := -(p2 - p1)) h1
    have e : -k * s1 = -(k * s1) := Int.neg_mul _ _
    rw [e] at z
    constructor
    · intro y
      have z := z.mp (by omega)
      exact ⟨fun c => by have := z.1 (hs.mpr c); omega, fun c => by have := z.2 (by omega); omega⟩
    · intro y
      have z := z.mpr ⟨fun c => by have := y.1 (hs.mp c); omega, fun c => by have := y.2 (by omega); omega⟩
      omega
  have lowle : -((-(p2 - p1)).fdiv s1) ≤ (p2 - p1).natAbs := by
    rw [low]
    have z := abs_mul_ge (g := p2 - p1) h1
    exact ⟨fun c => by have := z.1 (hs.mpr c); omega, fun c => by have := z.2 (by omega); omega⟩
  generalize -((-(p2 - p1)).fdiv s1) = lo at low lowle ⊢
  have m0 : 0 ≤ (if lo > 0 then lo else 0) ∧ (if lo > 0 then lo else 0) ≤ ((p2 - p1).natAbs : Int) ∧ ∀ k : Int, 0 ≤ k → (lo ≤ k ↔ (if lo > 0 then lo else 0) ≤ k) := by
    split <;> exact ⟨by omega, by omega, fun k _ => by omega⟩
  generalize (if lo > 0 then lo else 0) = l at m0 ⊢
  have r0 : 0 ≤ (res - l) % step := Int.emod_nonneg _ (by omega)
  have r1 : (res - l) % step < step := Int.emod_lt_of_pos _ sp
  refine .inf hs M.st (by omega) (by omega) fun k hk => ?_
  rw [on_iff h2, M.at_ k, ← low k, m0.2.2 k hk, ← from_on sp]
  exact And.comm
theorem opp_low {p1 s1 p2 s2 : Int} (h1 : s1 ≠ 0) (h2 : s2 ≠ 0) (hs : ¬ (0 < s1 ↔ 0 < s2)) (k : Int) : k ≤ (p2 - p1).fdiv s1 ↔ (0 < s2 → p2 - p1 ≤ k * s1) ∧ (s2 < 0 → k * s1 ≤ p2 - p1) := by
  rw [le_fdiv h1]
  constructor
  · intro y
    exact ⟨fun c => y.2 (by omega), fun c => y.1 (by omega)⟩
  · intro y
    exact ⟨fun c => y.2 (by omega), fun c => y.1 (by omega)⟩
/-- beside one another modulo step, and neither below nought: the remainder is the least -/
theorem least_res {step res k : Int} (h0 : 0 ≤ k) (r1 : res < step) (hk : step ∣ k - res) : res ≤ k := by
  obtain ⟨x, hx⟩ := hk
  by_cases c : res ≤ k
  · exact c
  · exfalso
    by_cases y : 0 ≤ x
    · have : 0 ≤ step * x := Int.mul_nonneg (by omega) y
      omega
    · have : step * x ≤ step * (-1) := Int.mul_le_mul_of_nonneg_left (by omega) (by omega)
      omega
theorem comm_no {p1 s1 p2 s2 d step res : Int} (h1 : s1 ≠ 0) (h2 : s2 ≠ 0) (hs : ¬ (0 < s1 ↔ 0 < s2)) (M : Meet s1 s2 (p2 - p1) d step res) (hr : (p2 - p1).fdiv s1 < res) : Comm p1 s1 p2 s2 none := by
  refine .no fun k hk h => ?_
  rw [on_iff h2, M.at_ k, ← opp_low h1 h2 hs k] at h
  have := least_res hk M.r1 h.1
  omega
theorem comm_opp {p1 s1 p2 s2 d step res : Int} (h1 : s1 ≠ 0) (h2 : s2 ≠ 0) (hs : ¬ (0 < s1 ↔ 0 < s2)) (M : Meet s1 s2 (p2 - p1) d step res) (hr : res ≤ (p2 - p1).fdiv s1) :
    Comm p1 s1 p2 s2 (some (res, some ((p2 - p1).fdiv s1 - ((p2 - p1).fdiv s1 - res) % step), step)) := by
  have sp := M.st.1
  have low := opp_low (p1 := p1) (p2 := p2) h1 h2 hs
  have mle : (p2 - p1).fdiv s1 ≤ (p2 - p1).natAbs := by
    by_cases c : (p2 - p1).fdiv s1 ≤ (p2 - p1).natAbs
    · exact c
    · exfalso
      have y := (le_fdiv (k := ((p2 - p1).natAbs : Int) + 1) (a := p2 - p1) h1).mp (by omega)
      have z := abs_mul_ge (g := p2 - p1) h1
      have e : (((p2 - p1).natAbs : Int) + 1) * s1 = (p2 - p1).natAbs * s1 + s1 := by rw [Int.add_mul, Int.one_mul]
      by_cases c : 0 < s1
      · have := y.1 c
        have := z.1 c
        omega
      · have := y.2 (by omega)
        have := z.2 (by omega)
        omega
  generalize (p2 - p1).fdiv s1 = mo at low hr mle ⊢
  have e : mo - res = step * ((mo - res) / step) + (mo - res) % step := (Int.mul_ediv_add_emod _ _).symm
  have q0 : 0 ≤ (mo - res) / step := Int.ediv_nonneg (by omega) (by omega)
  have r0 : 0 ≤ (mo - res) % step := Int.emod_nonneg _ (by omega)
  have r1 : (mo - res) % step < step := Int.emod_lt_of_pos _ sp
  generalize (mo - res) / step = q at e q0
  generalize (mo - res) % step = r at *
  have sq : 0 ≤ step * q := Int.mul_nonneg (by omega) q0
  refine .fin hs M.st M.r0 (by omega) (by omega) ⟨q, by omega⟩ fun k hk => ?_
  rw [on_iff h2, M.at_ k, ← low k]
  constructor
  · rintro ⟨h, hm⟩
    refine ⟨least_res hk M.r1 h, ?_, h⟩
    obtain ⟨x, hx⟩ := h
    by_cases c : k ≤ mo - r
    · exact c
    · exfalso
      have : step * (q + 1) ≤ step * x := Int.mul_le_mul_of_nonneg_left (by
        by_cases y : q + 1 ≤ x
        · exact y
        · have : step * x ≤ step * q := Int.mul_le_mul_of_nonneg_left (by omega) (by omega)
          omega) (by omega)
      have : step * (q + 1) = step * q + step := by rw [Int.mul_add, Int.mul_one]
      omega
  · rintro ⟨_, h, hd⟩
    exact ⟨hd, by omega⟩
theorem comm_gap {p1 s1 p2 s2 d : Int} (h1 : d ∣ s1) (h2 : d ∣ s2) (hg : ¬ d ∣ p2 - p1) : Comm p1 s1 p2 s2 none := by
  refine .no fun k hk ⟨j, _, h⟩ => hg ?_
  obtain ⟨a, rfl⟩ := h1
  obtain ⟨b, rfl⟩ := h2
  exact ⟨k * a - j * b, by grind⟩
theorem mul_bd {a b A B : Int} (h0 : 0 ≤ a) (h1 : a ≤ A) (h2 : -B ≤ b) (h3 : b ≤ B) (hB : 0 ≤ B) : -(A * B) ≤ a * b ∧ a * b ≤ A * B := by
  have x1 : a * b ≤ a * B := Int.mul_le_mul_of_nonneg_left h3 h0
  have x2 : a * B ≤ A * B := Int.mul_le_mul_of_nonneg_right h1 hB
  have x3 : a * (-B) ≤ a * b := Int.mul_le_mul_of_nonneg_left h2 h0
  rw [Int.mul_neg] at x3
  omega
theorem mul_pos1 {a b : Int} (h0 : 1 ≤ a) (h1 : 1 ≤ b) : 1 ≤ a * b := by
  have := Int.mul_le_mul h0 h1 (by decide) (by omega)
  omega
/-- how many steps to a post, if it is on the way -/
def StepsTo (p s q : Int) (r : Option Int) : Prop := ∀ j : Int, r = some j ↔ (0 ≤ j ∧ q = p + j * s)
theorem steps_to_spec {p s q : Int} (hs : s ≠ 0) : StepsTo p s q (if (q - p).fmod s = 0 ∧ 0 ≤ (q - p).fdiv s then some ((q - p).fdiv s) else none) := by
  have e := Int.fmod_add_mul_fdiv (q - p) s
  intro j
  have uniq : q = p + j * s → (q - p).fmod s = 0 ∧ (q - p).fdiv s = j := by
    intro h
    have e2 : q - p = j * s := by omega
    rw [e2]
    exact ⟨Int.mul_fmod_left j s, Int.mul_fdiv_cancel j hs⟩
  constructor
  · intro h
    split at h
    · rename_i c
      obtain rfl := Option.some.inj h
      rw [c.1] at e
      refine ⟨c.2, ?_⟩
      have : s * (q - p).fdiv s = (q - p).fdiv s * s := Int.mul_comm _ _
      omega
    · cases h
  · rintro ⟨h0, h⟩
    obtain ⟨a, b⟩ := uniq h
    rw [if_pos ⟨a, by rw [b]; exact h0⟩, b]
theorem stepsTo_on {p s q : Int} {r : Option Int} (h : StepsTo p s q r) : On p s q ↔ r ≠ none := by
  constructor
  · rintro ⟨j, j0, e⟩ z
    have := (h j).mpr ⟨j0, e⟩
    rw [z] at this
    cases this
  · intro z
    cases r with
    | none => exact absurd rfl z
    | some j => exact ⟨j, (h j).mp rfl⟩
end Ur
/-! UrX: errors: several except clauses with names; an error that was caught and is kept as a value; isinstance of it. -/
namespace Ur
open PySem PySem.Spec PyProof.Rows L2
/-- an error that was caught, known by its class and its dict -/
def exk (p : Addr) (cls : Value) (d : Option Addr) : HO := .ext fun h => ∃ o : Obj, h.get? p = some o ∧ Zc cls d o ∧ ∃ vs, o.data = .fields vs
theorem exk_ok {P : Program} {w : World} {H : Hp} {h : Heap} {p : Addr} {cls : Value} {d : Option Addr} {o : Obj} (g : h.get? p = some o) (z : Zc cls d o) (f : ∃ vs, o.data = .fields vs) : ObjOk P w H h p (exk p cls d) := by
  refine ⟨⟨o, g, z, f⟩, ⟨o, g⟩, ?_⟩
  rintro h1 h2 ⟨o1, g1, z1, f1⟩ st
  exact ⟨o1, st _ g1, z1, f1⟩
section
variable {X : Cx} {pins : List (Addr × Obj)} {σ : L2.St} {H : Hp} {s : Shared} {p : Addr} {o : Obj} {cls : Value} {d : Option Addr}
/-- an object that was made here and is told nothing of as yet is told of -/
theorem noteErr (I : Inv X pins σ H s) (na : H p = none) (g : s.heap.get? p = some o) (z : Zc cls d o) (f : ∃ vs, o.data = .fields vs) (n0 : X.s_0.heap.get? p = none) (nL : p ≠ X.env.locals)
    (np : ∀ q ∈ X.pn ++ pins, q.1 ≠ p) : Inv X pins σ (upd H p (exk p cls d)) s := by
  have some_ne : ∀ {b : Addr} {u : HO}, H b = some u → b ≠ p := fun {b u} e q => by
    subst q
    rw [na] at e
    cases e
  have was_ne : ∀ {b : Addr} {u : Obj}, X.s_0.heap.get? b = some u → b ≠ p := fun {b u} e q => by
    subst q
    rw [n0] at e
    cases e
  obtain ⟨ok, os, bare, base, loc, cell, free, freeC, pin, hok, len⟩ := I
  refine ⟨ok, os, bare, ⟨base.keep, base.slot, ?_, base.there, ?_, ?_, ?_⟩, loc, cell, ?_, ?_, ?_, ?_, len⟩
  · intro b u e n x
    rw [upd_ne (was_ne e)]
    exact base.free b u e n x
  · intro b xs e
    have t := base.tups b xs e
    rw [upd_ne (some_ne t)]
    exact t
  · intro b u xs e
    have t := base.frzs b u xs e
    rw [upd_ne (some_ne t)]
    exact t
  · intro b ps e
    obtain ⟨m, t⟩ := base.tbls b ps e
    exact ⟨m, by rw [upd_ne (some_ne t)]; exact t⟩
  · rw [upd_ne (Ne.symm nL)]
    exact free
  · intro x c e
    have cp : c ≠ p := by
      rintro rfl
      obtain ⟨v, o2, g2, d2⟩ := cell x c e
      obtain ⟨vs, fd⟩ := f
      rw [g] at g2
      cases g2
      rw [fd] at d2
      cases d2
    rw [upd_ne cp]
    exact freeC x c e
  · intro q hq
    obtain ⟨g1, g2, g3⟩ := pin q hq
    exact ⟨g1, by rw [upd_ne (np q hq)]; exact g2, g3⟩
  · intro b u e
    by_cases hb : b = p
    · subst hb
      rw [upd_same] at e
      obtain rfl := Option.some.inj e
      exact exk_ok g z f
    · rw [upd_ne hb] at e
      refine (hok b u e).stay (fun _ _ _ x => x) (fun c q => ?_) (fun c xs q => ?_)
      · rw [upd_ne (some_ne q)]; exact q
      · rw [upd_ne (some_ne q)]; exact q
end
/-! ### try: .. except A as e: .. except B as e: .. -/
abbrev Suite := Addr → Value → Option Addr → TS
/-- behind a suite the error is known, its name is gone -/
def endsOf (D : Ends) (i : Nat) (p : Addr) (cls : Value) (d : Option Addr) : Ends where
  nx := fun σ H => H p = none → D.nx (σ.set i none) (upd H p (exk p cls d))
  rt := D.rt
  bk := fun σ H => D.bk (σ.set i none) H
  ct := fun σ H => D.ct (σ.set i none) H
/-- what is wished of an error, clause by clause: the class, the slot of the name, the suite -/
def wTries (K : PySem.W.Frag) (W0 : WX) (D : Ends) : List (Value × Nat × Suite) → WX
  | [] => W0
  | (c, i, ts) :: r => fun cls d σ H => ∃ b, PySem.W.exmOne K cls c = some b ∧ (b = true → ∀ p, H p = none → ts p cls d (endsOf D i p cls d) (σ.set i (some (.ref p))) H) ∧ (b = false → wTries K W0 D r cls d σ H)
inductive Clauses (X : Cx) : List ExceptHandler → List (Value × Nat × Suite) → Prop
  | nil : Clauses X [] []
  | cons {x n : Str} {c : Value} {i : Nat} {ts : Suite} {b0 : Stmt} {rest : List Stmt} {np hp : Pos} {hs : List ExceptHandler} {l : List (Value × Nat × Suite)} (names : Names X x c) (slot : X.N[i]? = some n) (kind : X.env.kindOf n = some .local)
      (suite : ∀ (p : Addr) (o : Obj) (cls : Value) (d : Option Addr) (pn : List (Addr × Obj)), Zc cls d o → (∃ vs, o.data = .fields vs) → PSs (X.suite p ((p, o) :: pn)) (b0 :: rest) (ts p cls d)) (more : Clauses X hs l) :
      Clauses X (.ExceptHandler (some (.Name x np)) (some n) (b0 :: rest) hp :: hs) ((c, i, ts) :: l)
section
variable {X : Cx} {body : List Stmt} {h1 : ExceptHandler} {hs : List ExceptHandler} {l : List (Value × Nat × Suite)} {pos : Pos} {tb : WX → TS} {W0 : WX}
theorem ps_tries (hst : X.stack = X.env :: X.outer) (hfl : X.env.frame = some X.env.locals) (hnx : X.ex = []) (hN : X.N.Nodup) (tk : Takes X W0)
    (hb : ∀ (W : WX) (pn : List (Addr × Obj)) (xe : Value → Shared → Prop), Takes (X.tr pn xe) W → PassesOwn (model X.prog X.w) X.A X.env xe → PSs (X.tr pn xe) body (tb W))
    (hc : Clauses X (h1 :: hs) l) : PS X (.Try body (h1 :: hs) [] [] pos) (fun D σ H => tb (wTries X.K W0 D l) D σ H) := by
  constructor
  intro pins s σ H D I ask
  have ok := I.ok
  have fr : X.A.frames = some (X.env :: X.outer) := ok.frames.trans (congrArg some hst)
  refine wpAny_Try_except ?_
  let xe : Value → Shared → Prop := fun e s₁ => wpAny (model X.prog X.w) X.A (noteFrame e X.env) (fun _ s₂ => wpAny (model X.prog X.w) X.A (setFlight e none) (fun _ s₃ => wpAny (model X.prog X.w) X.A (handleBy e X.env (h1 :: hs)) (SP X pins D) X.xe s₃) X.xe s₂) X.xe s₁
  have air : Takes (X.tr (X.pn ++ pins) xe) (wTries X.K W0 D l) := by
    rintro u s1 ⟨p, B, sI, pins1, σ1, H1, cls, d, rfl, J0, nb, up, sky, na, os, ag, w⟩
    have J : Inv X pins σ1 H1 sI := J0.ofTry ok
    have sky : Sky B (X.env :: X.outer) p (Zc cls d) X.env.locals s1.heap := hst ▸ sky
    show wpAny (model X.prog X.w) X.A (noteFrame (.ref p) X.env) _ _ _
    refine Sky.land Zc.steady fr hfl sky fun g3 fl3 up3 => ?_
    have J3 : Inv X pins σ1 H1 { s1 with heap := g3 } := J.landed nb fl3.1 (up.trans up3) os ag
    obtain ⟨o3, v3, e3, z3, f3⟩ := fl3.there
    have far : p ∉ frs (X.env :: X.outer) := by
      intro m
      obtain ⟨_, oo, eo, nf⟩ := fl3.2.2.1.mem m
      rw [e3] at eo
      obtain rfl := Option.some.inj eo
      exact nf _ f3
    have nL : p ≠ X.env.locals := fun q => far (List.mem_filterMap.mpr ⟨X.env, List.mem_cons_self, hfl.trans (congrArg some q.symm)⟩)
    have nF : p ∉ X.fs := by
      intro m
      obtain ⟨en, he, q⟩ := List.mem_filterMap.mp m
      exact far (List.mem_filterMap.mpr ⟨en, List.mem_cons_of_mem _ he, q⟩)
    have gone : sI.heap.get? p = none := by
      cases q : sI.heap.get? p with
      | none => rfl
      | some oo =>
        have := nb p oo q (by rw [hst]; exact far)
        have nB : B.get? p = none := fl3.2.1
        rw [nB] at this
        cases this
    have n0 : X.s_0.heap.get? p = none := by
      cases q : X.s_0.heap.get? p with
      | none => rfl
      | some oo =>
        obtain ⟨o4, e4⟩ := J.base.there p oo q (by rw [hnx]; exact fun z => nomatch z)
        rw [gone] at e4
        cases e4
    have np : ∀ q ∈ X.pn ++ pins, q.1 ≠ p := by
      intro q hq e
      have := (J.pin q hq).1
      rw [e, gone] at this
      cases this
    have S3 := J3.suite e3 f3 na nL nF
    have go : ∀ {hs' : List ExceptHandler} {l' : List (Value × Nat × Suite)}, Clauses X hs' l' → wTries X.K W0 D l' cls d σ1 H1 → wpAny (model X.prog X.w) X.A (handleBy (.ref p) X.env hs') (SP X pins D) X.xe { s1 with heap := g3 } := by
      intro hs' l' cl
      induction cl with
      | nil =>
        intro w
        refine wpAny_handleBy_nil ?_
        obtain ⟨_, _, _, oe, vs, T, oT, tt, he, hz, hd, h1, _⟩ := id fl3
        unfold PySem.passOn
        refine wpAny_bind (wpAny_field he hd h1 ?_)
        rw [if_neg (by simp)]
        have rest : wpAny (model X.prog X.w) X.A (setFlight (.ref p) X.env.frame) (fun _ s4 => wpAny (model X.prog X.w) X.A (throw (.ref p) : Sem Flow) (SP X pins D) X.xe s4) X.xe { s1 with heap := g3 } := by
          rw [hfl]
          exact HandSPX.setFlight_upZ fl3 fun g4 held up4 => wpAny_throw (tk _ _ ⟨p, B, sI, pins, σ1, H1, cls, d, rfl, J, nb, (up.trans up3).trans up4, .inr (.inr (by rw [hst]; exact held)), na, os, ag, w⟩)
        first
          | exact wpAny_bind (wpAny_pure (wpAny_bind rest))
          | exact wpAny_bind rest
      | @cons x n c i ts b0 more2 np2 hp2 hs2 l2 names slot kind suite more ih =>
        intro w
        obtain ⟨b, fits, yes, no⟩ := w
        refine wpAny_handleBy_cons (codeAny_handlers_test ?_) (fun q => nomatch q)
        have LT : PySem.W.Looks (model X.prog X.w) g3 (typeOf (.ref p)) cls := fun A Q E s k q => wpAny_typeOf_ref (k _ _ e3) (z3.1.symm ▸ q)
        have LM := PySem.W.exm_one (M := model X.prog X.w) J3.kIn LT fits
        have ask : ∀ {Q : Value → Shared → Prop} {E : Value → Shared → Prop}, Q c { s1 with heap := g3 } → wpAny (model X.prog X.w) (X.A.mark (some (.ref p))) (eval (.Name x np2) X.env) Q E { s1 with heap := g3 } := by
          intro Q E q
          rcases names with ⟨gl, db, m | ⟨m, bv, nn⟩⟩
          · exact ld_glob (X := X.suite p ((p, o3) :: (X.pn ++ pins))) S3 gl m q db
          · exact ld_blt (X := X.suite p ((p, o3) :: (X.pn ++ pins))) S3 gl m bv q nn db
        refine ask (LM.here ?_)
        cases b with
        | false => exact ih (no rfl)
        | true =>
          refine codeAny_handlers_suite_as (HandSPX.lands_againZ fl3 fun g4 fl4 up4 => ?_)
          have J4 : Inv X pins σ1 H1 { s1 with heap := g4 } := J.landed nb fl4.1 ((up.trans up3).trans up4) os ag
          obtain ⟨o4, v4, e4, z4, f4⟩ := fl4.there
          have S4 := J4.suite e4 f4 na nL nF
          refine store_ok (X := X.suite p ((p, o4) :: (X.pn ++ pins))) (v := .ref p) S4 hN slot (Or.inl kind) rfl (fun s5 S5 => ?_) (.inr kind)
          refine wpAny_mono ((suite p o4 cls d (X.pn ++ pins) z4 ⟨_, f4⟩).run [] s5 _ H1 _ S5 (yes rfl p na)) ?_ (fun _ _ z => z.elim)
          intro fl s6 sp
          have bye : ∀ {σ6 : L2.St} {H6 : Hp} {Q : Shared → Prop}, Inv X pins σ6 H6 s6 → (∀ s7, Inv X pins (σ6.set i none) H6 s7 → Q s7) → wpAny (model X.prog X.w) X.A (do bindName X.env n .none; unbindBehindTheSuite X.env n hp2) (fun _ s7 => Q s7) X.xe s6 :=
            fun S6 q => gone_ok S6 hN slot kind q
          match fl, sp with
          | .next, ⟨σ6, H6, S6, q6⟩ =>
            have pin6 := S6.pin (p, o4) (List.mem_append_left _ List.mem_cons_self)
            exact bye (noteErr (S6.unsuite ok) pin6.2.1 pin6.1 z4 ⟨_, f4⟩ n0 nL np) fun s7 J7 => ⟨_, _, J7, q6 pin6.2.1⟩
          | .brk, ⟨σ6, H6, S6, q6⟩ => exact bye (S6.unsuite ok) fun s7 J7 => ⟨_, _, J7, q6⟩
          | .cont, ⟨σ6, H6, S6, q6⟩ => exact bye (S6.unsuite ok) fun s7 J7 => ⟨_, _, J7, q6⟩
          | .ret u, ⟨v6, σ6, H6, S6, r6, q6⟩ => exact bye (S6.unsuite ok) fun s7 J7 => ⟨_, _, _, J7, r6, q6⟩
    exact go hc w
  refine wpAny_mono ((hb (wTries X.K W0 D l) (X.pn ++ pins) xe air PassesOwn.looking).run [] s σ H D (I.toTry _) ask) ?_ (fun _ _ z => z)
  intro fl s1 sp
  match fl, sp with
  | .next, ⟨σ1, H1, J, q⟩ => exact wpAny_execs_nil ⟨σ1, H1, J.ofTry ok, q⟩
  | .brk, ⟨σ1, H1, J, q⟩ => exact ⟨σ1, H1, J.ofTry ok, q⟩
  | .cont, ⟨σ1, H1, J, q⟩ => exact ⟨σ1, H1, J.ofTry ok, q⟩
  | .ret u, ⟨v, σ1, H1, J, r, q⟩ => exact ⟨v, σ1, H1, J.ofTry ok, r, q⟩
end
/-! ### isinstance -/
/-- where an error's dict is: nowhere, or tracked -/
def DictAt (H : Hp) (d : Option Addr) : Prop := d = none ∨ ∃ (a : Addr) (fs : List (Str × V)), d = some a ∧ H a = some (.xd fs)
theorem dict_look {X : Cx} {pins : List (Addr × Obj)} {σ : L2.St} {H : Hp} {s : Shared} {p C : Addr} {o : Obj} {d : Option Addr} (I : Inv X pins σ H s) (g : s.heap.get? p = some o) (z : Zc (.ref C) d o) (f : ∃ vs, o.data = .fields vs) (hd : DictAt H d) :
    ∃ od, PySem.W.InstAt s.heap p o C od := by
  obtain ⟨vs, f⟩ := f
  have nc : PySem.W.notCls o = true := by unfold PySem.W.notCls; rw [f]
  rcases hd with rfl | ⟨a, fs, rfl, ha⟩
  · exact ⟨none, g, z.1, nc, by rw [z.2]; trivial⟩
  · have x : ObjOk X.prog X.w H s.heap a (.xd fs) := I.hok a _ ha
    obtain ⟨mA, hns, hr⟩ := x
    obtain ⟨od, ho, hl⟩ := lookIn_ns hns
    exact ⟨some od, g, z.1, nc, by rw [z.2]; exact ho⟩
theorem isi_err {X : Cx} {pins : List (Addr × Obj)} {σ : L2.St} {H : Hp} {s : Shared} {p D : Addr} {o : Obj} {d : Option Addr} {cv : Value} {b : Bool} {Q : VK} (I : Inv X pins σ H s) (C : ExcC X.K D) (g : s.heap.get? p = some o) (z : Zc (.ref D) d o)
    (f : ∃ vs, o.data = .fields vs) (hd : DictAt H d) (e : PySem.W.kitOne X.K (.ref D) cv = some b) (q : Q (.bl b) H) : wpAny (model X.prog X.w) X.A (call (.builtin "isinstance") [.ref p, cv]) (EP X pins σ Q) X.xe s := by
  obtain ⟨od, J⟩ := dict_look I g z f hd
  have hc : (PySem.W.clsIn X.K D).isSome = true := by
    obtain ⟨cd, hcd, _⟩ := PySem.W.any_some C.hd
    rw [hcd]; rfl
  exact PySem.W.kia_one (PySem.W.kitx_exc hc C.hg C.hk C.hs C.ha C.hn C.ht C.hm) I.kIn J e (fun z => nomatch z) fun tk => ⟨.bl b, H, I.tok tk, rfl, q⟩
/-- isinstance(e, c) of an error that is kept -/
def rIsK (K : PySem.W.Frag) : List V → Hp → VK → Prop := fun xs H Q => ∃ (p D : Addr) (d : Option Addr) (c : V) (cv : Value) (b : Bool), xs = [.ref p, c] ∧ H p = some (exk p (.ref D) d) ∧ DictAt H d ∧ ExcC K D ∧ ClsV c cv ∧ PySem.W.kitOne K (.ref D) cv = some b ∧ Q (.bl b) H
theorem call_isK {X : Cx} : CallR X (.builtin "isinstance") (rIsK X.K) := by
  intro pins s σ H xs us Q I r h
  obtain ⟨p, D, d, c, cv, b, rfl, hp, hd, C, k, e, q⟩ := h
  obtain ⟨u1, u2, rfl, r1, r2⟩ := vals2 r
  obtain rfl : u1 = Value.ref p := r1
  obtain rfl := k.eq r2
  have x : ObjOk X.prog X.w H s.heap p (.ext _) := I.hok p _ hp
  obtain ⟨⟨o, g, z, f⟩, _⟩ := x
  exact isi_err I C g z f hd e q
/-- .. of the error that a suite holds -/
def rIsS (K : PySem.W.Frag) (D p : Addr) (d : Option Addr) : List V → Hp → VK → Prop := fun xs H Q => ∃ (c : V) (cv : Value) (b : Bool), xs = [.ref p, c] ∧ DictAt H d ∧ ClsV c cv ∧ PySem.W.kitOne K (.ref D) cv = some b ∧ Q (.bl b) H
theorem call_isS {X : Cx} {p D : Addr} {o : Obj} {d : Option Addr} {pn : List (Addr × Obj)} (C : ExcC X.K D) (z : Zc (.ref D) d o) (f : ∃ vs, o.data = .fields vs) : CallR (X.suite p ((p, o) :: pn)) (.builtin "isinstance") (rIsS X.K D p d) := by
  intro pins s σ H xs us Q I r h
  obtain ⟨c, cv, b, rfl, hd, k, e, q⟩ := h
  obtain ⟨u1, u2, rfl, r1, r2⟩ := vals2 r
  obtain rfl : u1 = Value.ref p := r1
  obtain rfl := k.eq r2
  exact isi_err (X := X.suite p ((p, o) :: pn)) I C (I.pin (p, o) (List.mem_append_left _ List.mem_cons_self)).1 z f hd e q
end Ur
/-! UrY: values of any kind: what they are, what isinstance says of them, how they are shown. -/
namespace Ur
open PySem PySem.Spec PyProof.Rows L2
def keyD : Key → PyData
  | .inl i => .int i
  | .inr x => .str x
/-- no object: None, a bool, a number, a text -/
inductive Flat : V → PyData → Prop
  | non : Flat .non .none
  | bl (b : Bool) : Flat (.bl b) (.bool b)
  | int (i : Int) : Flat (.int i) (.int i)
  | str (x : Str) : Flat (.str x) (.str x)
/-- v is the data d, at most n deep; np is no part of it, nor is the table of the modules -/
def DqN (H : Hp) (np : Addr) : Nat → V → PyData → Prop
  | 0, v, d => Flat v d
  | n + 1, v, d => Flat v d ∨ (∃ (a : Addr) (xs : List V) (ds : List PyData), v = .ref a ∧ H a = some (.lst xs) ∧ a ≠ sysModules ∧ Paired (DqN H np n) xs ds ∧ d = .list ds) ∨
      (∃ (a : Addr) (xs : List V) (ds : List PyData), v = .ref a ∧ H a = some (.tup xs) ∧ Paired (DqN H np n) xs ds ∧ d = .tuple ds) ∨
      ∃ (a : Addr) (kvs : List (Key × V)) (es : List (PyData × PyData)), v = .ref a ∧ a ≠ np ∧ H a = some (.dK kvs) ∧ Paired (fun (p : Key × V) (e : PyData × PyData) => e.1 = keyD p.1 ∧ DqN H np n p.2 e.2) kvs es ∧ d = .dict es
theorem Paired.map2 {α β : Type} {R S : α → β → Prop} (f : ∀ a b, R a b → S a b) : ∀ {xs : List α} {ys : List β}, Paired R xs ys → Paired S xs ys
  | _, _, .nil => .nil
  | _, _, .cons h t => .cons (f _ _ h) (Paired.map2 f t)
theorem DqN.flat {H : Hp} {np : Addr} {v : V} {d : PyData} (f : Flat v d) : ∀ {n : Nat}, DqN H np n v d
  | 0 => f
  | _ + 1 => .inl f
/-- it stays what it is while nothing but np changes -/
theorem DqN.keep {H H' : Hp} {np : Addr} {kk : List (Key × V)} (k : Keep np H H') (hn : H np = some (.dK kk)) : ∀ {n : Nat} {v : V} {d : PyData}, DqN H np n v d → DqN H' np n v d
  | 0, _, _, h => h
  | n + 1, v, d, h => by
    rcases h with h | ⟨a, xs, ds, e, ha, ns, ps, ed⟩ | ⟨a, xs, ds, e, ha, ps, ed⟩ | ⟨a, kvs, es, e, na, ha, ps, ed⟩
    · exact .inl h
    · exact .inr (.inl ⟨a, xs, ds, e, k _ _ ha (ne_of ha hn (by intro z; cases z)), ns, Paired.map2 (fun _ _ => DqN.keep k hn) ps, ed⟩)
    · exact .inr (.inr (.inl ⟨a, xs, ds, e, k _ _ ha (ne_of ha hn (by intro z; cases z)), Paired.map2 (fun _ _ => DqN.keep k hn) ps, ed⟩))
    · exact .inr (.inr (.inr ⟨a, kvs, es, e, na, k _ _ ha na, Paired.map2 (fun _ _ q => ⟨q.1, DqN.keep k hn q.2⟩) ps, ed⟩))
theorem DqN.same {H H' : Hp} {np : Addr} (k : Same H H') : ∀ {n : Nat} {v : V} {d : PyData}, DqN H np n v d → DqN H' np n v d
  | 0, _, _, h => h
  | n + 1, v, d, h => by
    rcases h with h | ⟨a, xs, ds, e, ha, ns, ps, ed⟩ | ⟨a, xs, ds, e, ha, ps, ed⟩ | ⟨a, kvs, es, e, na, ha, ps, ed⟩
    · exact .inl h
    · exact .inr (.inl ⟨a, xs, ds, e, k _ _ ha, ns, Paired.map2 (fun _ _ => DqN.same k) ps, ed⟩)
    · exact .inr (.inr (.inl ⟨a, xs, ds, e, k _ _ ha, Paired.map2 (fun _ _ => DqN.same k) ps, ed⟩))
    · exact .inr (.inr (.inr ⟨a, kvs, es, e, na, k _ _ ha, Paired.map2 (fun _ _ q => ⟨q.1, DqN.same k q.2⟩) ps, ed⟩))
theorem DqN.up {H : Hp} {np : Addr} : ∀ {n : Nat} {v : V} {d : PyData}, DqN H np n v d → DqN H np (n + 1) v d
  | 0, _, _, h => .inl h
  | n + 1, v, d, h => by
    rcases h with h | ⟨a, xs, ds, e, ha, ns, ps, ed⟩ | ⟨a, xs, ds, e, ha, ps, ed⟩ | ⟨a, kvs, es, e, na, ha, ps, ed⟩
    · exact .inl h
    · exact .inr (.inl ⟨a, xs, ds, e, ha, ns, Paired.map2 (fun _ _ => DqN.up) ps, ed⟩)
    · exact .inr (.inr (.inl ⟨a, xs, ds, e, ha, Paired.map2 (fun _ _ => DqN.up) ps, ed⟩))
    · exact .inr (.inr (.inr ⟨a, kvs, es, e, na, ha, Paired.map2 (fun _ _ q => ⟨q.1, DqN.up q.2⟩) ps, ed⟩))
section
variable {X : Cx} {pins : List (Addr × Obj)} {σ : L2.St} {H : Hp} {s : Shared} {np : Addr}
theorem Flat.reads {v : V} {d : PyData} {u : Value} {h : Heap} (f : Flat v d) (r : RelV v u) : Reads h u d [] := by
  cases f with
  | non => obtain rfl : u = Value.none := r; exact Reads.none
  | bl b => obtain rfl : u = Value.bool b := r; exact Reads.bool b
  | int i => obtain ⟨t, rfl⟩ := (show ∃ t, u = Value.int i t from r); exact Reads.int i t
  | str x => obtain ⟨t, rfl⟩ := (show ∃ t, u = Value.str x t from r); exact Reads.str x t
theorem readsAll_of {h : Heap} {R : V → PyData → Prop} (f : ∀ v d u, R v d → RelV v u → ∃ as, Reads h u d as ∧ sysModules ∉ as) :
    ∀ {xs : List V} {ds : List PyData} {us : List Value}, Paired R xs ds → Vals xs us → ∃ as, ReadsAll h us ds as ∧ sysModules ∉ as
  | _, _, _, .nil, .nil => ⟨_, ReadsAll.nil, fun z => nomatch z⟩
  | _, _, _, .cons a b, .cons r t => by
    obtain ⟨as, q1, n1⟩ := f _ _ _ a r
    obtain ⟨bs, q2, n2⟩ := readsAll_of f b t
    exact ⟨_, ReadsAll.cons q1 q2, fun z => (List.mem_append.mp z).elim n1 n2⟩
theorem reads_keys {h : Heap} : ∀ {es : List DictEntry} {kv : List (Key × Value)}, Pairs (mixKind X.prog X.w) es kv → ReadsAll h (es.map (·.key)) (kv.map fun p => keyD p.1) []
  | _, _, .nil => ReadsAll.nil
  | _, _, .cons (e := e) (kv := p) k _ t => by
    have z := reads_keys (h := h) t
    rcases keyIs_shape k with ⟨i, tk, e1, e2⟩ | ⟨x, tk, e1, e2⟩
    · have y : Reads h e.key (keyD p.1) [] := by rw [e1, e2]; exact Reads.int i tk
      exact ReadsAll.cons y z
    · have y : Reads h e.key (keyD p.1) [] := by rw [e1, e2]; exact Reads.str x tk
      exact ReadsAll.cons y z
theorem pairs_vals : ∀ {es : List DictEntry} {kv : List (Key × Value)}, Pairs (mixKind X.prog X.w) es kv → es.map (·.val) = kv.map (·.2)
  | _, _, .nil => rfl
  | _, _, .cons _ e t => by
    rw [List.map_cons, List.map_cons, e, pairs_vals t]
theorem DqN.reads (I : Inv X pins σ H s) : ∀ (n : Nat) (v : V) (d : PyData) (u : Value), DqN H np n v d → RelV v u → ∃ as, Reads s.heap u d as ∧ sysModules ∉ as
  | 0, _, _, _, h, r => ⟨_, Flat.reads h r, fun z => nomatch z⟩
  | n + 1, v, d, u, h, r => by
    rcases h with h | ⟨a, xs, ds, rfl, ha, ns, ps, rfl⟩ | ⟨a, xs, ds, rfl, ha, ps, rfl⟩ | ⟨a, kvs, es, rfl, na, ha, ps, rfl⟩
    · exact ⟨_, Flat.reads h r, fun z => nomatch z⟩
    · obtain rfl : u = Value.ref a := r
      obtain ⟨_, its, m, rv, g⟩ := (show ObjOk X.prog X.w H s.heap a (.lst xs) from I.hok a _ ha)
      obtain ⟨as, q, nq⟩ := readsAll_of (DqN.reads I n) ps rv
      exact ⟨_, Reads.list g rfl rfl q, fun z => (List.mem_cons.mp z).elim (fun e => ns e.symm) nq⟩
    · obtain rfl : u = Value.ref a := r
      obtain ⟨_, its, rv, o, g, gc, m, gd⟩ := (show ObjOk X.prog X.w H s.heap a (.tup xs) from I.hok a _ ha)
      obtain ⟨as, q, nq⟩ := readsAll_of (DqN.reads I n) ps rv
      exact ⟨_, Reads.tuple g gc gd q, nq⟩
    · obtain rfl : u = Value.ref a := r
      obtain ⟨_, nsys, kv, rk, o, es0, ep, g, ex, gd, _, prs, _⟩ := dk_of I.hok ha
      have key : ∀ {kvs : List (Key × V)} {es : List (PyData × PyData)} {kv : List (Key × Value)}, Paired (fun (p : Key × V) (e : PyData × PyData) => e.1 = keyD p.1 ∧ DqN H np n p.2 e.2) kvs es → KV kvs kv →
          (kv.map fun p => keyD p.1) = es.map (·.1) ∧ Paired (DqN H np n) (kvs.map (·.2)) (es.map (·.2)) ∧ Vals (kvs.map (·.2)) (kv.map (·.2)) := by
        intro kvs es kv p
        induction p generalizing kv with
        | nil => intro r; cases r; exact ⟨rfl, .nil, .nil⟩
        | cons h t ih =>
          intro r
          cases r with
          | cons r1 r2 =>
            obtain ⟨e1, e2, e3⟩ := ih r2
            refine ⟨?_, .cons h.2 e2, .cons r1.2 e3⟩
            rw [List.map_cons, List.map_cons, e1, h.1, r1.1]
      obtain ⟨e1, e2, e3⟩ := key ps rk
      obtain ⟨bs, q, nq⟩ := readsAll_of (DqN.reads I n) e2 e3
      have k1 := reads_keys (X := X) (h := s.heap) prs
      rw [e1] at k1
      have v1 := pairs_vals (X := X) prs
      refine ⟨_, Reads.dict g ex.1 gd k1 (by rw [v1]; exact q), fun z => ?_⟩
      have z : sysModules ∈ a :: bs := z
      rcases List.mem_cons.mp z with z | z
      · rw [z] at nsys
        simp at nsys
      · exact nq z
end
/-- a value of any kind -/
def Any (H : Hp) (v : V) (d : PyData) : Prop := ∃ (np : Addr) (n : Nat), DqN H np n v d
/-! ### what can be shown, dicts too -/
structure ShX (d : PyData) (n k : Nat) : Prop where
  sh : d.showable = true
  dp : d.depth ≤ k
  lv : d.leavesShort 1930 = true
  wt : d.weight ≤ n
structure ShXAll (ds : List PyData) (n k : Nat) : Prop where
  sh : PyData.showableAll ds = true
  dp : PyData.depthAll ds ≤ k
  lv : PyData.leavesShortAll 1930 ds = true
  wt : PyData.weightAll ds ≤ n
theorem Shw.x {d : PyData} {n k : Nat} (s : Shw d n k) : ShX d n k := ⟨s.sh, s.dp, s.lv, s.wt⟩
theorem ShX.mono {d : PyData} {n k m j : Nat} (s : ShX d n k) (h1 : n ≤ m) (h2 : k ≤ j) : ShX d m j := ⟨s.sh, Nat.le_trans s.dp h2, s.lv, Nat.le_trans s.wt h1⟩
theorem ShXAll.nil : ShXAll [] 0 0 := ⟨rfl, Nat.le_refl _, rfl, Nat.le_refl _⟩
theorem ShXAll.cons {d : PyData} {ds : List PyData} {n k m j : Nat} (a : ShX d n k) (b : ShXAll ds m j) : ShXAll (d :: ds) (n + 1 + m) (max k j) := by
  refine ⟨?_, ?_, ?_, ?_⟩
  · show (d.showable && PyData.showableAll ds) = true
    rw [a.sh, b.sh]; rfl
  · show max d.depth (PyData.depthAll ds) ≤ max k j
    have := a.dp; have := b.dp; omega
  · show (d.leavesShort 1930 && PyData.leavesShortAll 1930 ds) = true
    rw [a.lv, b.lv]; rfl
  · show d.weight + 1 + PyData.weightAll ds ≤ n + 1 + m
    have := a.wt; have := b.wt; omega
theorem ShXAll.lst {ds : List PyData} {n k : Nat} (a : ShXAll ds n k) : ShX (.list ds) n (k + 1) := ⟨a.sh, Nat.succ_le_succ a.dp, a.lv, a.wt⟩
theorem ShX.fits {d : PyData} {n k : Nat} (s : ShX d n k) (h : n ≤ 8600) : d.shown.length ≤ sizeLine := by
  have z := PyData.shown_le 1930 (by decide) d s.lv
  have w : (1930 + 2) * d.weight ≤ 1932 * 8600 := Nat.mul_le_mul_left _ (Nat.le_trans s.wt h)
  have e : sizeLine = 16777216 := by decide
  omega
/-- repr(x) of any such value -/
def rReprQ : List V → Hp → VK → Prop := fun xs H Q => ∃ (x : V) (d : PyData) (n k : Nat), xs = [x] ∧ Any H x d ∧ ShX d n k ∧ n ≤ 8600 ∧ k ≤ 64 ∧ ∀ z : Str, z = d.shown → Q (.str z) H
section
variable {X : Cx}
theorem call_reprQ (hs : Still X.A) (hu : X.A.units + 66 < cLine) : CallR X (.builtin "repr") rReprQ := by
  intro pins s σ H xs us Q I r h
  obtain ⟨x, d, n, k, rfl, ⟨np, m, hd⟩, sh, hn, hk, q⟩ := h
  have q := q _ rfl
  have fz := sh.fits hn
  have flat : Flat x d → wpAny (model X.prog X.w) X.A (call (.builtin "repr") us) (EP X pins σ Q) X.xe s := by
    intro f
    refine call_reprF pins s σ H [x] us Q I r ?_
    cases f with
    | non => exact Or.inl ⟨rfl, q⟩
    | bl b => exact Or.inr (Or.inl ⟨b, rfl, q⟩)
    | int i => exact Or.inr (Or.inr (Or.inl ⟨i, rfl, of_decide_eq_true sh.sh, q⟩))
    | str y => exact Or.inr (Or.inr (Or.inr ⟨y, rfl, fz, q⟩))
  have dp := Nat.le_trans sh.dp hk
  obtain ⟨u, rfl, ru⟩ := vals1 r
  have big : ∀ a, x = .ref a → wpAny (model X.prog X.w) X.A (call (.builtin "repr") [u]) (EP X pins σ Q) X.xe s := by
    rintro a rfl
    obtain rfl : u = Value.ref a := ru
    obtain ⟨as, rd, ns⟩ := DqN.reads I m _ d (Value.ref a) hd rfl
    exact repr_of_reads' rd sh.sh (fun _ => ns) hs (by omega) (fun _ _ e => e) (fun h' v tk kp => ⟨.str _, H, I.kept kp, ⟨v, rfl⟩, q⟩) fz
  cases m with
  | zero => exact flat hd
  | succ m =>
    rcases hd with h | ⟨a, xs, ds, e, _⟩ | ⟨a, xs, ds, e, _⟩ | ⟨a, kvs, es, e, _⟩
    · exact flat h
    · exact big a e
    · exact big a e
    · exact big a e
end
/-! ### isinstance -/
def kindD : PyData → String
  | .none => "NoneType"
  | .bool _ => "bool"
  | .int _ => "int"
  | .str _ => "str"
  | .list _ => "list"
  | .tuple _ => "tuple"
  | .dict _ => "dict"
theorem Flat.ty {K : PySem.W.Frag} {H : Hp} {v : V} {d : PyData} (f : Flat v d) : TyX K H v (.type (kindD d)) := by
  cases f with
  | non => exact .base .non
  | bl b => exact .base (.bl b)
  | int i => exact .base (.int i)
  | str x => exact .base (.str x)
theorem DqN.ty {K : PySem.W.Frag} {H : Hp} {np : Addr} : ∀ {n : Nat} {v : V} {d : PyData}, DqN H np n v d → TyX K H v (.type (kindD d))
  | 0, _, _, h => Flat.ty h
  | n + 1, v, d, h => by
    rcases h with h | ⟨a, xs, ds, rfl, ha, ns, ps, rfl⟩ | ⟨a, xs, ds, rfl, ha, ps, rfl⟩ | ⟨a, kvs, es, rfl, na, ha, ps, rfl⟩
    · exact h.ty
    · exact .base (.lst ha)
    · exact .base (.tup ha)
    · exact .base (.dK ha)
def isIntD : PyData → Bool
  | .int _ => true
  | .bool _ => true
  | _ => false
def isBoolD : PyData → Bool
  | .bool _ => true
  | _ => false
def isStrD : PyData → Bool
  | .str _ => true
  | _ => false
theorem kit_intD {K : PySem.W.Frag} (d : PyData) : PySem.W.kitOne K (.type (kindD d)) (.type "int") = some (isIntD d) := by
  cases d with
  | none => exact kit_ty (K := K) (a := "NoneType") (b := "int") (r := false) (by decide +kernel)
  | bool _ => exact kit_ty (K := K) (a := "bool") (b := "int") (r := true) (by decide +kernel)
  | int _ => exact kit_ty (K := K) (a := "int") (b := "int") (r := true) (by decide +kernel)
  | str _ => exact kit_ty (K := K) (a := "str") (b := "int") (r := false) (by decide +kernel)
  | list _ => exact kit_ty (K := K) (a := "list") (b := "int") (r := false) (by decide +kernel)
  | tuple _ => exact kit_ty (K := K) (a := "tuple") (b := "int") (r := false) (by decide +kernel)
  | dict _ => exact kit_ty (K := K) (a := "dict") (b := "int") (r := false) (by decide +kernel)
theorem kit_boolD {K : PySem.W.Frag} (d : PyData) : PySem.W.kitOne K (.type (kindD d)) (.type "bool") = some (isBoolD d) := by
  cases d with
  | none => exact kit_ty (K := K) (a := "NoneType") (b := "bool") (r := false) (by decide +kernel)
  | bool _ => exact kit_ty (K := K) (a := "bool") (b := "bool") (r := true) (by decide +kernel)
  | int _ => exact kit_ty (K := K) (a := "int") (b := "bool") (r := false) (by decide +kernel)
  | str _ => exact kit_ty (K := K) (a := "str") (b := "bool") (r := false) (by decide +kernel)
  | list _ => exact kit_ty (K := K) (a := "list") (b := "bool") (r := false) (by decide +kernel)
  | tuple _ => exact kit_ty (K := K) (a := "tuple") (b := "bool") (r := false) (by decide +kernel)
  | dict _ => exact kit_ty (K := K) (a := "dict") (b := "bool") (r := false) (by decide +kernel)
theorem kit_strD {K : PySem.W.Frag} (d : PyData) : PySem.W.kitOne K (.type (kindD d)) (.type "str") = some (isStrD d) := by
  cases d with
  | none => exact kit_ty (K := K) (a := "NoneType") (b := "str") (r := false) (by decide +kernel)
  | bool _ => exact kit_ty (K := K) (a := "bool") (b := "str") (r := false) (by decide +kernel)
  | int _ => exact kit_ty (K := K) (a := "int") (b := "str") (r := false) (by decide +kernel)
  | str _ => exact kit_ty (K := K) (a := "str") (b := "str") (r := true) (by decide +kernel)
  | list _ => exact kit_ty (K := K) (a := "list") (b := "str") (r := false) (by decide +kernel)
  | tuple _ => exact kit_ty (K := K) (a := "tuple") (b := "str") (r := false) (by decide +kernel)
  | dict _ => exact kit_ty (K := K) (a := "dict") (b := "str") (r := false) (by decide +kernel)
/-- isinstance(x, T) of such a value -/
def rIsQ (T : String) (g : PyData → Bool) : List V → Hp → VK → Prop := fun xs H Q => ∃ (x : V) (d : PyData), xs = [x, .ty T] ∧ Any H x d ∧ Q (.bl (g d)) H
theorem call_isQ {X : Cx} {T : String} {g : PyData → Bool} (hk : ∀ d, PySem.W.kitOne X.K (.type (kindD d)) (.type T) = some (g d)) : CallR X (.builtin "isinstance") (rIsQ T g) := by
  intro pins s σ H xs us Q I r h
  obtain ⟨x, d, rfl, ⟨np, n, hd⟩, q⟩ := h
  exact call_isi pins s σ H _ us Q I r ⟨x, .ty T, _, _, g d, rfl, .ty T, hd.ty, hk d, q⟩
/-! ### a list's display: no table of the modules -/
def tLstS (t : TA) : TE := fun σ H Q => t σ H fun xs H1 => xs.length ≤ sizeLine ∧ ∀ p, H1 p = none → p ≠ sysModules → Q (.ref p) (upd H1 p (.lst xs))
theorem pe_lstS {X : Cx} {es : List Expr} {pos : Pos} {t : TA} (h : PA X es t) : PE X (.List es pos) (tLstS t) := by
  constructor
  intro pins s σ H Q I hq
  refine wpAny_List_spliced (thn (h.run pos pins s σ H _ I hq) ?_)
  rintro us s1 ⟨xs, H1, J, r, z, q⟩
  refine ⟨by rw [← r.length]; exact z, ?_⟩
  have fresh := J.hok.fresh (Nat.le_refl s1.heap.objs.size)
  have two : cStatics < s1.heap.objs.size := by
    obtain ⟨mc, hn, _⟩ := J.nolimit
    exact hn.lt
  have one : s1.heap.objs.size ≠ sysModules := by
    intro e
    rw [e] at two
    exact absurd two (by decide)
  exact ⟨.ref s1.heap.objs.size, _, J.laid (o := .lst xs) (t' := s1.toks) (fun _ _ e => Heap.get?_push_of_some _ e) (Nat.le_refl _) ⟨z, us, 0, r, Heap.get?_push_size _ rfl⟩, rfl, q _ fresh one⟩
end Ur
/-! UrZ: defs that may raise, called; own errors with one field, made and raised. -/
namespace Ur
open PySem PySem.Spec PyProof.Rows L2
/-- a name of the module that can be called and may raise -/
def CalX (P : Program) (w : World) (K : PySem.W.Frag) (mg : Str → Option Value) (base : Heap) (k : Nat) (x : Str) (ps : List Str) (sp : Sp) : Prop :=
  ∃ (f : Addr) (fd : FuncData), FnOk P w K mg base (L2.CX P w) k f fd ps sp ∧ PySem.W.keepIn K (.ref f) = true ∧ Binds K fd ps [] ∧ mg x = some (.ref f)
def MethX (P : Program) (w : World) (K : PySem.W.Frag) (mg : Str → Option Value) (base : Heap) (C : Addr) (m : Str) (k : Nat) (ps : List Str) (sp : Sp) : Prop := ∃ f fd, Meth K C m f ∧ FnOk P w K mg base (L2.CX P w) k f fd ps sp ∧ Binds K fd ps []
section
variable {P : Program} {w : World} {K : PySem.W.Frag} {mg : Str → Option Value} {base : Heap} {k : Nat} {x : Str} {ps : List Str} {sp : Sp} {st : Stmt}
theorem Dfn.calX {N : List Str} (D : Dfn K mg x st ps) (S : FnScope N ps (defScope st)) (len : ∀ vs H Q E, sp vs H Q E → vs.length = ps.length)
    (hbody : ∀ (f : Addr) (cdv : Value) (A : Around) (out : List Env) (s : Shared) (H : Hp) (vs : List V) (Q : VK) (E : XK), Room k (A.deeper (envOfC x (defScope st) s.heap.objs.size f cdv)) → sp vs H Q E →
      ∃ t, PSs (cxOf (L2.CX P w) P w K mg base N x (defScope st) f cdv A out s H E) (defBody st) t ∧ t { nx := fun _ H' => Q .non H', rt := Q } (start N vs) H) : CalX P w K mg base (k + 1) x ps sp := by
  obtain ⟨f, fd, F, b, m⟩ := D
  exact ⟨f, fd, F.okX S len (hbody f), F.kp, b, m⟩
end
section
variable {X : Cx} {k : Nat} {x m : Str} {ps : List Str} {sp : Sp} {o e : Expr} {es : List Expr} {t : TA} {ta : TE} {p pos apos : Pos} {E : XK} {C : Addr} {pl : Sem Bool}
theorem pe_calX (c : CalX X.prog X.w X.K X.mg X.base k x ps sp) (hr : Room k X.A) (hx : Passes (L2.CX X.prog X.w) X E) (ha : PA X (e :: es) t) (hg : Gl X x := by rfl) (hdb : (x == ("__debug__" : Str)) = false := by decide)
    (he : starEach (e :: es) X.env = (false, eval e X.env) :: starEach es X.env := by rfl) (hpl : (backTo pos (starEach es X.env)).any (·.1) = false := by rfl) :
    PE X (.Call (.Name x p) (e :: es) [] pos) (tCall sp [] E t) := by
  obtain ⟨f, fd, F, kp, b, mm⟩ := c
  exact pe_call F hr hg mm kp b .nil hx ha (hdb := hdb) (he := he) (hpl := hpl)
theorem pe_meX (he : PE X o ta) (c : Cls X.K C) (hm : MethX X.prog X.w X.K X.mg X.base C m k ps sp) (hr : Room k X.A) (hx : Passes (L2.CX X.prog X.w) X E) (ha : PA X (e :: es) t)
    (hst : starEach (e :: es) X.env = (false, eval e X.env) :: starEach es X.env := by rfl) (hpl : (backTo pos (starEach es X.env)).any (·.1) = false := by rfl)
    (ht : eval (.Call (.Attribute o m apos) (e :: es) [] pos) X.env = (do let ov ← eval o X.env; standAt apos.atName; let (f, first) ← holding [ov] (getMethod ov m pl); callWith pos f first (backTo pos (starEach (e :: es) X.env)) (backToKw pos (keywordEach [] X.env))) := by rfl) :
    PE X (.Call (.Attribute o m apos) (e :: es) [] pos) (tMeth C m sp [] E ta t) := by
  obtain ⟨f, fd, h1, F, b⟩ := hm
  exact pe_meth he c h1 F hr b .nil hx ha hst hpl ht
/-- what a callee lets out leaves the def too -/
theorem passD (hs : X.stack = X.env :: X.outer) (hf : X.env.frame = some X.env.locals) (hex : X.ex = []) {E₁ : Value → Shared → Prop}
    (hx : X.xe = fun e s' => wpAny (model X.prog X.w) X.A (leaving X.env e) (fun _ s'' => L2.CX X.prog X.w X.outer X.H_0 X.s_0 E e s'') E₁ s') : Passes (L2.CX X.prog X.w) X E :=
  passes_call (takes_of hs hf hex hx) fun _ _ _ _ h => h
end
/-! ### own errors with one field -/
/-- self.f = v, nothing else -/
def spXI (C : Addr) (f : Str) : Sp := fun vs H Q _ => ∃ (a : Addr) (v : V), vs = [.ref a, v] ∧ H a = some (exo a C none) ∧ ∀ dx, H dx = none → dx ≠ a → Q .non (upd (upd H dx (exd dx [(f, v)])) a (exo a C (some dx)))
/-- what the written part says of such a class: its place C, the field's name f -/
structure ErrK (K : PySem.W.Frag) (C : Addr) (f : Str) : Prop where
  o : OexC K C
  no : PySem.W.findIn K (.ref C) f = some none
  x : XfC K C
  c : ExcC K C
/-- the class at C of the name x can be made with one value -/
def ErrOk (P : Program) (w : World) (K : PySem.W.Frag) (mg : Str → Option Value) (base : Heap) (C : Addr) (x f : Str) : Prop :=
  mg x = some (.ref C) ∧ ErrK K C f ∧ ∃ (fI : Addr) (fd : FuncData) (ps : List Str), PySem.W.findIn K (.ref C) "__init__" = some (some (.ref fI)) ∧ PySem.W.typeIn K (.ref fI) = some (.type "function") ∧ FnOk P w K mg base (L2.CX P w) 1 fI fd ps (spXI C f) ∧ Binds K fd ps []
section
variable {X : Cx} {x f : Str} {C : Addr} {e : Expr} {es : List Expr} {t : TA} {p pos : Pos}
theorem pmk_err (h : ErrOk X.prog X.w X.K X.mg X.base C x f) (hr : Room 2 X.A) (ha : PA X (e :: es) t) (hg : Gl X x := by rfl)
    (hdb : (x == ("__debug__" : Str)) = false := by decide) (he : starEach (e :: es) X.env = (false, eval e X.env) :: starEach es X.env := by rfl) (hpl : (backTo pos (starEach es X.env)).any (·.1) = false := by rfl) :
    PMk X (.Call (.Name x p) (e :: es) [] pos) (tMkO C (spXI C f) [] t) := by
  obtain ⟨m, ek, fI, fd, ps, h1, h2, F, b⟩ := h
  exact pmk_oex ek.o h1 h2 F hr b .nil passL hg m ha hdb he hpl
end
theorem Un.swap {H : Hp} {a dx : Addr} {o1 o2 o3 u : HO} (ha : H a = none) (n : dx ≠ a) : upd (del (upd (upd (upd H a o1) dx o2) a o3) a) dx u = upd H dx u := by
  funext b
  by_cases hb : b = dx
  · rw [hb, upd_same, upd_same]
  · rw [upd_ne hb, upd_ne hb]
    by_cases hc : b = a
    · rw [hc, del_same, ha]
    · rw [del_ne hc, upd_ne hc, upd_ne hb, upd_ne hc]
/-- the reading of X(v) behind its value -/
theorem err_made {C : Addr} {f : Str} {v : V} {H : Hp} {Q : XK} (h : ∀ dx, H dx = none → Q (.ref C) (some dx) (upd H dx (.xd [(f, v)]))) :
    ([v] : List V).length ≤ 1000 ∧ ∀ a, H a = none → spXI C f (.ref a :: ([v] ++ [])) (upd H a (exo a C none))
      (fun u H2 => u = .non ∧ ∃ (d : Addr) (fs : List (Str × V)), H2 a = some (exo a C (some d)) ∧ H2 d = some (exd d fs) ∧ H d = none ∧ Q (.ref C) (some d) (upd (del H2 a) d (.xd fs))) (fun _ _ _ => False) := by
  refine ⟨by show 1 ≤ 1000; decide, fun a ha => ⟨a, v, rfl, upd_same, fun dx hd n => ⟨rfl, dx, [(f, v)], upd_same, ?_, ?_, ?_⟩⟩⟩
  · rw [upd_ne n, upd_same]
  · rw [upd_ne n] at hd
    exact hd
  · rw [upd_ne n] at hd
    rw [Un.swap ha n]
    exact h dx hd
/-- E of a def that lets this error out, its value v, from the heap H -/
def Lets (E : XK) (C : Addr) (f : Str) (v : V) (H : Hp) : Prop := ∀ dx, H dx = none → E (.ref C) (some dx) (upd H dx (.xd [(f, v)]))
end Ur
/-! UrE: for i, x in enumerate(t), t a tuple; instances made with a star among the arguments. -/
namespace Ur
open PySem PySem.Spec PyProof.Rows L2
theorem meets_enumerate_newB1 {v : Value} {o : Obj} {H : Heap → Prop} (B : Begins v o H) :
    Meets (Builtin.«enumerate.__new__» ⟨[.type "enumerate", v], []⟩) (fun _ R s => H s.heap ∧
      R (.ok (.ret (.ref (s.heap.push o).objs.size))) { s with heap := (s.heap.push o).push { cls := .type "enumerate", data := .fields #[.none, .bool false, .ref s.heap.objs.size, rawInt 0, .none, .none] } }) :=
  .of_wp fun prog w A R s h => by
    obtain ⟨hp, g, d, tk, os⟩ := s; obtain ⟨h1, h⟩ := h
    have hsub := sub_enumerate
    have q1 : ∀ {A' : Around} {E : Value → Shared → Prop} {Q : Value → Shared → Prop}, Q (.ref hp.objs.size) ⟨hp.push o, g, d, tk, os⟩ → wpAny (model prog w) A' (pyIter v) Q E ⟨hp, g, d, tk, os⟩ :=
      fun q => B.iter prog w _ _ ⟨hp, g, d, tk, os⟩ _ h1 q
    wp_walk using q1
    refine wpAny_stack_any fun st => wpAny_pure ?_
    split
    · rename_i c _ _ _ _ _
      cases (c == Value.type "enumerate")
      · wp_walk using q1
        exact ⟨_, rfl, h⟩
      · wp_walk using q1
        exact ⟨_, rfl, h⟩
    · wp_walk using q1
      exact ⟨_, rfl, h⟩
section
variable {prog : Program} {w : World} {A : Around} {E : Value → Shared → Prop} {s : Shared}
theorem enum_begins1 {v : Value} {o : Obj} {H : Heap → Prop} {Q : Value → Shared → Prop} (B : Begins v o H) (h1 : H s.heap)
    (h : ∀ h', IsEnum h' (s.heap.objs.size + 1) s.heap.objs.size 0 .none → h'.get? s.heap.objs.size = some o → h'.objs.size = s.heap.objs.size + 2 →
      (∀ b o, s.heap.get? b = some o → h'.get? b = some o) → Q (.ref (s.heap.objs.size + 1)) { s with heap := h' }) :
    wpAny (model prog w) A (call (.type "enumerate") [v]) Q E s := by
  refine callType_new F.called_enumerate (by decide) (F.typeCall_enumerate_1 _) (F.newCall_enumerate_1 _) (fun obj => F.args_object_init_2 obj _) F.entry_enumerate_new
    (meets_enumerate_newB1 B) ⟨h1, ?_⟩
  have hz : (s.heap.push o).objs.size = s.heap.objs.size + 1 := Heap.size_push ..
  show _ ∧ _
  rw [hz]
  have he : IsEnum ((s.heap.push o).push { cls := .type "enumerate", data := .fields #[.none, .bool false, .ref s.heap.objs.size, rawInt 0, .none, .none] }) (s.heap.objs.size + 1) s.heap.objs.size 0 .none := by
    have := Heap.get?_push_size (s.heap.push o) (o := { cls := .type "enumerate", data := .fields #[.none, .bool false, .ref s.heap.objs.size, rawInt 0, .none, .none] }) rfl
    rw [hz] at this; exact this
  refine ⟨⟨_, he, rfl⟩, h _ he (Heap.get?_push_of_some _ (Heap.get?_push_size _ B.free)) (by rw [Heap.size_push, hz]) fun b o x => Heap.get?_push_of_some _ (Heap.get?_push_of_some _ x)⟩
end
/-- the tuple at a, each item in a new pair -/
def Ient (K : PySem.W.Frag) (a : Addr) : It :=
  ⟨fun i H => ∃ (xs : List V) (x : V), SqT K H a xs ∧ xs[i]? = some x, fun i H v H' => ∃ T x, v = .ref T ∧ H T = none ∧ H' = upd H T (.tup [.int (i : Nat), x]) ∧ ∀ xs, SqT K H a xs → xs[i]? = some x, fun i H => ∃ xs : List V, SqT K H a xs ∧ xs.length = i⟩
theorem turn_enumT {P : Program} {w : World} {K : PySem.W.Frag} {elts : List Expr} {kk : Nat} {tpos : Pos} (a e it : Addr) :
    Turn P w K (.Tuple elts kk tpos) (Ient K a) [e, it] e (fun i h => (∃ old, IsEnum h e it ((i : Nat) : Int) old) ∧ h.IsTupleIter it a i ∧ e ≠ it ∧ a ≠ it ∧ e ≠ a) where
  mem := by simp
  obj := fun i h st b hb => by
    obtain ⟨⟨old, he⟩, ⟨o, ho, hc, hd⟩, _⟩ := st
    have e' : b = e ∨ b = it := by simpa using hb
    rcases e' with z | z
    · rw [z]; exact ⟨_, he, fun v q => nomatch q⟩
    · rw [z]; exact ⟨o, ho, fun v q => by rw [hd] at q; cases q⟩
  keep := fun i h h' st k => let ⟨⟨old, he⟩, hi, hne⟩ := st; ⟨⟨old, k e (by simp) _ he⟩, hi.at fun o q => k it (by simp) o q, hne⟩
  item := by
    intro X hP hw hK hc i pins s σ H E I hf st hg
    subst hP hw hK
    obtain ⟨⟨old, he⟩, hit, hne, hai, hea⟩ := st
    obtain ⟨xs, x, hq, hx⟩ := hg
    obtain ⟨its, rv, p, hz⟩ := I.tuple hq
    obtain ⟨u, hu, ru⟩ := rv.get hx
    have hi : i < its.toArray.size := by
      have := (List.getElem?_eq_some_iff.mp hu).1
      simpa using this
    have hel : e < s.heap.objs.size := Heap.lt_size he
    have hil : it < s.heap.objs.size := by obtain ⟨_, q, _⟩ := hit; exact Heap.lt_size q
    have D := Draws.tuple (prog := X.prog) (w := X.w) (A := X.A.in1) (I.ok.hd hc) it a hai its.toArray
    refine wpAny_pyNext_enum_itemD D he ⟨hit, p⟩ hi hne (by simp [hne, hea]) fun x0 h' tk hP ho hst' hT hsz hk => ?_
    have ex : x0 = u := by
      have hP : its.toArray[i]? = some x0 := hP
      have h2 : its.toArray[i]? = some u := by simpa using hu
      rw [hP] at h2
      exact Option.some.inj h2
    subst ex
    refine ⟨_, rfl, wpAny_letOwnedTupleGo_enum (s := { s with heap := h', toks := tk + 1 }) ho fun h'' he' sb => ?_⟩
    have hT2 : h''.get? s.heap.objs.size = some { cls := .type "tuple", data := .seq #[.int i tk, x0] } := (sb.2 _ (Nat.ne_of_gt hel)).trans hT
    have new : ObjOk X.prog X.w (upd H s.heap.objs.size (.tup [.int (i : Nat), x])) h'' s.heap.objs.size (.tup [.int (i : Nat), x]) :=
      ⟨by show 2 ≤ sizeLine; decide, [.int i tk, x0], .cons ⟨_, rfl⟩ (.cons ru .nil), ⟨_, hT2, rfl, _, rfl⟩⟩
    have I1 : Inv X pins σ (upd H s.heap.objs.size (.tup [.int (i : Nat), x])) { s with heap := h'', toks := tk + 1 } :=
      I.turnedNew (ch := [e, it]) (fun b ob hb q => (sb.2 b (fun z => hb (by simp [z]))).trans (hk b ob (fun z => hb (by simp [z])) (fun z => hb (by simp [z])) q)) hf (Nat.le_refl _) new
    refine ⟨.ref s.heap.objs.size, _, I1, rfl, ⟨_, x, rfl, I.hok.fresh (Nat.le_refl _), rfl, fun ys hy => by rw [I.tuple_inj hy hq]; exact hx⟩, ⟨⟨x0, ?_⟩, hst'.1.at fun o q => (sb.2 it (Ne.symm hne)).trans q, hne, hai, hea⟩, fun b hb => ?_⟩
    · have e1 : ((i + 1 : Nat) : Int) = (i : Int) + 1 := by omega
      rw [e1]; exact he'
    · have hb' : b < s.heap.objs.size := by
        have e' : b = e ∨ b = it := by simpa using hb
        rcases e' with z | z
        · rw [z]; exact hel
        · rw [z]; exact hil
      rw [upd_ne (Nat.ne_of_lt hb')]
      exact (hf b hb).1
  done := by
    intro X hP hw hK hc i pins s σ H E I hf st hg
    subst hP hw hK
    obtain ⟨⟨old, he⟩, hit, hne, hai, hea⟩ := st
    obtain ⟨xs, hq, hx⟩ := hg
    obtain ⟨its, rv, p, hz⟩ := I.tuple hq
    obtain ⟨f0, f1, f2, f3, f4, f5⟩ := hf it (by simp)
    have hl := rv.length
    have D := Draws.tuple (prog := X.prog) (w := X.w) (A := X.A.in1) (I.ok.hd hc) it a hai its.toArray
    have en : i = its.toArray.size := by simp; omega
    rw [en] at hit
    exact wpAny_pyNext_enum_endD D he ⟨hit, p⟩ fun h' eb => ⟨rfl, I.turned (t' := s.toks) (fun b o hb q => eb b o hb q) f0 f1 f3 f4 f5⟩
  self := fun A i s Q E st h => let ⟨⟨_, he⟩, _⟩ := st; wpAny_pyIter_enum he h
def iEnumT (K : PySem.W.Frag) (ta : TA) : TI := fun σ H R => ta σ H fun vs H1 => ∃ a xs, vs = [.ref a] ∧ SqT K H1 a xs ∧ R (Ient K a) H1
theorem pi_enumT {X : Cx} {e : Expr} {ta : TA} {p pos tpos : Pos} {elts : List Expr} {kk : Nat} (hg : Gl X "enumerate") (hm : X.mg "enumerate" = none) (ha : PA X [e] ta) (hs : starEach [e] X.env = [(false, eval e X.env)] := by rfl) :
    PI X (.Tuple elts kk tpos) (.Call (.Name "enumerate" p) [e] [] pos) (iEnumT X.K ta) := by
  refine ⟨fun pins s σ H R I h => ?_⟩
  refine Call_ (ld_blt I hg hm boot_enumerate (PyProof.Rows.callWith_type1 (thn (ha.run pos pins s σ H _ I h) fun us s1 ⟨vs, H1, I1, r1, q1⟩ => ?_) hs rfl))
  obtain ⟨a, xs, ex, hq, q⟩ := q1
  subst ex
  cases r1 with
  | cons r rr =>
    cases rr
    cases r
    obtain ⟨its, rv, p', hz⟩ := I1.tuple hq
    have p' : s1.heap.IsTuple a its.toArray := p'
    have hal : a < s1.heap.objs.size := by obtain ⟨_, q, _⟩ := p'; exact Heap.lt_size q
    refine enum_begins1 (begins_tuple a its.toArray) p' fun h' he hit hsz hk => wpAny_pyIter_enum he ?_
    have I2 : Inv X pins σ H1 { s1 with heap := h' } := I1.kept (t' := s1.toks) hk
    refine ⟨s1.heap.objs.size + 1, [s1.heap.objs.size + 1, s1.heap.objs.size], _, _, H1, rfl, I2, turn_enumT a (s1.heap.objs.size + 1) s1.heap.objs.size, ⟨⟨.none, he⟩, ⟨_, hit, rfl, rfl⟩, Nat.succ_ne_self _, Nat.ne_of_lt hal, ?_⟩, fun b hb => ?_, q⟩
    · exact fun z => absurd (show s1.heap.objs.size + 1 < s1.heap.objs.size from z ▸ hal) (by omega)
    have e' : b = s1.heap.objs.size + 1 ∨ b = s1.heap.objs.size := by simpa using hb
    have hle : s1.heap.objs.size ≤ b := by
      rcases e' with z | z
      · rw [z]; exact Nat.le_add_right _ _
      · rw [z]; exact Nat.le_refl _
    exact I1.fpOk hle (I1.hok.fresh hle)
theorem walk_enumT {K : PySem.W.Frag} {a : Addr} {xs : List V} : Walk (Ient K a) xs.length (fun H => SqT K H a xs) (YPair (fun i => some (.int (i : Nat))) (fun i => xs[i]?)) := by
  refine ⟨fun i _ hi q => ⟨xs, xs[i], q, by simp [hi]⟩, fun _ q => ⟨xs, q, rfl⟩, fun i H v H' _ q y => ?_⟩
  obtain ⟨T, x, h1, h2, h3, h4⟩ := y
  exact ⟨T, .int (i : Nat), x, h1, h2, h3, rfl, h4 xs q⟩
/-! ### C( *y), C( *y, e) -/
theorem evalArgs_star2 {M : Model} {A : Around} {E : Value → Shared → Prop} {s : Shared} {f : Value} {x : Sem Value} {y : Bool × Sem Value} {rest : List (Bool × Sem Value)} {Q : Args → Shared → Prop}
    (h : wpAny M A (spliced ((true, x) :: y :: rest)) (fun vs s' => Q ⟨vs, []⟩ s') E s) : wpAny M A (evalArgs f true ((true, x) :: y :: rest) []) Q E s := by
  unfold evalArgs
  show wpAny M A (spliced ((true, x) :: y :: rest) >>= _) Q E s
  refine wpAny_bind (wpAny_mono h (fun vs s' h' => ?_) fun _ _ x => x)
  refine wpAny_holding ?_
  exact wpAny_bind (wpAny_pure (wpAny_bind (wpAny_pure (wpAny_pure h'))))
section
variable {X : Cx} {CX : CXT} {k : Nat} {f C : Addr} {sp : Sp} {E : XK} {x : Str} {e e2 : Expr} {te : TE} {t : TA} {p sp_ pos : Pos}
/-- C( *y): a tuple or a list -/
theorem pe_makeS1 (M : Mk X.K C f) (F : FnR X.prog X.w X.K X.mg X.base CX k f sp) (hr : Room (k + 1) X.A) (hg : Gl X x) (hm : X.mg x = some (.ref C)) (hx : Passes CX X E) (he : PE X e te) (hd : (x == ("__debug__" : Str)) = false := by decide)
    (hst : starEach [.Starred e sp_] X.env = [(true, eval e X.env)] := by rfl) :
    PE X (.Call (.Name x p) [.Starred e sp_] [] pos) (fun σ H Q => te σ H fun y H1 => ∃ a xs, y = V.ref a ∧ (SqT X.K H1 a xs ∨ SqL X.K H1 a xs) ∧ ∀ x dx, H1 x = Option.none → H1 dx = Option.none → dx ≠ x →
      sp (V.ref x :: xs) (upd (upd H1 dx (.own x)) x (.ins C dx [])) (fun v H2 => v = .non ∧ Q (.ref x) H2) E) := by
  refine ⟨fun pins s σ H Q I h => ?_⟩
  refine wpAny_Call_Name_kw (ld_glob I hg hm ?_ hd)
  refine PySem.W.callWith_S (h₀ := X.base) I.ok.mod.kin M.kp (thn (he.run pins s σ H _ I h) fun v s1 ⟨y, H1, I1, ry, a, xs, ey, hxs, q⟩ => ?_) hst
  subst ey
  obtain rfl : v = Value.ref a := ry
  exact StX.star_any I1 hxs fun us s2 I2 rv => ⟨I2.kIn, StX.run_makeR M F hr hx I2 rv q⟩
/-- C( *y, e) -/
theorem pe_makeS2 (M : Mk X.K C f) (F : FnR X.prog X.w X.K X.mg X.base CX k f sp) (hr : Room (k + 1) X.A) (hg : Gl X x) (hm : X.mg x = some (.ref C)) (hx : Passes CX X E) (ha : PA X [.Starred e sp_, e2] t) (hd : (x == ("__debug__" : Str)) = false := by decide)
    (hst : starEach [.Starred e sp_, e2] X.env = [(true, eval e X.env), (false, eval e2 X.env)] := by rfl) :
    PE X (.Call (.Name x p) [.Starred e sp_, e2] [] pos) (StX.tMakeR C sp E t) := by
  refine ⟨fun pins s σ H Q I h => ?_⟩
  refine wpAny_Call_Name_kw (ld_glob I hg hm ?_ hd)
  have z := thn (ha.run pos pins s σ H _ I h) fun us s1 ⟨vs, H1, I1, r, q⟩ => (⟨I1.kIn, StX.run_makeR M F hr hx I1 r q⟩ : X.K.In s1.heap ∧ wpAny (model X.prog X.w) X.A (call (.ref C) ([] ++ us)) (EP X pins σ Q) X.xe s1)
  rw [hst] at z ⊢
  exact PySem.W.ks_call rfl (PySem.W.keeps_K M.kp) (evalArgs_star2 z)
/-- C() -/
theorem pe_makeR0 (M : Mk X.K C f) (F : FnR X.prog X.w X.K X.mg X.base CX k f sp) (hr : Room (k + 1) X.A) (hg : Gl X x) (hm : X.mg x = some (.ref C)) (hx : Passes CX X E) (hd : (x == ("__debug__" : Str)) = false := by decide) :
    PE X (.Call (.Name x p) [] [] pos) (fun σ H1 Q => ∀ x dx, H1 x = Option.none → H1 dx = Option.none → dx ≠ x → sp [V.ref x] (upd (upd H1 dx (.own x)) x (.ins C dx [])) (fun v H2 => v = .non ∧ Q (.ref x) H2) E) := by
  refine ⟨fun pins s σ H Q I h => ?_⟩
  refine wpAny_Call_Name_kw (ld_glob I hg hm ?_ hd)
  exact PySem.W.callWith_K0 I.kIn M.kp (StX.run_makeR (us := []) M F hr hx I .nil h)
end
end Ur
/-! UrJ: (a, *b) = a list; a local name that holds a class, called; a text times a number; classmethods in short. -/
namespace Ur
open PySem PySem.Spec PyProof.Rows L2
section
variable {X : Cx} {pos : Pos}
theorem pgs_star {e : Expr} {p : Pos} {es : List Expr} {t : TG} {u : TGs} (h1 : PG X e t) (h2 : PGs X es u)
    (hs : (assignEach (.Starred e p :: es) X.env).map (·.2) = assign e X.env :: (assignEach es X.env).map (·.2) := by rfl) : PGs X (.Starred e p :: es) (gCons t u) := by
  refine ⟨fun pins s σ H vs us Q I r h => ?_⟩
  obtain ⟨v, vr, e1, h⟩ := h
  subst e1
  cases r with
  | cons r rr =>
    rw [hs]
    refine assignInOrder_cons (thn (h1.run pins s σ H _ _ _ I r h) fun _ s1 ⟨σ1, H1, I1, q1⟩ => ?_)
    exact h2.run pins s1 σ1 H1 _ _ Q I1 rr q1
/-- (a, *b) = a list -/
def gHead (K : PySem.W.Frag) (t : TGs) : TG := fun v σ H Q => ∃ a x xs, v = V.ref a ∧ SqL K H a (x :: xs) ∧ xs.length ≤ 16000 ∧ ∀ D, H D = none → t [x, .ref D] σ (upd H D (.lst xs)) Q
theorem pg_head {es : List Expr} {k : Nat} {t : TGs} (hc : X.calm = true) (h : PGs X es t)
    (hn : (assignEach es X.env).length = 2 := by rfl) (hst : (assignEach es X.env).findIdx? (·.1) = some 1 := by rfl) : PG X (.Tuple es k pos) (gHead X.K t) := by
  refine ⟨fun pins s σ H v u Q I r hw => ?_⟩
  obtain ⟨a, x, xs, e1, hq, hz, hw⟩ := hw
  subst e1
  cases r
  obtain ⟨its, rv, pl, hz2⟩ := I.list hq
  have hl : s.heap.IsList a its.toArray := by
    obtain ⟨o, m, e, c, d, q⟩ := pl
    exact ⟨o, e, c, m, q⟩
  cases rv with
  | @cons _ w _ ws r1 rr =>
    have lw : ws.length = xs.length := rr.length.symm
    have hh : X.A.handled = none := I.ok.hd hc
    have nl : a ≠ s.heap.objs.size := by obtain ⟨o, ho, _⟩ := hl; exact Nat.ne_of_lt (Heap.lt_size ho)
    rw [PyProof.Rows.assign_Tuple]
    refine wpAny_bind (wpAny_standAt ?_)
    unfold unpack
    rw [hn, hst]
    refine wpAny_bind (wpAny_holding ?_)
    unfold unpackItems notIterableAtAll
    refine wpAny_bind (wpAny_bind (wpAny_specialOf hl.typeIs slot_list_iter.lookup (wpAny_pure ?_)))
    simp only [Bool.false_eq_true, if_false]
    refine wpAny_bind (wpAny_holding (wpAny_pyIter_list hl ?_))
    refine wpAny_bind (wpAny_holding (PySem.W.kun_draw nl 1 0 _ _ ⟨_, Heap.get?_push_size _ rfl, rfl, rfl⟩ (hl.push _) (by simp) fun h1 it1 sb1 => ?_))
    have hl1 := (hl.push { cls := .type "list_iterator", data := .fields #[.ref a, .int 0 0] }).extBut sb1.extBut nl
    obtain ⟨oi, hoi, _⟩ := id it1
    obtain ⟨ol, hol, _⟩ := id hl1
    have hd : ((w :: ws).toArray.toList.drop 0).take 1 = [w] := by simp
    rw [hd]
    refine wpAny_bind (wpAny_holding (PySem.W.kun_collect (s := { s with heap := h1 }) (T := "list_iterator") (.inr (.inr (.inl rfl))) (Walks.list (A := X.A.in1) hh s.heap.objs.size a nl (w :: ws).toArray) (fun j u st => st.1.typeIs) (k := 1) (by simp) ⟨it1, hl1⟩ (Heap.lt_size hoi) (Heap.lt_size hol) (fun h2 tk k2 => ?_) (by rw [sizeLine_eq, List.size_toArray, List.length_cons]; omega)))
    have hd2 : (w :: ws).toArray.toList.drop 1 = ws := by simp
    rw [hd2]
    refine wpAny_bind (wpAny_newList (items := ws.take (ws.length - (2 - 1 - 1))) ?_ (by rw [List.length_take, sizeLine_eq]; omega))
    have ew : ws.take (ws.length - (2 - 1 - 1)) = ws := by simp
    have I1 : Inv X pins σ H { s with heap := h2, toks := tk } := I.kept (t' := tk) fun b o e => by
      have hb : b ≠ s.heap.objs.size := Nat.ne_of_lt (Heap.lt_size e)
      exact k2 b o hb (sb1.extBut b o hb (Heap.get?_push_of_some _ e))
    have I2 := I1.lnew (t' := tk) rr (by rw [sizeLine_eq]; omega)
    have q := h.run pins _ σ _ [x, .ref h2.objs.size] [w, .ref h2.objs.size] Q I2 (.cons r1 (.cons rfl .nil)) (hw _ (I1.hok.fresh (Nat.le_refl _)))
    rw [ew]
    refine wpAny_pure ?_
    have ed : ws.drop (ws.length - (2 - 1 - 1)) = [] := by simp
    rw [ed]
    exact q
/-- the i-th slot holds the class at C, which is called -/
theorem pe_makeL {CX : CXT} {k i : Nat} {C f : Addr} {fd : FuncData} {ps : List Str} {sp : Sp} {dvs : List V} {ds : List Value} {E : XK} {x : Str} {p pos : Pos} {e : Expr} {es : List Expr} {t : TA}
    (M : Mk X.K C f) (F : FnOk X.prog X.w X.K X.mg X.base CX k f fd ps sp) (hr : Room (k + 1) X.A) (hN : X.N[i]? = some x) (hv : Vis X.env.scope x) (hb : Binds X.K fd ps ds) (hd : Vals dvs ds) (hx : Passes CX X E) (ha : PA X (e :: es) t)
    (hdb : (x == ("__debug__" : Str)) = false := by decide) (hcd : (x == ("__classdict__" : Str)) = false := by decide)
    (he : starEach (e :: es) X.env = (false, eval e X.env) :: starEach es X.env := by rfl) (hpl : (backTo pos (starEach es X.env)).any (·.1) = false := by rfl) :
    PE X (.Call (.Name x p) (e :: es) [] pos) (fun σ H Q => σ[i]? = some (some (.ref C)) ∧ tMake C sp dvs E t σ H Q) := by
  refine ⟨fun pins s σ H Q I h => ?_⟩
  obtain ⟨hs, h⟩ := h
  refine wpAny_Call_Name_kw (thn ((pe_var (pos := p) hN hv hdb hcd).run pins s σ H (fun v H1 => v = .ref C ∧ H1 = H) I ⟨.ref C, hs, rfl, rfl⟩) fun u s1 ⟨v, H1, I1, r1, q1⟩ => ?_)
  obtain ⟨rfl, rfl⟩ := q1
  cases r1
  refine PySem.W.callWith_K (h₀ := X.base) I1.ok.mod.kin M.kp (thn (ha.run pos pins s1 σ _ _ I1 h) fun us s2 ⟨vs, H2, I2, r, q⟩ => ⟨I2.kIn, ?_⟩) he hpl
  exact run_make M F hr hb hd hx I2 r q
end
/-- a text, k times -/
def repT (a : Str) (k : Nat) : Str := ⟨(List.replicate k a.cps).foldl (· ++ ·) #[]⟩
theorem rep_fold (l : List (Array Nat)) : ∀ acc : Array Nat, (l.foldl (· ++ ·) acc).toList = acc.toList ++ (l.map Array.toList).flatten := by
  induction l with
  | nil => intro acc; simp
  | cons x r ih => intro acc; rw [List.foldl_cons, ih, Array.toList_append, List.map_cons, List.flatten_cons, List.append_assoc]
theorem repT_list (a : Str) (k : Nat) : (repT a k).cps.toList = (List.replicate k a.cps.toList).flatten := by
  show ((List.replicate k a.cps).foldl (· ++ ·) #[]).toList = _
  rw [rep_fold, List.map_replicate]
  simp
theorem repT_len (a : Str) (k : Nat) : (repT a k).length = k * a.length := by
  have e : (repT a k).length = (repT a k).cps.toList.length := by rw [Array.length_toList]; rfl
  have e2 : a.length = a.cps.toList.length := by rw [Array.length_toList]; rfl
  rw [e, repT_list, e2]
  simp
def rRepS : R2 := fun x y H Q => ∃ (a : Str) (k : Int), x = .str a ∧ y = .int k ∧ 2 ≤ k ∧ k ≤ 1000 ∧ 1 ≤ a.length ∧ a.length ≤ 1000 ∧ Q (.str (repT a k.toNat)) H
theorem op_repS {X : Cx} : OpR X (binaryOp .Mult) rRepS := by
  intro pins s σ H x y v u Q I rx ry h
  obtain ⟨a, k, rfl, rfl, k1, k2, a1, a2, q⟩ := h
  obtain ⟨t, rfl⟩ := rx
  obtain ⟨t2, rfl⟩ := ry
  have big : a.length * k.toNat ≤ 1000 * 1000 := Nat.mul_le_mul a2 (by omega)
  refine PySem.P.mul_str (by rw [decide_eq_false (show ¬ k < -(2 ^ 63 : Int) by omega), decide_eq_false (show ¬ k ≥ 2 ^ 63 by omega)]; rfl) (fun _ _ => ?_) (fun _ _ => ?_) ?_
  · have e : (1000 : Int) ≤ (2 ^ 63 - 1) / k := by
      rw [Int.le_ediv_iff_mul_le (by omega)]
      omega
    omega
  · unfold Builtin.Str.tooLong
    refine decide_eq_false ?_
    rw [sizeLine_eq]
    omega
  · rw [if_neg (by omega)]
    have e1 : (k == 1) = false := beq_eq_false_iff_ne.mpr (by omega)
    have e2 : (a.length == 0) = false := beq_eq_false_iff_ne.mpr (by omega)
    rw [e1, e2]
    simp only [Bool.or_self, Bool.false_eq_true, if_false]
    refine ⟨?_, ?_⟩
    · have e : (repT a k.toNat).length = k.toNat * a.length := repT_len a _
      show (repT a k.toNat).length ≤ sizeLine
      rw [e, sizeLine_eq, Nat.mul_comm]
      omega
    · exact ⟨.str (repT a k.toNat), H, I.tok _, ⟨_, rfl⟩, q⟩
/-- a classmethod, with what it promises -/
def CMethS (P : Program) (w : World) (K : PySem.W.Frag) (mg : Str → Option Value) (base : Heap) (C : Addr) (m : Str) (k : Nat) (sp : Sp) : Prop := ∃ mc p g, ClX.CRead K C mc ∧ ClX.CMet K C mc m p g ∧ FnR P w K mg base CX0 k g sp
theorem pe_cmethS {X : Cx} {C : Addr} {k : Nat} {sp : Sp} {o e : Expr} {es : List Expr} {m : Str} {pos apos : Pos} {ta : TE} {t : TA} {pl : Sem Bool} (he : PE X o ta) (c : CMethS X.prog X.w X.K X.mg X.base C m k sp) (hr : Room k X.A) (ha : PA X (e :: es) t)
    (hst : starEach (e :: es) X.env = (false, eval e X.env) :: starEach es X.env := by rfl) (hpl : (backTo pos (starEach es X.env)).any (·.1) = false := by rfl)
    (ht : eval (.Call (.Attribute o m apos) (e :: es) [] pos) X.env = (do
      let ov ← eval o X.env
      standAt apos.atName
      let (f, first) ← holding [ov] (getMethod ov m pl)
      callWith pos f first (backTo pos (starEach (e :: es) X.env)) (backToKw pos (keywordEach [] X.env))) := by rfl) :
    PE X (.Call (.Attribute o m apos) (e :: es) [] pos) (ClX.tCMeth C sp E0 ta t) := by
  obtain ⟨mc, p, g, r, cm, F⟩ := c
  exact ClX.pe_cmeth he r cm F hr pass0 ha hst hpl ht
end Ur
/-! UrI: texts of whole numbers: str(i), read again. -/
namespace Ur
open PySem PySem.Spec PyProof.Rows L2 TL PySem.NumText PySem.StrLaws
/-- the signs of i -/
def intL (i : Int) : List Nat := if i < 0 then 45 :: numL i.natAbs else numL i.natAbs
theorem tl_int (i : Int) : tl (toString i : Str) = intL i := by
  unfold intL
  cases i with
  | ofNat n =>
    rw [if_neg (show ¬ Int.ofNat n < 0 from Int.not_lt.mpr (Int.natCast_nonneg n))]
    exact tl_num n
  | negSucc n =>
    rw [if_pos (by omega)]
    have e : (toString (Int.negSucc n) : String) = "-" ++ toString (((n + 1 : Nat)) : Int) := rfl
    have e2 := tl_ofString ("-" ++ toString (((n + 1 : Nat)) : Int))
    have e3 := tl_num (n + 1)
    rw [tl_ofString] at e3
    show tl (Str.ofString (toString (Int.negSucc n))) = _
    rw [e, e2, String.toList_append, List.map_append, e3]
    rfl
theorem intL_free {i : Int} {c : Nat} (h : c ≠ 45) (h2 : c < 48 ∨ 57 < c) : c ∉ intL i := by
  unfold intL
  split
  · intro m
    rcases List.mem_cons.mp m with m | m
    · exact h m
    · exact numL_free h2 m
  · exact numL_free h2
theorem intL_ne (i : Int) : intL i ≠ [] := by
  unfold intL
  split
  · exact List.cons_ne_nil _ _
  · exact numL_ne _
theorem numL_len80 {i : Int} (h : i.natAbs < 10 ^ 80) : (numL i.natAbs).length ≤ 80 := numL_len (by decide) h
theorem intL_len {i : Int} (h : i.natAbs < 10 ^ 80) : (intL i).length ≤ 81 := by
  have := numL_len80 h
  unfold intL
  split
  · rw [List.length_cons]; omega
  · omega
theorem intText_int {i : Int} (h : i.natAbs < 10 ^ 80) : intText? (toString i : Str) = some i := by
  have hl := numL_len80 h
  have ht := tl_int i
  unfold intL at ht
  by_cases c : i < 0
  · rw [if_pos c] at ht
    have z := intText_neg (x := (toString i : Str)) (cs := numL i.natAbs) ht (numL_digits _) (numL_ne _) (by rw [len_tl, ht, List.length_cons]; omega)
    rw [numL_val] at z
    rw [z]
    congr 1
    omega
  · rw [if_neg c] at ht
    have e : (toString i : Str).cps.toList = numL i.natAbs := ht
    have z := intText_digits (x := (toString i : Str)) (by rw [e]; exact numL_digits _) (by rw [e]; exact numL_ne _) (by rw [len_tl, ht]; omega)
    rw [e, numL_val] at z
    rw [z]
    congr 1
    omega
/-- its digits -/
theorem digits_int (i : Int) : tl (Txt.removeprefix (toString i : Str) "-") = numL i.natAbs := by
  have ht := tl_int i
  unfold intL at ht
  have e45 : tl ("-" : Str) = [45] := by rw [show ("-" : Str) = Str.ofString "-" from rfl, tl_ofString]; rfl
  have l1 : ("-" : Str).length = 1 := by rw [len_tl, e45]; rfl
  unfold Txt.removeprefix
  have sub : Builtin.Str.subAt (toString i : Str) "-" 0 = decide (i < 0) := by
    rw [subAt_eq, show (toString i : Str).cps.toList = tl (toString i : Str) from rfl, show ("-" : Str).cps.toList = [45] from e45, l1, List.drop_zero, ht]
    by_cases c : i < 0
    · rw [if_pos c, decide_eq_true c]
      rfl
    · rw [if_neg c, decide_eq_false c]
      cases e : numL i.natAbs with
      | nil => exact absurd e (numL_ne _)
      | cons a r =>
        have := numL_digits i.natAbs a (by rw [e]; exact List.mem_cons_self)
        show ([a] == [45]) = false
        refine beq_eq_false_iff_ne.mpr fun z => ?_
        injection z with z1 z2
        omega
  rw [sub]
  by_cases c : i < 0
  · rw [if_pos c] at ht
    rw [decide_eq_true c]
    show tl (if ((toString i : Str).length - ("-" : Str).length == (toString i : Str).length) = true then _ else _) = _
    have l2 : (toString i : Str).length = (numL i.natAbs).length + 1 := by rw [len_tl, ht]; rfl
    rw [if_neg (by rw [l1, l2]; simp), tl_strSub_end, ht, l1]
    rfl
  · rw [if_neg c] at ht
    rw [decide_eq_false c]
    exact ht
theorem digit_uni : ∀ c : Nat, 48 ≤ c → c ≤ 57 → Unicode.isDigit c = true := by
  have z : ∀ k : Nat, k < 10 → Unicode.isDigit (48 + k) = true := by decide +kernel
  intro c h1 h2
  have e := z (c - 48) (by omega)
  rwa [show 48 + (c - 48) = c by omega] at e
theorem arr_allT {a : Array Nat} {p : Nat → Bool} (h : ∀ c ∈ a.toList, p c = true) : a.all p = true := by
  rw [← Array.all_toList]
  exact List.all_eq_true.mpr h
theorem digits_ascii (i : Int) : Txt.isascii (Txt.removeprefix (toString i : Str) "-") = true := arr_allT fun c hc => by
  have e := digits_int i
  rw [show (Txt.removeprefix (toString i : Str) "-").cps.toList = numL i.natAbs from e] at hc
  have := numL_digits _ c hc
  exact decide_eq_true (by omega)
theorem digits_digit (i : Int) : Txt.isdigit (Txt.removeprefix (toString i : Str) "-") = true := by
  have e := digits_int i
  unfold Txt.isdigit
  rw [Bool.and_eq_true]
  refine ⟨decide_eq_true ?_, arr_allT fun c hc => ?_⟩
  · rw [len_tl, e]
    exact List.length_pos_iff.mpr (numL_ne _)
  · rw [show (Txt.removeprefix (toString i : Str) "-").cps.toList = numL i.natAbs from e] at hc
    have := numL_digits _ c hc
    exact digit_uni c this.1 this.2
theorem digits_len {i : Int} (h : i.natAbs < 10 ^ 80) : (Txt.removeprefix (toString i : Str) "-").length ≤ 80 := by
  rw [len_tl, digits_int]
  exact numL_len80 h
end Ur
/-! UrO: operators of own classes: + with another own class at its right, ==, != with both answers, in, len, [..]; == and != of tuples whose items have an own ==. -/
namespace PySem.W
open PySem PySem.Calls PyProof.Rows Builtin
section
variable {prog : Program} {w : World} {A : Around} {E : Value → Shared → Prop} {s : Shared} {K : Frag} {x C C2 L f f2 : Addr} {h₀ : Heap} {m : Str → Option Value} {ox : Obj} {od : Option Obj} {b tb : Value}
/-- a + b, b of another own class that has the operator too, but not the reflected one -/
theorem ur_binC {op : Operator} {Q : Value → Shared → Prop} (F : Fr h₀ L s.heap m) (X₀ : K.In h₀) (I : InstAt s.heap x ox C od) (hb : Looks (model prog w) s.heap (typeOf b) (.ref C2)) (hc : selfFirst K C = true) (hc2 : selfFirst K C2 = true) (hne : C ≠ C2)
    (hs : findIn K (.ref C) (PySem.dunder op.info.2) = some (some (.ref f))) (hf : isFn K (.ref f) = true) (hr : findIn K (.ref C) (dunderR op.info.2) = some none)
    (hs2 : findIn K (.ref C2) (PySem.dunder op.info.2) = some (some (.ref f2))) (hr2 : findIn K (.ref C2) (dunderR op.info.2) = some none) (hsub : subIn K (.ref C2) (.ref C) = some false)
    (h : wpAny (model prog w) A (call (.ref f) [.ref x, b]) (CmpBack Q) E s) : wpAny (model prog w) A (binaryOp op (.ref x) b) Q E s := by
  have X := X₀.keeps F.keep
  obtain ⟨cd, rest, hcd, hm⟩ := ksp_first hc
  obtain ⟨cd2, rest2, hcd2, hm2⟩ := ksp_first hc2
  rcases hi : op.info with ⟨sym, nm'⟩
  rw [hi] at hs hr hs2 hr2
  dsimp only at hs hr hs2 hr2
  have one := ksp_try X I hs hf h
  obtain ⟨hh, g, d, tt, os⟩ := s
  have L1 : Looks (model prog w) hh (typeOf (.ref x)) (.ref C) := I.type
  have L2 : Looks (model prog w) hh (typeOf b) (.ref C2) := hb
  have L3 : Looks (model prog w) hh (fillsNumberSlot (.ref C) nm') true := fills_K X hcd hm hs
  have L4 : Looks (model prog w) hh (fillsNumberSlot (.ref C2) nm') true := fills_K X hcd2 hm2 hs2
  have L5 : Looks (model prog w) hh (isSubtype (.ref C2) (.ref C)) false := looks_subIn X hsub
  have L6 : Looks (model prog w) hh (numberSlotInPython (.ref C) nm') true := ksp_inPy X hs hr (.inl rfl)
  have L7 : Looks (model prog w) hh (numberSlotInPython (.ref C2) nm') true := ksp_inPy X hs2 hr2 (.inl rfl)
  have hne : (Value.ref C == Value.ref C2) = false := Bool.eq_false_iff.mpr fun q => by cases beq_iff_eq.mp q; exact hne rfl
  simp only [binaryOp, hi]
  refine wpAny_holding (wpAny_bind ?_)
  unfold binaryOp1
  refine wpAny_bind (L1.at (wpAny_bind (L2.at (wpAny_bind (L3.at ?_)))))
  simp only [hne, Bool.false_eq_true, if_false]
  ksp_lk
  refine wpAny_mono one (fun r s' hr' => ?_) fun _ _ e => e
  obtain ⟨v, rfl, hq⟩ := hr'
  ksp_lk
  exact hq
/-- a builtin slot of an own class, asked for -/
theorem ur_ifBound {name : Str} {id : String} {args : List Value} {M : Model} {Q : Option Value → Shared → Prop} (X : K.In s.heap) (I : InstAt s.heap x ox C od) (hs : findIn K (.ref C) name = some (some (.builtin id)))
    (hb : ∀ self, bindSpecial (.builtin id) self = pure (.builtin id, [self])) (h : wpAny M A (call (.builtin id) (.ref x :: args)) (fun v => Q (some v)) E s) : wpAny M A (callSpecialIfBound? (.ref x) name args) Q E s := by
  simp only [callSpecialIfBound?, bindSpecialIfBound?]
  refine wpAny_holding (wpAny_bind (wpAny_bind (wpAny_bind (I.type.here ((looks_findIn X hs).here ?_)))))
  refine wpAny_bind (wpAny_askSetting (wpAny_ite ?_))
  have fin : wpAny M A (call (.builtin id) ([.ref x] ++ args) >>= fun v => pure (some v)) Q E s := wpAny_bind (wpAny_mono h (fun v s' h' => wpAny_pure h') fun _ _ h' => h')
  split
  · exact wpAny_bind (wpAny_of_eq (hb _) (wpAny_pure (by exact fin)))
  · exact wpAny_tryCatch (wpAny_bind (wpAny_of_eq (hb _) (wpAny_pure (by exact fin))))
/-- a != b by an own == that answers True or False -/
theorem ur_ne {Q : Value → Shared → Prop} (hu : A.units + 1 < cLine) (X : K.In s.heap) (I : InstAt s.heap x ox C od) (hb : Looks (model prog w) s.heap (typeOf b) tb) (hn : notFirst K C tb = true) (hm : mroIn K C (.type "object") = some true)
    (hs : findIn K (.ref C) "__eq__" = some (some (.ref f))) (hf : isFn K (.ref f) = true) (hne : findIn K (.ref C) "__ne__" = some (some (.builtin "object.__ne__")))
    (h : wpAny (model prog w) A.in1 (call (.ref f) [.ref x, b]) (fun v s' => ∃ c, v = .bool c ∧ Q (.bool (!c)) s') E s) : wpAny (model prog w) A (richCompare .NotEq (.ref x) b) Q E s := by
  have one : wpAny (model prog w) A (tryCompare (.ref x) "__ne__" b) (fun r s' => ∃ v, r = some v ∧ Q v s') E s := by
    unfold tryCompare
    refine wpAny_bind (ur_ifBound X I hne (fun self => F.cmp_object.ne.bind self) (wpAny_call (codeAny_call_builtin F.cmp_object.ne.plain F.cmpEntry_ne (check_slot F.cmpKind_ne F.cmpSplit_ne (I.type.andThen (looks_mroIn X hm)) (F.cmpArgs_ne _ _) ?_))))
    unfold Builtin.«object.__ne__»
    refine wpAny_bind (m := slotArgs "__ne__" 1 _) (wpAny_pure ?_)
    refine wpAny_bind (m := cRoomFor _ _) (wpAny_cRoomFor (Nat.lt_of_le_of_lt (by first | exact Nat.le_refl _ | exact Nat.le_succ _) hu) ?_)
    refine wpAny_bind (m := callSpecialIfBound? (.ref x) (Str.ofString "__eq__") [b]) (ifBound_K X I hs hf (wpAny_mono h (fun r s' hq => ?_) fun _ _ y => y))
    obtain ⟨c, rfl, q⟩ := hq
    refine wpAny_bind (m := truthy (.bool c)) (wpAny_truthy_bool ?_)
    exact wpAny_pure (wpAny_pure ⟨_, rfl, q⟩)
  unfold richCompare
  simp only [oneThing_ref]
  refine wpAny_holding (wpAny_bind (wpAny_cRoomFor (Nat.lt_of_succ_lt hu) ?_))
  refine wpAny_bind (I.type.here (wpAny_bind (hb.here ?_)))
  split
  · rename_i q
    have e : subIn K tb (.ref C) = some false := by
      rcases Bool.or_eq_true_iff.mp hn with e | e
      · rw [beq_iff_eq.mp e] at q; simp at q
      · exact beq_iff_eq.mp e
    refine wpAny_bind ((looks_subIn X e).here ?_)
    simp only [Bool.false_eq_true, if_false]
    refine wpAny_bind (wpAny_mono one (fun r s' z => ?_) fun _ _ e => e)
    obtain ⟨v, rfl, hq⟩ := z
    exact wpAny_pure hq
  · refine wpAny_bind (wpAny_pure ?_)
    simp only [Bool.false_eq_true, if_false]
    refine wpAny_bind (wpAny_mono one (fun r s' z => ?_) fun _ _ e => e)
    obtain ⟨v, rfl, hq⟩ := z
    exact wpAny_pure hq
end
end PySem.W
/-! UrQ: == and != of tuples whose items have an own ==, with both answers. -/
namespace GQ
open PySem PySem.SeqAt
open AutoSeq1 (wpAny_loadPart')
open MeetsSeq MeetsSeq2 MeetsSeq3 SeqRoads2
section
variable {prog : Program} {w : World} {A : Around} {R : Result → Shared → Prop}
theorem tuple_eqB (l b : Addr) (items items2 : Array Value) (n n2 : Nat) (dd dd2 : Option Addr) (sl sl2 : Array (Option Value)) (e : Nat → Bool) (I : Nat → Shared → Prop)
    (turn : ∀ i (h1 : i < items.size) (h2 : i < items2.size) s, I i s → wpAny (model prog w) A.in1 (eqBool items[i] items2[i]) (fun r s' => r = e i ∧ I (i + 1) s') (fun e s' => R (.error e) s') s)
    (fin : ∀ i s, I i s → R (.ok (.ret (.bool ((List.range (min items.size items2.size)).all e && items.size == items2.size)))) s) {s : Shared}
    (hl : s.heap.get? l = some { cls := .type "tuple", dict := dd, data := .seq items n, slots := sl }) (hb : s.heap.get? b = some { cls := .type "tuple", dict := dd2, data := .seq items2 n2, slots := sl2 }) (h : I 0 s) :
    wpAny (model prog w) A.in1 (Builtin.«tuple.__eq__» ⟨[.ref l, .ref b], []⟩) (FinOf prog w A R) (fun e s' => R (.error e) s') s := by
  have f2 := AutoSeq1.sub_tuple_tuple
  have hZ : (items.toList.zip items2.toList).length = min items.size items2.size := by simp
  have h0 := h
  obtain ⟨hp, g, d, tk, os⟩ := s
  wp_walk using wpAny_loadPart' hl, wpAny_loadPart' hb, wpAny_forIn_list _ (fun rest b s' => b.1 = none ∧ ∃ i, rest = (items.toList.zip items2.toList).drop i ∧ I i s' ∧
    ((List.range (min items.size items2.size)).all e && items.size == items2.size) = (((List.range (min items.size items2.size)).drop i).all e && items.size == items2.size)) _
  case turn =>
    rintro ⟨y, x⟩ rest b s' ⟨hb', i, hz, hI, hR⟩
    have hlt : i < (items.toList.zip items2.toList).length := by
      rcases Nat.lt_or_ge i (items.toList.zip items2.toList).length with h' | h'
      · exact h'
      · rw [List.drop_of_length_le h'] at hz; cases hz
    have hm : i < min items.size items2.size := hZ ▸ hlt
    have h1 : i < items.size := Nat.lt_of_lt_of_le hm (Nat.min_le_left _ _)
    have h2 : i < items2.size := Nat.lt_of_lt_of_le hm (Nat.min_le_right _ _)
    rw [List.drop_eq_getElem_cons hlt] at hz
    injection hz with hyx hrest
    have hy : y = items[i] := by have := congrArg Prod.fst hyx; simpa using this
    have hx : x = items2[i] := by have := congrArg Prod.snd hyx; simpa using this
    subst hy hx
    have hd : (List.range (min items.size items2.size)).drop i = i :: (List.range (min items.size items2.size)).drop (i + 1) := by simp [List.drop_eq_getElem_cons, hm]
    rw [hd, List.all_cons] at hR
    refine wpAny_bind (wpAny_mono (turn i h1 h2 s' hI) (fun r s2 q2 => ?_) fun _ _ x => x)
    obtain ⟨hr, q2⟩ := q2
    subst hr
    cases hy : e i with
    | true =>
      rw [hy] at hR
      wp_walk
      exact ⟨rfl, i + 1, hrest, q2, by simpa using hR⟩
    | false =>
      rw [hy] at hR
      wp_walk
      have z := fin _ _ q2
      rw [hR] at z
      simpa using z
  case fin =>
    rintro ⟨b1, b2⟩ s' ⟨hb', i, hz, hI, hR⟩
    simp only at hb'
    subst hb'
    have hge : min items.size items2.size ≤ i := by
      rcases Nat.lt_or_ge i (items.toList.zip items2.toList).length with h' | h'
      · rw [List.drop_eq_getElem_cons h'] at hz; cases hz
      · exact hZ ▸ h'
    rw [List.drop_of_length_le (by simpa using hge)] at hR
    wp_walk
    have z := fin _ _ hI
    rw [hR] at z
    simpa [Builtin.Tuple.tupleCompareSizes] using z
  case h =>
    exact ⟨rfl, 0, rfl, h0, by simp⟩
theorem tuple_neB (l b : Addr) (items items2 : Array Value) (n n2 : Nat) (dd dd2 : Option Addr) (sl sl2 : Array (Option Value)) (e : Nat → Bool) (I : Nat → Shared → Prop)
    (turn : ∀ i (h1 : i < items.size) (h2 : i < items2.size) s, I i s → wpAny (model prog w) A.in1 (eqBool items[i] items2[i]) (fun r s' => r = e i ∧ I (i + 1) s') (fun e s' => R (.error e) s') s)
    (fin : ∀ i s, I i s → R (.ok (.ret (.bool (!((List.range (min items.size items2.size)).all e && items.size == items2.size))))) s) {s : Shared}
    (hl : s.heap.get? l = some { cls := .type "tuple", dict := dd, data := .seq items n, slots := sl }) (hb : s.heap.get? b = some { cls := .type "tuple", dict := dd2, data := .seq items2 n2, slots := sl2 }) (h : I 0 s) :
    wpAny (model prog w) A.in1 (Builtin.«tuple.__ne__» ⟨[.ref l, .ref b], []⟩) (FinOf prog w A R) (fun e s' => R (.error e) s') s := by
  have f2 := AutoSeq1.sub_tuple_tuple
  have hZ : (items.toList.zip items2.toList).length = min items.size items2.size := by simp
  have h0 := h
  obtain ⟨hp, g, d, tk, os⟩ := s
  wp_walk using wpAny_loadPart' hl, wpAny_loadPart' hb, wpAny_forIn_list _ (fun rest b s' => b.1 = none ∧ ∃ i, rest = (items.toList.zip items2.toList).drop i ∧ I i s' ∧
    ((List.range (min items.size items2.size)).all e && items.size == items2.size) = (((List.range (min items.size items2.size)).drop i).all e && items.size == items2.size)) _
  case turn =>
    rintro ⟨y, x⟩ rest b s' ⟨hb', i, hz, hI, hR⟩
    have hlt : i < (items.toList.zip items2.toList).length := by
      rcases Nat.lt_or_ge i (items.toList.zip items2.toList).length with h' | h'
      · exact h'
      · rw [List.drop_of_length_le h'] at hz; cases hz
    have hm : i < min items.size items2.size := hZ ▸ hlt
    have h1 : i < items.size := Nat.lt_of_lt_of_le hm (Nat.min_le_left _ _)
    have h2 : i < items2.size := Nat.lt_of_lt_of_le hm (Nat.min_le_right _ _)
    rw [List.drop_eq_getElem_cons hlt] at hz
    injection hz with hyx hrest
    have hy : y = items[i] := by have := congrArg Prod.fst hyx; simpa using this
    have hx : x = items2[i] := by have := congrArg Prod.snd hyx; simpa using this
    subst hy hx
    have hd : (List.range (min items.size items2.size)).drop i = i :: (List.range (min items.size items2.size)).drop (i + 1) := by simp [List.drop_eq_getElem_cons, hm]
    rw [hd, List.all_cons] at hR
    refine wpAny_bind (wpAny_mono (turn i h1 h2 s' hI) (fun r s2 q2 => ?_) fun _ _ x => x)
    obtain ⟨hr, q2⟩ := q2
    subst hr
    cases hy : e i with
    | true =>
      rw [hy] at hR
      wp_walk
      exact ⟨rfl, i + 1, hrest, q2, by simpa using hR⟩
    | false =>
      rw [hy] at hR
      wp_walk
      have z := fin _ _ q2
      rw [hR] at z
      simpa using z
  case fin =>
    rintro ⟨b1, b2⟩ s' ⟨hb', i, hz, hI, hR⟩
    simp only at hb'
    subst hb'
    have hge : min items.size items2.size ≤ i := by
      rcases Nat.lt_or_ge i (items.toList.zip items2.toList).length with h' | h'
      · rw [List.drop_eq_getElem_cons h'] at hz; cases hz
      · exact hZ ▸ h'
    rw [List.drop_of_length_le (by simpa using hge)] at hR
    wp_walk
    have z := fin _ _ hI
    rw [hR] at z
    simpa [Builtin.Tuple.tupleCompareSizes, bne] using z
  case h =>
    exact ⟨rfl, 0, rfl, h0, by simp⟩
end
section
variable {prog : Program} {w : World} {A : Around} {E : Value → Shared → Prop} {s : Shared}
theorem rc_tupEqB {l b : Addr} {items items2 : Array Value} {Q : Value → Shared → Prop} (e : Nat → Bool) (hu : A.units < cLine) (I : Nat → Shared → Prop) (hl : s.heap.IsTuple l items) (hb : s.heap.IsTuple b items2)
    (turn : ∀ i (h1 : i < items.size) (h2 : i < items2.size) s, I i s → wpAny (model prog w) A.in1 (eqBool items[i] items2[i]) (fun r s' => r = e i ∧ I (i + 1) s') E s)
    (fin : ∀ i s, I i s → Q (.bool ((List.range (min items.size items2.size)).all e && items.size == items2.size)) s) (h : I 0 s) : wpAny (model prog w) A (richCompare .Eq (.ref l) (.ref b)) Q E s := by
  obtain ⟨⟨cls, dd, data, sl⟩, ho, hc, n, hd⟩ := id hl
  obtain ⟨⟨cls2, dd2, data2, sl2⟩, ho2, hc2, n2, hd2⟩ := id hb
  simp only at hc hd hc2 hd2
  subst hc hd hc2 hd2
  refine wpAny_richCompare_same_room (op := .Eq) ⟨_, ho, rfl⟩ ⟨_, ho2, rfl⟩ F.slot_tuple_eq (call_here F.slot_tuple_eq ⟨_, ho, rfl⟩ F.entry_tuple_eq (F.args_tuple_eq_2 _ _) ?_) hu
  exact tuple_eqB (R := wants (fun v s' => v ≠ .notImplemented ∧ Q v s') E) l b items items2 n n2 dd dd2 sl sl2 e I turn (fun i s' q => ⟨(fun x => nomatch x), fin i s' q⟩) ho ho2 h
theorem rc_tupNeB {l b : Addr} {items items2 : Array Value} {Q : Value → Shared → Prop} (e : Nat → Bool) (hu : A.units < cLine) (I : Nat → Shared → Prop) (hl : s.heap.IsTuple l items) (hb : s.heap.IsTuple b items2)
    (turn : ∀ i (h1 : i < items.size) (h2 : i < items2.size) s, I i s → wpAny (model prog w) A.in1 (eqBool items[i] items2[i]) (fun r s' => r = e i ∧ I (i + 1) s') E s)
    (fin : ∀ i s, I i s → Q (.bool (!((List.range (min items.size items2.size)).all e && items.size == items2.size))) s) (h : I 0 s) : wpAny (model prog w) A (richCompare .NotEq (.ref l) (.ref b)) Q E s := by
  obtain ⟨⟨cls, dd, data, sl⟩, ho, hc, n, hd⟩ := id hl
  obtain ⟨⟨cls2, dd2, data2, sl2⟩, ho2, hc2, n2, hd2⟩ := id hb
  simp only at hc hd hc2 hd2
  subst hc hd hc2 hd2
  refine wpAny_richCompare_same_room (op := .NotEq) ⟨_, ho, rfl⟩ ⟨_, ho2, rfl⟩ F.slot_tuple_ne (call_here F.slot_tuple_ne ⟨_, ho, rfl⟩ F.entry_tuple_ne (F.args_tuple_ne_2 _ _) ?_) hu
  exact tuple_neB (R := wants (fun v s' => v ≠ .notImplemented ∧ Q v s') E) l b items items2 n n2 dd dd2 sl sl2 e I turn (fun i s' q => ⟨(fun x => nomatch x), fin i s' q⟩) ho ho2 h
end
end GQ
/-! UrV: the rules for == and != of own instances and of tuples of them, for in, len and [..] of own instances. -/
namespace Ur
open PySem PySem.Spec PyProof.Rows L2
/-- x == y is b, by the abstract heap -/
abbrev EqvB := V → V → Bool → Hp → Prop
def MonB (D : EqvB) : Prop := ∀ x y b H H', Ext H H' → D x y b H → D x y b H'
def EqB (X : Cx) (n : Nat) (D : EqvB) : Prop :=
  ∀ (A : Around) (pins : List (Addr × Obj)) (s : Shared) (σ : L2.St) (H : Hp) (x y : V) (b : Bool) (u v : Value), Sub X n A → Inv X pins σ H s → L2.RelV x u → L2.RelV y v → D x y b H →
    wpAny (model X.prog X.w) A (eqBool u v) (fun r s' => r = b ∧ ∃ H', Inv X pins σ H' s' ∧ Ext H H') X.xe s
def RcB (X : Cx) (n : Nat) (op : CmpOp) (g : Bool → Bool) (D : EqvB) : Prop :=
  ∀ (A : Around) (pins : List (Addr × Obj)) (s : Shared) (σ : L2.St) (H : Hp) (x y : V) (b : Bool) (u v : Value), Sub X n A → Inv X pins σ H s → L2.RelV x u → L2.RelV y v → D x y b H →
    wpAny (model X.prog X.w) A (richCompare op u v) (fun r s' => r = .bool (g b) ∧ ∃ H', Inv X pins σ H' s' ∧ Ext H H') X.xe s
section
variable {X : Cx} {n m : Nat} {D : EqvB}
theorem look_ref {M : Model} {h : Heap} {a : Addr} {o : Obj} {t : Value} (ho : h.get? a = some o) (hc : o.cls = t) : PySem.W.Looks M h (typeOf (.ref a)) t := fun A Q E s k q => wpAny_typeOf_ref (k _ _ ho) (by rw [hc]; exact q)
/-- of what kind a value is -/
inductive Knd (H : Hp) : V → Value → Prop where
  | non : Knd H .non (.type "NoneType")
  | bl (x : Bool) : Knd H (.bl x) (.type "bool")
  | int (i : Int) : Knd H (.int i) (.type "int")
  | str (x : Str) : Knd H (.str x) (.type "str")
  | lst {a : Addr} {xs : List V} (e : H a = some (.lst xs)) : Knd H (.ref a) (.type "list")
  | tup {a : Addr} {xs : List V} (e : H a = some (.tup xs)) : Knd H (.ref a) (.type "tuple")
  | dK {a : Addr} {kvs : List (Key × V)} (e : H a = some (.dK kvs)) : Knd H (.ref a) (.type "dict")
  | ins {a C dx : Addr} {fs : List (Str × V)} (e : H a = some (.ins C dx fs)) : Knd H (.ref a) (.ref C)
theorem Knd.ext {H H' : Hp} {y : V} {t : Value} (k : Knd H y t) (e : Ext H H') : Knd H' y t := by
  cases k with
  | non => exact .non
  | bl x => exact .bl x
  | int i => exact .int i
  | str x => exact .str x
  | lst h => exact .lst (e _ _ h)
  | tup h => exact .tup (e _ _ h)
  | dK h => exact .dK (e _ _ h)
  | ins h => exact .ins (e _ _ h)
theorem ty_looks {M : Model} {pins : List (Addr × Obj)} {s : Shared} {σ : L2.St} {H : Hp} {y : V} {v t : Value} (I : Inv X pins σ H s) (r : L2.RelV y v) (ty : Knd H y t) : PySem.W.Looks M s.heap (typeOf v) t := by
  cases ty with
  | non => obtain rfl : v = Value.none := r; exact PySem.W.Looks.of_pure rfl
  | bl x => obtain rfl : v = Value.bool x := r; exact PySem.W.Looks.of_pure rfl
  | int i => obtain ⟨tk, rfl⟩ := (show ∃ tk, v = Value.int i tk from r); exact PySem.W.Looks.of_pure rfl
  | str z => obtain ⟨tk, rfl⟩ := (show ∃ tk, v = Value.str z tk from r); exact PySem.W.Looks.of_pure rfl
  | @lst a xs e =>
    obtain rfl : v = Value.ref a := r
    obtain ⟨_, its, m, rv, g⟩ := (show ObjOk X.prog X.w H s.heap a (.lst xs) from I.hok a _ e)
    exact look_ref g rfl
  | @tup a xs e =>
    obtain rfl : v = Value.ref a := r
    obtain ⟨_, its, rv, o, g, gc, m, gd⟩ := (show ObjOk X.prog X.w H s.heap a (.tup xs) from I.hok a _ e)
    exact look_ref g gc
  | @dK a kvs e =>
    obtain rfl : v = Value.ref a := r
    obtain ⟨_, nsys, kv, rk, o, es0, ep, g, ex, gd, _, prs, _⟩ := dk_of I.hok e
    exact look_ref g ex.1
  | @ins a C dx fs e =>
    obtain rfl : v = Value.ref a := r
    obtain ⟨mA, J0, _⟩ := ins_get I.hok e
    obtain ⟨od, J, _⟩ := J0.look
    exact J.type
/-- what the own == of a class says of a and y -/
abbrev Says := Addr → V → Bool → Hp → Prop
def spEqB (R : Says) : Sp := fun vs H Q _ => ∃ a y b, vs = [.ref a, y] ∧ R a y b H ∧ ∀ H', Ext H H' → Q (.bl b) H'
/-- a class with an own ==, without an own != -/
def EqC (P : Program) (w : World) (K : PySem.W.Frag) (mg : Str → Option Value) (base : Heap) (C : Addr) (k : Nat) (R : Says) : Prop :=
  ∃ f fd ps, PySem.W.findIn K (.ref C) "__eq__" = some (some (.ref f)) ∧ PySem.W.isFn K (.ref f) = true ∧ FnOk P w K mg base CX0 k f fd ps (spEqB R) ∧ Binds K fd ps [] ∧
    PySem.W.findIn K (.ref C) "__ne__" = some (some (.builtin "object.__ne__")) ∧ PySem.W.mroIn K C (.type "object") = some true
def DOwn (K : PySem.W.Frag) (C : Addr) (R : Says) : EqvB := fun x y b H => ∃ a dx fs t, x = .ref a ∧ H a = some (.ins C dx fs) ∧ Knd H y t ∧ PySem.W.notFirst K C t = true ∧ R a y b H
theorem own_run {f : Addr} {fd : FuncData} {ps : List Str} {R : Says} (F : FnOk X.prog X.w X.K X.mg X.base CX0 n f fd ps (spEqB R)) (hb : Binds X.K fd ps []) {A : Around} {pins : List (Addr × Obj)} {s : Shared} {σ : L2.St} {H : Hp} {a : Addr} {y : V} {b : Bool} {v : Value} (sb : Sub X n A) (I : Inv X pins σ H s) (ry : L2.RelV y v) (hr : R a y b H)
    {Q : Value → Shared → Prop} (q : ∀ s' H', Inv X pins σ H' s' → Ext H H' → Q (.bool b) s') : wpAny (model X.prog X.w) A (call (.ref f) [.ref a, v]) Q X.xe s := by
  have hsp : spEqB R [.ref a, y] H (fun v H' => v = .bl b ∧ Ext H H') E0 := ⟨a, y, b, rfl, hr, fun H' e => ⟨rfl, e⟩⟩
  have e0 : Env0 X.prog X.w X.K X.mg X.base A X.stack s H := by
    have e := I.env0
    exact ⟨by rw [sb.fr]; exact e.frames, e.mod, e.bs, e.bsz, e.funs, e.frf, e.hok, e.bare⟩
  have hl := F.len _ _ _ _ hsp
  have r2 : Vals [V.ref a, y] [Value.ref a, v] := .cons rfl (.cons ry .nil)
  refine wpAny_call (codeAny_mono (F.run A X.stack s H ⟨[.ref a, v], []⟩ [.ref a, v] [.ref a, y] _ E0 sb.room e0 (by
    have := hb s [.ref a, v] I.kIn (by simpa using hl)
    simpa using this) r2 hsp) fun r s' hq => ?_)
  cases r with
  | error e => exact pass0 pins σ H s e s' I hq
  | ok fl =>
    cases fl with
    | ret w =>
      obtain ⟨z, H', I', rz, ez, ex⟩ := I.after hq
      subst ez
      cases rz
      exact q s' H' I' ex
    | next => exact False.elim hq
    | brk => exact False.elim hq
    | cont => exact False.elim hq
theorem rcB_own {C : Addr} {R : Says} (h : EqC X.prog X.w X.K X.mg X.base C n R) : RcB X n .Eq id (DOwn X.K C R) := by
  obtain ⟨f, fd, ps, hs, hf, F, hb, _, _⟩ := h
  intro A pins s σ H x y b u v sb I rx ry d
  obtain ⟨a, dx, fs, t, rfl, ha, hk, hn, hr⟩ := d
  cases rx
  obtain ⟨mA, J0, _⟩ := ins_get I.hok ha
  obtain ⟨od, J, _⟩ := J0.look
  obtain ⟨m, hF⟩ := I.fr
  refine PySem.W.cmp_K (op := .Eq) (tb := t) sb.room.units0 hF I.ok.mod.kin J (ty_looks I ry hk) hn hs hf ?_
  exact own_run F hb sb I ry hr fun s' H' I' ex => ⟨rfl, H', I', ex⟩
theorem rcB_ownNe {C : Addr} {R : Says} (h : EqC X.prog X.w X.K X.mg X.base C n R) : RcB X (n + 1) .NotEq (!·) (DOwn X.K C R) := by
  obtain ⟨f, fd, ps, hs, hf, F, hb, hne, hm⟩ := h
  intro A pins s σ H x y b u v sb I rx ry d
  obtain ⟨a, dx, fs, t, rfl, ha, hk, hn, hr⟩ := d
  cases rx
  obtain ⟨mA, J0, _⟩ := ins_get I.hok ha
  obtain ⟨od, J, _⟩ := J0.look
  refine PySem.W.ur_ne (hu_of sb.room) I.kIn J (ty_looks I ry hk) hn hm hs hf hne ?_
  exact own_run F hb sb.in1 I ry hr fun s' H' I' ex => ⟨b, rfl, rfl, H', I', ex⟩
/-- within a list or tuple: the same object is equal to itself -/
theorem RcB.eqB (h : RcB X n .Eq id D) (hr : ∀ x y b H, D x y b H → ∃ a c, x = .ref a ∧ y = .ref c) (hs : ∀ a b H, D (.ref a) (.ref a) b H → b = true) : EqB X n D := by
  intro A pins s σ H x y b u v sb I rx ry d
  obtain ⟨a, c, rfl, rfl⟩ := hr _ _ _ _ d
  cases rx
  cases ry
  by_cases hab : a = c
  · subst hab
    obtain rfl := hs _ _ _ d
    exact SeqAt.EqAt.same (A := A) (s := s) (.ref a) X.prog X.w X.xe _ ⟨rfl, H, I, Ext.rfl'⟩
  · refine GQ.eqBool_refG hab (wpAny_mono (h A pins s σ H (.ref a) (.ref c) b _ _ sb I rfl rfl d) (fun r s' q => ?_) fun _ _ x => x)
    obtain ⟨hr', q⟩ := q
    exact ⟨b, hr', rfl, q⟩
/-- item by item: e says of the i-th -/
def PrsB (D : EqvB) (xs ys : List V) (e : Nat → Bool) (H : Hp) : Prop := ∀ (i : Nat) x y, xs[i]? = some x → ys[i]? = some y → D x y (e i) H
def allB (e : Nat → Bool) (m k : Nat) : Bool := (List.range (min m k)).all e && m == k
def DTupB (K : PySem.W.Frag) (D : EqvB) : EqvB := fun x y b H => ∃ a c xs ys e, x = .ref a ∧ y = .ref c ∧ SqT K H a xs ∧ SqT K H c ys ∧ PrsB D xs ys e H ∧ b = allB e xs.length ys.length
theorem turnB (hD : MonB D) (h : EqB X n D) {A : Around} (sb : Sub X (n + 1) A) {pins : List (Addr × Obj)} {σ : L2.St} {H : Hp} {xs ys : List V} {e : Nat → Bool} {its its2 : List Value} (p : PrsB D xs ys e H) (r : Vals xs its) (r2 : Vals ys its2)
    (i : Nat) (h1 : i < its.toArray.size) (h2 : i < its2.toArray.size) (s' : Shared) (l : LoopI X pins σ H s') :
    wpAny (model X.prog X.w) A.in1 (eqBool its.toArray[i] its2.toArray[i]) (fun r s2 => r = e i ∧ LoopI X pins σ H s2) X.xe s' := by
  obtain ⟨H1, I1, e1⟩ := l
  have g1 : its[i]? = some its.toArray[i] := by
    have h1' : i < its.length := by simpa using h1
    rw [List.getElem?_eq_getElem h1'] <;> simp
  have g2 : its2[i]? = some its2.toArray[i] := by
    have h2' : i < its2.length := by simpa using h2
    rw [List.getElem?_eq_getElem h2'] <;> simp
  have k1 : i < xs.length := by rw [r.length]; simpa using h1
  have k2 : i < ys.length := by rw [r2.length]; simpa using h2
  obtain ⟨u, hu, ru⟩ := r.get (List.getElem?_eq_getElem k1)
  obtain ⟨v, hv, rv⟩ := r2.get (List.getElem?_eq_getElem k2)
  rw [g1] at hu
  rw [g2] at hv
  rw [Option.some.inj hu, Option.some.inj hv]
  refine wpAny_mono (h A.in1 pins s' σ H1 _ _ _ u v sb.in1 I1 ru rv (hD _ _ _ _ _ e1 (p i _ _ (List.getElem?_eq_getElem k1) (List.getElem?_eq_getElem k2)))) (fun r s2 q => ?_) fun _ _ x => x
  obtain ⟨hr, H2, I2, e2⟩ := q
  exact ⟨hr, H2, I2, e1.trans e2⟩
theorem rcB_tup (hD : MonB D) (h : EqB X n D) : RcB X (n + 1) .Eq id (DTupB X.K D) := by
  intro A pins s σ H x y b u v sb I rx ry d
  obtain ⟨a, c, xs, ys, e, rfl, rfl, ha, hb, p, rfl⟩ := d
  cases rx
  cases ry
  obtain ⟨its, r, i1, z⟩ := I.tuple ha
  obtain ⟨its2, r2, i2, z2⟩ := I.tuple hb
  refine GQ.rc_tupEqB e sb.room.units0 (fun _ s' => LoopI X pins σ H s') i1 i2 (fun i h1 h2 s' q => turnB hD h sb p r r2 i h1 h2 s' q) (fun i s' q => ⟨?_, q⟩) ⟨H, I, Ext.rfl'⟩
  unfold allB
  rw [List.size_toArray, List.size_toArray, ← r.length, ← r2.length]
  rfl
theorem rcB_tupNe (hD : MonB D) (h : EqB X n D) : RcB X (n + 1) .NotEq (!·) (DTupB X.K D) := by
  intro A pins s σ H x y b u v sb I rx ry d
  obtain ⟨a, c, xs, ys, e, rfl, rfl, ha, hb, p, rfl⟩ := d
  cases rx
  cases ry
  obtain ⟨its, r, i1, z⟩ := I.tuple ha
  obtain ⟨its2, r2, i2, z2⟩ := I.tuple hb
  refine GQ.rc_tupNeB e sb.room.units0 (fun _ s' => LoopI X pins σ H s') i1 i2 (fun i h1 h2 s' q => turnB hD h sb p r r2 i h1 h2 s' q) (fun i s' q => ⟨?_, q⟩) ⟨H, I, Ext.rfl'⟩
  unfold allB
  rw [List.size_toArray, List.size_toArray, ← r.length, ← r2.length]
def rEqB (g : Bool → Bool) (D : EqvB) : R2 := fun x y H Q => ∃ b, D x y b H ∧ ∀ H', Ext H H' → Q (.bl (g b)) H'
theorem op_rcB {op : CmpOp} {g : Bool → Bool} (h : RcB X n op g D) (hr : Room n X.A) (ho : compareOp op = richCompare op := by rfl) : OpR X (compareOp op) (rEqB g D) := by
  intro pins s σ H x y v u Q I rx ry hq
  obtain ⟨b, d, q⟩ := hq
  rw [ho]
  refine wpAny_mono (h X.A pins s σ H x y b v u ⟨hr, rfl⟩ I rx ry d) (fun r s' z => ?_) fun _ _ x => x
  obtain ⟨hr', H', I', e⟩ := z
  subst hr'
  exact ⟨.bl (g b), H', I', rfl, q H' e⟩
/-! ### in, not in, len, [..] -/
/-- a method with what it promises, as an operator is found -/
def OwnR (P : Program) (w : World) (K : PySem.W.Frag) (mg : Str → Option Value) (base : Heap) (C : Addr) (m : Str) (k : Nat) (ps : List Str) (sp : Sp) : Prop :=
  ∃ f fd, PySem.W.findIn K (.ref C) m = some (some (.ref f)) ∧ PySem.W.isFn K (.ref f) = true ∧ PySem.W.fnIn K f = true ∧ FnOk P w K mg base CX0 k f fd ps sp ∧ Binds K fd ps []
variable {C : Addr} {k : Nat} {sp : Sp} {ps : List Str}
/-- x in o: what the own __contains__ promises, a bool -/
def spIn (R : Addr → V → Bool → Hp → Prop) : Sp := fun vs H Q _ => ∃ a y b, vs = [.ref a, y] ∧ R a y b H ∧ ∀ H', Ext H H' → Q (.bl b) H'
def rInO (C : Addr) (neg : Bool) (R : Addr → V → Bool → Hp → Prop) : R2 := fun x y H Q => ∃ a dx fs b, y = .ref a ∧ H a = some (.ins C dx fs) ∧ R a x b H ∧ ∀ H', Ext H H' → Q (.bl (if neg then !b else b)) H'
theorem op_inO {R : Addr → V → Bool → Hp → Prop} (h : OwnR X.prog X.w X.K X.mg X.base C "__contains__" k ps (spIn R)) (hr : Room k X.A) : OpR X (compareOp .In) (rInO C false R) := by
  intro pins s σ H x y v u Q I rx ry hq
  obtain ⟨a, dx, fs, b, rfl, ha, hR, q⟩ := hq
  obtain ⟨f, fd, hs, hf, _, F, hb⟩ := h
  obtain rfl : u = Value.ref a := ry
  obtain ⟨mA, J0, _⟩ := ins_get I.hok ha
  obtain ⟨od, J, _⟩ := J0.look
  obtain ⟨m, F0⟩ := I.fr
  refine PySem.W.in_K F0 I.ok.mod.kin J hs hf (wpAny_mono (run_fn (Q := fun z H' => z = .bl b ∧ Q (.bl b) H') F hr hb .nil pass0 I (.cons (show L2.RelV (.ref a) (.ref a) from rfl) (.cons rx .nil)) ⟨a, x, b, rfl, hR, fun H' e => ⟨rfl, q H' e⟩⟩) (fun r s' z => ?_) fun _ _ z => z)
  obtain ⟨z, H', I', rz, ez, q'⟩ := z
  subst ez
  obtain rfl : r = Value.bool b := rz
  exact wpAny_truthy_bool ⟨.bl b, H', I', rfl, q'⟩
theorem op_notInO {R : Addr → V → Bool → Hp → Prop} (h : OwnR X.prog X.w X.K X.mg X.base C "__contains__" k ps (spIn R)) (hr : Room k X.A) : OpR X (compareOp .NotIn) (rInO C true R) := by
  intro pins s σ H x y v u Q I rx ry hq
  obtain ⟨a, dx, fs, b, rfl, ha, hR, q⟩ := hq
  obtain ⟨f, fd, hs, hf, _, F, hb⟩ := h
  obtain rfl : u = Value.ref a := ry
  obtain ⟨mA, J0, _⟩ := ins_get I.hok ha
  obtain ⟨od, J, _⟩ := J0.look
  obtain ⟨m, F0⟩ := I.fr
  refine PySem.W.notIn_K F0 I.ok.mod.kin J hs hf (wpAny_mono (run_fn (Q := fun z H' => z = .bl b ∧ Q (.bl (!b)) H') F hr hb .nil pass0 I (.cons (show L2.RelV (.ref a) (.ref a) from rfl) (.cons rx .nil)) ⟨a, x, b, rfl, hR, fun H' e => ⟨rfl, q H' e⟩⟩) (fun r s' z => ?_) fun _ _ z => z)
  obtain ⟨z, H', I', rz, ez, q'⟩ := z
  subst ez
  obtain rfl : r = Value.bool b := rz
  exact wpAny_truthy_bool ⟨.bl (!b), H', I', rfl, q'⟩
/-- len(o), o an own instance -/
theorem call_lenO (h : OwnR X.prog X.w X.K X.mg X.base C "__len__" k ps sp) (hr : Room (k + 1) X.A) :
    CallR X (.builtin "len") (fun xs H Q => ∃ a dx fs, xs = [.ref a] ∧ H a = some (.ins C dx fs) ∧ sp [.ref a] H (fun v H' => ∃ n : Int, v = .int n ∧ 0 ≤ n ∧ n < 2 ^ 63 ∧ Q (.int n) H') E0) := by
  intro pins s σ H xs us Q I r hq
  obtain ⟨a, dx, fs, rfl, ha, q⟩ := hq
  obtain ⟨f, fd, hs, hf, _, F, hb⟩ := h
  obtain ⟨u, rfl, ru⟩ := vals1 r
  obtain rfl : u = Value.ref a := ru
  obtain ⟨mA, J0, _⟩ := ins_get I.hok ha
  obtain ⟨od, J, _⟩ := J0.look
  obtain ⟨m, F0⟩ := I.fr
  have e0 : Env0 X.prog X.w X.K X.mg X.base X.A.in1 X.stack s H := by
    have e := I.env0
    exact ⟨e.frames, e.mod, e.bs, e.bsz, e.funs, e.frf, e.hok, e.bare⟩
  have hl := F.len _ _ _ _ q
  have r2 : Vals [V.ref a] [Value.ref a] := .cons rfl .nil
  refine PySem.W.len_K F0 I.ok.mod.kin J hs hf (wpAny_call (codeAny_mono (F.run X.A.in1 X.stack s H ⟨[.ref a], []⟩ [.ref a] [.ref a] _ E0 hr.in1 e0 (by
    have := hb s [.ref a] I.kIn (by simpa using hl)
    simpa using this) r2 q) fun r s' hq => ?_))
  cases r with
  | error e => exact pass0 pins σ H s e s' I hq
  | ok fl =>
    cases fl with
    | ret w =>
      obtain ⟨z, H', I', rz, n, ez, n0, n1, q'⟩ := I.after hq
      subst ez
      obtain ⟨tk, rfl⟩ := (show ∃ tk, w = Value.int n tk from rz)
      exact ⟨⟨n0, n1⟩, .int n, H', I'.tok _, ⟨_, rfl⟩, q'⟩
    | next => exact False.elim hq
    | brk => exact False.elim hq
    | cont => exact False.elim hq
/-- a def runs somewhere below -/
theorem sub_run {f : Addr} {fd : FuncData} (F : FnOk X.prog X.w X.K X.mg X.base CX0 k f fd ps sp) (hb : Binds X.K fd ps []) {A : Around} {pins : List (Addr × Obj)} {s : Shared} {σ : L2.St} {H : Hp} {vs : List V} {us : List Value} {Q : VK} (sb : Sub X k A) (I : Inv X pins σ H s) (rv : Vals vs us) (hsp : sp vs H Q E0) :
    wpAny (model X.prog X.w) A (call (.ref f) us) (EP X pins σ Q) X.xe s := by
  have e0 : Env0 X.prog X.w X.K X.mg X.base A X.stack s H := by
    have e := I.env0
    exact ⟨by rw [sb.fr]; exact e.frames, e.mod, e.bs, e.bsz, e.funs, e.frf, e.hok, e.bare⟩
  have hl : us.length = ps.length := by rw [← rv.length]; exact F.len _ _ _ _ hsp
  refine wpAny_call (codeAny_mono (F.run A X.stack s H ⟨us, []⟩ us vs Q E0 sb.room e0 (by
    have := hb s us I.kIn (by simpa using hl)
    simpa using this) rv hsp) fun r s' hq => ?_)
  cases r with
  | error e => exact pass0 pins σ H s e s' I hq
  | ok fl =>
    cases fl with
    | ret w => exact I.after hq
    | next => exact False.elim hq
    | brk => exact False.elim hq
    | cont => exact False.elim hq
/-- o[e], o an own instance with an own [..] -/
theorem pe_ixO {o e : Expr} {pos : Pos} {ta tb : TE} (h : OwnR X.prog X.w X.K X.mg X.base C "__getitem__" k ps sp) (hr : Room (k + 1) X.A) (ha : PE X o ta) (hb : PE X e tb)
    (hsl : ∀ ov iv, subscripted e true ov iv = runValue (.builtin "lifetime.subscript" ⟨[ov, iv], []⟩) := by intro _ _; with_unfolding_all rfl) :
    PE X (.Subscript o e pos) (fun σ H Q => ta σ H fun x H1 => tb σ H1 fun y H2 => ∃ a dx fs, x = .ref a ∧ H2 a = some (.ins C dx fs) ∧ sp [x, y] H2 Q E0) := by
  refine ⟨fun pins s σ H Q I hq => ?_⟩
  obtain ⟨f, fd, hs, hf, hfi, F, hbi⟩ := h
  refine Subscript_ (binT ha hb I hq fun v u s2 x y H2 I2 rx ry q => ?_)
  obtain ⟨a, dx, fs, rfl, ea, q⟩ := q
  obtain rfl : v = Value.ref a := rx
  obtain ⟨mA, J0, _⟩ := ins_get I2.hok ea
  obtain ⟨od, J, _⟩ := J0.look
  obtain ⟨m, F0⟩ := I2.fr
  exact PySem.W.sub_K F0 I2.ok.mod.kin J hs hfi hf (sub_run (vs := [V.ref a, y]) F hbi ⟨hr.in1, rfl⟩ I2 (.cons (show L2.RelV (.ref a) (.ref a) from rfl) (.cons ry .nil)) q) (hsl _ _)
/-! ### + of an instance and an instance of another class -/
structure AddTwo (K : PySem.W.Frag) (C C2 : Addr) : Prop where
  self : PySem.W.selfFirst K C = true
  self2 : PySem.W.selfFirst K C2 = true
  back : PySem.W.findIn K (.ref C) "__radd__" = some none
  back2 : PySem.W.findIn K (.ref C2) "__radd__" = some none
  add2 : ∃ f, PySem.W.findIn K (.ref C2) "__add__" = some (some (.ref f))
  sub : PySem.W.subIn K (.ref C2) (.ref C) = some false
  ne : C ≠ C2
theorem op_addTwo {C2 : Addr} (h : OwnR X.prog X.w X.K X.mg X.base C "__add__" k ps sp) (c : AddTwo X.K C C2) (hr : Room k X.A) :
    OpR X (binaryOp .Add) (fun x y H Q => ∃ a dx fs c dy gs, x = .ref a ∧ y = .ref c ∧ H a = some (.ins C dx fs) ∧ H c = some (.ins C2 dy gs) ∧ sp [.ref a, .ref c] H (fun v H' => (∃ r, v = .ref r) ∧ Q v H') E0) := by
  intro pins s σ H x y v u Q I rx ry hq
  obtain ⟨a, dx, fs, b, dy, gs, rfl, rfl, ha, hb, q⟩ := hq
  obtain ⟨f, fd, hs, hf, _, F, hbi⟩ := h
  obtain rfl : v = Value.ref a := rx
  obtain rfl : u = Value.ref b := ry
  obtain ⟨mA, J0, _⟩ := ins_get I.hok ha
  obtain ⟨od, J, _⟩ := J0.look
  obtain ⟨m, F0⟩ := I.fr
  obtain ⟨f2, h2⟩ := c.add2
  refine PySem.W.ur_binC (op := .Add) F0 I.ok.mod.kin J (ty_looks I (show L2.RelV (.ref b) (.ref b) from rfl) (.ins hb)) c.self c.self2 c.ne hs hf c.back h2 c.back2 c.sub (wpAny_mono (run_fn F hr hbi .nil pass0 I (.cons (show L2.RelV (.ref a) (.ref a) from rfl) (.cons (show L2.RelV (.ref b) (.ref b) from rfl) .nil)) q) (fun r s' z => ?_) fun _ _ z => z)
  obtain ⟨z, H', I', rz, ⟨d, ed⟩, q'⟩ := z
  subst ed
  obtain rfl : r = Value.ref d := rz
  exact ⟨.ref d, H', I', rfl, q'⟩
end
end Ur
/-! K1: the law's own draws: the pen, draw, pick, around. -/
namespace Ur
open PySem PySem.Spec PyProof.Rows L2
def topS (i : Nat) : Stmt := PySem.Challenge.pw_paintposts_k04_whole_painters_moved_comp.main.body.getD i (.Pass ⟨0, 0, 0, 0⟩)

/-- the built-in names are not the module's -/
structure Blt (mg : Str → Option Value) : Prop where
  len_ : mg "len" = none
  int_ : mg "int" = none
  abs_ : mg "abs" = none
  list_ : mg "list" = none
  range_ : mg "range" = none
  min_ : mg "min" = none
  max_ : mg "max" = none
  repr_ : mg "repr" = none
  str_ : mg "str" = none
  bool_ : mg "bool" = none
  isinstance_ : mg "isinstance" = none
  any_ : mg "any" = none
  divmod_ : mg "divmod" = none

/-! ### the pen -/
def penK (l : Addr) (b r : Int) : List (Key × V) := [(Sum.inr "cells", .ref l), (Sum.inr "begun", .int b), (Sum.inr "rest", .int r)]
theorem pen_made (l : Addr) (b r : Int) : mergeK [] [(Sum.inr "cells", V.ref l), (Sum.inr "begun", V.int b), (Sum.inr "rest", V.int r)] = penK l b r := rfl
theorem pen_cells (l : Addr) (b r : Int) : valV (penK l b r) (Sum.inr "cells") = some (.ref l) := rfl
theorem pen_begun (l : Addr) (b r : Int) : valV (penK l b r) (Sum.inr "begun") = some (.int b) := rfl
theorem pen_rest (l : Addr) (b r : Int) : valV (penK l b r) (Sum.inr "rest") = some (.int r) := rfl
theorem pen_b (l : Addr) (b r c : Int) : putK (penK l b r) (Sum.inr "begun") (.int c) = penK l c r := rfl
theorem pen_r (l : Addr) (b r c : Int) : putK (penK l b r) (Sum.inr "rest") (.int c) = penK l b c := rfl
structure Pen (H : Hp) (p l : Addr) (n : Nat) : Prop where
  ex : ∃ (cs : List Int) (b r : Int), H p = some (.dK (penK l b r)) ∧ H l = some (.lst (cs.map V.int)) ∧ cs.length ≤ 63 ∧ 0 ≤ b ∧ b ≤ (n : Int) ∧ 0 ≤ r
section
variable {H H' : Hp} {p l q : Addr} {n m : Nat} {o : HO}
theorem Pen.dk (P : Pen H p l n) : ∃ kvs, H p = some (.dK kvs) := let ⟨cs, b, r, h, _⟩ := P.ex; ⟨_, h⟩
theorem Pen.same (P : Pen H p l n) (s : Same H H') : Pen H' p l n := let ⟨cs, b, r, h, h2, z⟩ := P.ex; ⟨cs, b, r, s _ _ h, s _ _ h2, z⟩
theorem Pen.new (P : Pen H p l n) (h : H q = none) : Pen (upd H q o) p l n := P.same (same_new h o)
theorem Pen.le (P : Pen H p l n) (h : n ≤ m) : Pen H p l m := let ⟨cs, b, r, h1, h2, h3, h4, h5, h6⟩ := P.ex; ⟨cs, b, r, h1, h2, h3, h4, by omega, h6⟩
/-- a place that was free is neither of the pen's two -/
theorem Pen.ne (P : Pen H p l n) (h : H q = none) : q ≠ p := let ⟨_, e⟩ := P.dk; (ne_of_none e h).symm
theorem Pen.nl (P : Pen H p l n) (h : H q = none) : q ≠ l := let ⟨_, _, _, _, e, _⟩ := P.ex; (ne_of_none e h).symm
theorem Pen.upd (P : Pen H p l n) (h1 : q ≠ p) (h2 : q ≠ l) : Pen (upd H q o) p l n := let ⟨cs, b, r, h, h3, z⟩ := P.ex; ⟨cs, b, r, by rw [upd_ne h1.symm]; exact h, by rw [upd_ne h2.symm]; exact h3, z⟩
end
theorem cut_all {xs : List V} {n : Nat} (h : xs.length ≤ n) : cutV xs none (some (n : Int)) = xs := by
  unfold cutV
  rw [HT.sIx_none, HT.sIx_nat, Nat.min_eq_right h, List.drop_zero, Nat.sub_zero, List.take_length]
abbrev s__law_pen : Stmt := (topS 20)
abbrev N_sc__law_pen : List Str := ["_law_script"]
abbrev P__law_pen : List Str := ["_law_script"]
theorem sc__law_pen : FnScope N_sc__law_pen P__law_pen (defScope s__law_pen) := ⟨rfl, rfl, rfl, by decide +kernel, rfl, by decide +kernel, by decide +kernel⟩
def spPen (K : PySem.W.Frag) : Sp := fun vs H Q _ => ∃ (a : Addr) (ns : List Int), vs = [.ref a] ∧ SqL K H a (ns.map V.int) ∧ ns.length ≤ 63 ∧ ∀ p l H', Pen H' p l 0 → H p = none → H l = none → Same H H' → Q (.ref p) H'
section
variable {P : Program} {w : World} {K : PySem.W.Frag} {mg : Str → Option Value} {base : Heap}
theorem ok_pen (D : Dfn K mg "_law_pen" s__law_pen P__law_pen) (B : Blt mg) : Cal P w K mg base 1 "_law_pen" P__law_pen (spPen K) := by
  refine D.cal sc__law_pen (fun vs H Q E h => ?_) fun f cdv A outer s H vs Q E hr h => ?_
  · obtain ⟨a, ns, rfl, _⟩ := h
    rfl
  obtain ⟨a, ns, rfl, hS, hlen, k⟩ := h
  have hu := hu_of hr
  refine ⟨_, (pss_one (ps_ret (pe_disp (pps_cons pe_str (pe_callTy call_list_of rfl B.list_ (by decide +kernel) (pa_cons (pe_slice sl_list (pv 0) po_none (po_some pe_int)) pa_nil)) (pps_cons pe_str pe_int (pps_cons pe_str pe_int pps_nil))) (by rfl) (by rfl) (fun z => by cases z) (by decide)))), ?_⟩
  intro p hp
  refine ⟨_, rfl, 63, rfl, a, _, rfl, (same_new hp _).seq hS, fun q hq => ?_⟩
  refine ⟨q, _, rfl, .inl (SqL.of upd_same), fun l hl => ?_⟩
  have npq : p ≠ q := ne_of_none upd_same hq
  have npl : p ≠ l := by
    intro e
    rw [← e, upd_ne npq, upd_same] at hl
    cases hl
  have nql : q ≠ l := ne_of_none upd_same hl
  refine ⟨by rw [upd_ne npl, upd_ne npq, upd_same], [(Sum.inr "cells", .ref l), (Sum.inr "begun", .int 0), (Sum.inr "rest", .int 0)], rfl, (by show 3 ≤ 15; decide), ?_⟩
  have hl0 : H l = none := by
    rw [upd_ne nql.symm, upd_ne npl.symm] at hl
    exact hl
  refine k p l _ ⟨ns, 0, 0, ?_, ?_, ?_, by decide, by decide, by decide⟩ hp hl0 ?_
  · rw [pen_made]; exact upd_same
  · rw [upd_ne npl.symm, upd_same]
    exact congrArg (fun z => some (HO.lst z)) (cut_all (n := 63) (by rw [List.length_map]; exact hlen))
  · exact hlen
  · intro b o e
    have n1 := ne_of_none e hp
    have e1 : (upd H p (.dK [])) b = some o := by rw [upd_ne n1]; exact e
    have n2 := ne_of_none e1 hq
    have e2 := (by rw [upd_ne n2]; exact e1 : (upd (upd H p (.dK [])) q (.lst (cutV (ns.map V.int) none (some 63)))) b = some o)
    rw [upd_ne n1, upd_ne (ne_of_none e2 hl)]
    exact e2
end

/-! ### draw -/
abbrev s__law_draw : Stmt := (topS 21)
abbrev N_sc__law_draw : List Str := ["_law_pen_here", "_law_many", "_law_digit", "_law_site", "_law_cell", "_law_mixed"]
abbrev P__law_draw : List Str := ["_law_pen_here", "_law_many"]
theorem sc__law_draw : FnScope N_sc__law_draw P__law_draw (defScope s__law_draw) := ⟨rfl, rfl, rfl, by decide +kernel, rfl, by decide +kernel, by decide +kernel⟩
/-- the greatest bound that k further calls can serve -/
def Bd : Nat → Int
  | 0 => 60000000
  | k + 1 => 60000000 * (Bd k - 1)
def spDraw (k : Nat) : Sp := fun vs H Q _ => ∃ (p l : Addr) (many : Int) (n : Nat), vs = [.ref p, .int many] ∧ Pen H p l n ∧ n + k ≤ 2 ^ 40 ∧ 1 ≤ many ∧ many ≤ Bd k ∧ k ≤ 16 ∧
  ∀ v H', 0 ≤ v → v < many → Pen H' p l (n + (k + 1)) → Keep p H H' → Q (.int v) H'
/-- what is promised with k calls left: nothing with none -/
def spD : Nat → Sp
  | 0 => fun _ _ _ _ => False
  | k + 1 => spDraw k
theorem Dfn.none_left {P : Program} {w : World} {K : PySem.W.Frag} {mg : Str → Option Value} {base : Heap} {x : Str} {st : Stmt} {ps : List Str} (D : Dfn K mg x st ps) : Cal P w K mg base 0 x ps (fun _ _ _ _ => False) := by
  obtain ⟨f, fd, F, b, m⟩ := D
  exact ⟨f, fd, ⟨fun _ _ _ _ h => h.elim, fun _ _ _ _ _ _ _ _ _ _ _ _ _ h => h.elim⟩, F.kp, b, m⟩
theorem dpI {K : PySem.W.Frag} {H : Hp} : ∀ cs : List Int, DpAll K H (cs.map V.int) (cs.map PyData.int)
  | [] => .nil
  | c :: cs => .cons (.int c) (dpI cs)
theorem shI0 : ∀ cs : List Int, PyData.canLayAll0 (cs.map PyData.int) = true
  | [] => rfl
  | c :: cs => by
    show (PyData.canLay0 (.int c) && PyData.canLayAll0 (cs.map PyData.int)) = true
    rw [shI0 cs]
    all_goals rfl
theorem shD0 : ∀ cs : List Int, PyData.depthAll (cs.map PyData.int) = 0
  | [] => rfl
  | c :: cs => by
    show max (PyData.depth (.int c)) (PyData.depthAll (cs.map PyData.int)) = 0
    rw [shD0 cs]
    all_goals rfl
theorem shI (cs : List Int) : SeqAt.shaped (.list (cs.map PyData.int)) = true := by
  show (PyData.canLayAll0 (cs.map PyData.int) && decide (PyData.depthAll (cs.map PyData.int) + 1 ≤ 64)) = true
  rw [shI0, shD0]
  all_goals rfl
theorem get_cells {H : Hp} {p l : Addr} {b r : Int} (h : H p = some (.dK (penK l b r))) : DGet H p (.str "cells") (some (.ref l)) := DGet.k (k := Sum.inr "cells") h
theorem get_begun {H : Hp} {p l : Addr} {b r : Int} (h : H p = some (.dK (penK l b r))) : DGet H p (.str "begun") (some (.int b)) := DGet.k (k := Sum.inr "begun") h
theorem get_rest {H : Hp} {p l : Addr} {b r : Int} (h : H p = some (.dK (penK l b r))) : DGet H p (.str "rest") (some (.int r)) := DGet.k (k := Sum.inr "rest") h
theorem put_begun {H : Hp} {p l : Addr} {b r c : Int} (h : H p = some (.dK (penK l b r))) : DPut H p (.str "begun") (.int c) (upd H p (.dK (penK l c r))) := DPut.k (k := Sum.inr "begun") h (by show 3 < sizeLine; decide)
theorem put_rest {H : Hp} {p l : Addr} {b r c : Int} (h : H p = some (.dK (penK l b r))) : DPut H p (.str "rest") (.int c) (upd H p (.dK (penK l b c))) := DPut.k (k := Sum.inr "rest") h (by show 3 < sizeLine; decide)
theorem Bd_le (k : Nat) (h : k ≤ 16) : Bd k < 2 ^ 480 := by
  have : k = 0 ∨ k = 1 ∨ k = 2 ∨ k = 3 ∨ k = 4 ∨ k = 5 ∨ k = 6 ∨ k = 7 ∨ k = 8 ∨ k = 9 ∨ k = 10 ∨ k = 11 ∨ k = 12 ∨ k = 13 ∨ k = 14 ∨ k = 15 ∨ k = 16 := by omega
  rcases this with rfl | rfl | rfl | rfl | rfl | rfl | rfl | rfl | rfl | rfl | rfl | rfl | rfl | rfl | rfl | rfl | rfl <;> decide +kernel
theorem em0 (a : Int) {m : Int} (h : 0 < m) : 0 ≤ a % m := Int.emod_nonneg a (by omega)
theorem em1 (a : Int) {m : Int} (h : 0 < m) : a % m < m := Int.emod_lt_of_pos a h
section
variable {P : Program} {w : World} {K : PySem.W.Frag} {mg : Str → Option Value} {base : Heap}
set_option maxHeartbeats 16000000 in
theorem draw_step {k : Nat} (D : Dfn K mg "_law_draw" s__law_draw P__law_draw) (B : Blt mg) (G : Cal P w K mg base k "_law_draw" P__law_draw (spD k)) : Cal P w K mg base (k + 1) "_law_draw" P__law_draw (spDraw k) := by
  refine D.cal sc__law_draw (fun vs H Q E h => ?_) fun f cdv A outer s H vs Q E hr h => ?_
  · obtain ⟨p, l, many, n, rfl, _⟩ := h
    rfl
  obtain ⟨p, l, many, n, rfl, Pn, hn, h1, hm, hk, q⟩ := h
  have hu := hu_of hr
  obtain ⟨cs, b, r, hp, hl, hcs, hb0, hbn, hr0⟩ := Pn.ex
  have hm2 : many.natAbs < 2 ^ 480 := by have := Bd_le k hk; omega
  have dv : ∀ r : Int, CDivW r many := fun r => wide_div (by omega) hm2 (by decide) (by decide)
  have nlp : l ≠ p := ne_of hl hp (by intro z; cases z)
  have pw : CPow 10 18 := ⟨by decide, by decide, by decide⟩
  refine ⟨_, (pss_cons (ps_if (pt_cmpR op_gt (pe_dget hu (pv 0) pe_str (fun _ _ => rfl)) pe_int (nomark _)) (pss_cons (ps_set (i := 2) sc__law_draw.nd rfl (Or.inl rfl) (pe_op op_mod (pe_callTy call_int1 rfl B.int_ (by decide +kernel) (pa_cons (pe_dget hu (pv 0) pe_str (fun _ _ => rfl)) pa_nil)) (pv 1))) (pss_cons (ps_dput hu (pv 0) pe_str (pe_op op_fdivW (pe_dget hu (pv 0) pe_str (fun _ _ => rfl)) (pv 1)) rfl) (pss_one (ps_ret (pv 2))))) pss_nil) (pss_cons (ps_set (i := 3) sc__law_draw.nd rfl (Or.inl rfl) (pe_dget hu (pv 0) pe_str (fun _ _ => rfl))) (pss_cons (ps_dput hu (pv 0) pe_str (pe_op op_add (pv 3) pe_int) rfl) (pss_cons (ps_set (i := 4) sc__law_draw.nd rfl (Or.inl rfl) (pe_op op_add (pe_op op_mul pe_int (pv 3)) pe_int)) (C8.pss_cut (ps_if (pt_cmpR (op_neD hr.units) (pe_dget hu (pv 0) pe_str (fun _ _ => rfl)) (pe_lst pa_nil) (nomark _)) (pss_one (ps_set (i := 4) sc__law_draw.nd rfl (Or.inl rfl) (pe_ix ix_list (pe_dget hu (pv 0) pe_str (fun _ _ => rfl)) (pe_op op_mod (pe_callTy call_int1 rfl B.int_ (by decide +kernel) (pa_cons (pv 3) pa_nil)) (pe_callB call_len_seq rfl B.len_ PySem.boot_len (pa_cons (pe_dget hu (pv 0) pe_str (fun _ _ => rfl)) pa_nil))) (fun _ _ => rfl)))) pss_nil) (C8.pss_cut (ps_if (PW.pt (pw_and (pt_cmpR op_lt (pv 3) (pe_callB call_len_seq rfl B.len_ PySem.boot_len (pa_cons (pe_dget hu (pv 0) pe_str (fun _ _ => rfl)) pa_nil)) (nomark _)) (pw_and1 (pt_cmpR op_ge (pe_callB call_abs rfl B.abs_ (by decide +kernel) (pa_cons (pv 4) pa_nil)) (pe_op op_pow pe_int pe_int) (nomark _))))) (pss_cons (ps_dput hu (pv 0) pe_str (pe_op op_fdivW (pe_op op_sub (pe_callB call_abs rfl B.abs_ (by decide +kernel) (pa_cons (pv 4) pa_nil)) (pe_op op_pow pe_int pe_int)) (pv 1)) rfl) (pss_one (ps_ret (pe_op op_mod (pe_op op_sub (pe_callB call_abs rfl B.abs_ (by decide +kernel) (pa_cons (pv 4) pa_nil)) (pe_op op_pow pe_int pe_int)) (pv 1))))) pss_nil) (C8.pss_cut (ps_set (i := 5) sc__law_draw.nd rfl (Or.inl rfl) (pe_op op_mod (pe_callTy call_int1 rfl B.int_ (by decide +kernel) (pa_cons (pe_op op_add (pe_op op_add (pe_op op_mul (pe_op op_mod (pe_callTy call_int1 rfl B.int_ (by decide +kernel) (pa_cons (pv 4) pa_nil)) pe_int) pe_int) (pe_op op_mul (pe_op op_mul pe_int (pv 3)) (pv 3))) pe_int) pa_nil)) pe_int)) (C8.pss_cut (ps_set (i := 5) sc__law_draw.nd rfl (Or.inl rfl) (pe_op op_mod (pe_callTy call_int1 rfl B.int_ (by decide +kernel) (pa_cons (pe_op op_add (pe_op op_add (pe_op op_add (pe_op op_mul (pv 5) (pv 5)) (pe_op op_mul pe_int (pv 5))) (pe_op op_mul pe_int (pv 3))) pe_int) pa_nil)) pe_int)) (C8.pss_cut (ps_set (i := 5) sc__law_draw.nd rfl (Or.inl rfl) (pe_op op_fdivW (pe_op op_mod (pe_callTy call_int1 rfl B.int_ (by decide +kernel) (pa_cons (pe_op op_mul (pv 5) (pe_op op_add (pv 5) pe_int)) pa_nil)) pe_int) pe_int)) (C8.pss_cut (ps_if (pt_cmpR op_gt (pv 1) pe_int (nomark _)) (pss_one (ps_set (i := 5) sc__law_draw.nd rfl (Or.inl rfl) (pe_op op_add (pe_op op_mod (pe_callTy call_int1 rfl B.int_ (by decide +kernel) (pa_cons (pv 5) pa_nil)) pe_int) (pe_op op_mul pe_int (pe_cal G hr (pa_cons (pv 0) (pa_cons (pe_op op_add (pe_op op_fdivW (pv 1) pe_int) pe_int) pa_nil))))))) pss_nil) (pss_one (ps_ret (pe_op op_mod (pe_callTy call_int1 rfl B.int_ (by decide +kernel) (pa_cons (pv 5) pa_nil)) (pv 1)))))))))))))), ?_⟩
  refine ⟨_, rfl, p, .int r, rfl, get_rest hp, _, _, rfl, rfl, _, rfl, ?_⟩
  refine ite2 (fun c => ?_) (fun c => ?_)
  · refine ⟨_, rfl, p, .int r, rfl, get_rest hp, .inl ⟨_, rfl, _, rfl, _, _, rfl, rfl, by omega, ?_⟩⟩
    refine ⟨_, rfl, p, .int r, rfl, get_rest hp, _, rfl, _, _, rfl, rfl, dv _, _, rfl, p, _, rfl, put_rest hp, ?_⟩
    refine ⟨_, rfl, ?_⟩
    exact q _ _ (em0 _ (by omega)) (em1 _ (by omega)) ⟨cs, b, r / many, upd_same, by rw [upd_ne nlp]; exact hl, hcs, hb0, by omega, Int.ediv_nonneg hr0 (by omega)⟩ Keep.at_
  refine ⟨_, rfl, p, .int b, rfl, get_begun hp, ?_⟩
  refine ⟨_, rfl, _, _, rfl, rfl, _, rfl, p, _, rfl, put_begun hp, ?_⟩
  refine ⟨_, rfl, _, _, rfl, rfl, .inl ⟨by decide, by decide⟩, _, _, rfl, rfl, ?_⟩
  have hp1 : (upd H p (.dK (penK l (b + 1) r))) p = some (.dK (penK l (b + 1) r)) := upd_same
  have hl1 : (upd H p (.dK (penK l (b + 1) r))) l = some (.lst (cs.map V.int)) := by rw [upd_ne nlp]; exact hl
  have kp1 : Keep p H (upd H p (.dK (penK l (b + 1) r))) := Keep.at_
  generalize upd H p (.dK (penK l (b + 1) r)) = H1 at hp1 hl1 kp1 ⊢
  refine ⟨fun σ' H' => ∃ c : Int, σ' = [some (.ref p), some (.int many), none, some (.int b), some (.int c), none] ∧ H' p = some (.dK (penK l (b + 1) r)) ∧ H' l = some (.lst (cs.map V.int)) ∧ Keep p H H', ?_, ?_⟩
  · refine ⟨_, rfl, p, .ref l, rfl, get_cells hp1, (by show 0 ≤ sizeLine; decide), fun e he => ?_⟩
    have hp2 := same_new he (.lst []) _ _ hp1
    have hl2 := same_new he (.lst []) _ _ hl1
    have kp2 := kp1.new (o := .lst []) he
    refine ⟨.list (cs.map PyData.int), .list [], .lst (SqL.of hl2) (dpI cs), .lst (SqL.of upd_same) .nil, shI cs, rfl, _, rfl, ?_⟩
    generalize upd H1 e (.lst []) = H2 at hp2 hl2 kp2 ⊢
    cases hcs0 : cs with
    | nil =>
      refine iteF ?_
      exact ⟨_, rfl, hp2, by rw [← hcs0]; exact hl2, kp2⟩
    | cons c0 cr =>
      refine iteT ?_
      have hlen : 0 < ((cs.map V.int).length : Int) := by rw [List.length_map, hcs0, List.length_cons]; omega
      obtain ⟨c, hc⟩ : ∃ c, atI (cs.map V.int) (b % ((cs.map V.int).length : Int)) = some (.int c) := by
        have h0 := em0 b hlen
        have h1 := em1 b hlen
        generalize b % ((cs.map V.int).length : Int) = i at h0 h1
        obtain ⟨j, rfl⟩ : ∃ j : Nat, i = (j : Int) := ⟨i.toNat, by omega⟩
        rw [List.length_map] at h1
        have hj : j < cs.length := by omega
        exact ⟨cs[j], atI_nat (by rw [List.getElem?_map, List.getElem?_eq_getElem hj]; all_goals rfl)⟩
      refine ⟨_, rfl, p, .ref l, rfl, get_cells hp2, _, rfl, .inl ⟨_, rfl, _, rfl, p, .ref l, rfl, get_cells hp2, l, _, rfl, .inl (SqL.of hl2), _, _, rfl, rfl, hlen, l, _, _, _, rfl, rfl, SqL.of hl2, hc, ?_⟩⟩
      exact ⟨c, rfl, hp2, by rw [← hcs0]; exact hl2, kp2⟩
  rintro σ' H3 ⟨c, rfl, hp3, hl3, kp3⟩
  refine ⟨fun σ' H' => σ' = [some (.ref p), some (.int many), none, some (.int b), some (.int c), none] ∧ H' = H3, ?_, ?_⟩
  · refine ⟨_, rfl, _, rfl, p, .ref l, rfl, get_cells hp3, l, _, rfl, .inl (SqL.of hl3), _, _, rfl, rfl, _, rfl, ?_⟩
    refine ite2 (fun _ => ?_) (fun _ => ?_)
    · refine ⟨_, rfl, _, rfl, _, _, rfl, rfl, pw, _, _, rfl, rfl, _, rfl, ?_⟩
      refine ite2 (fun c2 => ?_) (fun _ => ?_)
      · refine ⟨_, rfl, _, rfl, _, _, rfl, rfl, pw, _, _, rfl, rfl, _, rfl, _, _, rfl, rfl, dv _, _, rfl, p, _, rfl, put_rest hp3, ?_⟩
        refine ⟨_, rfl, _, rfl, _, _, rfl, rfl, pw, _, _, rfl, rfl, _, rfl, _, _, rfl, rfl, by omega, ?_⟩
        have c3 := of_decide_eq_true c2
        exact q _ _ (em0 _ (by omega)) (em1 _ (by omega)) ⟨cs, b + 1, _, upd_same, by rw [upd_ne nlp]; exact hl3, hcs, by omega, by omega, Int.ediv_nonneg (by omega) (by omega)⟩ (kp3.trans Keep.at_)
      · exact ⟨rfl, rfl⟩
    · exact iteF ⟨rfl, rfl⟩
  rintro σ' H' ⟨rfl, rfl⟩
  have c1 : -(2 ^ 64) < c % 4294967279 ∧ c % 4294967279 < 2 ^ 64 := by
    have := em0 c (m := 4294967279) (by decide)
    have := em1 c (m := 4294967279) (by decide)
    omega
  have c2 : -(2 ^ 64) < 40503 * b ∧ 40503 * b < 2 ^ 64 := by omega
  refine ⟨fun σ' H'' => ∃ m : Int, σ' = [some (.ref p), some (.int many), none, some (.int b), some (.int c), some (.int m)] ∧ 0 ≤ m ∧ m < 4294967291 ∧ H'' = H', ?_, ?_⟩
  · refine ⟨_, rfl, .inl ⟨_, rfl, _, _, rfl, rfl, by omega, _, _, rfl, rfl, .inl c1, _, rfl, _, _, rfl, rfl, .inl ⟨by decide, by decide⟩, _, rfl, _, _, rfl, rfl, .inl c2, _, _, rfl, rfl, _, _, rfl, rfl, .inl ⟨_, rfl, _, _, rfl, rfl, by omega, ?_⟩⟩⟩
    exact ⟨_, rfl, em0 _ (by decide), em1 _ (by decide), rfl⟩
  rintro σ' H' ⟨m1, rfl, d0, d1, rfl⟩
  have m1b : -(2 ^ 64) < m1 ∧ m1 < 2 ^ 64 := by omega
  refine ⟨fun σ' H'' => ∃ m : Int, σ' = [some (.ref p), some (.int many), none, some (.int b), some (.int c), some (.int m)] ∧ 0 ≤ m ∧ m < 4294967291 ∧ H'' = H', ?_, ?_⟩
  · refine ⟨_, rfl, _, rfl, _, _, rfl, rfl, .inl m1b, _, rfl, _, _, rfl, rfl, .inl ⟨by decide, by decide⟩, _, _, rfl, rfl, _, rfl, _, _, rfl, rfl, .inl ⟨by decide, by decide⟩, _, _, rfl, rfl, _, _, rfl, rfl, .inl ⟨_, rfl, _, _, rfl, rfl, by omega, ?_⟩⟩
    exact ⟨_, rfl, em0 _ (by decide), Int.lt_trans (em1 _ (by decide)) (by decide), rfl⟩
  rintro σ' H' ⟨m2, rfl, e0, e1, rfl⟩
  have m2b : -(2 ^ 64) < m2 ∧ m2 < 2 ^ 64 := by omega
  refine ⟨fun σ' H'' => ∃ m : Int, σ' = [some (.ref p), some (.int many), none, some (.int b), some (.int c), some (.int m)] ∧ H'' = H', ?_, ?_⟩
  · refine ⟨_, rfl, _, rfl, _, _, rfl, rfl, _, _, rfl, rfl, .inl m2b, .inl ⟨_, rfl, _, _, rfl, rfl, by omega, _, _, rfl, rfl, wide_div (b := 7) (by decide) (by decide) (by decide) (by decide), ?_⟩⟩
    exact ⟨_, rfl, rfl⟩
  rintro σ' H' ⟨m3, rfl, rfl⟩
  refine ⟨fun σ' H' => ∃ m : Int, σ' = [some (.ref p), some (.int many), none, some (.int b), some (.int c), some (.int m)] ∧ Pen H' p l (n + (k + 1)) ∧ Keep p H H', ?_, ?_⟩
  · have P3 : Pen H' p l (n + 1) := ⟨cs, b + 1, r, hp3, hl3, hcs, by omega, by omega, hr0⟩
    refine ⟨_, rfl, _, _, rfl, rfl, _, rfl, ?_⟩
    refine ite2 (fun c4 => ?_) (fun c4 => ?_)
    · have c5 := of_decide_eq_true c4
      have dk : ∃ j, k = j + 1 := by
        cases k with
        | zero => exact absurd hm (by show ¬ many ≤ 60000000; omega)
        | succ j => exact ⟨j, rfl⟩
      obtain ⟨j, rfl⟩ := dk
      have hB : many ≤ 60000000 * (Bd j - 1) := hm
      refine ⟨_, rfl, .inl ⟨_, rfl, _, _, rfl, rfl, by omega, _, rfl, _, rfl, _, _, rfl, rfl, wide_div (b := 26) (by decide) (by decide) (by decide) (by decide), _, _, rfl, rfl, p, l, _, n + 1, rfl, P3, by omega, by omega, by omega, by omega, fun v H4 v0 v1 P4 k4 => ?_⟩⟩
      refine ⟨_, _, rfl, rfl, .inl ⟨by decide, by decide⟩, _, _, rfl, rfl, ?_⟩
      exact ⟨_, rfl, P4.le (by omega), kp3.trans k4⟩
    · exact ⟨_, rfl, P3.le (by omega), kp3⟩
  rintro σ' H5 ⟨m, rfl, P5, k5⟩
  refine ⟨_, rfl, .inl ⟨_, rfl, _, rfl, _, _, rfl, rfl, by omega, ?_⟩⟩
  exact q _ _ (em0 _ (by omega)) (em1 _ (by omega)) P5 k5
theorem ok_drawN (D : Dfn K mg "_law_draw" s__law_draw P__law_draw) (B : Blt mg) : ∀ k : Nat, Cal P w K mg base k "_law_draw" P__law_draw (spD k)
  | 0 => D.none_left
  | k + 1 => draw_step D B (ok_drawN D B k)
/-- what callers use: bounds up to 10 ^ 81 -/
def spDr : Sp := fun vs H Q _ => ∃ (p l : Addr) (many : Int) (n : Nat), vs = [.ref p, .int many] ∧ Pen H p l n ∧ n ≤ 2 ^ 39 ∧ 1 ≤ many ∧ many ≤ 10 ^ 81 ∧
  ∀ v H', 0 ≤ v → v < many → Pen H' p l (n + 12) → Keep p H H' → Q (.int v) H'
theorem ok_draw (D : Dfn K mg "_law_draw" s__law_draw P__law_draw) (B : Blt mg) : Cal P w K mg base 12 "_law_draw" P__law_draw spDr := by
  obtain ⟨f, fd, F, r⟩ := ok_drawN (P := P) (w := w) (base := base) D B 12
  refine ⟨f, fd, F.imp fun vs H Q E h => ?_, r⟩
  obtain ⟨p, l, many, n, rfl, a, b, c, d, e⟩ := h
  exact ⟨p, l, many, n, rfl, a, (by show n + 11 ≤ 2 ^ 40; omega), c, Int.le_trans d (by decide +kernel), by decide, e⟩
end
end Ur
/-! K2: pick, around, power, great, names. -/
namespace Ur
open PySem PySem.Spec PyProof.Rows L2
/-! ### pick -/
abbrev s__law_pick : Stmt := (topS 22)
abbrev N_sc__law_pick : List Str := ["_law_pen_here", "_law_options"]
abbrev P__law_pick : List Str := ["_law_pen_here", "_law_options"]
theorem sc__law_pick : FnScope N_sc__law_pick P__law_pick (defScope s__law_pick) := ⟨rfl, rfl, rfl, by decide +kernel, rfl, by decide +kernel, by decide +kernel⟩
def spPickL (K : PySem.W.Frag) : Sp := fun vs H Q _ => ∃ (p l a : Addr) (xs : List V) (n : Nat), vs = [.ref p, .ref a] ∧ Pen H p l n ∧ n ≤ 2 ^ 39 ∧ SqL K H a xs ∧ 1 ≤ xs.length ∧ xs.length ≤ 1000000 ∧
  ∀ v H', v ∈ xs → Pen H' p l (n + 12) → Keep p H H' → Q v H'
def spPickS : Sp := fun vs H Q _ => ∃ (p l : Addr) (z : Str) (n : Nat), vs = [.ref p, .str z] ∧ Pen H p l n ∧ n ≤ 2 ^ 39 ∧ 1 ≤ z.length ∧ z.length ≤ 1000000 ∧
  ∀ c H', c ∈ z.cps.toList → Pen H' p l (n + 12) → Keep p H H' → Q (.str ⟨#[c]⟩) H'
theorem at_some {α : Type} {xs : List α} {i : Int} (h0 : 0 ≤ i) (h1 : i < (xs.length : Int)) : ∃ v, atI xs i = some v ∧ v ∈ xs := by
  obtain ⟨j, rfl⟩ : ∃ j : Nat, i = (j : Int) := ⟨i.toNat, by omega⟩
  have hj : j < xs.length := by omega
  exact ⟨xs[j], atI_nat (List.getElem?_eq_getElem hj), List.getElem_mem hj⟩
section
variable {P : Program} {w : World} {K : PySem.W.Frag} {mg : Str → Option Value} {base : Heap}
theorem ok_pickL (D : Dfn K mg "_law_pick" s__law_pick P__law_pick) (B : Blt mg) (CD : Cal P w K mg base 12 "_law_draw" P__law_draw spDr) : Cal P w K mg base 13 "_law_pick" P__law_pick (spPickL K) := by
  refine D.cal sc__law_pick (fun vs H Q E h => ?_) fun f cdv A outer s H vs Q E hr h => ?_
  · obtain ⟨p, l, a, xs, n, rfl, _⟩ := h
    rfl
  obtain ⟨p, l, a, xs, n, rfl, Pn, hn, hS, h1, h2, q⟩ := h
  obtain ⟨kvs, hp⟩ := Pn.dk
  refine ⟨_, (pss_one (ps_ret (pe_ix ix_list (pv 1) (pe_cal CD (hr.mono (by decide)) (pa_cons (pv 0) (pa_cons (pe_callB call_len_seq rfl B.len_ PySem.boot_len (pa_cons (pv 1) pa_nil)) pa_nil))) (fun _ _ => rfl)))), ?_⟩
  refine ⟨_, rfl, _, rfl, _, rfl, a, _, rfl, .inl hS, p, l, _, n, rfl, Pn, hn, by omega, by omega, fun v H1 v0 v1 P1 k1 => ?_⟩
  obtain ⟨x, hx, hm⟩ := at_some v0 v1
  exact ⟨a, xs, v, x, rfl, rfl, k1.lst hp hS, hx, q _ _ hm P1 k1⟩
theorem ok_pickS (D : Dfn K mg "_law_pick" s__law_pick P__law_pick) (B : Blt mg) (CD : Cal P w K mg base 12 "_law_draw" P__law_draw spDr) : Cal P w K mg base 13 "_law_pick" P__law_pick spPickS := by
  refine D.cal sc__law_pick (fun vs H Q E h => ?_) fun f cdv A outer s H vs Q E hr h => ?_
  · obtain ⟨p, l, z, n, rfl, _⟩ := h
    rfl
  obtain ⟨p, l, z, n, rfl, Pn, hn, h1, h2, q⟩ := h
  have hz : z.length ≤ sizeLine := Nat.le_trans h2 (by decide)
  refine ⟨_, (pss_one (ps_ret (pe_ix ix_str (pv 1) (pe_cal CD (hr.mono (by decide)) (pa_cons (pv 0) (pa_cons (pe_callB call_len_str rfl B.len_ PySem.boot_len (pa_cons (pv 1) pa_nil)) pa_nil))) (fun _ _ => rfl)))), ?_⟩
  refine ⟨_, rfl, _, rfl, _, rfl, _, rfl, hz, p, l, _, n, rfl, Pn, hn, by omega, by omega, fun v H1 v0 v1 P1 k1 => ?_⟩
  have e : z.length = z.cps.toList.length := by show z.cps.size = _; rw [Array.length_toList]
  obtain ⟨x, hx, hm⟩ := at_some (xs := z.cps.toList) v0 (by omega)
  exact ⟨z, v, x, rfl, rfl, hz, hx, q _ _ hm P1 k1⟩
end
/-! ### around -/
abbrev s__law_around : Stmt := (topS 23)
abbrev N_sc__law_around : List Str := ["_law_pen_here", "_law_most"]
abbrev P__law_around : List Str := ["_law_pen_here", "_law_most"]
theorem sc__law_around : FnScope N_sc__law_around P__law_around (defScope s__law_around) := ⟨rfl, rfl, rfl, by decide +kernel, rfl, by decide +kernel, by decide +kernel⟩
def spAround : Sp := fun vs H Q _ => ∃ (p l : Addr) (most : Int) (n : Nat), vs = [.ref p, .int most] ∧ Pen H p l n ∧ n ≤ 2 ^ 39 ∧ 0 ≤ most ∧ most ≤ 10 ^ 80 ∧
  ∀ v H', -most ≤ v → v ≤ most → Pen H' p l (n + 12) → Keep p H H' → Q (.int v) H'
section
variable {P : Program} {w : World} {K : PySem.W.Frag} {mg : Str → Option Value} {base : Heap}
theorem ok_around (D : Dfn K mg "_law_around" s__law_around P__law_around) (CD : Cal P w K mg base 12 "_law_draw" P__law_draw spDr) : Cal P w K mg base 13 "_law_around" P__law_around spAround := by
  refine D.cal sc__law_around (fun vs H Q E h => ?_) fun f cdv A outer s H vs Q E hr h => ?_
  · obtain ⟨p, l, most, n, rfl, _⟩ := h
    rfl
  obtain ⟨p, l, most, n, rfl, Pn, hn, h1, h2, q⟩ := h
  refine ⟨_, (pss_one (ps_ret (pe_op op_sub (pe_cal CD (hr.mono (by decide)) (pa_cons (pv 0) (pa_cons (pe_op op_add (pe_op op_mul pe_int (pv 1)) pe_int) pa_nil))) (pv 1)))), ?_⟩
  refine ⟨_, rfl, _, rfl, _, _, rfl, rfl, .inl ⟨by decide, by decide⟩, _, _, rfl, rfl, p, l, _, n, rfl, Pn, hn, by omega, by omega, fun v H1 v0 v1 P1 k1 => ?_⟩
  exact ⟨_, rfl, _, _, rfl, rfl, q _ _ (by omega) (by omega) P1 k1⟩
end
/-! ### power, great -/
abbrev s__law_power : Stmt := (topS 24)
abbrev N_sc__law_power : List Str := ["_law_figures", "_law_found", "_law_k"]
abbrev P__law_power : List Str := ["_law_figures"]
theorem sc__law_power : FnScope N_sc__law_power P__law_power (defScope s__law_power) := ⟨rfl, rfl, rfl, by decide +kernel, rfl, by decide +kernel, by decide +kernel⟩
def spPower : Sp := fun vs H Q _ => ∃ (g : Nat), vs = [.int (g : Int)] ∧ g ≤ 100 ∧ Q (.int (10 ^ g)) H
theorem pow_bits {i : Nat} (h : i ≤ 100) : ((10 : Int) ^ i).natAbs < 2 ^ 400 := by
  have e : ((10 : Int) ^ i).natAbs = 10 ^ i := by rw [Int.natAbs_pow]; rfl
  rw [e]
  exact Nat.lt_of_le_of_lt (Nat.pow_le_pow_right (by decide) h) (by decide +kernel)
section
variable {P : Program} {w : World} {K : PySem.W.Frag} {mg : Str → Option Value} {base : Heap}
theorem ok_power (D : Dfn K mg "_law_power" s__law_power P__law_power) (B : Blt mg) : Cal P w K mg base 1 "_law_power" P__law_power spPower := by
  refine D.cal sc__law_power (fun vs H Q E h => ?_) fun f cdv A outer s H vs Q E hr h => ?_
  · obtain ⟨g, rfl, _⟩ := h
    rfl
  obtain ⟨g, rfl, hg, q⟩ := h
  refine ⟨_, (pss_cons (ps_set (i := 1) sc__law_power.nd rfl (Or.inl rfl) pe_int) (pss_cons (ps_for PassesOwn.never rfl (pi_range1 rfl B.range_ (pa_cons (pv 0) pa_nil)) (pg_name (i := 2) sc__law_power.nd rfl (Or.inl rfl)) (pss_one (ps_set (i := 1) sc__law_power.nd rfl (Or.inl rfl) (pe_op op_mulW (pv 1) pe_int)))) (pss_one (ps_ret (pv 1))))), ?_⟩
  refine ⟨_, rfl, (g : Int), rfl, by omega, by omega, for_range (lo := 0) (n := (g : Int).toNat) (fun i σ H' => i ≤ g ∧ H' = H ∧ ∃ v, σ = [some (.int (g : Int)), some (.int (10 ^ i)), v]) ⟨by omega, rfl, _, rfl⟩ ?_ ?_⟩
  · rintro i σ H' hi ⟨hi2, rfl, v, rfl⟩
    refine ⟨_, rfl, _, _, rfl, rfl, wide_mul (a := 400) (b := 4) (pow_bits (by omega)) (by decide) (by decide) (by decide) (by decide), ?_⟩
    exact ⟨by omega, rfl, _, by rw [Int.pow_succ]; rfl⟩
  · rintro σ H' ⟨hi2, rfl, v, rfl⟩
    exact ⟨_, rfl, q⟩
end
theorem pow10_le {a b : Nat} (h : a ≤ b) : (10 : Int) ^ a ≤ 10 ^ b := by
  have z := Nat.pow_le_pow_right (n := 10) (by decide) h
  exact_mod_cast z
abbrev s__law_great : Stmt := (topS 25)
abbrev N_sc__law_great : List Str := ["_law_pen_here", "_law_figures", "_law_most", "_law_some"]
abbrev P__law_great : List Str := ["_law_pen_here", "_law_figures"]
theorem sc__law_great : FnScope N_sc__law_great P__law_great (defScope s__law_great) := ⟨rfl, rfl, rfl, by decide +kernel, rfl, by decide +kernel, by decide +kernel⟩
def spGreat : Sp := fun vs H Q _ => ∃ (p l : Addr) (g n : Nat), vs = [.ref p, .int (g : Int)] ∧ Pen H p l n ∧ n + 72 ≤ 2 ^ 39 ∧ 1 ≤ g ∧ g ≤ 80 ∧
  ∀ v H', 0 ≤ v → v < 10 ^ g → Pen H' p l (n + 72) → Keep p H H' → Q (.int v) H'
section
variable {P : Program} {w : World} {K : PySem.W.Frag} {mg : Str → Option Value} {base : Heap}
theorem ok_great (D : Dfn K mg "_law_great" s__law_great P__law_great) (CW : Cal P w K mg base 1 "_law_power" P__law_power spPower) (CD : Cal P w K mg base 12 "_law_draw" P__law_draw spDr) (CP : Cal P w K mg base 13 "_law_pick" P__law_pick (spPickL K)) :
    Cal P w K mg base 14 "_law_great" P__law_great spGreat := by
  refine D.cal sc__law_great (fun vs H Q E h => ?_) fun f cdv A outer s H vs Q E hr h => ?_
  · obtain ⟨p, l, g, n, rfl, _⟩ := h
    rfl
  obtain ⟨p, l, g, n, rfl, Pn, hn, g1, g2, q⟩ := h
  obtain ⟨kvs, hp⟩ := Pn.dk
  have big : (10 : Int) ≤ 10 ^ g := pow10_le g1
  have top : (10 : Int) ^ g ≤ 10 ^ 81 := pow10_le (by omega)
  refine ⟨_, (pss_cons (ps_set (i := 2) sc__law_great.nd rfl (Or.inl rfl) (pe_cal CW (hr.mono (by decide)) (pa_cons (pv 1) pa_nil))) (pss_cons (ps_set (i := 3) sc__law_great.nd rfl (Or.inl rfl) (pe_lst (pa_cons (pe_cal CD (hr.mono (by decide)) (pa_cons (pv 0) (pa_cons pe_int pa_nil))) (pa_cons (pe_cal CD (hr.mono (by decide)) (pa_cons (pv 0) (pa_cons (pv 2) pa_nil))) (pa_cons (pe_cal CD (hr.mono (by decide)) (pa_cons (pv 0) (pa_cons (pv 2) pa_nil))) pa_nil))))) (pss_one (ps_ret (pe_cal CP (hr.mono (by decide)) (pa_cons (pv 0) (pa_cons (pe_op op_cat (pv 3) (pe_lst (pa_cons (pe_op op_add (pe_op op_fdivW (pv 2) pe_int) (pe_cal CD (hr.mono (by decide)) (pa_cons (pv 0) (pa_cons pe_int pa_nil)))) (pa_cons (pe_op op_sub (pe_op op_sub (pv 2) pe_int) (pe_cal CD (hr.mono (by decide)) (pa_cons (pv 0) (pa_cons pe_int pa_nil)))) pa_nil)))) pa_nil))))))), ?_⟩
  refine ⟨_, rfl, g, rfl, by omega, ?_⟩
  generalize (10 : Int) ^ g = most at big top q ⊢
  refine ⟨_, rfl, p, l, _, n, rfl, Pn, by omega, by omega, by omega, fun v1 H1 a1 b1 P1 k1 => ?_⟩
  refine ⟨_, rfl, _, rfl, p, l, _, _, rfl, P1, by omega, by omega, by omega, fun v2 H2 a2 b2 P2 k2 => ?_⟩
  refine ⟨_, rfl, _, rfl, p, l, _, _, rfl, P2, by omega, by omega, by omega, fun v3 H3 a3 b3 P3 k3 => ?_⟩
  refine ⟨(by show 3 ≤ sizeLine; decide), fun t ht => ?_⟩
  have P4 := P3.new (o := .lst [.int v1, .int v2, .int v3]) ht
  have k4 := ((k1.trans k2).trans k3).new (o := .lst [.int v1, .int v2, .int v3]) ht
  have ht4 : (upd H3 t (.lst [.int v1, .int v2, .int v3])) t = some (.lst [.int v1, .int v2, .int v3]) := upd_same
  have tp := P3.ne ht
  have tl := P3.nl ht
  generalize upd H3 t (.lst [.int v1, .int v2, .int v3]) = H4 at P4 k4 ht4 ⊢
  refine ⟨_, rfl, _, rfl, _, rfl, _, _, rfl, rfl, wide_div (b := 4) (by decide) (by decide) (by decide) (by decide), _, rfl, p, l, _, _, rfl, P4, by omega, by omega, by omega, fun v4 H5 a4 b4 P5 k5 => ?_⟩
  refine ⟨_, _, rfl, rfl, _, rfl, _, _, rfl, rfl, _, rfl, p, l, _, _, rfl, P5, by omega, by omega, by omega, fun v5 H6 a5 b5 P6 k6 => ?_⟩
  refine ⟨_, _, rfl, rfl, (by show 2 ≤ sizeLine; decide), fun u hu => ?_⟩
  have e6 := k6 _ _ (k5 _ _ ht4 tp) tp
  have e7 := same_new hu (.lst [.int (most / 10 + v4), .int (most - 1 - v5)]) _ _ e6
  refine ⟨t, u, _, _, rfl, rfl, e7, upd_same, (by show 5 ≤ sizeLine; decide), fun y hy => ?_⟩
  refine ⟨p, l, y, _, _, rfl, (P6.new hu).new hy, by omega, SqL.of upd_same, by show 1 ≤ 5; decide, by show 5 ≤ 1000000; decide, fun v H7 hv P7 k7 => ?_⟩
  have z : ∃ i : Int, v = .int i ∧ 0 ≤ i ∧ i < most := by
    simp only [List.mem_append, List.mem_cons, List.not_mem_nil, or_false] at hv
    rcases hv with (rfl | rfl | rfl) | (rfl | rfl) <;> exact ⟨_, rfl, by omega, by omega⟩
  obtain ⟨i, rfl, i0, i1⟩ := z
  exact q i H7 i0 i1 (P7.le (by omega)) ((((k4.trans k5).trans k6).new hu).new hy |>.trans k7)
end
end Ur
/-! K3: names. -/
namespace Ur
open PySem PySem.Spec PyProof.Rows L2
/-- small letters only -/
def LetOk (z : Str) : Prop := ∀ c ∈ z.cps.toList, 97 ≤ c ∧ c ≤ 122
def NameOk (z : Str) : Prop := 1 ≤ z.length ∧ z.length ≤ 8 ∧ LetOk z
theorem LetOk.app {a b : Str} (x : LetOk a) (y : LetOk b) : LetOk (a ++ b) := fun c h => by
  rw [Str.cps_append, Array.toList_append, List.mem_append] at h
  exact h.elim (x c) (y c)
theorem LetOk.empty : LetOk Str.empty := fun c h => by simp [Str.empty] at h
theorem LetOk.one {c : Nat} (h : 97 ≤ c ∧ c ≤ 122) : LetOk ⟨#[c]⟩ := fun d hd => by
  have e : d = c := by simpa using hd
  rw [e]; exact h
def lett : Str := Str.ofString "abcdefghijklmnopqrstuvwxyz"
theorem lett_ok : LetOk lett := by unfold LetOk; decide +kernel
theorem lett_len : lett.length = 26 := by decide +kernel
theorem lett_tl : lett.cps.toList.length = 26 := by decide +kernel
theorem join_ok : ∀ ss : List Str, (∀ z ∈ ss, z.length = 1 ∧ LetOk z) → (Txt.join Str.empty ss).length = ss.length ∧ LetOk (Txt.join Str.empty ss) := by
  intro ss h
  rw [show Txt.join Str.empty ss = Str.join Str.empty ss from PySem.StrLaws.glued_eq_join _ _]
  induction ss with
  | nil => exact ⟨rfl, LetOk.empty⟩
  | cons a r ih =>
    have ha := h a List.mem_cons_self
    have hr := ih fun z hz => h z (List.mem_cons_of_mem _ hz)
    cases r with
    | nil => exact ⟨ha.1, ha.2⟩
    | cons b r =>
      show (a ++ Str.empty ++ Str.join Str.empty (b :: r)).length = (b :: r).length + 1 ∧ LetOk (a ++ Str.empty ++ Str.join Str.empty (b :: r))
      rw [Str.append_empty, Str.length_append, hr.1, ha.1]
      exact ⟨by omega, ha.2.app hr.2⟩
theorem sum_ones : ∀ ss : List Str, (∀ z ∈ ss, z.length = 1 ∧ LetOk z) → (ss.map (·.length)).sum = ss.length
  | [], _ => rfl
  | a :: r, h => by
    rw [List.map_cons, List.sum_cons, sum_ones r fun z hz => h z (List.mem_cons_of_mem _ hz), (h a List.mem_cons_self).1, List.length_cons]
    omega
theorem mem_snoc {α : Type} {P : α → Prop} {l : List α} {a : α} (h : ∀ z ∈ l, P z) (ha : P a) : ∀ z ∈ l ++ [a], P z := fun z hz => by
  rcases List.mem_append.mp hz with q | q
  · exact h z q
  · rw [List.mem_singleton.mp q]; exact ha
abbrev s__law_names : Stmt := (topS 26)
abbrev N_sc__law_names : List Str := ["_law_pen_here", "_law_many", "_law_letters", "_law_stem", "_law_k", "_law_front", "_law_found", "_law_step", "_law_own", "_law_tail"]
abbrev P__law_names : List Str := ["_law_pen_here", "_law_many"]
theorem sc__law_names : FnScope N_sc__law_names P__law_names (defScope s__law_names) := ⟨rfl, rfl, rfl, by decide +kernel, rfl, by decide +kernel, by decide +kernel⟩
def spNames : Sp := fun vs H Q _ => ∃ (p l : Addr) (m n : Nat), vs = [.ref p, .int (m : Int)] ∧ Pen H p l n ∧ n + 12 * (m + 9) ≤ 2 ^ 39 ∧ m ≤ 1000 ∧
  ∀ (F : Addr) (ss : List Str) (H' : Hp), H' F = some (.lst (ss.map V.str)) → ss.length = m → (∀ z ∈ ss, NameOk z) → H F = none → Pen H' p l (n + 12 * (m + 9)) → Keep p H H' → Q (.ref F) H'
section
variable {P : Program} {w : World} {K : PySem.W.Frag} {mg : Str → Option Value} {base : Heap}
set_option maxHeartbeats 16000000 in
theorem ok_names (D : Dfn K mg "_law_names" s__law_names P__law_names) (B : Blt mg) (CD : Cal P w K mg base 12 "_law_draw" P__law_draw spDr) (CP : Cal P w K mg base 13 "_law_pick" P__law_pick (spPickL K)) (CS : Cal P w K mg base 13 "_law_pick" P__law_pick spPickS) :
    Cal P w K mg base 14 "_law_names" P__law_names spNames := by
  refine D.cal sc__law_names (fun vs H Q E h => ?_) fun f cdv A outer s H vs Q E hr h => ?_
  · obtain ⟨p, l, m, n, rfl, _⟩ := h
    rfl
  obtain ⟨p, l, m, n, rfl, Pn, hn, hm, q⟩ := h
  obtain ⟨kvs, hp⟩ := Pn.dk
  have small : ∀ x : Nat, x ≤ 1000 → x ≤ sizeLine := fun x h => Nat.le_trans h (by decide)
  refine ⟨_, (pss_cons (ps_set (i := 2) sc__law_names.nd rfl (Or.inr rfl) pe_str) (C8.pss_cut (ps_set (i := 3) sc__law_names.nd rfl (Or.inl rfl) (pe_join pe_str (pe_lc (own := [("_law_k", 4)]) (g := gName 4) (tt := tYes) rfl sc__law_names.nd (pi_range1 rfl B.range_ (pa_cons (pe_cal CD (hr.mono (by decide)) (pa_cons (pv 0) (pa_cons pe_int pa_nil))) pa_nil)) (blkOk_by (N := N_sc__law_names) (sc := defScope s__law_names) (by decide +kernel)) (fun _ _ _ _ _ => pg_name (i := 4) sc__law_names.nd rfl (Or.inl rfl)) (fun _ _ _ _ _ => pts_nil) (fun _ _ _ _ _ => (pe_cal CS (hr.mono (by decide)) (pa_cons (pv 0) (pa_cons (pv 2) pa_nil))))))) (pss_cons (ps_par (i := 5) (j := 6) rfl sc__law_names.nd rfl rfl (by decide) rfl rfl (pa_cons (pe_cal CD (hr.mono (by decide)) (pa_cons (pv 0) (pa_cons pe_int pa_nil))) (pa_cons (pe_lst pa_nil) pa_nil)) (by rfl)) (pss_cons (ps_set (i := 7) sc__law_names.nd rfl (Or.inl rfl) (pe_cal CP (hr.mono (by decide)) (pa_cons (pv 0) (pa_cons (pe_lst (pa_cons pe_int (pa_cons pe_int (pa_cons pe_int (pa_cons pe_int (pa_cons pe_int (pa_cons pe_int (pa_cons pe_int (pa_cons pe_int (pa_cons pe_int (pa_cons pe_int (pa_cons pe_int (pa_cons pe_int pa_nil))))))))))))) pa_nil)))) (pss_cons (ps_for PassesOwn.never rfl (pi_range1 rfl B.range_ (pa_cons (pv 1) pa_nil)) (pg_name (i := 4) sc__law_names.nd rfl (Or.inl rfl)) (pss_cons (ps_set (i := 8) sc__law_names.nd rfl (Or.inl rfl) (pe_ix ix_str (pv 2) (pe_op op_mod (pe_callTy call_int1 rfl B.int_ (by decide +kernel) (pa_cons (pe_op op_add (pv 5) (pe_op op_mul (pv 7) (pv 4))) pa_nil)) pe_int) (fun _ _ => rfl))) (C8.pss_cut (ps_set (i := 9) sc__law_names.nd rfl (Or.inl rfl) (pe_ifExp (pt_cmpR op_lt (pv 4) pe_int (nomark _)) pe_str (pe_cal CS (hr.mono (by decide)) (pa_cons (pv 0) (pa_cons (pv 2) pa_nil))))) (pss_one (ps_expr (pe_bm PySem.F.plainAttrs_list PySem.F.slot_list_append PySem.F.type_list_append mt_append (pv 6) (pa_cons (pe_op op_add_str (pe_ix ix_list (pe_lst (pa_cons (pe_op op_add_str (pv 3) (pv 8)) (pa_cons (pe_op op_add_str (pv 8) (pv 3)) pa_nil))) (pe_op op_mod (pe_callB call_len_str rfl B.len_ PySem.boot_len (pa_cons (pv 3) pa_nil)) pe_int) (fun _ _ => rfl)) (pv 9)) pa_nil))))))) (pss_one (ps_ret (pv 6)))))))), ?_⟩
  refine ⟨fun σ' H' => ∃ stem : Str, σ' = [some (.ref p), some (.int (m : Int)), some (.str lett), some (.str stem), none, none, none, none, none, none] ∧ stem.length ≤ 6 ∧ LetOk stem ∧ Pen H' p l (n + 84) ∧ Keep p H H', ?_, ?_⟩
  · refine ⟨⟨_, rfl⟩, _, rfl, p, l, 7, n, rfl, Pn, by omega, by omega, by omega, fun v0 H1 a0 b0 P1 k1 => ?_⟩
    refine ⟨v0, rfl, by omega, by omega, fun D hD => lc_range (lo := 0) (n := v0.toNat) (fun i H' => ∃ ss : List Str, H' D = some (.lst (ss.map V.str)) ∧ ss.length = i ∧ (∀ z ∈ ss, z.length = 1 ∧ LetOk z) ∧ Pen H' p l (n + 12 + 12 * i) ∧ Keep p H H')
      ⟨[], upd_same, rfl, fun z hz => absurd hz List.not_mem_nil, (P1.new hD).le (by omega), k1.new hD⟩ ?_ ?_⟩
    · rintro i H' hi ⟨ss, hs, hl, ho, Pi, ki⟩
      refine ⟨rfl, ?_⟩
      refine ⟨_, rfl, _, rfl, p, l, lett, _, rfl, Pi, by omega, by rw [lett_len]; decide, by rw [lett_len]; decide, fun c H3 hc P3 k3 => ?_⟩
      have nD := P1.ne hD
      have nDl := P1.nl hD
      have hD0 : H D = none := k1.none_of hD nD
      refine ⟨ss.map V.str, k3 _ _ hs nD, by rw [List.length_map]; exact small1000 (by omega), ss ++ [⟨#[c]⟩], by rw [upd_same, List.map_append]; rfl, by rw [List.length_append, hl]; rfl, mem_snoc ho ⟨rfl, LetOk.one (lett_ok c hc)⟩, (P3.le (by omega)).upd nD nDl, (ki.trans k3).at_new hD0⟩
    · rintro H' ⟨ss, hs, hl, ho, Pi, ki⟩
      refine ⟨_, D, ss, rfl, rfl, .inl (SqL.of hs), ?_, ?_⟩
      · rw [sum_ones ss ho]
        show ss.length + ss.length * 0 ≤ _
        omega
      · obtain ⟨j1, j2⟩ := join_ok ss ho
        exact ⟨_, rfl, by show (Txt.join Str.empty ss).length ≤ 6; omega, j2, Pi.le (by omega), ki⟩
  rintro σ' H1 ⟨stem, rfl, st1, st2, P1, k1⟩
  refine ⟨_, rfl, p, l, 26, _, rfl, P1, by omega, by omega, by omega, fun fr H2 f0 f1 P2 k2 => ?_⟩
  refine ⟨(by show 0 ≤ sizeLine; decide), fun F hF => ?_⟩
  have nF := P2.ne hF
  have nFl := P2.nl hF
  have hF0 : H F = none := (k1.trans k2).none_of hF nF
  refine ⟨_, _, rfl, ?_⟩
  refine ⟨_, rfl, (by show 12 ≤ sizeLine; decide), fun t ht => ?_⟩
  refine ⟨p, l, t, _, _, rfl, (P2.new hF).new ht, by omega, SqL.of upd_same, by show 1 ≤ 12; decide, by show 12 ≤ 1000000; decide, fun st H4 hst P4 k4 => ?_⟩
  obtain ⟨sp, hsp, rfl⟩ : ∃ i : Int, i ∈ ([1, 3, 5, 7, 9, 11, 15, 17, 19, 21, 23, 25] : List Int) ∧ V.int i = st := List.mem_map.mp (show st ∈ ([1, 3, 5, 7, 9, 11, 15, 17, 19, 21, 23, 25] : List Int).map V.int from hst)
  have sp1 : 1 ≤ sp ∧ sp ≤ 25 := (by decide : ∀ i ∈ ([1, 3, 5, 7, 9, 11, 15, 17, 19, 21, 23, 25] : List Int), 1 ≤ i ∧ i ≤ 25) sp hsp
  have hF4 : H4 F = some (.lst []) := k4 _ _ (same_new ht (.lst (([1, 3, 5, 7, 9, 11, 15, 17, 19, 21, 23, 25] : List Int).map V.int)) _ _ upd_same) nF
  have k5 : Keep p H H4 := (((k1.trans k2).new hF).new ht).trans k4
  refine ⟨_, rfl, (m : Int), rfl, by omega, by omega, for_range (lo := 0) (n := (m : Int).toNat) (fun i σ' H' => ∃ (ss : List Str) (k own tail : Option V), σ' = [some (.ref p), some (.int (m : Int)), some (.str lett), some (.str stem), k, some (.int fr), some (.ref F), some (.int sp), own, tail] ∧
      H' F = some (.lst (ss.map V.str)) ∧ ss.length = i ∧ i ≤ m ∧ (∀ z ∈ ss, NameOk z) ∧ Pen H' p l (n + 108 + 12 * i) ∧ Keep p H H') ⟨[], none, none, none, rfl, hF4, rfl, Nat.zero_le _, fun z hz => absurd hz List.not_mem_nil, P4.le (by omega), k5⟩ ?_ ?_⟩
  · rintro i σ' H' hi ⟨ss, k, own, tail, rfl, hFi, hl, him, ho, Pi, ki⟩
    have him : i < m := by omega
    obtain ⟨c, hc, hcm⟩ := at_some (xs := lett.cps.toList) (em0 (fr + sp * (0 + (i : Int))) (m := 26) (by decide)) (by rw [lett_tl]; exact em1 _ (by decide))
    refine ⟨_, rfl, _, rfl, _, rfl, _, rfl, _, _, rfl, rfl, .inl (by omega), _, _, rfl, rfl, .inl ⟨_, rfl, _, _, rfl, rfl, by omega, lett, _, c, rfl, rfl, by rw [lett_len]; decide, hc, ?_⟩⟩
    have hcl := lett_ok c hcm
    refine ⟨fun σ' H'' => ∃ t : Str, σ' = [some (.ref p), some (.int (m : Int)), some (.str lett), some (.str stem), some (.int (0 + (i : Int))), some (.int fr), some (.ref F), some (.int sp), some (.str ⟨#[c]⟩), some (.str t)] ∧ t.length ≤ 1 ∧ LetOk t ∧ Pen H'' p l (n + 108 + 12 * i + 12) ∧ Keep p H' H'', ?_, ?_⟩
    · refine ⟨_, rfl, _, _, rfl, rfl, _, rfl, ?_⟩
      refine ite2 (fun _ => ?_) (fun _ => ?_)
      · exact ⟨Str.empty, rfl, by decide, LetOk.empty, Pi.le (by omega), Keep.refl⟩
      · refine ⟨_, rfl, _, rfl, p, l, lett, _, rfl, Pi, by omega, by rw [lett_len]; decide, by rw [lett_len]; decide, fun c2 H3 hc2 P3 k3 => ?_⟩
        exact ⟨⟨#[c2]⟩, rfl, Nat.le_refl 1, LetOk.one (lett_ok c2 hc2), P3, k3⟩
    rintro σ' H3 ⟨t, rfl, t1, t2, P3, k3⟩
    have hF3 := k3 _ _ hFi nF
    have cl : (⟨#[c]⟩ : Str).length = 1 := rfl
    refine ⟨_, rfl, .inl ⟨rfl, _, SqL.of hF3⟩, ?_⟩
    refine ⟨_, rfl, _, rfl, _, _, rfl, rfl, small _ (by rw [cl]; omega), _, rfl, _, rfl, _, _, rfl, rfl, small _ (by rw [cl]; omega), (by show 2 ≤ sizeLine; decide), fun u hu => ?_⟩
    obtain ⟨v, hv, hvm⟩ := at_some (xs := [V.str (stem ++ ⟨#[c]⟩), V.str (⟨#[c]⟩ ++ stem)]) (em0 (stem.length : Int) (m := 2) (by decide)) (em1 (stem.length : Int) (m := 2) (by decide))
    obtain ⟨g, rfl, g1, g2⟩ : ∃ g : Str, v = .str g ∧ g.length = stem.length + 1 ∧ LetOk g := by
      simp only [List.mem_cons, List.not_mem_nil, or_false] at hvm
      rcases hvm with rfl | rfl
      · exact ⟨_, rfl, by rw [Str.length_append, cl], st2.app (LetOk.one hcl)⟩
      · exact ⟨_, rfl, by rw [Str.length_append, cl]; omega, (LetOk.one hcl).app st2⟩
    refine ⟨_, rfl, _, rfl, small _ (by omega), _, _, rfl, rfl, by omega, u, _, _, _, rfl, rfl, SqL.of upd_same, hv, _, rfl, _, _, rfl, rfl, small _ (by omega), ?_⟩
    have hF5 := same_new hu (.lst [V.str (stem ++ ⟨#[c]⟩), V.str (⟨#[c]⟩ ++ stem)]) _ _ hF3
    refine ⟨F, _, _, rfl, rfl, hF5, by rw [List.length_map]; exact small1000 (by omega), ?_⟩
    refine ⟨ss ++ [g ++ t], _, _, _, rfl, by rw [upd_same, List.map_append]; rfl, by rw [List.length_append, hl]; rfl, by omega, mem_snoc ho ⟨by rw [Str.length_append]; omega, by rw [Str.length_append]; omega, g2.app t2⟩, ((P3.new hu).le (by omega)).upd nF nFl, ((ki.trans k3).new hu).at_new hF0⟩
  · rintro σ' H' ⟨ss, k, own, tail, rfl, hFi, hl, him, ho, Pi, ki⟩
    refine ⟨_, rfl, ?_⟩
    exact q F ss H' hFi (by omega) ho hF0 (Pi.le (by omega)) ki
end
end Ur
/-! K4: the painter: is_integer, is_between, is_name, __init__, its fields. -/
namespace Ur
open PySem PySem.Spec PyProof.Rows L2
abbrev s_is_integer : Stmt := (topS 10)
abbrev N_sc_is_integer : List Str := ["value"]
abbrev P_is_integer : List Str := ["value"]
theorem sc_is_integer : FnScope N_sc_is_integer P_is_integer (defScope s_is_integer) := ⟨rfl, rfl, rfl, by decide +kernel, rfl, by decide +kernel, by decide +kernel⟩
def spIsInt : Sp := fun vs H Q _ => ∃ (i : Int), vs = [.int i] ∧ Q (.bl true) H
abbrev s_is_between : Stmt := (topS 11)
abbrev N_sc_is_between : List Str := ["value", "least", "most"]
abbrev P_is_between : List Str := ["value", "least", "most"]
theorem sc_is_between : FnScope N_sc_is_between P_is_between (defScope s_is_between) := ⟨rfl, rfl, rfl, by decide +kernel, rfl, by decide +kernel, by decide +kernel⟩
def spBetween : Sp := fun vs H Q _ => ∃ (v a b : Int), vs = [.int v, .int a, .int b] ∧ Q (.bl (decide (a ≤ v ∧ v ≤ b))) H
section
variable {P : Program} {w : World} {K : PySem.W.Frag} {mg : Str → Option Value} {base : Heap}
theorem ok_is_integer (D : Dfn K mg "is_integer" s_is_integer P_is_integer) (B : Blt mg) : Cal P w K mg base 1 "is_integer" P_is_integer spIsInt := by
  refine D.cal sc_is_integer (fun vs H Q E h => ?_) fun f cdv A outer s H vs Q E hr h => ?_
  · obtain ⟨i, rfl, _⟩ := h
    rfl
  obtain ⟨i, rfl, q⟩ := h
  refine ⟨_, (pss_one (ps_ret (pe_and (pe_callB call_isi rfl B.isinstance_ (by decide +kernel) (pa_cons (pv 0) (pa_cons (pe_bltn (v := .ty "int") rfl B.int_ (by decide +kernel) rfl) pa_nil))) (pe_one (pe_not (pe_callB call_isi rfl B.isinstance_ (by decide +kernel) (pa_cons (pv 0) (pa_cons (pe_bltn (v := .ty "bool") rfl B.bool_ (by decide +kernel) rfl) pa_nil)))))))), ?_⟩
  refine ⟨_, rfl, _, _, _, _, true, rfl, ClsV.ty "int", (TyX.base (TyOf.int i)), kit_ty (by decide +kernel), true, rfl, ?_⟩
  exact ⟨_, rfl, _, _, _, _, false, rfl, ClsV.ty "bool", (TyX.base (TyOf.int i)), kit_ty (by decide +kernel), false, rfl, q⟩
theorem ok_is_between (D : Dfn K mg "is_between" s_is_between P_is_between) (CI : Cal P w K mg base 1 "is_integer" P_is_integer spIsInt) : Cal P w K mg base 2 "is_between" P_is_between spBetween := by
  refine D.cal sc_is_between (fun vs H Q E h => ?_) fun f cdv A outer s H vs Q E hr h => ?_
  · obtain ⟨v, a, b, rfl, _⟩ := h
    rfl
  obtain ⟨v, a, b, rfl, q⟩ := h
  refine ⟨_, (pss_one (ps_ret (pe_and (pe_cal CI (hr.mono (by decide)) (pa_cons (pv 0) pa_nil)) (pe_one (pe_chain op_le op_le (pv 1) (pv 0) (pv 2)))))), ?_⟩
  refine ⟨_, rfl, v, rfl, true, rfl, ?_⟩
  refine ⟨_, rfl, _, rfl, _, _, rfl, rfl, _, rfl, ?_⟩
  refine ite2 (fun c => ?_) (fun c => ?_)
  · have c := of_decide_eq_true c
    refine ⟨_, rfl, _, _, rfl, rfl, ?_⟩
    have e : decide (a ≤ v ∧ v ≤ b) = decide (v ≤ b) := by simp [c]
    rw [e] at q
    exact q
  · have c : ¬ a ≤ v := of_decide_eq_false (Bool.eq_false_iff.mpr c)
    have e : decide (a ≤ v ∧ v ≤ b) = false := by simp [c]
    rw [e] at q
    exact q
end
/-! ### names -/
abbrev s_Painter_is_name : Stmt := (inClass (topS 15) 15)
abbrev N_sc_Painter_is_name : List Str := ["value"]
abbrev P_Painter_is_name : List Str := ["value"]
theorem sc_Painter_is_name : FnScope N_sc_Painter_is_name P_Painter_is_name (defScope s_Painter_is_name) := ⟨rfl, rfl, rfl, by decide +kernel, rfl, by decide +kernel, by decide +kernel⟩
theorem uni_alpha : ∀ c : Nat, 97 ≤ c → c ≤ 122 → Unicode.isAlpha c = true ∧ Unicode.isLower c = true ∧ Unicode.isUpper c = false ∧ Unicode.isTitle c = false := by
  intro c h1 h2
  have z : ∀ i : Fin 26, Unicode.isAlpha (97 + i.val) = true ∧ Unicode.isLower (97 + i.val) = true ∧ Unicode.isUpper (97 + i.val) = false ∧ Unicode.isTitle (97 + i.val) = false := by decide +kernel
  have := z ⟨c - 97, by omega⟩
  have e : 97 + (c - 97) = c := by omega
  simpa only [e] using this
theorem arr_all {a : Array Nat} {f : Nat → Bool} (h : ∀ c ∈ a.toList, f c = true) : a.all f = true := by
  rw [← Array.all_toList]
  exact List.all_eq_true.mpr h
theorem arr_none {a : Array Nat} {f : Nat → Bool} (h : ∀ c ∈ a.toList, f c = false) : a.any f = false := by
  rw [← Array.any_toList]
  exact List.any_eq_false.mpr fun x hx => by rw [h x hx]; decide
theorem arr_some {a : Array Nat} {f : Nat → Bool} (h : ∀ c ∈ a.toList, f c = true) (n : 1 ≤ a.toList.length) : a.any f = true := by
  rw [← Array.any_toList]
  cases e : a.toList with
  | nil => rw [e] at n; exact absurd n (by decide)
  | cons x r => rw [List.any_cons, h x (by rw [e]; exact List.mem_cons_self), Bool.true_or]
theorem name_len {z : Str} (h : NameOk z) : 1 ≤ z.cps.toList.length := by
  have e : z.length = z.cps.size := rfl
  have := h.1
  rw [Array.length_toList]
  omega
theorem name_ascii {z : Str} (h : NameOk z) : Txt.isascii z = true := arr_all fun c hc => decide_eq_true (by have := h.2.2 c hc; omega)
theorem name_alpha {z : Str} (h : NameOk z) : Txt.isalpha z = true := by
  show (decide (z.length > 0) && z.cps.all Unicode.isAlpha) = true
  rw [arr_all fun c hc => (uni_alpha c (h.2.2 c hc).1 (h.2.2 c hc).2).1, decide_eq_true (by have := h.1; omega)]
  rfl
theorem name_lower {z : Str} (h : NameOk z) : Txt.islower z = true := by
  show (z.cps.any Unicode.isLower && !(z.cps.any fun c => Unicode.isUpper c || Unicode.isTitle c)) = true
  rw [arr_some (fun c hc => (uni_alpha c (h.2.2 c hc).1 (h.2.2 c hc).2).2.1) (name_len h), arr_none fun c hc => by
    obtain ⟨_, _, a, b⟩ := uni_alpha c (h.2.2 c hc).1 (h.2.2 c hc).2
    rw [a, b]
    rfl]
  rfl
def spIsName : Sp := fun vs H Q _ => ∃ z : Str, vs = [.str z] ∧ NameOk z ∧ Q (.bl true) H
section
variable {P : Program} {w : World} {K : PySem.W.Frag} {mg : Str → Option Value} {base : Heap}
theorem ok_is_name {f : Addr} {fd : FuncData} (F : Fun K "is_name" "Painter.is_name" s_Painter_is_name f fd) (B : Blt mg) : FnOk P w K mg base CX0 1 f fd P_Painter_is_name spIsName := by
  refine F.ok sc_Painter_is_name (fun vs H Q E h => ?_) (fun cdv A outer s H vs Q E hr h => ?_)
  · obtain ⟨z, rfl, _⟩ := h
    rfl
  obtain ⟨z, rfl, ok, q⟩ := h
  have hl : z.length ≤ sizeLine := Nat.le_trans ok.2.1 (by decide)
  refine ⟨_, (pss_cons (ps_if (PW.pt (pw_or (pt_not (pt_val (pe_callB call_isi rfl B.isinstance_ (by decide +kernel) (pa_cons (pv 0) (pa_cons (pe_bltn (v := .ty "str") rfl B.str_ (by decide +kernel) rfl) pa_nil))))) (pw_or1 (pt_cmpR op_gt (pe_callB call_len_str rfl B.len_ PySem.boot_len (pa_cons (pv 0) pa_nil)) pe_int (nomark _))))) (pss_one (ps_ret pe_bl)) pss_nil) (pss_one (ps_ret (pe_and (pe_m0 PySem.F.slot_str_isascii PySem.F.type_str_isascii mt_isascii (pv 0)) (pe_and (pe_m0 PySem.F.slot_str_isalpha PySem.F.type_str_isalpha mt_isalpha (pv 0)) (pe_one (pe_m0 PySem.F.slot_str_islower PySem.F.type_str_islower mt_islower (pv 0)))))))), ?_⟩
  refine ⟨_, rfl, _, _, _, _, true, rfl, ClsV.ty "str", (TyX.base (TyOf.str z)), kit_ty (by decide +kernel), true, rfl, ?_⟩
  refine iteF ?_
  refine ⟨_, rfl, _, rfl, hl, _, _, rfl, rfl, _, rfl, ?_⟩
  have c : decide ((8 : Int) < (z.length : Int)) = false := decide_eq_false (by have := ok.2.1; omega)
  show (if decide ((8 : Int) < (z.length : Int)) = true then _ else _)
  rw [c]
  refine iteF ?_
  refine ⟨_, rfl, ⟨_, rfl⟩, z, rfl, rfl, trivial, true, by rw [name_ascii ok], ?_⟩
  refine ⟨_, rfl, ⟨_, rfl⟩, z, rfl, rfl, trivial, true, by rw [name_alpha ok], ?_⟩
  refine ⟨_, rfl, ⟨_, rfl⟩, z, rfl, rfl, trivial, ?_⟩
  rw [name_lower ok]
  exact q
end
/-! ### the class -/
def pfs (nm : Str) (d p s : Int) : List (Str × V) := [("_name", .str nm), ("_day", .int d), ("_post", .int p), ("_stride", .int s)]
theorem pfs_mk (nm : Str) (d p s : Int) : putF "_stride" (.int s) (putF "_post" (.int p) (putF "_day" (.int d) (putF "_name" (.str nm) []))) = pfs nm d p s := rfl
theorem pfs_name (nm : Str) (d p s : Int) : (pfs nm d p s).lookup ("_name" : Str) = some (V.str nm) := rfl
theorem pfs_day (nm : Str) (d p s : Int) : (pfs nm d p s).lookup ("_day" : Str) = some (V.int d) := rfl
theorem pfs_post (nm : Str) (d p s : Int) : (pfs nm d p s).lookup ("_post" : Str) = some (V.int p) := rfl
theorem pfs_stride (nm : Str) (d p s : Int) : (pfs nm d p s).lookup ("_stride" : Str) = some (V.int s) := rfl
structure PTxt (K : PySem.W.Frag) (mg : Str → Option Value) (C : Addr) : Prop where
  cl : Cls K C
  nN : NoAttr K C "_name"
  nD : NoAttr K C "_day"
  nP : NoAttr K C "_post"
  nS : NoAttr K C "_stride"
  mgP : mg "Painter" = some (.ref C)
  rd : ClX.CRead K C (.type "type")
  cD : ∃ u, ClX.CVal K C (.type "type") "MAX_DAY" (.int (10 ^ 30)) u
  cP : ∃ u, ClX.CVal K C (.type "type") "MAX_POST" (.int (10 ^ 30)) u
  cS : ∃ u, ClX.CVal K C (.type "type") "MAX_STRIDE" (.int (10 ^ 18)) u
/-- a painter's parts are as the document asks -/
structure PartOk (nm : Str) (d p s : Int) : Prop where
  nm : NameOk nm
  d0 : 0 ≤ d
  d1 : d ≤ 10 ^ 30
  p0 : -(10 ^ 30) ≤ p
  p1 : p ≤ 10 ^ 30
  s0 : -(10 ^ 18) ≤ s
  s1 : s ≤ 10 ^ 18
  sn : s ≠ 0
abbrev s_Painter_init : Stmt := (inClass (topS 15) 3)
abbrev N_sc_Painter_init : List Str := ["self", "name", "day", "post", "stride"]
abbrev P_Painter_init : List Str := ["self", "name", "day", "post", "stride"]
theorem sc_Painter_init : FnScope N_sc_Painter_init P_Painter_init (defScope s_Painter_init) := ⟨rfl, rfl, rfl, by decide +kernel, rfl, by decide +kernel, by decide +kernel⟩
def spInit (C : Addr) : Sp := fun vs H Q _ => ∃ (x dx : Addr) (nm : Str) (d p s : Int), vs = [.ref x, .str nm, .int d, .int p, .int s] ∧ H x = some (.ins C dx []) ∧ PartOk nm d p s ∧
  ∀ H', H' x = some (.ins C dx (pfs nm d p s)) → (∀ b o, H b = some o → b ≠ x → H' b = some o) → Q .non H'
section
variable {P : Program} {w : World} {K : PySem.W.Frag} {mg : Str → Option Value} {base : Heap}
set_option maxHeartbeats 16000000 in
theorem ok_init {C pN f fN : Addr} {fd fdN : FuncData} (F : Fun K "__init__" "Painter.__init__" s_Painter_init f fd) (T : PTxt K mg C) (smP : SMet K C (.type "type") "is_name" pN fN) (FN : FnOk P w K mg base CX0 1 fN fdN P_Painter_is_name spIsName) (bN : Binds K fdN P_Painter_is_name [])
    (CB : Cal P w K mg base 2 "is_between" P_is_between spBetween) : FnOk P w K mg base CX0 3 f fd P_Painter_init (spInit C) := by
  refine F.ok sc_Painter_init (fun vs H Q E h => ?_) (fun cdv A outer s H vs Q E hr h => ?_)
  · obtain ⟨x, dx, nm, d, p, st, rfl, _⟩ := h
    rfl
  obtain ⟨x, dx, nm, d, p, st, rfl, hx, ok, q⟩ := h
  obtain ⟨uD, cD⟩ := T.cD
  obtain ⟨uP, cP⟩ := T.cP
  obtain ⟨uS, cS⟩ := T.cS
  refine ⟨_, (pss_cons (ps_if (pt_not (pt_val (pe_smeth (pe_glob (v := .ref C) rfl T.mgP rfl) T.rd smP FN bN (hr.mono (by decide)) pass0 (pa_cons (pv 1) pa_nil)))) (pss_one ps_never) pss_nil) (pss_cons (ps_if (pt_not (pt_val (pe_cal CB (hr.mono (by decide)) (pa_cons (pv 2) (pa_cons pe_int (pa_cons (ClX.pe_cval (pe_glob (v := .ref C) rfl T.mgP rfl)) pa_nil)))))) (pss_one ps_never) pss_nil) (pss_cons (ps_if (pt_not (pt_val (pe_cal CB (hr.mono (by decide)) (pa_cons (pv 3) (pa_cons (pe_un un_neg (ClX.pe_cval (pe_glob (v := .ref C) rfl T.mgP rfl))) (pa_cons (ClX.pe_cval (pe_glob (v := .ref C) rfl T.mgP rfl)) pa_nil)))))) (pss_one ps_never) pss_nil) (pss_cons (ps_if (PW.pt (pw_or (pt_not (pt_val (pe_cal CB (hr.mono (by decide)) (pa_cons (pv 4) (pa_cons (pe_un un_neg (ClX.pe_cval (pe_glob (v := .ref C) rfl T.mgP rfl))) (pa_cons (ClX.pe_cval (pe_glob (v := .ref C) rfl T.mgP rfl)) pa_nil)))))) (pw_or1 (pt_cmpR op_eq (pv 4) pe_int (nomark _))))) (pss_one ps_never) pss_nil) (pss_cons (ps_fld (pv 0) (pv 1) rfl) (pss_cons (ps_fld (pv 0) (pv 2) rfl) (pss_cons (ps_fld (pv 0) (pv 3) rfl) (pss_one (ps_fld (pv 0) (pv 4) rfl))))))))), ?_⟩
  refine ⟨rfl, _, rfl, nm, rfl, ok.nm, true, rfl, iteF ?_⟩
  refine ⟨_, rfl, C, _, _, _, rfl, T.rd, cD, d, _, _, rfl, _, rfl, iteNS ⟨ok.d0, ok.d1⟩ ?_⟩
  refine ⟨_, rfl, C, _, _, _, rfl, T.rd, cP, _, rfl, C, _, _, _, rfl, T.rd, cP, p, _, _, rfl, _, rfl, iteNS ⟨ok.p0, ok.p1⟩ ?_⟩
  refine ⟨_, rfl, C, _, _, _, rfl, T.rd, cS, _, rfl, C, _, _, _, rfl, T.rd, cS, st, _, _, rfl, _, rfl, iteNS ⟨ok.s0, ok.s1⟩ ?_⟩
  have c : decide (V.int st = V.int 0) = false := decide_eq_false fun e => ok.sn (V.int.inj e)
  refine ⟨_, rfl, rfl, _, rfl, ?_⟩
  show (if decide (V.int st = V.int 0) = true then _ else _)
  rw [c]
  refine iteF ?_
  refine ⟨_, rfl, _, rfl, x, C, dx, [], rfl, hx, T.cl, T.nN, (by show 0 < 1000; decide), ?_⟩
  refine ⟨_, rfl, _, rfl, x, C, dx, _, rfl, upd_same, T.cl, T.nD, (by show 1 < 1000; decide), ?_⟩
  refine ⟨_, rfl, _, rfl, x, C, dx, _, rfl, upd_same, T.cl, T.nP, (by show 2 < 1000; decide), ?_⟩
  refine ⟨_, rfl, _, rfl, x, C, dx, _, rfl, upd_same, T.cl, T.nS, (by show 3 < 1000; decide), ?_⟩
  refine q _ upd_same fun b o e hb => ?_
  rw [upd_ne hb, upd_ne hb, upd_ne hb, upd_ne hb]
  exact e
/-- a painter stands at a -/
def PnAt (C : Addr) (H : Hp) (a : Addr) (nm : Str) (d p s : Int) : Prop := ∃ dx, H a = some (.ins C dx (pfs nm d p s))
/-- what is made and what it promises: Painter(..) -/
def MkP (P : Program) (w : World) (K : PySem.W.Frag) (mg : Str → Option Value) (base : Heap) (C : Addr) : Prop := ∃ f fd, Mk K C f ∧ FnOk P w K mg base CX0 3 f fd P_Painter_init (spInit C) ∧ Binds K fd P_Painter_init []
/-- a property that hands out the attribute -/
def PropC (P : Program) (w : World) (K : PySem.W.Frag) (mg : Str → Option Value) (base : Heap) (C : Addr) (f a : Str) : Prop := ∃ p g fd, PropOf K C f p g ∧ FnOk P w K mg base CX0 1 g fd ["self"] (getSp C a) ∧ Binds K fd ["self"] []
end
section
variable {X : Cx} {C : Addr} {e : Expr} {es : List Expr} {pos p : Pos} {ta : TE} {t : TA} {f a : Str}
theorem pe_prC (he : PE X e ta) (c : Cls X.K C) (hp : PropC X.prog X.w X.K X.mg X.base C f a) (hr : Room 2 X.A) (hab : attributeBase e f X.env (eval e X.env) = eval e X.env := by rfl) : PE X (.Attribute e f pos) (tProp C (getSp C a) [] E0 ta) := by
  obtain ⟨p, g, fd, h1, F, b⟩ := hp
  exact pe_prop he c h1 F hr b .nil pass0 hab
theorem pe_mkP (hp : MkP X.prog X.w X.K X.mg X.base C) (T : PTxt X.K X.mg C) (hr : Room 4 X.A) (ha : PA X (e :: es) t) (hg : Gl X "Painter" := by rfl)
    (he : starEach (e :: es) X.env = (false, eval e X.env) :: starEach es X.env := by rfl) (hpl : (backTo pos (starEach es X.env)).any (·.1) = false := by rfl) : PE X (.Call (.Name "Painter" p) (e :: es) [] pos) (tMake C (spInit C) [] E0 t) := by
  obtain ⟨f, fd, M, F, b⟩ := hp
  exact pe_make M F hr hg T.mgP b .nil pass0 ha (he := he) (hpl := hpl)
end
def AnyR (d p s : Int) : Prop := 0 ≤ d ∧ d ≤ 10 ^ 30 ∧ -(10 ^ 30) ≤ p ∧ p ≤ 10 ^ 30 ∧ -(10 ^ 18) ≤ s ∧ s ≤ 10 ^ 18 ∧ s ≠ 0
theorem AnyR.ok {nm : Str} {d p s : Int} (h : AnyR d p s) (z : NameOk nm) : PartOk nm d p s := by unfold AnyR at h; exact ⟨z, by omega, by omega, by omega, by omega, by omega, by omega, by omega⟩
end Ur
/-! K4B: picks of whole numbers, rows. -/
namespace Ur
open PySem PySem.Spec PyProof.Rows L2
/-- a pick out of whole numbers -/
def spPickI (K : PySem.W.Frag) : Sp := fun vs H Q _ => ∃ (p l a : Addr) (ns : List Int) (n : Nat), vs = [.ref p, .ref a] ∧ Pen H p l n ∧ n ≤ 2 ^ 39 ∧ SqL K H a (ns.map V.int) ∧ 1 ≤ ns.length ∧ ns.length ≤ 1000000 ∧
  ∀ i H', i ∈ ns → Pen H' p l (n + 12) → Keep p H H' → Q (.int i) H'
/-- one painter's row: a tuple of four -/
def Row (H : Hp) (t : Addr) (R : Int → Int → Int → Prop) : Prop := ∃ nm d p s, H t = some (.tup [.str nm, .int d, .int p, .int s]) ∧ NameOk nm ∧ R d p s
theorem Row.same {H H' : Hp} {t : Addr} {R : Int → Int → Int → Prop} (r : Row H t R) (h : Same H H') : Row H' t R := let ⟨nm, d, p, s, e, z⟩ := r; ⟨nm, d, p, s, h _ _ e, z⟩
theorem Row.keep {H H' : Hp} {t p : Addr} {R : Int → Int → Int → Prop} {kvs : List (Key × V)} (r : Row H t R) (k : Keep p H H') (hp : H p = some (.dK kvs)) : Row H' t R :=
  let ⟨nm, d, q, s, e, z⟩ := r; ⟨nm, d, q, s, k _ _ e (ne_of e hp (by intro z; cases z)), z⟩
theorem Row.updL {H : Hp} {t F : Addr} {R : Int → Int → Int → Prop} {xs ys : List V} (r : Row H t R) (hF : H F = some (.lst xs)) : Row (upd H F (.lst ys)) t R :=
  let ⟨nm, d, q, s, e, z⟩ := r; ⟨nm, d, q, s, by rw [upd_ne (ne_of e hF (by intro z; cases z))]; exact e, z⟩
theorem cut_mem {xs : List V} {lo hi : Option Int} {v : V} (h : v ∈ cutV xs lo hi) : v ∈ xs := List.mem_of_mem_drop (List.mem_of_mem_take h)
theorem cut_last {xs : List V} (h : 1 ≤ xs.length) : (cutV xs none (some (-1))).length = xs.length - 1 := by
  unfold cutV
  rw [HT.sIx_none, List.drop_zero, Nat.sub_zero, List.length_take]
  show min (if (-1 : Int) < 0 then (-1 + (xs.length : Int)).toNat else min (-1 : Int).toNat xs.length) xs.length = _
  rw [if_pos (by decide)]
  omega
theorem ix_last {n : Nat} (h : 1 ≤ n) : ixN n (-1) = some (n - 1) := by
  unfold ixN
  rw [if_neg (by decide), if_pos (by omega)]
  congr 1
  omega
theorem mem_set_or {α : Type} : ∀ {l : List α} {j : Nat} {a x : α}, x ∈ l.set j a → x = a ∨ x ∈ l := fun h => (List.mem_or_eq_of_mem_set h).elim Or.inr Or.inl
section
variable {P : Program} {w : World} {K : PySem.W.Frag} {mg : Str → Option Value} {base : Heap}
theorem ok_pickI (C : Cal P w K mg base 13 "_law_pick" P__law_pick (spPickL K)) : Cal P w K mg base 13 "_law_pick" P__law_pick (spPickI K) := by
  obtain ⟨f, fd, F, r⟩ := C
  refine ⟨f, fd, F.imp fun vs H Q E h => ?_, r⟩
  obtain ⟨p, l, a, ns, n, rfl, h1, h2, h3, h4, h5, q⟩ := h
  refine ⟨p, l, a, _, n, rfl, h1, h2, h3, by rw [List.length_map]; exact h4, by rw [List.length_map]; exact h5, fun v H' hv P' k' => ?_⟩
  obtain ⟨i, hi, rfl⟩ := List.mem_map.mp hv
  exact q i H' hi P' k'
end
theorem iteDT {c A B : Prop} [Decidable c] (hc : c) (h : A) : if decide c = true then A else B := by
  rw [decide_eq_true hc]
  exact iteT h
theorem iteDF {c A B : Prop} [Decidable c] (hc : ¬ c) (h : B) : if decide c = true then A else B := by
  rw [decide_eq_false hc]
  exact iteF h
theorem iteNN {c A B : Prop} [Decidable c] (hc : ¬ c) (h : A) : if (!decide c) = true then A else B := by
  rw [decide_eq_false hc]
  exact iteT h
theorem at_last {α : Type} (ws : List α) (x : α) : atI (ws ++ [x]) (-1) = some x := by
  unfold atI
  rw [ix_last (by rw [List.length_append]; exact Nat.le_add_left _ _), List.length_append]
  show (ws ++ [x])[ws.length + 1 - 1]? = some x
  rw [Nat.add_sub_cancel, List.getElem?_append_right (Nat.le_refl _), Nat.sub_self]
  rfl
end Ur
/-! K5: rows of painters: small. -/
namespace Ur
open PySem PySem.Spec PyProof.Rows L2
/-- what small, aimed and lined promise: a list of rows -/
def spRows (R : Int → Int → Int → Prop) : Sp := fun vs H Q _ => ∃ (p l : Addr) (most n : Nat), vs = [.ref p, .int (most : Int)] ∧ Pen H p l n ∧ n + 100000 ≤ 2 ^ 39 ∧ 1 ≤ most ∧ most ≤ 40 ∧
  ∀ (F : Addr) (ts : List Addr) (H' : Hp), H' F = some (.lst (ts.map V.ref)) → 1 ≤ ts.length → ts.length ≤ most → (∀ t ∈ ts, Row H' t R) → H F = none → Pen H' p l (n + 100000) → Keep p H H' → Q (.ref F) H'
/-- small numbers -/
def SmallR (d p s : Int) : Prop := 0 ≤ d ∧ d ≤ 6 ∧ -8 ≤ p ∧ p ≤ 8 ∧ -6 ≤ s ∧ s ≤ 6 ∧ s ≠ 0
abbrev s__law_small : Stmt := (topS 27)
abbrev N_sc__law_small : List Str := ["_law_pen_here", "_law_most", "_law_found", "_law_many", "_law_label", "_law_pace", "_law_date"]
abbrev P__law_small : List Str := ["_law_pen_here", "_law_most"]
theorem sc__law_small : FnScope N_sc__law_small P__law_small (defScope s__law_small) := ⟨rfl, rfl, rfl, by decide +kernel, rfl, by decide +kernel, by decide +kernel⟩
section
variable {P : Program} {w : World} {K : PySem.W.Frag} {mg : Str → Option Value} {base : Heap}
set_option maxHeartbeats 40000000 in
theorem ok_small (D : Dfn K mg "_law_small" s__law_small P__law_small) (B : Blt mg) (CD : Cal P w K mg base 12 "_law_draw" P__law_draw spDr) (CI : Cal P w K mg base 13 "_law_pick" P__law_pick (spPickI K)) (CP : Cal P w K mg base 13 "_law_pick" P__law_pick (spPickL K)) (CA : Cal P w K mg base 13 "_law_around" P__law_around spAround)
    (CN : Cal P w K mg base 14 "_law_names" P__law_names spNames) : Cal P w K mg base 15 "_law_small" P__law_small (spRows SmallR) := by
  refine D.cal sc__law_small (fun vs H Q E h => ?_) fun f cdv A outer s H vs Q E hr h => ?_
  · obtain ⟨p, l, most, n, rfl, _⟩ := h
    rfl
  obtain ⟨p, l, most, n, rfl, Pn, hn, m1, m2, q⟩ := h
  obtain ⟨kvs, hp⟩ := Pn.dk
  refine ⟨_, (pss_cons (ps_par (i := 2) (j := 3) rfl sc__law_small.nd rfl rfl (by decide) rfl rfl (pa_cons (pe_lst pa_nil) (pa_cons (pe_op op_add pe_int (pe_cal CD (hr.mono (by decide)) (pa_cons (pv 0) (pa_cons (pv 1) pa_nil)))) pa_nil)) (by rfl)) (pss_cons (ps_for PassesOwn.never rfl (pi_list (pe_cal CN (hr.mono (by decide)) (pa_cons (pv 0) (pa_cons (pv 3) pa_nil)))) (pg_name (i := 4) sc__law_small.nd rfl (Or.inl rfl)) (pss_cons (ps_set (i := 5) sc__law_small.nd rfl (Or.inl rfl) (pe_op op_add pe_int (pe_cal CI (hr.mono (by decide)) (pa_cons (pv 0) (pa_cons (pe_lst (pa_cons (pe_cal CD (hr.mono (by decide)) (pa_cons (pv 0) (pa_cons pe_int pa_nil))) (pa_cons (pe_cal CD (hr.mono (by decide)) (pa_cons (pv 0) (pa_cons pe_int pa_nil))) pa_nil))) pa_nil))))) (pss_cons (ps_set (i := 5) sc__law_small.nd rfl (Or.inl rfl) (pe_op op_mul (pv 5) (pe_cal CI (hr.mono (by decide)) (pa_cons (pv 0) (pa_cons (pe_lst (pa_cons pe_int (pa_cons (pe_un un_neg pe_int) pa_nil))) pa_nil))))) (pss_cons (ps_set (i := 6) sc__law_small.nd rfl (Or.inl rfl) (pe_cal CI (hr.mono (by decide)) (pa_cons (pv 0) (pa_cons (pe_lst (pa_cons pe_int (pa_cons pe_int (pa_cons (pe_cal CD (hr.mono (by decide)) (pa_cons (pv 0) (pa_cons pe_int pa_nil))) pa_nil)))) pa_nil)))) (pss_cons (ps_expr (pe_bm PySem.F.plainAttrs_list PySem.F.slot_list_append PySem.F.type_list_append mt_append (pv 2) (pa_cons (pe_tup (pa_cons (pv 4) (pa_cons (pv 6) (pa_cons (pe_cal CA (hr.mono (by decide)) (pa_cons (pv 0) (pa_cons pe_int pa_nil))) (pa_cons (pv 5) pa_nil))))) pa_nil))) (pss_one (ps_if (PW.pt (pw_and (pt_cmpR op_gt (pe_callB call_len_seq rfl B.len_ PySem.boot_len (pa_cons (pv 2) pa_nil)) pe_int (nomark _)) (pw_and1 (pt_cmpR op_eq (pe_cal CD (hr.mono (by decide)) (pa_cons (pv 0) (pa_cons pe_int pa_nil))) pe_int (nomark _))))) (pss_one (ps_asg (pe_op op_catT (pe_tup (pa_cons (pv 4) pa_nil)) (pe_slice sl_tup (pe_cal CP (hr.mono (by decide)) (pa_cons (pv 0) (pa_cons (pe_slice sl_list (pv 2) po_none (po_some (pe_un un_neg pe_int))) pa_nil))) (po_some pe_int) po_none)) (pg_sub (pv 2) (pe_un un_neg pe_int) set_list))) pss_nil))))))) (pss_one (ps_ret (pv 2))))), ?_⟩
  -- found, many = [], 1 + draw
  refine ⟨(by show 0 ≤ sizeLine; decide), fun F hF => ?_⟩
  have nF := Pn.ne hF
  have nFl := Pn.nl hF
  refine ⟨_, rfl, _, rfl, p, l, most, n, rfl, Pn.new hF, by omega, by omega, by omega, fun v0 H1 a0 b0 P1 k1 => ?_⟩
  have hF1 : H1 F = some (.lst []) := k1 _ _ upd_same nF
  have K1 : Keep p H H1 := (Keep.refl.new hF).trans k1
  refine ⟨_, _, rfl, rfl, _, _, rfl, ?_⟩
  -- for label in names(pen, many)
  obtain ⟨m, hm⟩ : ∃ m : Nat, 1 + v0 = (m : Int) := ⟨(1 + v0).toNat, by omega⟩
  refine ⟨_, rfl, _, rfl, p, l, m, _, by show [V.ref p, V.int (1 + v0)] = [V.ref p, V.int (m : Int)]; rw [hm], P1, by omega, by omega, fun L ss H2 hL hss hok hL0 P2 k2 => ?_⟩
  have hF2 := k2 _ _ hF1 nF
  have nLF : L ≠ F := fun e => by rw [e, hF1] at hL0; cases hL0
  have nL : L ≠ p := P1.ne hL0
  refine ⟨L, rfl, ⟨_, SqL.of hL⟩, for_list (K := K) (a := L) (xs := ss.map V.str) (fun i σ' H' => ∃ (ts : List Addr) (a b c : Option V), σ' = [some (.ref p), some (.int (most : Int)), some (.ref F), some (.int (1 + v0)), a, b, c] ∧
      H' F = some (.lst (ts.map V.ref)) ∧ ts.length = i ∧ i ≤ m ∧ (∀ t ∈ ts, Row H' t SmallR) ∧ H' L = some (.lst (ss.map V.str)) ∧ Pen H' p l (n + 12 + 12 * (m + 9) + 144 * i) ∧ Keep p H H') ⟨[], none, none, none, rfl, hF2, rfl, Nat.zero_le _, fun t ht => absurd ht List.not_mem_nil, hL, P2, K1.trans k2⟩ (fun i σ' H' _ ⟨_, _, _, _, _, _, _, _, _, h, _⟩ => SqL.of h) ?_ ?_⟩
  · rintro i x σ' H' hx ⟨ts, a, b, c, rfl, hFi, hl, him, hrow, hLi, Pi, ki⟩
    obtain ⟨kvi, hpi⟩ := Pi.dk
    have him : i < m := by
      have := (List.getElem?_eq_some_iff.mp hx).1
      rw [List.length_map] at this
      omega
    obtain ⟨z, hz, rfl⟩ : ∃ z, z ∈ ss ∧ V.str z = x := List.mem_map.mp (List.mem_of_getElem? hx)
    have zok := hok z hz
    -- pace = 1 + pick
    refine ⟨_, rfl, _, rfl, p, l, 6, _, rfl, Pi, by omega, by omega, by omega, fun a1 H3 c1 d1 P3 k3 => ?_⟩
    refine ⟨_, rfl, p, l, 2, _, rfl, P3, by omega, by omega, by omega, fun a2 H4 c2 d2 P4 k4 => ?_⟩
    refine ⟨(by show 2 ≤ sizeLine; decide), fun t1 h1 => ?_⟩
    refine ⟨p, l, t1, [a1, a2], _, rfl, P4.new h1, by omega, SqL.of upd_same, by show 1 ≤ 2; decide, by show 2 ≤ 1000000; decide, fun v1 H5 hv1 P5 k5 => ?_⟩
    have v1b : 0 ≤ v1 ∧ v1 ≤ 5 := by
      simp only [List.mem_cons, List.not_mem_nil, or_false] at hv1
      omega
    refine ⟨_, _, rfl, rfl, ?_⟩
    -- pace = pace * pick
    refine ⟨_, rfl, _, rfl, _, rfl, (by show 2 ≤ sizeLine; decide), fun t2 h2 => ?_⟩
    refine ⟨p, l, t2, [1, -1], _, rfl, P5.new h2, by omega, SqL.of upd_same, by decide, by decide, fun v2 H6 hv2 P6 k6 => ?_⟩
    have v2b : v2 = 1 ∨ v2 = -1 := by simpa only [List.mem_cons, List.not_mem_nil, or_false] using hv2
    refine ⟨_, _, rfl, rfl, .inl (by omega), ?_⟩
    obtain ⟨pace, hpace, pb⟩ : ∃ pace, (1 + v1) * v2 = pace ∧ -6 ≤ pace ∧ pace ≤ 6 ∧ pace ≠ 0 := ⟨_, rfl, by rcases v2b with rfl | rfl <;> omega⟩
    -- date = pick
    refine ⟨_, rfl, _, rfl, p, l, 7, _, rfl, P6, by omega, by omega, by omega, fun a3 H7 c3 d3 P7 k7 => ?_⟩
    refine ⟨(by show 3 ≤ sizeLine; decide), fun t3 h3 => ?_⟩
    refine ⟨p, l, t3, [0, 0, a3], _, rfl, P7.new h3, by omega, SqL.of upd_same, by show 1 ≤ 3; decide, by show 3 ≤ 1000000; decide, fun dt H8 hdt P8 k8 => ?_⟩
    have dtb : 0 ≤ dt ∧ dt ≤ 6 := by
      simp only [List.mem_cons, List.not_mem_nil, or_false] at hdt
      omega
    have kk : Keep p H' H8 := ((((((k3.trans k4).new h1).trans k5).new h2).trans k6).trans k7 |>.new h3).trans k8
    have hF8 := kk _ _ hFi nF
    -- found.append
    refine ⟨_, rfl, .inl ⟨rfl, _, SqL.of hF8⟩, ?_⟩
    refine ⟨_, rfl, _, rfl, _, rfl, p, l, 8, _, rfl, P8, by omega, by omega, by omega, fun ps H9 c4 d4 P9 k9 => ?_⟩
    refine ⟨_, rfl, (by show 4 ≤ sizeLine; decide), fun t4 h4 => ?_⟩
    have hF9 := same_new h4 (.tup [.str z, .int dt, .int ps, .int ((1 + v1) * v2)]) _ _ (k9 _ _ hF8 nF)
    refine ⟨F, _, _, rfl, rfl, hF9, by rw [List.length_map]; exact small1000 (by omega), ?_⟩
    have k10 := (kk.trans k9).new (o := .tup [.str z, .int dt, .int ps, .int ((1 + v1) * v2)]) h4
    have nt4 : t4 ≠ F := (ne_of_none (k9 _ _ hF8 nF) h4).symm
    have row4 : Row (upd H9 t4 (.tup [.str z, .int dt, .int ps, .int ((1 + v1) * v2)])) t4 SmallR := ⟨z, dt, ps, _, upd_same, zok, by rw [hpace]; unfold SmallR; omega⟩
    have hL10 := k10 _ _ hLi nL
    have rows10 : ∀ t ∈ ts ++ [t4], Row (upd H9 t4 (.tup [.str z, .int dt, .int ps, .int ((1 + v1) * v2)])) t SmallR := mem_snoc (fun t ht => (hrow t ht).keep k10 hpi) row4
    have P10 := P9.new (o := .tup [.str z, .int dt, .int ps, .int ((1 + v1) * v2)]) h4
    generalize upd H9 t4 (.tup [.str z, .int dt, .int ps, .int ((1 + v1) * v2)]) = H10 at hF9 k10 row4 hL10 rows10 P10 ⊢
    have hF0 : H F = none := hF
    -- the cut: with or without another's parts
    have hF11 : (upd H10 F (.lst (ts.map V.ref ++ [.ref t4]))) F = some (.lst ((ts ++ [t4]).map V.ref)) := by rw [upd_same, List.map_append]; rfl
    have P11 := P10.upd (o := .lst (ts.map V.ref ++ [.ref t4])) nF nFl
    have k11 := (ki.trans k10).at_new (o := .lst (ts.map V.ref ++ [.ref t4])) hF0
    have rows11 : ∀ t ∈ ts ++ [t4], Row (upd H10 F (.lst (ts.map V.ref ++ [.ref t4]))) t SmallR := fun t ht => (rows10 t ht).updL hF9
    have hL11 : (upd H10 F (.lst (ts.map V.ref ++ [.ref t4]))) L = some (.lst (ss.map V.str)) := by rw [upd_ne nLF]; exact hL10
    generalize upd H10 F (.lst (ts.map V.ref ++ [.ref t4])) = H11 at hF11 P11 k11 rows11 hL11 ⊢
    have lts : (ts ++ [t4]).length = i + 1 := by rw [List.length_append, hl]; rfl
    generalize ts ++ [t4] = us at hF11 rows11 lts
    obtain ⟨kv11, hp11⟩ := P11.dk
    refine ⟨_, rfl, F, _, rfl, .inl (SqL.of hF11), _, _, rfl, rfl, _, rfl, ?_⟩
    refine ite2 (fun c1 => ?_) (fun _ => iteF ⟨us, _, _, _, rfl, hF11, lts, by omega, rows11, hL11, P11.le (by omega), k11⟩)
    have c1 : (1 : Int) < ((us.map V.ref).length : Nat) := of_decide_eq_true c1
    refine ⟨_, rfl, p, l, 7, _, rfl, P11, by omega, by omega, by omega, fun v7 H12 a7 b7 P12 k12 => ?_⟩
    have hF12 := k12 _ _ hF11 nF
    have hL12 := k12 _ _ hL11 nL
    have rows12 : ∀ t ∈ us, Row H12 t SmallR := fun t ht => (rows11 t ht).keep k12 hp11
    obtain ⟨kv12, hp12⟩ := P12.dk
    refine ⟨rfl, _, rfl, ?_⟩
    refine ite2 (fun _ => ?_) (fun _ => ⟨us, _, _, _, rfl, hF12, lts, by omega, rows12, hL12, P12.le (by omega), k11.trans k12⟩)
    refine ⟨_, rfl, (by show 1 ≤ sizeLine; decide), fun t5 h5 => ?_⟩
    have hF13 := same_new h5 (.tup [.str z]) _ _ hF12
    refine ⟨_, rfl, _, rfl, _, rfl, _, rfl, F, _, rfl, SqL.of hF13, fun u hu => ?_⟩
    refine ⟨p, l, u, _, _, rfl, (P12.new h5).new hu, by omega, SqL.of upd_same, by rw [cut_last (by omega)]; omega, by rw [cut_last (by omega), List.length_map]; omega, fun v8 H14 hv8 P14 k14 => ?_⟩
    obtain ⟨t0, ht0, rfl⟩ := List.mem_map.mp (cut_mem hv8)
    have k13 : Keep p H12 H14 := ((Keep.refl.new h5).new hu).trans k14
    obtain ⟨nm0, d0, p0, s0, e0, ok0, R0⟩ := (rows12 t0 ht0).keep k13 hp12
    refine ⟨_, rfl, t0, _, rfl, SqT.of e0, fun z => absurd z.1 (by show ¬ (1 = 0); decide), fun y1 hy1 => ?_⟩
    have nt5 : t5 ≠ p := P12.ne h5
    have ht5 := same_new hy1 (.tup (cutV [.str nm0, .int d0, .int p0, .int s0] (some 1) none)) _ _ (k14 _ _ (same_new hu (.lst (cutV (us.map V.ref) none (some (-1)))) _ _ upd_same) nt5)
    refine ⟨t5, y1, [.str z], [.int d0, .int p0, .int s0], rfl, rfl, SqT.of ht5, SqT.of upd_same, (fun e => by cases e), (by show 4 ≤ sizeLine; decide), (fun e => by cases e), fun _ y hy => ?_⟩
    have k15 := (k13.new hy1).new (o := .tup ([.str z] ++ [.int d0, .int p0, .int s0])) hy
    have hF15 := k15 _ _ hF12 nF
    have lus : (us.map V.ref).length = i + 1 := by rw [List.length_map, lts]
    refine ⟨_, rfl, _, rfl, F, _, _, i, rfl, rfl, hF15, by rw [ix_last (by omega), lus]; rfl, ?_⟩
    refine ⟨us.set i y, _, _, _, rfl, by rw [upd_same, List.map_set], by rw [List.length_set, lts], by omega, fun t ht => ?_, by rw [upd_ne nLF]; exact k15 _ _ hL12 nL, (((P14.new hy1).new hy).upd nF nFl).le (by omega), ((k11.trans k12).trans k15).at_new hF0⟩
    rcases mem_set_or ht with rfl | ht
    · exact Row.updL ⟨z, d0, p0, s0, upd_same, zok, R0⟩ hF15
    · exact ((rows12 t ht).keep k15 hp12).updL hF15
  · rintro σ' H' ⟨ts, a, b, c, rfl, hFi, hl, him, hrow, hLi, Pi, ki⟩
    rw [List.length_map, hss] at hl
    refine ⟨_, rfl, ?_⟩
    exact q F ts H' hFi (by omega) (by omega) hrow hF (Pi.le (by omega)) ki
end
end Ur
/-! K6: rows of painters with great numbers: aimed, lined. -/
namespace Ur
open PySem PySem.Spec PyProof.Rows L2
def AimR (d p s : Int) : Prop := 0 ≤ d ∧ d ≤ 2 * 10 ^ 29 ∧ -(3 * 10 ^ 28) ≤ p ∧ p ≤ 3 * 10 ^ 28 ∧ -(10 ^ 17) ≤ s ∧ s ≤ 10 ^ 17 ∧ s ≠ 0
def LineR (d p s : Int) : Prop := 0 ≤ d ∧ d ≤ 10 ^ 29 ∧ -(2 * 10 ^ 29) ≤ p ∧ p ≤ 2 * 10 ^ 29 ∧ -(12 * 10 ^ 16) ≤ s ∧ s ≤ 12 * 10 ^ 16 ∧ s ≠ 0
def HubAt (H : Hp) (t : Addr) : Prop := ∃ D S : Int, H t = some (.tup [.int D, .int S]) ∧ 10 ^ 12 ≤ D ∧ D ≤ 10 ^ 12 + 10 ^ 29 ∧ -(10 ^ 28) ≤ S ∧ S ≤ 10 ^ 28
theorem HubAt.keep {H H' : Hp} {t p : Addr} {kvs : List (Key × V)} (r : HubAt H t) (k : Keep p H H') (hp : H p = some (.dK kvs)) : HubAt H' t := let ⟨D, S, e, z⟩ := r; ⟨D, S, k _ _ e (ne_of e hp (by intro z; cases z)), z⟩
theorem HubAt.updL {H : Hp} {t F : Addr} {xs ys : List V} (r : HubAt H t) (hF : H F = some (.lst xs)) : HubAt (upd H F (.lst ys)) t := let ⟨D, S, e, z⟩ := r; ⟨D, S, by rw [upd_ne (ne_of e hF (by intro z; cases z))]; exact e, z⟩
abbrev s__law_aimed : Stmt := (topS 28)
abbrev N_sc__law_aimed : List Str := ["_law_pen_here", "_law_most", "_law_found", "_law_many", "_law_hubs", "_law_k", "_law_spot", "_law_lot", "_law_label", "_law_date", "_law_some", "_law_pace", "_law_steps"]
abbrev P__law_aimed : List Str := ["_law_pen_here", "_law_most"]
theorem sc__law_aimed : FnScope N_sc__law_aimed P__law_aimed (defScope s__law_aimed) := ⟨rfl, rfl, rfl, by decide +kernel, rfl, by decide +kernel, by decide +kernel⟩
abbrev s__law_lined : Stmt := (topS 29)
abbrev N_sc__law_lined : List Str := ["_law_pen_here", "_law_most", "_law_found", "_law_many", "_law_lot", "_law_base", "_law_label", "_law_pace", "_law_spot", "_law_date"]
abbrev P__law_lined : List Str := ["_law_pen_here", "_law_most"]
theorem sc__law_lined : FnScope N_sc__law_lined P__law_lined (defScope s__law_lined) := ⟨rfl, rfl, rfl, by decide +kernel, rfl, by decide +kernel, by decide +kernel⟩
section
variable {P : Program} {w : World} {K : PySem.W.Frag} {mg : Str → Option Value} {base : Heap}
set_option maxHeartbeats 40000000 in
theorem ok_aimed (D : Dfn K mg "_law_aimed" s__law_aimed P__law_aimed) (B : Blt mg) (CD : Cal P w K mg base 12 "_law_draw" P__law_draw spDr) (CI : Cal P w K mg base 13 "_law_pick" P__law_pick (spPickI K)) (CP : Cal P w K mg base 13 "_law_pick" P__law_pick (spPickL K))
    (CG : Cal P w K mg base 14 "_law_great" P__law_great spGreat) (CN : Cal P w K mg base 14 "_law_names" P__law_names spNames) : Cal P w K mg base 15 "_law_aimed" P__law_aimed (spRows AimR) := by
  refine D.cal sc__law_aimed (fun vs H Q E h => ?_) fun f cdv A outer s H vs Q E hr h => ?_
  · obtain ⟨p, l, most, n, rfl, _⟩ := h
    rfl
  obtain ⟨p, l, most, n, rfl, Pn, hn, m1, m2, q⟩ := h
  obtain ⟨kvs, hp⟩ := Pn.dk
  have pw12 : CPow 10 12 := ⟨by decide, by decide, by decide⟩
  have e12 : (10 : Int) ^ (12 : Int).toNat = 10 ^ 12 := rfl
  refine ⟨_, (pss_cons (ps_par (i := 2) (j := 3) rfl sc__law_aimed.nd rfl rfl (by decide) rfl rfl (pa_cons (pe_lst pa_nil) (pa_cons (pe_op op_add pe_int (pe_cal CD (hr.mono (by decide)) (pa_cons (pv 0) (pa_cons (pv 1) pa_nil)))) pa_nil)) (by rfl)) (pss_cons (ps_set (i := 4) sc__law_aimed.nd rfl (Or.inl rfl) (pe_lst pa_nil)) (pss_cons (ps_for PassesOwn.never rfl (pi_range1 rfl B.range_ (pa_cons pe_int pa_nil)) (pg_name (i := 5) sc__law_aimed.nd rfl (Or.inl rfl)) (pss_cons (ps_set (i := 6) sc__law_aimed.nd rfl (Or.inl rfl) (pe_op op_mul (pe_cal CG (hr.mono (by decide)) (pa_cons (pv 0) (pa_cons pe_int pa_nil))) (pe_cal CI (hr.mono (by decide)) (pa_cons (pv 0) (pa_cons (pe_lst (pa_cons pe_int (pa_cons (pe_un un_neg pe_int) pa_nil))) pa_nil))))) (pss_one (ps_expr (pe_bm PySem.F.plainAttrs_list PySem.F.slot_list_append PySem.F.type_list_append mt_append (pv 4) (pa_cons (pe_tup (pa_cons (pe_op op_add (pe_op op_pow pe_int pe_int) (pe_cal CG (hr.mono (by decide)) (pa_cons (pv 0) (pa_cons pe_int pa_nil)))) (pa_cons (pv 6) pa_nil))) pa_nil)))))) (pss_cons (ps_set (i := 7) sc__law_aimed.nd rfl (Or.inl rfl) (pe_op op_add pe_int (pe_cal CG (hr.mono (by decide)) (pa_cons (pv 0) (pa_cons pe_int pa_nil))))) (pss_cons (ps_for PassesOwn.never rfl (pi_list (pe_cal CN (hr.mono (by decide)) (pa_cons (pv 0) (pa_cons (pv 3) pa_nil)))) (pg_name (i := 8) sc__law_aimed.nd rfl (Or.inl rfl)) (pss_cons (ps_asg (pe_cal CP (hr.mono (by decide)) (pa_cons (pv 0) (pa_cons (pv 4) pa_nil))) (pg_tup rfl (pgs_cons (pg_name (i := 9) sc__law_aimed.nd rfl (Or.inl rfl)) (pgs_cons (pg_name (i := 6) sc__law_aimed.nd rfl (Or.inl rfl)) pgs_nil)))) (pss_cons (ps_set (i := 10) sc__law_aimed.nd rfl (Or.inl rfl) (pe_lst (pa_cons (pe_cal CG (hr.mono (by decide)) (pa_cons (pv 0) (pa_cons pe_int pa_nil))) (pa_cons (pe_op op_mul (pv 7) (pe_op op_add pe_int (pe_cal CD (hr.mono (by decide)) (pa_cons (pv 0) (pa_cons pe_int pa_nil))))) (pa_cons (pe_cal CD (hr.mono (by decide)) (pa_cons (pv 0) (pa_cons pe_int pa_nil))) pa_nil))))) (pss_cons (ps_set (i := 11) sc__law_aimed.nd rfl (Or.inl rfl) (pe_op op_mul (pe_op op_add pe_int (pe_cal CI (hr.mono (by decide)) (pa_cons (pv 0) (pa_cons (pv 10) pa_nil)))) (pe_cal CI (hr.mono (by decide)) (pa_cons (pv 0) (pa_cons (pe_lst (pa_cons pe_int (pa_cons (pe_un un_neg pe_int) pa_nil))) pa_nil))))) (pss_cons (ps_set (i := 12) sc__law_aimed.nd rfl (Or.inl rfl) (pe_cal CI (hr.mono (by decide)) (pa_cons (pv 0) (pa_cons (pe_lst (pa_cons (pe_cal CD (hr.mono (by decide)) (pa_cons (pv 0) (pa_cons pe_int pa_nil))) (pa_cons (pe_cal CG (hr.mono (by decide)) (pa_cons (pv 0) (pa_cons pe_int pa_nil))) (pa_cons (pe_cal CG (hr.mono (by decide)) (pa_cons (pv 0) (pa_cons pe_int pa_nil))) pa_nil)))) pa_nil)))) (pss_cons (ps_set (i := 9) sc__law_aimed.nd rfl (Or.inl rfl) (pe_op op_sub (pe_op op_add (pv 9) (pe_cal CI (hr.mono (by decide)) (pa_cons (pv 0) (pa_cons (pe_lst (pa_cons pe_int (pa_cons pe_int (pa_cons (pe_cal CD (hr.mono (by decide)) (pa_cons (pv 0) (pa_cons pe_int pa_nil))) pa_nil)))) pa_nil)))) (pv 12))) (pss_cons (ps_expr (pe_bm PySem.F.plainAttrs_list PySem.F.slot_list_append PySem.F.type_list_append mt_append (pv 2) (pa_cons (pe_tup (pa_cons (pv 8) (pa_cons (pv 9) (pa_cons (pe_op op_sub (pv 6) (pe_op op_mul (pv 12) (pv 11))) (pa_cons (pv 11) pa_nil))))) pa_nil))) (pss_one (ps_if (PW.pt (pw_and (pt_cmpR op_gt (pe_callB call_len_seq rfl B.len_ PySem.boot_len (pa_cons (pv 2) pa_nil)) pe_int (nomark _)) (pw_and1 (pt_cmpR op_eq (pe_cal CD (hr.mono (by decide)) (pa_cons (pv 0) (pa_cons pe_int pa_nil))) pe_int (nomark _))))) (pss_one (ps_asg (pe_op op_catT (pe_tup (pa_cons (pv 8) pa_nil)) (pe_slice sl_tup (pe_cal CP (hr.mono (by decide)) (pa_cons (pv 0) (pa_cons (pe_slice sl_list (pv 2) po_none (po_some (pe_un un_neg pe_int))) pa_nil))) (po_some pe_int) po_none)) (pg_sub (pv 2) (pe_un un_neg pe_int) set_list))) pss_nil))))))))) (pss_one (ps_ret (pv 2)))))))), ?_⟩
  refine ⟨(by show 0 ≤ sizeLine; decide), fun F hF => ?_⟩
  have nF := Pn.ne hF
  have nFl := Pn.nl hF
  refine ⟨_, rfl, _, rfl, p, l, most, n, rfl, Pn.new hF, by omega, by omega, by omega, fun v0 H1 a0 b0 P1 k1 => ?_⟩
  have hF1 : H1 F = some (.lst []) := k1 _ _ upd_same nF
  have K1 : Keep p H H1 := (Keep.refl.new hF).trans k1
  refine ⟨_, _, rfl, rfl, _, _, rfl, ?_⟩
  -- hubs
  refine ⟨(by show 0 ≤ sizeLine; decide), fun U hU => ?_⟩
  have nU := P1.ne hU
  have nUl := P1.nl hU
  have nUF : U ≠ F := (ne_of_none hF1 hU).symm
  have hU0 : H U = none := K1.none_of hU nU
  refine ⟨3, rfl, by decide, by decide, for_range (lo := 0) (n := 3) (fun i σ' H' => ∃ (hs : List Addr) (a b : Option V), σ' = [some (.ref p), some (.int (most : Int)), some (.ref F), some (.int (1 + v0)), some (.ref U), a, b, none, none, none, none, none, none] ∧
      H' U = some (.lst (hs.map V.ref)) ∧ hs.length = i ∧ i ≤ 3 ∧ (∀ t ∈ hs, HubAt H' t) ∧ H' F = some (.lst []) ∧ Pen H' p l (n + 12 + 200 * i) ∧ Keep p H H') ⟨[], none, none, rfl, upd_same, rfl, by decide, fun t ht => absurd ht List.not_mem_nil, same_new hU _ _ _ hF1, (P1.new hU).le (by omega), K1.new hU⟩ ?_ ?_⟩
  · rintro i σ' H' hi ⟨hs, a, b, rfl, hUi, hl, _, hrow, hFi, Pi, ki⟩
    obtain ⟨kvi, hpi⟩ := Pi.dk
    refine ⟨_, rfl, p, l, 28, _, rfl, Pi, by omega, by decide, by decide, fun v1 H3 c1 d1 P3 k3 => ?_⟩
    refine ⟨_, rfl, _, rfl, (by show 2 ≤ sizeLine; decide), fun t2 h2 => ?_⟩
    refine ⟨p, l, t2, [1, -1], _, rfl, P3.new h2, by omega, SqL.of upd_same, by decide, by decide, fun v2 H4 hv2 P4 k4 => ?_⟩
    have v2b : v2 = 1 ∨ v2 = -1 := by simpa only [List.mem_cons, List.not_mem_nil, or_false] using hv2
    refine ⟨_, _, rfl, rfl, .inr (by omega), ?_⟩
    have sp : -(10 ^ 28) ≤ v1 * v2 ∧ v1 * v2 ≤ 10 ^ 28 := by rcases v2b with rfl | rfl <;> omega
    have kk : Keep p H' H4 := (k3.new h2).trans k4
    have hU4 := kk _ _ hUi nU
    refine ⟨_, rfl, .inl ⟨rfl, _, SqL.of hU4⟩, ?_⟩
    refine ⟨_, _, rfl, rfl, pw12, _, rfl, p, l, 29, _, rfl, P4, by omega, by decide, by decide, fun v3 H5 c3 d3 P5 k5 => ?_⟩
    refine ⟨_, _, rfl, rfl, _, rfl, (by show 2 ≤ sizeLine; decide), fun t3 h3 => ?_⟩
    have k6 := (kk.trans k5).new (o := .tup [.int (10 ^ (12 : Int).toNat + v3), .int (v1 * v2)]) h3
    have hU6 := k6 _ _ hUi nU
    have hF6 := k6 _ _ hFi nF
    refine ⟨U, _, _, rfl, rfl, hU6, by rw [List.length_map]; exact small1000 (by omega), ?_⟩
    have hub : HubAt (upd H5 t3 (.tup [.int (10 ^ (12 : Int).toNat + v3), .int (v1 * v2)])) t3 := ⟨_, _, upd_same, by rw [e12]; omega, by rw [e12]; omega, sp.1, sp.2⟩
    refine ⟨hs ++ [t3], _, _, rfl, by rw [upd_same, List.map_append]; rfl, by rw [List.length_append, hl]; rfl, by omega, fun t ht => ?_, by rw [upd_ne nUF.symm]; exact hF6, ((P5.new h3).upd nU nUl).le (by omega), (ki.trans k6).at_new hU0⟩
    exact HubAt.updL (mem_snoc (P := HubAt (upd H5 t3 (.tup [.int (10 ^ (12 : Int).toNat + v3), .int (v1 * v2)]))) (fun t ht => (hrow t ht).keep k6 hpi) hub t ht) hU6
  rintro σ' H2 ⟨hs, a, b, rfl, hU2, hs3, _, hub2, hF2, P2, k2⟩
  -- lot
  refine ⟨_, rfl, p, l, 9, _, rfl, P2, by omega, by decide, by decide, fun v3 H3 a3 b3 P3 k3 => ?_⟩
  obtain ⟨kv2, hp2⟩ := P2.dk
  refine ⟨_, _, rfl, rfl, ?_⟩
  have hU3 := k3 _ _ hU2 nU
  have hF3 := k3 _ _ hF2 nF
  have hub3 : ∀ t ∈ hs, HubAt H3 t := fun t ht => (hub2 t ht).keep k3 hp2
  have K3 := k2.trans k3
  obtain ⟨lot, hlot, l0, l1⟩ : ∃ lot : Int, 1 + v3 = lot ∧ 1 ≤ lot ∧ lot ≤ 10 ^ 9 := ⟨_, rfl, by omega, by omega⟩
  -- for label in names(pen, many)
  obtain ⟨m, hm⟩ : ∃ m : Nat, 1 + v0 = (m : Int) := ⟨(1 + v0).toNat, by omega⟩
  refine ⟨_, rfl, _, rfl, p, l, m, _, by show [V.ref p, V.int (1 + v0)] = [V.ref p, V.int (m : Int)]; rw [hm], P3, by omega, by omega, fun L ss H4 hL hss hok hL0 P4 k4 => ?_⟩
  have hU4 := k4 _ _ hU3 nU
  have hF4 := k4 _ _ hF3 nF
  obtain ⟨kv3, hp3⟩ := P3.dk
  have hub4 : ∀ t ∈ hs, HubAt H4 t := fun t ht => (hub3 t ht).keep k4 hp3
  have nLF : L ≠ F := fun e => by rw [e, hF3] at hL0; cases hL0
  have nLU : L ≠ U := fun e => by rw [e, hU3] at hL0; cases hL0
  have nL : L ≠ p := P3.ne hL0
  refine ⟨L, rfl, ⟨_, SqL.of hL⟩, for_list (K := K) (a := L) (xs := ss.map V.str) (fun i σ' H' => ∃ (ts : List Addr) (k b6 b8 b9 b10 b11 b12 : Option V), σ' = [some (.ref p), some (.int (most : Int)), some (.ref F), some (.int (1 + v0)), some (.ref U), k, b6, some (.int (1 + v3)), b8, b9, b10, b11, b12] ∧
      H' F = some (.lst (ts.map V.ref)) ∧ ts.length = i ∧ i ≤ m ∧ (∀ t ∈ ts, Row H' t AimR) ∧ H' L = some (.lst (ss.map V.str)) ∧ Pen H' p l (n + 2000 + 12 * (m + 9) + 800 * i) ∧ Keep p H H' ∧ H' U = some (.lst (hs.map V.ref)) ∧ (∀ t ∈ hs, HubAt H' t)) ⟨[], _, _, none, none, none, none, none, rfl, hF4, rfl, Nat.zero_le _, fun t ht => absurd ht List.not_mem_nil, hL, P4.le (by omega), K3.trans k4, hU4, hub4⟩ (fun i σ' H' _ ⟨_, _, _, _, _, _, _, _, _, _, _, _, _, h, _⟩ => SqL.of h) ?_ ?_⟩
  · rintro i x σ' H' hx ⟨ts, k, b6, b8, b9, b10, b11, b12, rfl, hFi, hl, him, hrow, hLi, Pi, ki, hUi, hubi⟩
    obtain ⟨kvi, hpi⟩ := Pi.dk
    have him : i < m := by
      have := (List.getElem?_eq_some_iff.mp hx).1
      rw [List.length_map] at this
      omega
    obtain ⟨z, hz, rfl⟩ : ∃ z, z ∈ ss ∧ V.str z = x := List.mem_map.mp (List.mem_of_getElem? hx)
    have zok := hok z hz
    -- date, spot = pick(hubs)
    refine ⟨_, rfl, _, rfl, p, l, U, _, _, rfl, Pi, by omega, SqL.of hUi, by rw [List.length_map, hs3]; decide, by rw [List.length_map, hs3]; decide, fun v1 H5 hv1 P5 k5 => ?_⟩
    obtain ⟨t0, ht0, rfl⟩ := List.mem_map.mp hv1
    obtain ⟨D, S, e0, D0, D1, S0, S1⟩ := (hubi t0 ht0).keep k5 hpi
    refine ⟨t0, _, rfl, SqT.of e0, rfl, _, _, rfl, _, _, rfl, rfl, ?_⟩
    -- some
    refine ⟨_, rfl, p, l, 17, _, rfl, P5, by omega, by decide, by decide, fun a1 H6 c1 d1 P6 k6 => ?_⟩
    refine ⟨_, rfl, _, rfl, p, l, 6, _, rfl, P6, by omega, by omega, by omega, fun a2 H7 c2 d2 P7 k7 => ?_⟩
    refine ⟨_, _, rfl, rfl, _, _, rfl, rfl, .inl (by omega), _, rfl, p, l, 9, _, rfl, P7, by omega, by omega, by omega, fun a3 H8 c3 d3 P8 k8 => ?_⟩
    refine ⟨(by show 3 ≤ sizeLine; decide), fun W hW => ?_⟩
    -- pace
    refine ⟨_, rfl, _, rfl, p, l, W, [a1, (1 + v3) * (1 + a2), a3], _, rfl, P8.new hW, by omega, SqL.of upd_same, by show 1 ≤ 3; decide, by show 3 ≤ 1000000; decide, fun b1 H9 hb1 P9 k9 => ?_⟩
    have lb := mul_bd (a := 1 + v3) (b := 1 + a2) (A := 10 ^ 9) (B := 6) (by omega) (by omega) (by omega) (by omega) (by decide)
    have lb1 := mul_pos1 (a := 1 + v3) (b := 1 + a2) (by omega) (by omega)
    have b1b : 0 ≤ b1 ∧ b1 < 10 ^ 17 := by
      simp only [List.mem_cons, List.not_mem_nil, or_false] at hb1
      rcases hb1 with rfl | rfl | rfl <;> omega
    refine ⟨_, _, rfl, rfl, ?_⟩
    refine ⟨_, rfl, _, rfl, (by show 2 ≤ sizeLine; decide), fun t2 h2 => ?_⟩
    refine ⟨p, l, t2, [1, -1], _, rfl, P9.new h2, by omega, SqL.of upd_same, by decide, by decide, fun v2 H10 hv2 P10 k10 => ?_⟩
    have v2b : v2 = 1 ∨ v2 = -1 := by simpa only [List.mem_cons, List.not_mem_nil, or_false] using hv2
    refine ⟨_, _, rfl, rfl, .inr (by omega), ?_⟩
    have pb : -(10 ^ 17) ≤ (1 + b1) * v2 ∧ (1 + b1) * v2 ≤ 10 ^ 17 ∧ (1 + b1) * v2 ≠ 0 := by rcases v2b with rfl | rfl <;> omega
    -- steps
    refine ⟨_, rfl, _, rfl, p, l, 4, _, rfl, P10, by omega, by omega, by omega, fun a4 H11 c4 d4 P11 k11 => ?_⟩
    refine ⟨_, rfl, p, l, 11, _, rfl, P11, by omega, by decide, by decide, fun a5 H12 c5 d5 P12 k12 => ?_⟩
    refine ⟨_, rfl, p, l, 11, _, rfl, P12, by omega, by decide, by decide, fun a6 H13 c6 d6 P13 k13 => ?_⟩
    refine ⟨(by show 3 ≤ sizeLine; decide), fun t3 h3 => ?_⟩
    refine ⟨p, l, t3, [a4, a5, a6], _, rfl, P13.new h3, by omega, SqL.of upd_same, by show 1 ≤ 3; decide, by show 3 ≤ 1000000; decide, fun st H14 hst P14 k14 => ?_⟩
    have stb : 0 ≤ st ∧ st < 10 ^ 11 := by
      simp only [List.mem_cons, List.not_mem_nil, or_false] at hst
      rcases hst with rfl | rfl | rfl <;> omega
    -- date
    refine ⟨_, rfl, _, rfl, _, rfl, p, l, 4, _, rfl, P14, by omega, by omega, by omega, fun a7 H15 c7 d7 P15 k15 => ?_⟩
    refine ⟨(by show 3 ≤ sizeLine; decide), fun t4 h4 => ?_⟩
    refine ⟨p, l, t4, [0, 0, a7], _, rfl, P15.new h4, by omega, SqL.of upd_same, by show 1 ≤ 3; decide, by show 3 ≤ 1000000; decide, fun dt H16 hdt P16 k16 => ?_⟩
    have dtb : 0 ≤ dt ∧ dt ≤ 3 := by
      simp only [List.mem_cons, List.not_mem_nil, or_false] at hdt
      omega
    refine ⟨_, _, rfl, rfl, _, rfl, _, _, rfl, rfl, ?_⟩
    have kk : Keep p H' H16 := (((((((((((k5.trans k6).trans k7).trans k8).new hW).trans k9).new h2).trans k10).trans k11).trans k12).trans k13 |>.new h3).trans k14 |>.trans k15 |>.new h4).trans k16
    have hF16 := kk _ _ hFi nF
    have mb := mul_bd (a := st) (b := (1 + b1) * v2) (A := 10 ^ 11) (B := 10 ^ 17) (by omega) (by omega) pb.1 pb.2.1 (by decide)
    -- append
    refine ⟨_, rfl, .inl ⟨rfl, _, SqL.of hF16⟩, ?_⟩
    refine ⟨_, rfl, _, rfl, _, rfl, _, rfl, _, rfl, _, _, rfl, rfl, .inl (by omega), _, _, rfl, rfl, _, rfl, (by show 4 ≤ sizeLine; decide), fun t5 h5 => ?_⟩
    obtain ⟨od, hod⟩ : ∃ o : HO, o = .tup [.str z, .int (D + dt - st), .int (S - st * ((1 + b1) * v2)), .int ((1 + b1) * v2)] := ⟨_, rfl⟩
    rw [← hod]
    have hF17 := same_new h5 od _ _ hF16
    refine ⟨F, _, _, rfl, rfl, hF17, by rw [List.length_map]; exact small1000 (by omega), ?_⟩
    have k17 := kk.new (o := od) h5
    have nt5 : t5 ≠ F := (ne_of_none hF16 h5).symm
    have row5 : Row (upd H16 t5 od) t5 AimR := ⟨z, D + dt - st, S - st * ((1 + b1) * v2), (1 + b1) * v2, by rw [upd_same, hod], zok, by unfold AimR; refine ⟨by omega, by omega, by omega, by omega, pb⟩⟩
    have hL17 := k17 _ _ hLi nL
    have hU17 := k17 _ _ hUi nU
    have hub17 : ∀ t ∈ hs, HubAt (upd H16 t5 od) t := fun t ht => (hubi t ht).keep k17 hpi
    have rows17 : ∀ t ∈ ts ++ [t5], Row (upd H16 t5 od) t AimR := mem_snoc (fun t ht => (hrow t ht).keep k17 hpi) row5
    have P17 := P16.new (o := od) h5
    generalize upd H16 t5 od = H17 at hF17 k17 row5 hL17 rows17 P17 hU17 hub17 ⊢
    have hF18 : (upd H17 F (.lst (ts.map V.ref ++ [.ref t5]))) F = some (.lst ((ts ++ [t5]).map V.ref)) := by rw [upd_same, List.map_append]; rfl
    have P18 := P17.upd (o := .lst (ts.map V.ref ++ [.ref t5])) nF nFl
    have k18 := (ki.trans k17).at_new (o := .lst (ts.map V.ref ++ [.ref t5])) hF
    have rows18 : ∀ t ∈ ts ++ [t5], Row (upd H17 F (.lst (ts.map V.ref ++ [.ref t5]))) t AimR := fun t ht => (rows17 t ht).updL hF17
    have hL18 : (upd H17 F (.lst (ts.map V.ref ++ [.ref t5]))) L = some (.lst (ss.map V.str)) := by rw [upd_ne nLF]; exact hL17
    have hU18 : (upd H17 F (.lst (ts.map V.ref ++ [.ref t5]))) U = some (.lst (hs.map V.ref)) := by rw [upd_ne nUF]; exact hU17
    have hub18 : ∀ t ∈ hs, HubAt (upd H17 F (.lst (ts.map V.ref ++ [.ref t5]))) t := fun t ht => (hub17 t ht).updL hF17
    generalize upd H17 F (.lst (ts.map V.ref ++ [.ref t5])) = H18 at hF18 P18 k18 rows18 hL18 hU18 hub18 ⊢
    have lts : (ts ++ [t5]).length = i + 1 := by rw [List.length_append, hl]; rfl
    generalize ts ++ [t5] = us at hF18 rows18 lts
    obtain ⟨kv18, hp18⟩ := P18.dk
    refine ⟨_, rfl, F, _, rfl, .inl (SqL.of hF18), _, _, rfl, rfl, _, rfl, ?_⟩
    refine ite2 (fun c1 => ?_) (fun _ => iteF ⟨us, _, _, _, _, _, _, _, rfl, hF18, lts, by omega, rows18, hL18, P18.le (by omega), k18, hU18, hub18⟩)
    have c1 : (1 : Int) < ((us.map V.ref).length : Nat) := of_decide_eq_true c1
    refine ⟨_, rfl, p, l, 7, _, rfl, P18, by omega, by omega, by omega, fun v7 H19 a7 b7 P19 k19 => ?_⟩
    have hF19 := k19 _ _ hF18 nF
    have hL19 := k19 _ _ hL18 nL
    have hU19 := k19 _ _ hU18 nU
    have hub19 : ∀ t ∈ hs, HubAt H19 t := fun t ht => (hub18 t ht).keep k19 hp18
    have rows19 : ∀ t ∈ us, Row H19 t AimR := fun t ht => (rows18 t ht).keep k19 hp18
    obtain ⟨kv19, hp19⟩ := P19.dk
    refine ⟨rfl, _, rfl, ?_⟩
    refine ite2 (fun _ => ?_) (fun _ => ⟨us, _, _, _, _, _, _, _, rfl, hF19, lts, by omega, rows19, hL19, P19.le (by omega), k18.trans k19, hU19, hub19⟩)
    refine ⟨_, rfl, (by show 1 ≤ sizeLine; decide), fun t6 h6 => ?_⟩
    have hF20 := same_new h6 (.tup [.str z]) _ _ hF19
    refine ⟨_, rfl, _, rfl, _, rfl, _, rfl, F, _, rfl, SqL.of hF20, fun u hu => ?_⟩
    refine ⟨p, l, u, _, _, rfl, (P19.new h6).new hu, by omega, SqL.of upd_same, by rw [cut_last (by omega)]; omega, by rw [cut_last (by omega), List.length_map]; omega, fun v8 H21 hv8 P21 k21 => ?_⟩
    obtain ⟨t0, ht0, rfl⟩ := List.mem_map.mp (cut_mem hv8)
    have k20 : Keep p H19 H21 := ((Keep.refl.new h6).new hu).trans k21
    obtain ⟨nm0, d0, p0, s0, e0, ok0, R0⟩ := (rows19 t0 ht0).keep k20 hp19
    refine ⟨_, rfl, t0, _, rfl, SqT.of e0, fun z => absurd z.1 (by show ¬ (1 = 0); decide), fun y1 hy1 => ?_⟩
    have nt6 : t6 ≠ p := P19.ne h6
    have ht6 := same_new hy1 (.tup (cutV [.str nm0, .int d0, .int p0, .int s0] (some 1) none)) _ _ (k21 _ _ (same_new hu (.lst (cutV (us.map V.ref) none (some (-1)))) _ _ upd_same) nt6)
    refine ⟨t6, y1, [.str z], [.int d0, .int p0, .int s0], rfl, rfl, SqT.of ht6, SqT.of upd_same, (fun e => by cases e), (by show 4 ≤ sizeLine; decide), (fun e => by cases e), fun _ y hy => ?_⟩
    have k22 := (k20.new hy1).new (o := .tup ([.str z] ++ [.int d0, .int p0, .int s0])) hy
    have hF22 := k22 _ _ hF19 nF
    have lus : (us.map V.ref).length = i + 1 := by rw [List.length_map, lts]
    refine ⟨_, rfl, _, rfl, F, _, _, i, rfl, rfl, hF22, by rw [ix_last (by omega), lus]; rfl, ?_⟩
    refine ⟨us.set i y, _, _, _, _, _, _, _, rfl, by rw [upd_same, List.map_set], by rw [List.length_set, lts], by omega, fun t ht => ?_, by rw [upd_ne nLF]; exact k22 _ _ hL19 nL, (((P21.new hy1).new hy).upd nF nFl).le (by omega), ((k18.trans k19).trans k22).at_new hF, by rw [upd_ne nUF]; exact k22 _ _ hU19 nU, fun t ht => ((hub19 t ht).keep k22 hp19).updL hF22⟩
    rcases mem_set_or ht with rfl | ht
    · exact Row.updL ⟨z, d0, p0, s0, upd_same, zok, R0⟩ hF22
    · exact ((rows19 t ht).keep k22 hp19).updL hF22
  · rintro σ' H' ⟨ts, k, b6, b8, b9, b10, b11, b12, rfl, hFi, hl, him, hrow, hLi, Pi, ki, _, _⟩
    rw [List.length_map, hss] at hl
    refine ⟨_, rfl, ?_⟩
    exact q F ts H' hFi (by omega) (by omega) hrow hF (Pi.le (by omega)) ki
end
end Ur
/-! K7: lined, painters. -/
namespace Ur
open PySem PySem.Spec PyProof.Rows L2
section
variable {P : Program} {w : World} {K : PySem.W.Frag} {mg : Str → Option Value} {base : Heap}
set_option maxHeartbeats 40000000 in
theorem ok_lined (D : Dfn K mg "_law_lined" s__law_lined P__law_lined) (B : Blt mg) (CD : Cal P w K mg base 12 "_law_draw" P__law_draw spDr) (CI : Cal P w K mg base 13 "_law_pick" P__law_pick (spPickI K)) (CA : Cal P w K mg base 13 "_law_around" P__law_around spAround)
    (CG : Cal P w K mg base 14 "_law_great" P__law_great spGreat) (CN : Cal P w K mg base 14 "_law_names" P__law_names spNames) : Cal P w K mg base 15 "_law_lined" P__law_lined (spRows LineR) := by
  refine D.cal sc__law_lined (fun vs H Q E h => ?_) fun f cdv A outer s H vs Q E hr h => ?_
  · obtain ⟨p, l, most, n, rfl, _⟩ := h
    rfl
  obtain ⟨p, l, most, n, rfl, Pn, hn, m1, m2, q⟩ := h
  obtain ⟨kvs, hp⟩ := Pn.dk
  have pw12 : CPow 10 12 := ⟨by decide, by decide, by decide⟩
  have e12 : (10 : Int) ^ (12 : Int).toNat = 10 ^ 12 := rfl
  refine ⟨_, (pss_cons (ps_par (i := 2) (j := 3) rfl sc__law_lined.nd rfl rfl (by decide) rfl rfl (pa_cons (pe_lst pa_nil) (pa_cons (pe_op op_add pe_int (pe_cal CD (hr.mono (by decide)) (pa_cons (pv 0) (pa_cons (pv 1) pa_nil)))) pa_nil)) (by rfl)) (pss_cons (ps_par (i := 4) (j := 5) rfl sc__law_lined.nd rfl rfl (by decide) rfl rfl (pa_cons (pe_op op_add pe_int (pe_cal CG (hr.mono (by decide)) (pa_cons (pv 0) (pa_cons pe_int pa_nil)))) (pa_cons (pe_op op_mul (pe_cal CG (hr.mono (by decide)) (pa_cons (pv 0) (pa_cons pe_int pa_nil))) (pe_cal CI (hr.mono (by decide)) (pa_cons (pv 0) (pa_cons (pe_lst (pa_cons pe_int (pa_cons (pe_un un_neg pe_int) pa_nil))) pa_nil)))) pa_nil)) (by rfl)) (pss_cons (ps_for PassesOwn.never rfl (pi_list (pe_cal CN (hr.mono (by decide)) (pa_cons (pv 0) (pa_cons (pv 3) pa_nil)))) (pg_name (i := 6) sc__law_lined.nd rfl (Or.inl rfl)) (pss_cons (ps_set (i := 7) sc__law_lined.nd rfl (Or.inl rfl) (pe_op op_mul (pe_op op_mul (pv 4) (pe_op op_add pe_int (pe_cal CD (hr.mono (by decide)) (pa_cons (pv 0) (pa_cons pe_int pa_nil))))) (pe_cal CI (hr.mono (by decide)) (pa_cons (pv 0) (pa_cons (pe_lst (pa_cons pe_int (pa_cons pe_int (pa_cons (pe_un un_neg pe_int) pa_nil)))) pa_nil))))) (pss_cons (ps_set (i := 8) sc__law_lined.nd rfl (Or.inl rfl) (pe_op op_add (pv 5) (pe_cal CD (hr.mono (by decide)) (pa_cons (pv 0) (pa_cons (pe_callB (call_min2 rfl) rfl B.min_ (by decide +kernel) (pa_cons (pv 4) (pa_cons pe_int pa_nil))) pa_nil))))) (pss_cons (ps_set (i := 8) sc__law_lined.nd rfl (Or.inl rfl) (pe_op op_add (pv 8) (pe_op op_mul (pv 4) (pe_cal CA (hr.mono (by decide)) (pa_cons (pv 0) (pa_cons (pe_cal CI (hr.mono (by decide)) (pa_cons (pv 0) (pa_cons (pe_lst (pa_cons pe_int (pa_cons pe_int (pa_cons (pe_op op_pow pe_int pe_int) pa_nil)))) pa_nil))) pa_nil)))))) (pss_cons (ps_set (i := 9) sc__law_lined.nd rfl (Or.inl rfl) (pe_cal CI (hr.mono (by decide)) (pa_cons (pv 0) (pa_cons (pe_lst (pa_cons pe_int (pa_cons (pe_cal CD (hr.mono (by decide)) (pa_cons (pv 0) (pa_cons pe_int pa_nil))) (pa_cons (pe_cal CG (hr.mono (by decide)) (pa_cons (pv 0) (pa_cons pe_int pa_nil))) pa_nil)))) pa_nil)))) (pss_one (ps_expr (pe_bm PySem.F.plainAttrs_list PySem.F.slot_list_append PySem.F.type_list_append mt_append (pv 2) (pa_cons (pe_tup (pa_cons (pv 6) (pa_cons (pv 9) (pa_cons (pv 8) (pa_cons (pv 7) pa_nil))))) pa_nil))))))))) (pss_one (ps_ret (pv 2)))))), ?_⟩
  refine ⟨(by show 0 ≤ sizeLine; decide), fun F hF => ?_⟩
  have nF := Pn.ne hF
  have nFl := Pn.nl hF
  refine ⟨_, rfl, _, rfl, p, l, most, n, rfl, Pn.new hF, by omega, by omega, by omega, fun v0 H1 a0 b0 P1 k1 => ?_⟩
  have hF1 : H1 F = some (.lst []) := k1 _ _ upd_same nF
  have K1 : Keep p H H1 := (Keep.refl.new hF).trans k1
  refine ⟨_, _, rfl, rfl, _, _, rfl, ?_⟩
  -- lot, base
  refine ⟨_, rfl, p, l, 16, _, rfl, P1, by omega, by decide, by decide, fun v1 H2 a1 b1 P2 k2 => ?_⟩
  refine ⟨_, _, rfl, rfl, _, rfl, p, l, 29, _, rfl, P2, by omega, by decide, by decide, fun v2 H3 a2 b2 P3 k3 => ?_⟩
  refine ⟨_, rfl, _, rfl, (by show 2 ≤ sizeLine; decide), fun t1 h1 => ?_⟩
  refine ⟨p, l, t1, [1, -1], _, rfl, P3.new h1, by omega, SqL.of upd_same, by decide, by decide, fun v3 H4 hv3 P4 k4 => ?_⟩
  have v3b : v3 = 1 ∨ v3 = -1 := by simpa only [List.mem_cons, List.not_mem_nil, or_false] using hv3
  refine ⟨_, _, rfl, rfl, .inr (by omega), _, _, rfl, ?_⟩
  have bb : -(10 ^ 29) ≤ v2 * v3 ∧ v2 * v3 ≤ 10 ^ 29 := by rcases v3b with rfl | rfl <;> omega
  have K4 := K1.trans (((k2.trans k3).new h1).trans k4)
  have hF4 := (((k2.trans k3).new h1).trans k4) _ _ hF1 nF
  -- for label in names(pen, many)
  obtain ⟨m, hm⟩ : ∃ m : Nat, 1 + v0 = (m : Int) := ⟨(1 + v0).toNat, by omega⟩
  refine ⟨_, rfl, _, rfl, p, l, m, _, by show [V.ref p, V.int (1 + v0)] = [V.ref p, V.int (m : Int)]; rw [hm], P4, by omega, by omega, fun L ss H5 hL hss hok hL0 P5 k5 => ?_⟩
  have hF5 := k5 _ _ hF4 nF
  have nLF : L ≠ F := fun e => by rw [e, hF4] at hL0; cases hL0
  have nL : L ≠ p := P4.ne hL0
  refine ⟨L, rfl, ⟨_, SqL.of hL⟩, for_list (K := K) (a := L) (xs := ss.map V.str) (fun i σ' H' => ∃ (ts : List Addr) (b6 b7 b8 b9 : Option V), σ' = [some (.ref p), some (.int (most : Int)), some (.ref F), some (.int (1 + v0)), some (.int (1 + v1)), some (.int (v2 * v3)), b6, b7, b8, b9] ∧
      H' F = some (.lst (ts.map V.ref)) ∧ ts.length = i ∧ i ≤ m ∧ (∀ t ∈ ts, Row H' t LineR) ∧ H' L = some (.lst (ss.map V.str)) ∧ Pen H' p l (n + 2000 + 12 * (m + 9) + 800 * i) ∧ Keep p H H') ⟨[], none, none, none, none, rfl, hF5, rfl, Nat.zero_le _, fun t ht => absurd ht List.not_mem_nil, hL, P5.le (by omega), K4.trans k5⟩ (fun i σ' H' _ ⟨_, _, _, _, _, _, _, _, _, _, h, _⟩ => SqL.of h) ?_ ?_⟩
  · rintro i x σ' H' hx ⟨ts, b6, b7, b8, b9, rfl, hFi, hl, him, hrow, hLi, Pi, ki⟩
    obtain ⟨kvi, hpi⟩ := Pi.dk
    have him : i < m := by
      have := (List.getElem?_eq_some_iff.mp hx).1
      rw [List.length_map] at this
      omega
    obtain ⟨z, hz, rfl⟩ : ∃ z, z ∈ ss ∧ V.str z = x := List.mem_map.mp (List.mem_of_getElem? hx)
    have zok := hok z hz
    -- pace
    refine ⟨_, rfl, _, rfl, p, l, 12, _, rfl, Pi, by omega, by omega, by omega, fun c1 H6 x1 y1 P6 k6 => ?_⟩
    refine ⟨_, _, rfl, rfl, _, _, rfl, rfl, .inl (by omega), _, rfl, _, rfl, (by show 3 ≤ sizeLine; decide), fun t2 h2 => ?_⟩
    refine ⟨p, l, t2, [1, 1, -1], _, rfl, P6.new h2, by omega, SqL.of upd_same, by decide, by decide, fun c2 H7 hc2 P7 k7 => ?_⟩
    have c2b : c2 = 1 ∨ c2 = -1 := by
      simp only [List.mem_cons, List.not_mem_nil, or_false] at hc2
      omega
    have lb := mul_bd (a := 1 + v1) (b := 1 + c1) (A := 10 ^ 16) (B := 12) (by omega) (by omega) (by omega) (by omega) (by decide)
    have lb1 := mul_pos1 (a := 1 + v1) (b := 1 + c1) (by omega) (by omega)
    refine ⟨_, _, rfl, rfl, .inr (by omega), ?_⟩
    have pb : -(12 * 10 ^ 16) ≤ (1 + v1) * (1 + c1) * c2 ∧ (1 + v1) * (1 + c1) * c2 ≤ 12 * 10 ^ 16 ∧ (1 + v1) * (1 + c1) * c2 ≠ 0 := by rcases c2b with rfl | rfl <;> omega
    -- spot
    refine ⟨_, rfl, _, rfl, _, rfl, _, _, rfl, p, l, _, _, rfl, P7, by omega, by split <;> omega, by split <;> omega, fun c3 H8 x3 y3 P8 k8 => ?_⟩
    have y3 : c3 < 2 := by split at y3 <;> omega
    refine ⟨_, _, rfl, rfl, ?_⟩
    refine ⟨_, rfl, _, rfl, _, rfl, _, rfl, _, _, rfl, rfl, pw12, (by show 3 ≤ sizeLine; decide), fun t3 h3 => ?_⟩
    refine ⟨p, l, t3, [3, 40, 10 ^ (12 : Int).toNat], _, rfl, P8.new h3, by omega, SqL.of upd_same, by decide, by decide, fun c4 H9 hc4 P9 k9 => ?_⟩
    have c4b : 0 ≤ c4 ∧ c4 ≤ 10 ^ 12 := by
      simp only [List.mem_cons, List.not_mem_nil, or_false] at hc4
      omega
    refine ⟨p, l, c4, _, rfl, P9, by omega, by omega, by omega, fun c5 H10 x5 y5 P10 k10 => ?_⟩
    have ab := mul_bd (a := 1 + v1) (b := c5) (A := 10 ^ 16) (B := 10 ^ 12) (by omega) (by omega) (by omega) (by omega) (by decide)
    refine ⟨_, _, rfl, rfl, .inl (by omega), _, _, rfl, rfl, ?_⟩
    -- date
    refine ⟨_, rfl, _, rfl, p, l, 30, _, rfl, P10, by omega, by omega, by omega, fun c6 H11 x6 y6 P11 k11 => ?_⟩
    refine ⟨_, rfl, p, l, 29, _, rfl, P11, by omega, by decide, by decide, fun c7 H12 x7 y7 P12 k12 => ?_⟩
    refine ⟨(by show 3 ≤ sizeLine; decide), fun t4 h4 => ?_⟩
    refine ⟨p, l, t4, [0, c6, c7], _, rfl, P12.new h4, by omega, SqL.of upd_same, by show 1 ≤ 3; decide, by show 3 ≤ 1000000; decide, fun dt H13 hdt P13 k13 => ?_⟩
    have dtb : 0 ≤ dt ∧ dt ≤ 10 ^ 29 := by
      simp only [List.mem_cons, List.not_mem_nil, or_false] at hdt
      rcases hdt with rfl | rfl | rfl <;> omega
    have kk : Keep p H' H13 := ((((k6.new h2).trans k7).trans k8 |>.new h3).trans k9 |>.trans k10 |>.trans k11 |>.trans k12 |>.new h4).trans k13
    have hF13 := kk _ _ hFi nF
    refine ⟨_, rfl, .inl ⟨rfl, _, SqL.of hF13⟩, ?_⟩
    refine ⟨_, rfl, _, rfl, _, rfl, _, rfl, (by show 4 ≤ sizeLine; decide), fun t5 h5 => ?_⟩
    obtain ⟨od, hod⟩ : ∃ o : HO, o = .tup [.str z, .int dt, .int (v2 * v3 + c3 + (1 + v1) * c5), .int ((1 + v1) * (1 + c1) * c2)] := ⟨_, rfl⟩
    rw [← hod]
    have hF14 := same_new h5 od _ _ hF13
    refine ⟨F, _, _, rfl, rfl, hF14, by rw [List.length_map]; exact small1000 (by omega), ?_⟩
    have k14 := kk.new (o := od) h5
    have row5 : Row (upd H13 t5 od) t5 LineR := ⟨z, dt, v2 * v3 + c3 + (1 + v1) * c5, (1 + v1) * (1 + c1) * c2, by rw [upd_same, hod], zok, by unfold LineR; refine ⟨by omega, by omega, by omega, by omega, pb⟩⟩
    have rows14 : ∀ t ∈ ts ++ [t5], Row (upd H13 t5 od) t LineR := mem_snoc (fun t ht => (hrow t ht).keep k14 hpi) row5
    refine ⟨ts ++ [t5], _, _, _, _, rfl, by rw [upd_same, List.map_append]; rfl, by rw [List.length_append, hl]; rfl, by omega, fun t ht => (rows14 t ht).updL hF14, by rw [upd_ne nLF]; exact k14 _ _ hLi nL, ((P13.new h5).le (by omega)).upd nF nFl, (ki.trans k14).at_new hF⟩
  · rintro σ' H' ⟨ts, b6, b7, b8, b9, rfl, hFi, hl, him, hrow, hLi, Pi, ki⟩
    rw [List.length_map, hss] at hl
    refine ⟨_, rfl, ?_⟩
    exact q F ts H' hFi (by omega) (by omega) hrow hF (Pi.le (by omega)) ki
end
/-! ### painters: none, or rows of one of the three kinds -/
theorem small_any {d p s : Int} (h : SmallR d p s) : AnyR d p s := by unfold SmallR at h; unfold AnyR; omega
theorem aim_any {d p s : Int} (h : AimR d p s) : AnyR d p s := by unfold AimR at h; unfold AnyR; omega
theorem line_any {d p s : Int} (h : LineR d p s) : AnyR d p s := by unfold LineR at h; unfold AnyR; omega
theorem Row.imp {H : Hp} {t : Addr} {R S : Int → Int → Int → Prop} (r : Row H t R) (h : ∀ d p s, R d p s → S d p s) : Row H t S := let ⟨nm, d, p, s, e, z, y⟩ := r; ⟨nm, d, p, s, e, z, h _ _ _ y⟩
abbrev s__law_painters : Stmt := (topS 31)
abbrev N_sc__law_painters : List Str := ["_law_pen_here", "_law_way"]
abbrev P__law_painters : List Str := ["_law_pen_here"]
theorem sc__law_painters : FnScope N_sc__law_painters P__law_painters (defScope s__law_painters) := ⟨rfl, rfl, rfl, by decide +kernel, rfl, by decide +kernel, by decide +kernel⟩
def spPainters : Sp := fun vs H Q _ => ∃ (p l : Addr) (n : Nat), vs = [.ref p] ∧ Pen H p l n ∧ n + 100012 ≤ 2 ^ 39 ∧
  ∀ (F : Addr) (ts : List Addr) (H' : Hp), H' F = some (.lst (ts.map V.ref)) → ts.length ≤ 6 → (∀ t ∈ ts, Row H' t AnyR) → H F = none → Pen H' p l (n + 100012) → Keep p H H' → Q (.ref F) H'
section
variable {P : Program} {w : World} {K : PySem.W.Frag} {mg : Str → Option Value} {base : Heap}
theorem ok_painters (D : Dfn K mg "_law_painters" s__law_painters P__law_painters) (CD : Cal P w K mg base 12 "_law_draw" P__law_draw spDr) (CS : Cal P w K mg base 15 "_law_small" P__law_small (spRows SmallR)) (CM : Cal P w K mg base 15 "_law_aimed" P__law_aimed (spRows AimR)) (CL : Cal P w K mg base 15 "_law_lined" P__law_lined (spRows LineR)) :
    Cal P w K mg base 16 "_law_painters" P__law_painters spPainters := by
  refine D.cal sc__law_painters (fun vs H Q E h => ?_) fun f cdv A outer s H vs Q E hr h => ?_
  · obtain ⟨p, l, n, rfl, _⟩ := h
    rfl
  obtain ⟨p, l, n, rfl, Pn, hn, q⟩ := h
  refine ⟨_, (pss_cons (ps_set (i := 1) sc__law_painters.nd rfl (Or.inl rfl) (pe_cal CD (hr.mono (by decide)) (pa_cons (pv 0) (pa_cons pe_int pa_nil)))) (pss_cons (ps_if (pt_cmpR op_eq (pv 1) pe_int (nomark _)) (pss_one (ps_ret (pe_lst pa_nil))) pss_nil) (pss_cons (ps_if (pt_cmpR op_lt (pv 1) pe_int (nomark _)) (pss_one (ps_ret (pe_cal CS (hr.mono (by decide)) (pa_cons (pv 0) (pa_cons pe_int pa_nil))))) pss_nil) (pss_one (ps_ret (pe_ifExp (pt_cmpR op_lt (pv 1) pe_int (nomark _)) (pe_cal CM (hr.mono (by decide)) (pa_cons (pv 0) (pa_cons pe_int pa_nil))) (pe_cal CL (hr.mono (by decide)) (pa_cons (pv 0) (pa_cons pe_int pa_nil))))))))), ?_⟩
  refine ⟨_, rfl, p, l, 10, n, rfl, Pn, by omega, by omega, by omega, fun v H1 a1 b1 P1 k1 => ?_⟩
  refine ⟨_, rfl, rfl, _, rfl, ?_⟩
  refine ite2 (fun _ => ?_) (fun _ => ?_)
  · refine ⟨(by show 0 ≤ sizeLine; decide), fun F hF => ?_⟩
    exact q F [] _ upd_same (by decide) (fun t ht => absurd ht List.not_mem_nil) (k1.none_of hF (P1.ne hF)) ((P1.new hF).le (by omega)) (k1.new hF)
  refine ⟨_, rfl, _, _, rfl, rfl, _, rfl, ?_⟩
  refine ite2 (fun _ => ?_) (fun _ => ?_)
  · exact ⟨_, rfl, p, l, 6, _, rfl, P1, by omega, by decide, by decide, fun F ts H2 hF l1 l2 rows hF0 P2 k2 => q F ts H2 hF l2 (fun t ht => (rows t ht).imp fun _ _ _ => small_any) (k1.none_of hF0 (P1.ne hF0)) (P2.le (by omega)) (k1.trans k2)⟩
  refine ⟨_, rfl, _, _, rfl, rfl, _, rfl, ?_⟩
  refine ite2 (fun _ => ?_) (fun _ => ?_)
  · exact ⟨_, rfl, p, l, 6, _, rfl, P1, by omega, by decide, by decide, fun F ts H2 hF l1 l2 rows hF0 P2 k2 => q F ts H2 hF l2 (fun t ht => (rows t ht).imp fun _ _ _ => aim_any) (k1.none_of hF0 (P1.ne hF0)) (P2.le (by omega)) (k1.trans k2)⟩
  · exact ⟨_, rfl, p, l, 6, _, rfl, P1, by omega, by decide, by decide, fun F ts H2 hF l1 l2 rows hF0 P2 k2 => q F ts H2 hF l2 (fun t ht => (rows t ht).imp fun _ _ _ => line_any) (k1.none_of hF0 (P1.ne hF0)) (P2.le (by omega)) (k1.trans k2)⟩
end
end Ur
/-! K8: a painter's properties and methods: name, day, post, stride, text, post_after. -/
namespace Ur
open PySem PySem.Spec PyProof.Rows L2
/-- a property, a method, with what they promise -/
def PropS (P : Program) (w : World) (K : PySem.W.Frag) (mg : Str → Option Value) (base : Heap) (C : Addr) (f : Str) (k : Nat) (sp : Sp) : Prop := ∃ p g fd, PropOf K C f p g ∧ FnOk P w K mg base CX0 k g fd ["self"] sp ∧ Binds K fd ["self"] []
def MethS (P : Program) (w : World) (K : PySem.W.Frag) (mg : Str → Option Value) (base : Heap) (C : Addr) (m : Str) (k : Nat) (ps : List Str) (sp : Sp) : Prop := ∃ f fd, Meth K C m f ∧ FnOk P w K mg base CX0 k f fd ps sp ∧ Binds K fd ps []
section
variable {X : Cx} {C : Addr} {o e : Expr} {es : List Expr} {pos apos : Pos} {ta : TE} {t : TA} {f m : Str} {k : Nat} {sp : Sp} {ps : List Str} {pl : Sem Bool}
theorem pe_prS (he : PE X e ta) (c : Cls X.K C) (hp : PropS X.prog X.w X.K X.mg X.base C f k sp) (hr : Room (k + 1) X.A) (hab : attributeBase e f X.env (eval e X.env) = eval e X.env := by rfl) : PE X (.Attribute e f pos) (tProp C sp [] E0 ta) := by
  obtain ⟨p, g, fd, h1, F, b⟩ := hp
  exact pe_prop he c h1 F hr b .nil pass0 hab
theorem pe_meS (he : PE X o ta) (c : Cls X.K C) (hm : MethS X.prog X.w X.K X.mg X.base C m k ps sp) (hr : Room k X.A) (ha : PA X (e :: es) t)
    (hst : starEach (e :: es) X.env = (false, eval e X.env) :: starEach es X.env := by rfl) (hpl : (backTo pos (starEach es X.env)).any (·.1) = false := by rfl)
    (ht : eval (.Call (.Attribute o m apos) (e :: es) [] pos) X.env = (do let ov ← eval o X.env; standAt apos.atName; let (f, first) ← holding [ov] (getMethod ov m pl); callWith pos f first (backTo pos (starEach (e :: es) X.env)) (backToKw pos (keywordEach [] X.env))) := by rfl) :
    PE X (.Call (.Attribute o m apos) (e :: es) [] pos) (tMeth C m sp [] E0 ta t) := by
  obtain ⟨f, fd, h1, F, b⟩ := hm
  exact pe_meth he c h1 F hr b .nil pass0 ha hst hpl ht
end
def lineOf (nm : Str) (d p s : Int) : Str := nm ++ (" " ++ ((toString d : Str) ++ (" " ++ ((toString p : Str) ++ (" " ++ (toString s : Str))))))
theorem line_join (nm : Str) (d p s : Int) : Txt.join " " [nm, (toString d : Str), (toString p : Str), (toString s : Str)] = lineOf nm d p s := by
  rw [show Txt.join " " [nm, (toString d : Str), (toString p : Str), (toString s : Str)] = Str.join " " [nm, (toString d : Str), (toString p : Str), (toString s : Str)] from PySem.StrLaws.glued_eq_join _ _]
  show nm ++ " " ++ ((toString d : Str) ++ " " ++ ((toString p : Str) ++ " " ++ (toString s : Str))) = lineOf nm d p s
  unfold lineOf
  simp only [Str.append_assoc]
/-- whole numbers that can be written -/
structure Short (d p s : Int) : Prop where
  d : d.natAbs.log2 < 1920
  p : p.natAbs.log2 < 1920
  s : s.natAbs.log2 < 1920
theorem AnyR.short {d p s : Int} (h : AnyR d p s) : Short d p s := by
  unfold AnyR at h
  exact ⟨log2_of (b := 120) (by omega) (by decide) (by decide), log2_of (b := 120) (by omega) (by decide) (by decide), log2_of (b := 120) (by omega) (by decide) (by decide)⟩
theorem PartOk.short {nm : Str} {d p s : Int} (h : PartOk nm d p s) : Short d p s := by
  have := h.d0; have := h.d1; have := h.p0; have := h.p1; have := h.s0; have := h.s1
  exact ⟨log2_of (b := 120) (by omega) (by decide) (by decide), log2_of (b := 120) (by omega) (by decide) (by decide), log2_of (b := 120) (by omega) (by decide) (by decide)⟩
theorem ilen {i : Int} (h : i.natAbs.log2 < 1920) : (toString i : Str).length ≤ 1921 := PyProof.Rows.int_text_len_1921 h
theorem sameTup {K : PySem.W.Frag} {H H' : Hp} {a : Addr} {xs : List V} (e : Same H H') (h : SqT K H a xs) : SqT K H' a xs := by
  rcases h with (h | ⟨o, h⟩) | h
  · exact .inl (.inl (e _ _ h))
  · exact .inl (.inr ⟨o, e _ _ h⟩)
  · exact .inr h
theorem sameAt {H H' : Hp} {a : Addr} {o : HO} (k : Same H H') (h : H a = none) : Same H (upd H' a o) := fun b u e => by rw [upd_ne (ne_of_none e h)]; exact k b u e
abbrev s__law_line : Stmt := (topS 30)
abbrev N_sc__law_line : List Str := ["_law_painter", "_law_part"]
abbrev P__law_line : List Str := ["_law_painter"]
theorem sc__law_line : FnScope N_sc__law_line P__law_line (defScope s__law_line) := ⟨rfl, rfl, rfl, by decide +kernel, rfl, by decide +kernel, by decide +kernel⟩
def spLine (K : PySem.W.Frag) : Sp := fun vs H Q _ => ∃ (t : Addr) (nm : Str) (d p s : Int), vs = [.ref t] ∧ SqT K H t [.str nm, .int d, .int p, .int s] ∧ nm.length ≤ 1000 ∧ Short d p s ∧ ∀ H', Same H H' → Q (.str (lineOf nm d p s)) H'
section
variable {P : Program} {w : World} {K : PySem.W.Frag} {mg : Str → Option Value} {base : Heap}
theorem ok_line (D : Dfn K mg "_law_line" s__law_line P__law_line) (B : Blt mg) : Cal P w K mg base 1 "_law_line" P__law_line (spLine K) := by
  refine D.cal sc__law_line (fun vs H Q E h => ?_) fun f cdv A outer s H vs Q E hr h => ?_
  · obtain ⟨t, nm, d, p, st, rfl, _⟩ := h
    rfl
  obtain ⟨t, nm, d, p, st, rfl, ht, hnm, sh, q⟩ := h
  refine ⟨_, (pss_one (ps_ret (pe_join pe_str (pe_lc (own := [("_law_part", 1)]) (g := gName 1) (tt := tYes) rfl sc__law_line.nd (pi_tup (pv 0)) (blkOk_by (N := N_sc__law_line) (sc := defScope s__law_line) (by decide +kernel)) (fun _ _ _ _ _ => pg_name (i := 1) sc__law_line.nd rfl (Or.inl rfl)) (fun _ _ _ _ _ => pts_nil) (fun _ _ _ _ _ => (pe_callTy call_strB rfl B.str_ (by decide +kernel) (pa_cons (pv 1) pa_nil))))))), ?_⟩
  refine ⟨⟨_, rfl⟩, _, rfl, t, rfl, ⟨_, ht⟩, fun D hD => ?_⟩
  refine lc_tup (K := K) (a := t) (xs := [.str nm, .int d, .int p, .int st]) (fun i H' => H' D = some (.lst ((([nm, (toString d : Str), (toString p : Str), (toString st : Str)] : List Str).take i).map V.str)) ∧ Same H H') ⟨upd_same, same_new hD _⟩ (fun i H' _ h => sameTup h.2 ht) ?_ ?_
  · rintro i x H' hx ⟨hD', sm⟩
    have hi : i < 4 := (List.getElem?_eq_some_iff.mp hx).1
    have hi : i = 0 ∨ i = 1 ∨ i = 2 ∨ i = 3 := by omega
    rcases hi with rfl | rfl | rfl | rfl
    · obtain rfl : V.str nm = x := Option.some.inj hx
      refine ⟨rfl, _, rfl, .inr ⟨nm, rfl, _, hD', by show 0 < sizeLine; decide, upd_same, sameAt sm hD⟩⟩
    · obtain rfl : V.int d = x := Option.some.inj hx
      refine ⟨rfl, _, rfl, .inl ⟨d, rfl, sh.d, _, hD', by show 1 < sizeLine; decide, upd_same, sameAt sm hD⟩⟩
    · obtain rfl : V.int p = x := Option.some.inj hx
      refine ⟨rfl, _, rfl, .inl ⟨p, rfl, sh.p, _, hD', by show 2 < sizeLine; decide, upd_same, sameAt sm hD⟩⟩
    · obtain rfl : V.int st = x := Option.some.inj hx
      refine ⟨rfl, _, rfl, .inl ⟨st, rfl, sh.s, _, hD', by show 3 < sizeLine; decide, upd_same, sameAt sm hD⟩⟩
  · rintro H' ⟨hD', sm⟩
    refine ⟨" ", D, [nm, (toString d : Str), (toString p : Str), (toString st : Str)], rfl, rfl, .inl (SqL.of hD'), ?_, ?_⟩
    · have a1 := ilen sh.d
      have a2 := ilen sh.p
      have a3 := ilen sh.s
      show nm.length + ((toString d : Str).length + ((toString p : Str).length + ((toString st : Str).length + 0))) + 4 * 1 ≤ 16777216
      omega
    · rw [line_join]
      exact q H' sm
end
/-! ### the properties -/
abbrev s_Painter_name : Stmt := (inClass (topS 15) 4)
abbrev N_sc_Painter_name : List Str := ["self"]
abbrev P_Painter_name : List Str := ["self"]
theorem sc_Painter_name : FnScope N_sc_Painter_name P_Painter_name (defScope s_Painter_name) := ⟨rfl, rfl, rfl, by decide +kernel, rfl, by decide +kernel, by decide +kernel⟩
section
variable {P : Program} {w : World} {K : PySem.W.Frag} {mg : Str → Option Value} {base : Heap} {C : Addr} {f : Addr} {fd : FuncData}
theorem ok_get_name (F : Fun K "name" "Painter.name" s_Painter_name f fd) (T : PTxt K mg C) : FnOk P w K mg base CX0 1 f fd ["self"] (getSp C "_name") := by
  refine F.ok sc_Painter_name (fun vs H Q E h => ?_) (fun cdv A outer s H vs Q E hr h => ?_)
  · obtain ⟨a, dx, fs, v, rfl, _⟩ := h
    rfl
  obtain ⟨a, dx, fs, v, rfl, ha, hl, q⟩ := h
  exact ⟨_, (pss_one (ps_ret (pe_fld (pv 0) rfl))), _, rfl, a, C, dx, fs, v, rfl, ha, T.cl, T.nN, hl, q⟩
end
abbrev s_Painter_day : Stmt := (inClass (topS 15) 5)
abbrev N_sc_Painter_day : List Str := ["self"]
abbrev P_Painter_day : List Str := ["self"]
theorem sc_Painter_day : FnScope N_sc_Painter_day P_Painter_day (defScope s_Painter_day) := ⟨rfl, rfl, rfl, by decide +kernel, rfl, by decide +kernel, by decide +kernel⟩
section
variable {P : Program} {w : World} {K : PySem.W.Frag} {mg : Str → Option Value} {base : Heap} {C : Addr} {f : Addr} {fd : FuncData}
theorem ok_get_day (F : Fun K "day" "Painter.day" s_Painter_day f fd) (T : PTxt K mg C) : FnOk P w K mg base CX0 1 f fd ["self"] (getSp C "_day") := by
  refine F.ok sc_Painter_day (fun vs H Q E h => ?_) (fun cdv A outer s H vs Q E hr h => ?_)
  · obtain ⟨a, dx, fs, v, rfl, _⟩ := h
    rfl
  obtain ⟨a, dx, fs, v, rfl, ha, hl, q⟩ := h
  exact ⟨_, (pss_one (ps_ret (pe_fld (pv 0) rfl))), _, rfl, a, C, dx, fs, v, rfl, ha, T.cl, T.nD, hl, q⟩
end
abbrev s_Painter_post : Stmt := (inClass (topS 15) 6)
abbrev N_sc_Painter_post : List Str := ["self"]
abbrev P_Painter_post : List Str := ["self"]
theorem sc_Painter_post : FnScope N_sc_Painter_post P_Painter_post (defScope s_Painter_post) := ⟨rfl, rfl, rfl, by decide +kernel, rfl, by decide +kernel, by decide +kernel⟩
section
variable {P : Program} {w : World} {K : PySem.W.Frag} {mg : Str → Option Value} {base : Heap} {C : Addr} {f : Addr} {fd : FuncData}
theorem ok_get_post (F : Fun K "post" "Painter.post" s_Painter_post f fd) (T : PTxt K mg C) : FnOk P w K mg base CX0 1 f fd ["self"] (getSp C "_post") := by
  refine F.ok sc_Painter_post (fun vs H Q E h => ?_) (fun cdv A outer s H vs Q E hr h => ?_)
  · obtain ⟨a, dx, fs, v, rfl, _⟩ := h
    rfl
  obtain ⟨a, dx, fs, v, rfl, ha, hl, q⟩ := h
  exact ⟨_, (pss_one (ps_ret (pe_fld (pv 0) rfl))), _, rfl, a, C, dx, fs, v, rfl, ha, T.cl, T.nP, hl, q⟩
end
abbrev s_Painter_stride : Stmt := (inClass (topS 15) 7)
abbrev N_sc_Painter_stride : List Str := ["self"]
abbrev P_Painter_stride : List Str := ["self"]
theorem sc_Painter_stride : FnScope N_sc_Painter_stride P_Painter_stride (defScope s_Painter_stride) := ⟨rfl, rfl, rfl, by decide +kernel, rfl, by decide +kernel, by decide +kernel⟩
section
variable {P : Program} {w : World} {K : PySem.W.Frag} {mg : Str → Option Value} {base : Heap} {C : Addr} {f : Addr} {fd : FuncData}
theorem ok_get_stride (F : Fun K "stride" "Painter.stride" s_Painter_stride f fd) (T : PTxt K mg C) : FnOk P w K mg base CX0 1 f fd ["self"] (getSp C "_stride") := by
  refine F.ok sc_Painter_stride (fun vs H Q E h => ?_) (fun cdv A outer s H vs Q E hr h => ?_)
  · obtain ⟨a, dx, fs, v, rfl, _⟩ := h
    rfl
  obtain ⟨a, dx, fs, v, rfl, ha, hl, q⟩ := h
  exact ⟨_, (pss_one (ps_ret (pe_fld (pv 0) rfl))), _, rfl, a, C, dx, fs, v, rfl, ha, T.cl, T.nS, hl, q⟩
end
abbrev s_Painter_text : Stmt := (inClass (topS 15) 8)
abbrev N_sc_Painter_text : List Str := ["self"]
abbrev P_Painter_text : List Str := ["self"]
theorem sc_Painter_text : FnScope N_sc_Painter_text P_Painter_text (defScope s_Painter_text) := ⟨rfl, rfl, rfl, by decide +kernel, rfl, by decide +kernel, by decide +kernel⟩
def spText (C : Addr) : Sp := fun vs H Q _ => ∃ (a : Addr) (nm : Str) (d p s : Int), vs = [.ref a] ∧ PnAt C H a nm d p s ∧ nm.length ≤ 1000 ∧ Short d p s ∧ Q (.str (lineOf nm d p s)) H
section
variable {P : Program} {w : World} {K : PySem.W.Frag} {mg : Str → Option Value} {base : Heap} {C : Addr} {f : Addr} {fd : FuncData}
theorem ok_text (F : Fun K "text" "Painter.text" s_Painter_text f fd) (T : PTxt K mg C) : FnOk P w K mg base CX0 1 f fd ["self"] (spText C) := by
  refine F.ok sc_Painter_text (fun vs H Q E h => ?_) (fun cdv A outer s H vs Q E hr h => ?_)
  · obtain ⟨a, nm, d, p, st, rfl, _⟩ := h
    rfl
  obtain ⟨a, nm, d, p, st, rfl, ⟨dx, ha⟩, hn, sh, q⟩ := h
  have a1 := ilen sh.d
  have a2 := ilen sh.p
  have a3 := ilen sh.s
  have big : (20000 : Nat) ≤ sizeLine := by decide
  have sp : (" " : Str).length = 1 := by decide +kernel
  refine ⟨_, (pss_one (ps_ret (pe_joined (.cons (pe_fmt (pe_fld (pv 0) rfl)) (.cons pe_str (.cons (pe_fmt (pe_fld (pv 0) rfl)) (.cons pe_str (.cons (pe_fmt (pe_fld (pv 0) rfl)) (.cons pe_str (.cons (pe_fmt (pe_fld (pv 0) rfl)) .nil)))))))))), ?_⟩
  refine ⟨_, rfl, a, C, dx, _, _, rfl, ha, T.cl, T.nN, pfs_name _ _ _ _, .inl ⟨nm, rfl, by omega, nm, rfl, by rw [Str.empty_append]; omega, ?_⟩⟩
  refine ⟨_, rfl, by rw [Str.empty_append, Str.length_append, sp]; omega, ?_⟩
  refine ⟨_, rfl, a, C, dx, _, _, rfl, ha, T.cl, T.nD, pfs_day _ _ _ _, .inr ⟨d, rfl, sh.d, _, rfl, by simp only [Str.empty_append, Str.length_append, sp]; omega, ?_⟩⟩
  refine ⟨_, rfl, by simp only [Str.empty_append, Str.length_append, sp]; omega, ?_⟩
  refine ⟨_, rfl, a, C, dx, _, _, rfl, ha, T.cl, T.nP, pfs_post _ _ _ _, .inr ⟨p, rfl, sh.p, _, rfl, by simp only [Str.empty_append, Str.length_append, sp]; omega, ?_⟩⟩
  refine ⟨_, rfl, by simp only [Str.empty_append, Str.length_append, sp]; omega, ?_⟩
  refine ⟨_, rfl, a, C, dx, _, _, rfl, ha, T.cl, T.nS, pfs_stride _ _ _ _, .inr ⟨st, rfl, sh.s, _, rfl, by simp only [Str.empty_append, Str.length_append, sp]; omega, ?_⟩⟩
  have e : Str.empty ++ nm ++ " " ++ (toString d : Str) ++ " " ++ (toString p : Str) ++ " " ++ (toString st : Str) = lineOf nm d p st := by
    unfold lineOf
    simp only [Str.empty_append, Str.append_assoc]
  rw [← e] at q
  exact q
end
end Ur
/-! KO: operators that the painters' class defines. -/
namespace Ur
open PySem PySem.Spec PyProof.Rows L2
/-- a method with what it promises, as an operator is found -/
def OwnS (P : Program) (w : World) (K : PySem.W.Frag) (mg : Str → Option Value) (base : Heap) (C : Addr) (m : Str) (k : Nat) (ps : List Str) (sp : Sp) : Prop :=
  ∃ f fd, PySem.W.findIn K (.ref C) m = some (some (.ref f)) ∧ PySem.W.isFn K (.ref f) = true ∧ FnOk P w K mg base CX0 k f fd ps sp ∧ Binds K fd ps []
/-- what + asks of the class and of int -/
structure AddCls (K : PySem.W.Frag) (C : Addr) : Prop where
  self : PySem.W.selfFirst K C = true
  back : PySem.W.findIn K (.ref C) "__radd__" = some none
  iadd : ∃ v, PySem.W.findIn K (.type "int") "__add__" = some v
  irad : ∃ v, PySem.W.findIn K (.type "int") "__radd__" = some v
  sub : PySem.W.subIn K (.type "int") (.ref C) = some false
section
variable {X : Cx} {C : Addr} {k : Nat} {sp : Sp} {ps : List Str}
theorem un_own (h : OwnS X.prog X.w X.K X.mg X.base C "__neg__" k ps sp) (hr : Room k X.A) : UnR X (unaryOp .USub) (fun x H Q => ∃ a dx fs, x = .ref a ∧ H a = some (.ins C dx fs) ∧ sp [.ref a] H Q E0) := by
  intro pins s σ H x v Q I rx hq
  obtain ⟨a, dx, fs, rfl, ha, q⟩ := hq
  obtain ⟨f, fd, hs, hf, F, b⟩ := h
  have e : v = .ref a := rx
  subst e
  obtain ⟨mA, J0, _⟩ := ins_get I.hok ha
  obtain ⟨od, J, _⟩ := J0.look
  obtain ⟨m, F0⟩ := I.fr
  exact PySem.W.ksp_neg F0 I.ok.mod.kin J hs hf (run_fn F hr b .nil pass0 I (.cons (show L2.RelV (.ref a) (.ref a) from rfl) .nil) q)
theorem op_addOwn (h : OwnS X.prog X.w X.K X.mg X.base C "__add__" k ps sp) (c : AddCls X.K C) (hr : Room k X.A) : OpR X (binaryOp .Add) (fun x y H Q => ∃ a dx fs i, x = .ref a ∧ y = .int i ∧ H a = some (.ins C dx fs) ∧ sp [.ref a, .int i] H Q E0) := by
  intro pins s σ H x y v u Q I rx ry hq
  obtain ⟨a, dx, fs, i, rfl, rfl, ha, q⟩ := hq
  obtain ⟨f, fd, hs, hf, F, b⟩ := h
  have e : v = .ref a := rx
  subst e
  obtain ⟨t, rfl⟩ := ry
  obtain ⟨mA, J0, _⟩ := ins_get I.hok ha
  obtain ⟨od, J, _⟩ := J0.look
  obtain ⟨m, F0⟩ := I.fr
  obtain ⟨v1, e1⟩ := c.iadd
  obtain ⟨v2, e2⟩ := c.irad
  refine PySem.W.ksp_binT (op := .Add) (T := "int") F0 I.ok.mod.kin J rfl c.self hs hf c.back (.inl rfl) e1 e2 c.sub (wpAny_mono (run_fn F hr b .nil pass0 I (.cons (show L2.RelV (.ref a) (.ref a) from rfl) (.cons (show L2.RelV (.int i) (.int i t) from ⟨t, rfl⟩) .nil)) q) (fun v s' hv => ?_) fun _ _ z => z)
  cases v <;> first | exact hv | (obtain ⟨x, _, _, rx, _⟩ := hv; cases x <;> first | (cases rx; done) | (obtain ⟨_, rx⟩ := rx; cases rx))
end
abbrev s_Painter_add : Stmt := (inClass (topS 15) 12)
abbrev N_sc_Painter_add : List Str := ["self", "other"]
abbrev P_Painter_add : List Str := ["self", "other"]
theorem sc_Painter_add : FnScope N_sc_Painter_add P_Painter_add (defScope s_Painter_add) := ⟨rfl, rfl, rfl, by decide +kernel, rfl, by decide +kernel, by decide +kernel⟩
def spAdd (C : Addr) : Sp := fun vs H Q _ => ∃ (a : Addr) (nm : Str) (d p s i : Int), vs = [.ref a, .int i] ∧ PnAt C H a nm d p s ∧ PartOk nm d (p + i) s ∧ ∀ x H', PnAt C H' x nm d (p + i) s → Same H H' → Q (.ref x) H'
section
variable {P : Program} {w : World} {K : PySem.W.Frag} {mg : Str → Option Value} {base : Heap} {C : Addr} {f : Addr} {fd : FuncData}
theorem ok_add (F : Fun K "__add__" "Painter.__add__" s_Painter_add f fd) (T : PTxt K mg C) (hMk : MkP P w K mg base C) : FnOk P w K mg base CX0 5 f fd P_Painter_add (spAdd C) := by
  refine F.ok sc_Painter_add (fun vs H Q E h => ?_) (fun cdv A outer s H vs Q E hr h => ?_)
  · obtain ⟨a, nm, d, p, st, i, rfl, _⟩ := h
    rfl
  obtain ⟨a, nm, d, p, st, i, rfl, ⟨dx, ha⟩, ok, q⟩ := h
  refine ⟨_, (pss_one (ps_ret (pe_mkP hMk T (hr.mono (by decide)) (pa_cons (pe_fld (pv 0) rfl) (pa_cons (pe_fld (pv 0) rfl) (pa_cons (pe_op op_add (pe_fld (pv 0) rfl) (pv 1)) (pa_cons (pe_fld (pv 0) rfl) pa_nil))))))), ?_⟩
  refine ⟨_, rfl, a, C, dx, _, _, rfl, ha, T.cl, T.nN, pfs_name _ _ _ _, _, rfl, a, C, dx, _, _, rfl, ha, T.cl, T.nD, pfs_day _ _ _ _, _, rfl, a, C, dx, _, _, rfl, ha, T.cl, T.nP, pfs_post _ _ _ _, _, rfl, _, _, rfl, rfl, _, rfl, a, C, dx, _, _, rfl, ha, T.cl, T.nS, pfs_stride _ _ _ _, fun x dx nx ndx nex => ?_⟩
  exact ⟨x, dx, nm, d, p + i, st, rfl, upd_same, ok, fun H7 hx7 kp7 => ⟨rfl, q x H7 ⟨dx, hx7⟩ (Same.made nx ndx kp7)⟩⟩
end
abbrev s_Painter_neg : Stmt := (inClass (topS 15) 13)
abbrev N_sc_Painter_neg : List Str := ["self"]
abbrev P_Painter_neg : List Str := ["self"]
theorem sc_Painter_neg : FnScope N_sc_Painter_neg P_Painter_neg (defScope s_Painter_neg) := ⟨rfl, rfl, rfl, by decide +kernel, rfl, by decide +kernel, by decide +kernel⟩
def spNeg (C : Addr) : Sp := fun vs H Q _ => ∃ (a : Addr) (nm : Str) (d p s : Int), vs = [.ref a] ∧ PnAt C H a nm d p s ∧ PartOk nm d p s ∧ ∀ x H', PnAt C H' x nm d (-p) (-s) → Same H H' → Q (.ref x) H'
section
variable {P : Program} {w : World} {K : PySem.W.Frag} {mg : Str → Option Value} {base : Heap} {C : Addr} {f : Addr} {fd : FuncData}
theorem PartOk.neg {nm : Str} {d p s : Int} (h : PartOk nm d p s) : PartOk nm d (-p) (-s) := by
  obtain ⟨a, b, c, e, g, i, j, k⟩ := h
  exact ⟨a, b, c, by omega, by omega, by omega, by omega, by omega⟩
theorem ok_neg (F : Fun K "__neg__" "Painter.__neg__" s_Painter_neg f fd) (T : PTxt K mg C) (hMk : MkP P w K mg base C) : FnOk P w K mg base CX0 5 f fd P_Painter_neg (spNeg C) := by
  refine F.ok sc_Painter_neg (fun vs H Q E h => ?_) (fun cdv A outer s H vs Q E hr h => ?_)
  · obtain ⟨a, nm, d, p, st, rfl, _⟩ := h
    rfl
  obtain ⟨a, nm, d, p, st, rfl, ⟨dx, ha⟩, ok, q⟩ := h
  refine ⟨_, (pss_one (ps_ret (pe_mkP hMk T (hr.mono (by decide)) (pa_cons (pe_fld (pv 0) rfl) (pa_cons (pe_fld (pv 0) rfl) (pa_cons (pe_un un_neg (pe_fld (pv 0) rfl)) (pa_cons (pe_un un_neg (pe_fld (pv 0) rfl)) pa_nil))))))), ?_⟩
  refine ⟨_, rfl, a, C, dx, _, _, rfl, ha, T.cl, T.nN, pfs_name _ _ _ _, _, rfl, a, C, dx, _, _, rfl, ha, T.cl, T.nD, pfs_day _ _ _ _, _, rfl, a, C, dx, _, _, rfl, ha, T.cl, T.nP, pfs_post _ _ _ _, _, rfl, _, rfl, a, C, dx, _, _, rfl, ha, T.cl, T.nS, pfs_stride _ _ _ _, _, rfl, fun x dx nx ndx nex => ?_⟩
  exact ⟨x, dx, nm, d, -p, -st, rfl, upd_same, ok.neg, fun H7 hx7 kp7 => ⟨rfl, q x H7 ⟨dx, hx7⟩ (Same.made nx ndx kp7)⟩⟩
end
end Ur
/-! N3: the names are different ones. -/
namespace Ur
open PySem PySem.Spec PyProof.Rows L2
def baseN (stem : Str) (c : Nat) : Str := if stem.length % 2 = 0 then stem ++ ⟨#[c]⟩ else ⟨#[c]⟩ ++ stem
/-- the j-th name -/
def NmAt (stem : Str) (fr sp : Int) (j : Nat) (g : Str) : Prop := ∃ (c : Nat) (t : Str), lett.cps.toList[((fr + sp * (j : Int)) % 26).toNat]? = some c ∧ t.length = (if j < 26 then 0 else 1) ∧ g = baseN stem c ++ t
theorem at_emod {a : Int} {c : Nat} (h : atI lett.cps.toList (a % 26) = some c) : lett.cps.toList[(a % 26).toNat]? = some c := by
  obtain ⟨j, hj⟩ : ∃ j : Nat, a % 26 = (j : Int) := ⟨(a % 26).toNat, by have := Int.emod_nonneg a (show (26 : Int) ≠ 0 by decide); omega⟩
  have hl : j < 26 := by have := Int.emod_lt_of_pos a (show (0 : Int) < 26 by decide); omega
  rw [hj] at h ⊢
  rw [atI_nat (List.getElem?_eq_getElem (show j < lett.cps.toList.length by rw [lett_tl]; exact hl))] at h
  rw [Int.toNat_natCast, List.getElem?_eq_getElem (show j < lett.cps.toList.length by rw [lett_tl]; exact hl)]
  exact h
theorem nmAt_snoc {stem : Str} {fr sp : Int} {ss : List Str} {i : Nat} {g : Str} (hl : ss.length = i) (h : ∀ j g, ss[j]? = some g → NmAt stem fr sp j g) (hg : NmAt stem fr sp i g) : ∀ j y, (ss ++ [g])[j]? = some y → NmAt stem fr sp j y := by
  intro j y e
  by_cases hj : j < ss.length
  · rw [List.getElem?_append_left hj] at e
    exact h j y e
  · have hj2 : j < (ss ++ [g]).length := (List.getElem?_eq_some_iff.mp e).1
    rw [List.length_append] at hj2
    have : j = i := by have h1 : ([g] : List Str).length = 1 := rfl; omega
    subst this
    rw [List.getElem?_append_right (by omega), hl, Nat.sub_self] at e
    obtain rfl := Option.some.inj e
    exact hg
theorem base_inj {stem : Str} {c d : Nat} {t u : Str} (hl : t.length = u.length) (e : baseN stem c ++ t = baseN stem d ++ u) : c = d := by
  have e2 : (baseN stem c).cps.toList ++ t.cps.toList = (baseN stem d).cps.toList ++ u.cps.toList := by
    have z := congrArg (fun s : Str => s.cps.toList) e
    simpa [Str.cps_append, Array.toList_append] using z
  have hl2 : t.cps.toList.length = u.cps.toList.length := by rw [Array.length_toList, Array.length_toList]; exact hl
  have e3 := (List.append_inj' e2 hl2).1
  unfold baseN at e3
  by_cases ev : stem.length % 2 = 0
  · rw [if_pos ev, if_pos ev, Str.cps_append, Str.cps_append, Array.toList_append, Array.toList_append] at e3
    simpa using e3
  · rw [if_neg ev, if_neg ev, Str.cps_append, Str.cps_append, Array.toList_append, Array.toList_append] at e3
    simpa using e3
theorem lett_inj : ∀ i < 26, ∀ j < 26, lett.cps.toList[i]? = lett.cps.toList[j]? → i = j := by decide +kernel
theorem step_inj {sp d : Int} (h : sp ∈ ([1, 3, 5, 7, 9, 11, 15, 17, 19, 21, 23, 25] : List Int)) (e : (sp * d) % 26 = 0) : d % 26 = 0 := by
  simp only [List.mem_cons, List.not_mem_nil, or_false] at h
  rcases h with rfl | rfl | rfl | rfl | rfl | rfl | rfl | rfl | rfl | rfl | rfl | rfl <;> omega
theorem nm_ne {stem : Str} {fr sp : Int} (h : sp ∈ ([1, 3, 5, 7, 9, 11, 15, 17, 19, 21, 23, 25] : List Int)) {i j : Nat} {g : Str} (hij : i < j) (hj : j < 52) (a : NmAt stem fr sp i g) (b : NmAt stem fr sp j g) : False := by
  obtain ⟨c, t, hc, ht, e1⟩ := a
  obtain ⟨d, u, hd, hu, e2⟩ := b
  have len : ∀ (c : Nat) (t : Str), (baseN stem c ++ t).length = stem.length + 1 + t.length := fun c t => by
    rw [Str.length_append]
    congr 1
    unfold baseN
    split
    · rw [Str.length_append]; rfl
    · rw [Str.length_append]
      show 1 + stem.length = _
      omega
  have hl : t.length = u.length := by
    have z := congrArg Str.length (e1.symm.trans e2)
    rw [len, len] at z
    omega
  have hcd := base_inj hl (e1.symm.trans e2)
  subst hcd
  have b1 := Int.emod_nonneg (fr + sp * (i : Int)) (show (26 : Int) ≠ 0 by decide)
  have b2 := Int.emod_lt_of_pos (fr + sp * (i : Int)) (show (0 : Int) < 26 by decide)
  have b3 := Int.emod_nonneg (fr + sp * (j : Int)) (show (26 : Int) ≠ 0 by decide)
  have b4 := Int.emod_lt_of_pos (fr + sp * (j : Int)) (show (0 : Int) < 26 by decide)
  have ei := lett_inj _ (by omega) _ (by omega) (hc.trans hd.symm)
  have em : (fr + sp * (i : Int)) % 26 = (fr + sp * (j : Int)) % 26 := by omega
  have ez : (sp * ((j : Int) - (i : Int))) % 26 = 0 := by
    rw [Int.mul_sub]
    generalize sp * (j : Int) = x at em ⊢
    generalize sp * (i : Int) = y at em ⊢
    omega
  have zz := step_inj h ez
  rw [hl, hu] at ht
  split at ht <;> split at ht <;> omega
theorem nm_nodup {stem : Str} {fr sp : Int} (h : sp ∈ ([1, 3, 5, 7, 9, 11, 15, 17, 19, 21, 23, 25] : List Int)) {ss : List Str} (hl : ss.length ≤ 52) (hs : ∀ j g, ss[j]? = some g → NmAt stem fr sp j g) : ss.Nodup := by
  rw [List.nodup_iff_pairwise_ne, List.pairwise_iff_getElem]
  intro i j hi hj hij e
  exact nm_ne h hij (by omega) (hs i _ (List.getElem?_eq_getElem hi)) (by rw [e]; exact hs j _ (List.getElem?_eq_getElem hj))
def spNamesN : Sp := fun vs H Q _ => ∃ (p l : Addr) (m n : Nat), vs = [.ref p, .int (m : Int)] ∧ Pen H p l n ∧ n + 12 * (m + 9) ≤ 2 ^ 39 ∧ m ≤ 52 ∧
  ∀ (F : Addr) (ss : List Str) (H' : Hp), H' F = some (.lst (ss.map V.str)) → ss.length = m → (∀ z ∈ ss, NameOk z) → ss.Nodup → H F = none → Pen H' p l (n + 12 * (m + 9)) → Keep p H H' → Q (.ref F) H'
section
variable {P : Program} {w : World} {K : PySem.W.Frag} {mg : Str → Option Value} {base : Heap}
set_option maxHeartbeats 16000000 in
theorem ok_namesN (D : Dfn K mg "_law_names" s__law_names P__law_names) (B : Blt mg) (CD : Cal P w K mg base 12 "_law_draw" P__law_draw spDr) (CP : Cal P w K mg base 13 "_law_pick" P__law_pick (spPickL K)) (CS : Cal P w K mg base 13 "_law_pick" P__law_pick spPickS) :
    Cal P w K mg base 14 "_law_names" P__law_names spNamesN := by
  refine D.cal sc__law_names (fun vs H Q E h => ?_) fun f cdv A outer s H vs Q E hr h => ?_
  · obtain ⟨p, l, m, n, rfl, _⟩ := h
    rfl
  obtain ⟨p, l, m, n, rfl, Pn, hn, hm, q⟩ := h
  obtain ⟨kvs, hp⟩ := Pn.dk
  have small : ∀ x : Nat, x ≤ 1000 → x ≤ sizeLine := fun x h => Nat.le_trans h (by decide)
  refine ⟨_, (pss_cons (ps_set (i := 2) sc__law_names.nd rfl (Or.inr rfl) pe_str) (C8.pss_cut (ps_set (i := 3) sc__law_names.nd rfl (Or.inl rfl) (pe_join pe_str (pe_lc (own := [("_law_k", 4)]) (g := gName 4) (tt := tYes) rfl sc__law_names.nd (pi_range1 rfl B.range_ (pa_cons (pe_cal CD (hr.mono (by decide)) (pa_cons (pv 0) (pa_cons pe_int pa_nil))) pa_nil)) (blkOk_by (N := N_sc__law_names) (sc := defScope s__law_names) (by decide +kernel)) (fun _ _ _ _ _ => pg_name (i := 4) sc__law_names.nd rfl (Or.inl rfl)) (fun _ _ _ _ _ => pts_nil) (fun _ _ _ _ _ => (pe_cal CS (hr.mono (by decide)) (pa_cons (pv 0) (pa_cons (pv 2) pa_nil))))))) (pss_cons (ps_par (i := 5) (j := 6) rfl sc__law_names.nd rfl rfl (by decide) rfl rfl (pa_cons (pe_cal CD (hr.mono (by decide)) (pa_cons (pv 0) (pa_cons pe_int pa_nil))) (pa_cons (pe_lst pa_nil) pa_nil)) (by rfl)) (pss_cons (ps_set (i := 7) sc__law_names.nd rfl (Or.inl rfl) (pe_cal CP (hr.mono (by decide)) (pa_cons (pv 0) (pa_cons (pe_lst (pa_cons pe_int (pa_cons pe_int (pa_cons pe_int (pa_cons pe_int (pa_cons pe_int (pa_cons pe_int (pa_cons pe_int (pa_cons pe_int (pa_cons pe_int (pa_cons pe_int (pa_cons pe_int (pa_cons pe_int pa_nil))))))))))))) pa_nil)))) (pss_cons (ps_for PassesOwn.never rfl (pi_range1 rfl B.range_ (pa_cons (pv 1) pa_nil)) (pg_name (i := 4) sc__law_names.nd rfl (Or.inl rfl)) (pss_cons (ps_set (i := 8) sc__law_names.nd rfl (Or.inl rfl) (pe_ix ix_str (pv 2) (pe_op op_mod (pe_callTy call_int1 rfl B.int_ (by decide +kernel) (pa_cons (pe_op op_add (pv 5) (pe_op op_mul (pv 7) (pv 4))) pa_nil)) pe_int) (fun _ _ => rfl))) (C8.pss_cut (ps_set (i := 9) sc__law_names.nd rfl (Or.inl rfl) (pe_ifExp (pt_cmpR op_lt (pv 4) pe_int (nomark _)) pe_str (pe_cal CS (hr.mono (by decide)) (pa_cons (pv 0) (pa_cons (pv 2) pa_nil))))) (pss_one (ps_expr (pe_bm PySem.F.plainAttrs_list PySem.F.slot_list_append PySem.F.type_list_append mt_append (pv 6) (pa_cons (pe_op op_add_str (pe_ix ix_list (pe_lst (pa_cons (pe_op op_add_str (pv 3) (pv 8)) (pa_cons (pe_op op_add_str (pv 8) (pv 3)) pa_nil))) (pe_op op_mod (pe_callB call_len_str rfl B.len_ PySem.boot_len (pa_cons (pv 3) pa_nil)) pe_int) (fun _ _ => rfl)) (pv 9)) pa_nil))))))) (pss_one (ps_ret (pv 6)))))))), ?_⟩
  refine ⟨fun σ' H' => ∃ stem : Str, σ' = [some (.ref p), some (.int (m : Int)), some (.str lett), some (.str stem), none, none, none, none, none, none] ∧ stem.length ≤ 6 ∧ LetOk stem ∧ Pen H' p l (n + 84) ∧ Keep p H H', ?_, ?_⟩
  · refine ⟨⟨_, rfl⟩, _, rfl, p, l, 7, n, rfl, Pn, by omega, by omega, by omega, fun v0 H1 a0 b0 P1 k1 => ?_⟩
    refine ⟨v0, rfl, by omega, by omega, fun D hD => lc_range (lo := 0) (n := v0.toNat) (fun i H' => ∃ ss : List Str, H' D = some (.lst (ss.map V.str)) ∧ ss.length = i ∧ (∀ z ∈ ss, z.length = 1 ∧ LetOk z) ∧ Pen H' p l (n + 12 + 12 * i) ∧ Keep p H H')
      ⟨[], upd_same, rfl, fun z hz => absurd hz List.not_mem_nil, (P1.new hD).le (by omega), k1.new hD⟩ ?_ ?_⟩
    · rintro i H' hi ⟨ss, hs, hl, ho, Pi, ki⟩
      refine ⟨rfl, ?_⟩
      refine ⟨_, rfl, _, rfl, p, l, lett, _, rfl, Pi, by omega, by rw [lett_len]; decide, by rw [lett_len]; decide, fun c H3 hc P3 k3 => ?_⟩
      have nD := P1.ne hD
      have nDl := P1.nl hD
      have hD0 : H D = none := k1.none_of hD nD
      refine ⟨ss.map V.str, k3 _ _ hs nD, by rw [List.length_map]; exact small1000 (by omega), ss ++ [⟨#[c]⟩], by rw [upd_same, List.map_append]; rfl, by rw [List.length_append, hl]; rfl, mem_snoc ho ⟨rfl, LetOk.one (lett_ok c hc)⟩, (P3.le (by omega)).upd nD nDl, (ki.trans k3).at_new hD0⟩
    · rintro H' ⟨ss, hs, hl, ho, Pi, ki⟩
      refine ⟨_, D, ss, rfl, rfl, .inl (SqL.of hs), ?_, ?_⟩
      · rw [sum_ones ss ho]
        show ss.length + ss.length * 0 ≤ _
        omega
      · obtain ⟨j1, j2⟩ := join_ok ss ho
        exact ⟨_, rfl, by show (Txt.join Str.empty ss).length ≤ 6; omega, j2, Pi.le (by omega), ki⟩
  rintro σ' H1 ⟨stem, rfl, st1, st2, P1, k1⟩
  refine ⟨_, rfl, p, l, 26, _, rfl, P1, by omega, by omega, by omega, fun fr H2 f0 f1 P2 k2 => ?_⟩
  refine ⟨(by show 0 ≤ sizeLine; decide), fun F hF => ?_⟩
  have nF := P2.ne hF
  have nFl := P2.nl hF
  have hF0 : H F = none := (k1.trans k2).none_of hF nF
  refine ⟨_, _, rfl, ?_⟩
  refine ⟨_, rfl, (by show 12 ≤ sizeLine; decide), fun t ht => ?_⟩
  refine ⟨p, l, t, _, _, rfl, (P2.new hF).new ht, by omega, SqL.of upd_same, by show 1 ≤ 12; decide, by show 12 ≤ 1000000; decide, fun st H4 hst P4 k4 => ?_⟩
  obtain ⟨sp, hsp, rfl⟩ : ∃ i : Int, i ∈ ([1, 3, 5, 7, 9, 11, 15, 17, 19, 21, 23, 25] : List Int) ∧ V.int i = st := List.mem_map.mp (show st ∈ ([1, 3, 5, 7, 9, 11, 15, 17, 19, 21, 23, 25] : List Int).map V.int from hst)
  have sp1 : 1 ≤ sp ∧ sp ≤ 25 := (by decide : ∀ i ∈ ([1, 3, 5, 7, 9, 11, 15, 17, 19, 21, 23, 25] : List Int), 1 ≤ i ∧ i ≤ 25) sp hsp
  have hF4 : H4 F = some (.lst []) := k4 _ _ (same_new ht (.lst (([1, 3, 5, 7, 9, 11, 15, 17, 19, 21, 23, 25] : List Int).map V.int)) _ _ upd_same) nF
  have k5 : Keep p H H4 := (((k1.trans k2).new hF).new ht).trans k4
  refine ⟨_, rfl, (m : Int), rfl, by omega, by omega, for_range (lo := 0) (n := (m : Int).toNat) (fun i σ' H' => ∃ (ss : List Str) (k own tail : Option V), σ' = [some (.ref p), some (.int (m : Int)), some (.str lett), some (.str stem), k, some (.int fr), some (.ref F), some (.int sp), own, tail] ∧
      H' F = some (.lst (ss.map V.str)) ∧ ss.length = i ∧ i ≤ m ∧ (∀ z ∈ ss, NameOk z) ∧ (∀ j g, ss[j]? = some g → NmAt stem fr sp j g) ∧ Pen H' p l (n + 108 + 12 * i) ∧ Keep p H H') ⟨[], none, none, none, rfl, hF4, rfl, Nat.zero_le _, fun z hz => absurd hz List.not_mem_nil, fun j g e => by simp at e, P4.le (by omega), k5⟩ ?_ ?_⟩
  · rintro i σ' H' hi ⟨ss, k, own, tail, rfl, hFi, hl, him, ho, hnm, Pi, ki⟩
    have him : i < m := by omega
    obtain ⟨c, hc, hcm⟩ := at_some (xs := lett.cps.toList) (em0 (fr + sp * (0 + (i : Int))) (m := 26) (by decide)) (by rw [lett_tl]; exact em1 _ (by decide))
    refine ⟨_, rfl, _, rfl, _, rfl, _, rfl, _, _, rfl, rfl, .inl (by omega), _, _, rfl, rfl, .inl ⟨_, rfl, _, _, rfl, rfl, by omega, lett, _, c, rfl, rfl, by rw [lett_len]; decide, hc, ?_⟩⟩
    have hcl := lett_ok c hcm
    refine ⟨fun σ' H'' => ∃ t : Str, σ' = [some (.ref p), some (.int (m : Int)), some (.str lett), some (.str stem), some (.int (0 + (i : Int))), some (.int fr), some (.ref F), some (.int sp), some (.str ⟨#[c]⟩), some (.str t)] ∧ t.length = (if i < 26 then 0 else 1) ∧ LetOk t ∧ Pen H'' p l (n + 108 + 12 * i + 12) ∧ Keep p H' H'', ?_, ?_⟩
    · refine ⟨_, rfl, _, _, rfl, rfl, _, rfl, ?_⟩
      refine ite2 (fun hc1 => ?_) (fun hc1 => ?_)
      · have hc1 := of_decide_eq_true hc1
        exact ⟨Str.empty, rfl, by rw [if_pos (by omega)]; rfl, LetOk.empty, Pi.le (by omega), Keep.refl⟩
      · refine ⟨_, rfl, _, rfl, p, l, lett, _, rfl, Pi, by omega, by rw [lett_len]; decide, by rw [lett_len]; decide, fun c2 H3 hc2 P3 k3 => ?_⟩
        have hc1 : ¬ (0 + (i : Int) < 26) := fun z => hc1 (decide_eq_true z)
        exact ⟨⟨#[c2]⟩, rfl, by rw [if_neg (by omega)]; rfl, LetOk.one (lett_ok c2 hc2), P3, k3⟩
    rintro σ' H3 ⟨t, rfl, t0, t2, P3, k3⟩
    have t1 : t.length ≤ 1 := by rw [t0]; split <;> omega
    have hF3 := k3 _ _ hFi nF
    have cl : (⟨#[c]⟩ : Str).length = 1 := rfl
    refine ⟨_, rfl, .inl ⟨rfl, _, SqL.of hF3⟩, ?_⟩
    refine ⟨_, rfl, _, rfl, _, _, rfl, rfl, small _ (by rw [cl]; omega), _, rfl, _, rfl, _, _, rfl, rfl, small _ (by rw [cl]; omega), (by show 2 ≤ sizeLine; decide), fun u hu => ?_⟩
    obtain ⟨v, hv, hvm⟩ := at_some (xs := [V.str (stem ++ ⟨#[c]⟩), V.str (⟨#[c]⟩ ++ stem)]) (em0 (stem.length : Int) (m := 2) (by decide)) (em1 (stem.length : Int) (m := 2) (by decide))
    obtain ⟨g, rfl, g1, g2, g3⟩ : ∃ g : Str, v = .str g ∧ g.length = stem.length + 1 ∧ LetOk g ∧ g = baseN stem c := by
      by_cases ev : stem.length % 2 = 0
      · have e0 : (stem.length : Int) % 2 = ((0 : Nat) : Int) := by omega
        rw [e0, atI_nat (show ([V.str (stem ++ ⟨#[c]⟩), V.str (⟨#[c]⟩ ++ stem)] : List V)[0]? = some (V.str (stem ++ ⟨#[c]⟩)) from rfl)] at hv
        obtain rfl := Option.some.inj hv
        exact ⟨_, rfl, by rw [Str.length_append, cl], st2.app (LetOk.one hcl), by unfold baseN; rw [if_pos ev]⟩
      · have e0 : (stem.length : Int) % 2 = ((1 : Nat) : Int) := by omega
        rw [e0, atI_nat (show ([V.str (stem ++ ⟨#[c]⟩), V.str (⟨#[c]⟩ ++ stem)] : List V)[1]? = some (V.str (⟨#[c]⟩ ++ stem)) from rfl)] at hv
        obtain rfl := Option.some.inj hv
        exact ⟨_, rfl, by rw [Str.length_append, cl]; omega, (LetOk.one hcl).app st2, by unfold baseN; rw [if_neg ev]⟩
    refine ⟨_, rfl, _, rfl, small _ (by omega), _, _, rfl, rfl, by omega, u, _, _, _, rfl, rfl, SqL.of upd_same, hv, _, rfl, _, _, rfl, rfl, small _ (by omega), ?_⟩
    have hF5 := same_new hu (.lst [V.str (stem ++ ⟨#[c]⟩), V.str (⟨#[c]⟩ ++ stem)]) _ _ hF3
    refine ⟨F, _, _, rfl, rfl, hF5, by rw [List.length_map]; exact small1000 (by omega), ?_⟩
    refine ⟨ss ++ [g ++ t], _, _, _, rfl, by rw [upd_same, List.map_append]; rfl, by rw [List.length_append, hl]; rfl, by omega, mem_snoc ho ⟨by rw [Str.length_append]; omega, by rw [Str.length_append]; omega, g2.app t2⟩, nmAt_snoc hl hnm ⟨c, t, by rw [Int.zero_add] at hc; exact at_emod hc, t0, by rw [g3]⟩, ((P3.new hu).le (by omega)).upd nF nFl, ((ki.trans k3).new hu).at_new hF0⟩
  · rintro σ' H' ⟨ss, k, own, tail, rfl, hFi, hl, him, ho, hnm, Pi, ki⟩
    refine ⟨_, rfl, ?_⟩
    exact q F ss H' hFi (by omega) ho (nm_nodup hsp (by omega) hnm) hF0 (Pi.le (by omega)) ki
end
end Ur
/-! N5: rows with different names: small. -/
namespace Ur
open PySem PySem.Spec PyProof.Rows L2
/-- a row with this name -/
def RowN (H : Hp) (t : Addr) (z : Str) (R : Int → Int → Int → Prop) : Prop := ∃ d p s, H t = some (.tup [.str z, .int d, .int p, .int s]) ∧ NameOk z ∧ R d p s
/-- rows with these names, from the first on -/
def RowsN (H : Hp) (ts : List Addr) (zs : List Str) (R : Int → Int → Int → Prop) : Prop := ∀ (j : Nat) (t : Addr) (z : Str), ts[j]? = some t → zs[j]? = some z → RowN H t z R
section
variable {H H' : Hp} {t p F y : Addr} {z : Str} {R S : Int → Int → Int → Prop} {ts us : List Addr} {zs ss : List Str} {kvs : List (Key × V)} {xs ys : List V} {i : Nat}
theorem RowN.row (r : RowN H t z R) : Row H t R := let ⟨d, p, s, e, ok, q⟩ := r; ⟨z, d, p, s, e, ok, q⟩
theorem RowN.same (r : RowN H t z R) (h : Same H H') : RowN H' t z R := let ⟨d, p, s, e, q⟩ := r; ⟨d, p, s, h _ _ e, q⟩
theorem RowN.keep (r : RowN H t z R) (k : Keep p H H') (hp : H p = some (.dK kvs)) : RowN H' t z R := let ⟨d, q, s, e, x⟩ := r; ⟨d, q, s, k _ _ e (ne_of e hp (by intro z; cases z)), x⟩
theorem RowN.updL (r : RowN H t z R) (hF : H F = some (.lst xs)) : RowN (upd H F (.lst ys)) t z R := let ⟨d, q, s, e, x⟩ := r; ⟨d, q, s, by rw [upd_ne (ne_of e hF (by intro z; cases z))]; exact e, x⟩
theorem RowN.imp (r : RowN H t z R) (h : ∀ d p s, R d p s → S d p s) : RowN H t z S := let ⟨d, p, s, e, ok, q⟩ := r; ⟨d, p, s, e, ok, h _ _ _ q⟩
theorem RowsN.nil : RowsN H [] zs R := fun j t z e => by simp at e
theorem RowsN.same (h : RowsN H ts zs R) (s : Same H H') : RowsN H' ts zs R := fun j t z e1 e2 => (h j t z e1 e2).same s
theorem RowsN.keep (h : RowsN H ts zs R) (k : Keep p H H') (hp : H p = some (.dK kvs)) : RowsN H' ts zs R := fun j t z e1 e2 => (h j t z e1 e2).keep k hp
theorem RowsN.updL (h : RowsN H ts zs R) (hF : H F = some (.lst xs)) : RowsN (upd H F (.lst ys)) ts zs R := fun j t z e1 e2 => (h j t z e1 e2).updL hF
theorem RowsN.imp (h : RowsN H ts zs R) (f : ∀ d p s, R d p s → S d p s) : RowsN H ts zs S := fun j t z e1 e2 => (h j t z e1 e2).imp f
theorem RowsN.snoc (hl : ts.length = i) (hz : zs[i]? = some z) (h : RowsN H ts zs R) (r : RowN H t z R) : RowsN H (ts ++ [t]) zs R := by
  intro j u v e1 e2
  by_cases hj : j < ts.length
  · rw [List.getElem?_append_left hj] at e1
    exact h j u v e1 e2
  · have hj2 : j < (ts ++ [t]).length := (List.getElem?_eq_some_iff.mp e1).1
    rw [List.length_append] at hj2
    have h1 : ([t] : List Addr).length = 1 := rfl
    have : j = i := by omega
    subst this
    rw [List.getElem?_append_right (by omega), hl, Nat.sub_self] at e1
    obtain rfl := Option.some.inj e1
    rw [hz] at e2
    obtain rfl := Option.some.inj e2
    exact r
theorem RowsN.set (hl : us.length = i + 1) (hz : zs[i]? = some z) (h : RowsN H us zs R) (r : RowN H y z R) : RowsN H (us.set i y) zs R := by
  intro j u v e1 e2
  by_cases e : i = j
  · subst e
    rw [List.getElem?_set_self (by omega)] at e1
    obtain rfl := Option.some.inj e1
    rw [hz] at e2
    obtain rfl := Option.some.inj e2
    exact r
  · rw [List.getElem?_set_ne e] at e1
    exact h j u v e1 e2
theorem RowsN.row (h : RowsN H ts zs R) (hl : ts.length ≤ zs.length) : ∀ t ∈ ts, Row H t R := fun t ht => by
  obtain ⟨j, hj, rfl⟩ := List.getElem_of_mem ht
  exact (h j _ _ (List.getElem?_eq_getElem hj) (List.getElem?_eq_getElem (by omega))).row
theorem str_at {x : V} (h : (ss.map V.str)[i]? = some x) : ∃ z, ss[i]? = some z ∧ V.str z = x := by
  rw [List.getElem?_map] at h
  cases e : ss[i]? with
  | none => rw [e] at h; cases h
  | some z => rw [e] at h; exact ⟨z, rfl, Option.some.inj h⟩
end
/-- what small, aimed and lined promise: rows with different names -/
def spRowsN (R : Int → Int → Int → Prop) : Sp := fun vs H Q _ => ∃ (p l : Addr) (most n : Nat), vs = [.ref p, .int (most : Int)] ∧ Pen H p l n ∧ n + 100000 ≤ 2 ^ 39 ∧ 1 ≤ most ∧ most ≤ 40 ∧
  ∀ (F : Addr) (ts : List Addr) (ss : List Str) (H' : Hp), H' F = some (.lst (ts.map V.ref)) → ts.length = ss.length → 1 ≤ ts.length → ts.length ≤ most → RowsN H' ts ss R → (∀ z ∈ ss, NameOk z) → ss.Nodup → H F = none → Pen H' p l (n + 100000) → Keep p H H' → Q (.ref F) H'
section
variable {P : Program} {w : World} {K : PySem.W.Frag} {mg : Str → Option Value} {base : Heap}
set_option maxHeartbeats 40000000 in
theorem ok_smallN (D : Dfn K mg "_law_small" s__law_small P__law_small) (B : Blt mg) (CD : Cal P w K mg base 12 "_law_draw" P__law_draw spDr) (CI : Cal P w K mg base 13 "_law_pick" P__law_pick (spPickI K)) (CP : Cal P w K mg base 13 "_law_pick" P__law_pick (spPickL K)) (CA : Cal P w K mg base 13 "_law_around" P__law_around spAround)
    (CN : Cal P w K mg base 14 "_law_names" P__law_names spNamesN) : Cal P w K mg base 15 "_law_small" P__law_small (spRowsN SmallR) := by
  refine D.cal sc__law_small (fun vs H Q E h => ?_) fun f cdv A outer s H vs Q E hr h => ?_
  · obtain ⟨p, l, most, n, rfl, _⟩ := h
    rfl
  obtain ⟨p, l, most, n, rfl, Pn, hn, m1, m2, q⟩ := h
  obtain ⟨kvs, hp⟩ := Pn.dk
  refine ⟨_, (pss_cons (ps_par (i := 2) (j := 3) rfl sc__law_small.nd rfl rfl (by decide) rfl rfl (pa_cons (pe_lst pa_nil) (pa_cons (pe_op op_add pe_int (pe_cal CD (hr.mono (by decide)) (pa_cons (pv 0) (pa_cons (pv 1) pa_nil)))) pa_nil)) (by rfl)) (pss_cons (ps_for PassesOwn.never rfl (pi_list (pe_cal CN (hr.mono (by decide)) (pa_cons (pv 0) (pa_cons (pv 3) pa_nil)))) (pg_name (i := 4) sc__law_small.nd rfl (Or.inl rfl)) (pss_cons (ps_set (i := 5) sc__law_small.nd rfl (Or.inl rfl) (pe_op op_add pe_int (pe_cal CI (hr.mono (by decide)) (pa_cons (pv 0) (pa_cons (pe_lst (pa_cons (pe_cal CD (hr.mono (by decide)) (pa_cons (pv 0) (pa_cons pe_int pa_nil))) (pa_cons (pe_cal CD (hr.mono (by decide)) (pa_cons (pv 0) (pa_cons pe_int pa_nil))) pa_nil))) pa_nil))))) (pss_cons (ps_set (i := 5) sc__law_small.nd rfl (Or.inl rfl) (pe_op op_mul (pv 5) (pe_cal CI (hr.mono (by decide)) (pa_cons (pv 0) (pa_cons (pe_lst (pa_cons pe_int (pa_cons (pe_un un_neg pe_int) pa_nil))) pa_nil))))) (pss_cons (ps_set (i := 6) sc__law_small.nd rfl (Or.inl rfl) (pe_cal CI (hr.mono (by decide)) (pa_cons (pv 0) (pa_cons (pe_lst (pa_cons pe_int (pa_cons pe_int (pa_cons (pe_cal CD (hr.mono (by decide)) (pa_cons (pv 0) (pa_cons pe_int pa_nil))) pa_nil)))) pa_nil)))) (pss_cons (ps_expr (pe_bm PySem.F.plainAttrs_list PySem.F.slot_list_append PySem.F.type_list_append mt_append (pv 2) (pa_cons (pe_tup (pa_cons (pv 4) (pa_cons (pv 6) (pa_cons (pe_cal CA (hr.mono (by decide)) (pa_cons (pv 0) (pa_cons pe_int pa_nil))) (pa_cons (pv 5) pa_nil))))) pa_nil))) (pss_one (ps_if (PW.pt (pw_and (pt_cmpR op_gt (pe_callB call_len_seq rfl B.len_ PySem.boot_len (pa_cons (pv 2) pa_nil)) pe_int (nomark _)) (pw_and1 (pt_cmpR op_eq (pe_cal CD (hr.mono (by decide)) (pa_cons (pv 0) (pa_cons pe_int pa_nil))) pe_int (nomark _))))) (pss_one (ps_asg (pe_op op_catT (pe_tup (pa_cons (pv 4) pa_nil)) (pe_slice sl_tup (pe_cal CP (hr.mono (by decide)) (pa_cons (pv 0) (pa_cons (pe_slice sl_list (pv 2) po_none (po_some (pe_un un_neg pe_int))) pa_nil))) (po_some pe_int) po_none)) (pg_sub (pv 2) (pe_un un_neg pe_int) set_list))) pss_nil))))))) (pss_one (ps_ret (pv 2))))), ?_⟩
  -- found, many = [], 1 + draw
  refine ⟨(by show 0 ≤ sizeLine; decide), fun F hF => ?_⟩
  have nF := Pn.ne hF
  have nFl := Pn.nl hF
  refine ⟨_, rfl, _, rfl, p, l, most, n, rfl, Pn.new hF, by omega, by omega, by omega, fun v0 H1 a0 b0 P1 k1 => ?_⟩
  have hF1 : H1 F = some (.lst []) := k1 _ _ upd_same nF
  have K1 : Keep p H H1 := (Keep.refl.new hF).trans k1
  refine ⟨_, _, rfl, rfl, _, _, rfl, ?_⟩
  -- for label in names(pen, many)
  obtain ⟨m, hm⟩ : ∃ m : Nat, 1 + v0 = (m : Int) := ⟨(1 + v0).toNat, by omega⟩
  refine ⟨_, rfl, _, rfl, p, l, m, _, by show [V.ref p, V.int (1 + v0)] = [V.ref p, V.int (m : Int)]; rw [hm], P1, by omega, by omega, fun L ss H2 hL hss hok hnd hL0 P2 k2 => ?_⟩
  have hF2 := k2 _ _ hF1 nF
  have nLF : L ≠ F := fun e => by rw [e, hF1] at hL0; cases hL0
  have nL : L ≠ p := P1.ne hL0
  refine ⟨L, rfl, ⟨_, SqL.of hL⟩, for_list (K := K) (a := L) (xs := ss.map V.str) (fun i σ' H' => ∃ (ts : List Addr) (a b c : Option V), σ' = [some (.ref p), some (.int (most : Int)), some (.ref F), some (.int (1 + v0)), a, b, c] ∧
      H' F = some (.lst (ts.map V.ref)) ∧ ts.length = i ∧ i ≤ m ∧ RowsN H' ts ss SmallR ∧ H' L = some (.lst (ss.map V.str)) ∧ Pen H' p l (n + 12 + 12 * (m + 9) + 144 * i) ∧ Keep p H H') ⟨[], none, none, none, rfl, hF2, rfl, Nat.zero_le _, RowsN.nil, hL, P2, K1.trans k2⟩ (fun i σ' H' _ ⟨_, _, _, _, _, _, _, _, _, h, _⟩ => SqL.of h) ?_ ?_⟩
  · rintro i x σ' H' hx ⟨ts, a, b, c, rfl, hFi, hl, him, hrow, hLi, Pi, ki⟩
    obtain ⟨kvi, hpi⟩ := Pi.dk
    have him : i < m := by
      have := (List.getElem?_eq_some_iff.mp hx).1
      rw [List.length_map] at this
      omega
    obtain ⟨z, hzi, rfl⟩ := str_at hx
    have zok := hok z (List.mem_of_getElem? hzi)
    -- pace = 1 + pick
    refine ⟨_, rfl, _, rfl, p, l, 6, _, rfl, Pi, by omega, by omega, by omega, fun a1 H3 c1 d1 P3 k3 => ?_⟩
    refine ⟨_, rfl, p, l, 2, _, rfl, P3, by omega, by omega, by omega, fun a2 H4 c2 d2 P4 k4 => ?_⟩
    refine ⟨(by show 2 ≤ sizeLine; decide), fun t1 h1 => ?_⟩
    refine ⟨p, l, t1, [a1, a2], _, rfl, P4.new h1, by omega, SqL.of upd_same, by show 1 ≤ 2; decide, by show 2 ≤ 1000000; decide, fun v1 H5 hv1 P5 k5 => ?_⟩
    have v1b : 0 ≤ v1 ∧ v1 ≤ 5 := by
      simp only [List.mem_cons, List.not_mem_nil, or_false] at hv1
      omega
    refine ⟨_, _, rfl, rfl, ?_⟩
    -- pace = pace * pick
    refine ⟨_, rfl, _, rfl, _, rfl, (by show 2 ≤ sizeLine; decide), fun t2 h2 => ?_⟩
    refine ⟨p, l, t2, [1, -1], _, rfl, P5.new h2, by omega, SqL.of upd_same, by decide, by decide, fun v2 H6 hv2 P6 k6 => ?_⟩
    have v2b : v2 = 1 ∨ v2 = -1 := by simpa only [List.mem_cons, List.not_mem_nil, or_false] using hv2
    refine ⟨_, _, rfl, rfl, .inl (by omega), ?_⟩
    obtain ⟨pace, hpace, pb⟩ : ∃ pace, (1 + v1) * v2 = pace ∧ -6 ≤ pace ∧ pace ≤ 6 ∧ pace ≠ 0 := ⟨_, rfl, by rcases v2b with rfl | rfl <;> omega⟩
    -- date = pick
    refine ⟨_, rfl, _, rfl, p, l, 7, _, rfl, P6, by omega, by omega, by omega, fun a3 H7 c3 d3 P7 k7 => ?_⟩
    refine ⟨(by show 3 ≤ sizeLine; decide), fun t3 h3 => ?_⟩
    refine ⟨p, l, t3, [0, 0, a3], _, rfl, P7.new h3, by omega, SqL.of upd_same, by show 1 ≤ 3; decide, by show 3 ≤ 1000000; decide, fun dt H8 hdt P8 k8 => ?_⟩
    have dtb : 0 ≤ dt ∧ dt ≤ 6 := by
      simp only [List.mem_cons, List.not_mem_nil, or_false] at hdt
      omega
    have kk : Keep p H' H8 := ((((((k3.trans k4).new h1).trans k5).new h2).trans k6).trans k7 |>.new h3).trans k8
    have hF8 := kk _ _ hFi nF
    -- found.append
    refine ⟨_, rfl, .inl ⟨rfl, _, SqL.of hF8⟩, ?_⟩
    refine ⟨_, rfl, _, rfl, _, rfl, p, l, 8, _, rfl, P8, by omega, by omega, by omega, fun ps H9 c4 d4 P9 k9 => ?_⟩
    refine ⟨_, rfl, (by show 4 ≤ sizeLine; decide), fun t4 h4 => ?_⟩
    have hF9 := same_new h4 (.tup [.str z, .int dt, .int ps, .int ((1 + v1) * v2)]) _ _ (k9 _ _ hF8 nF)
    refine ⟨F, _, _, rfl, rfl, hF9, by rw [List.length_map]; exact small1000 (by omega), ?_⟩
    have k10 := (kk.trans k9).new (o := .tup [.str z, .int dt, .int ps, .int ((1 + v1) * v2)]) h4
    have nt4 : t4 ≠ F := (ne_of_none (k9 _ _ hF8 nF) h4).symm
    have row4 : RowN (upd H9 t4 (.tup [.str z, .int dt, .int ps, .int ((1 + v1) * v2)])) t4 z SmallR := ⟨dt, ps, _, upd_same, zok, by rw [hpace]; unfold SmallR; omega⟩
    have hL10 := k10 _ _ hLi nL
    have rows10 : RowsN (upd H9 t4 (.tup [.str z, .int dt, .int ps, .int ((1 + v1) * v2)])) (ts ++ [t4]) ss SmallR := RowsN.snoc hl hzi (hrow.keep k10 hpi) row4
    have P10 := P9.new (o := .tup [.str z, .int dt, .int ps, .int ((1 + v1) * v2)]) h4
    generalize upd H9 t4 (.tup [.str z, .int dt, .int ps, .int ((1 + v1) * v2)]) = H10 at hF9 k10 row4 hL10 rows10 P10 ⊢
    have hF0 : H F = none := hF
    -- the cut: with or without another's parts
    have hF11 : (upd H10 F (.lst (ts.map V.ref ++ [.ref t4]))) F = some (.lst ((ts ++ [t4]).map V.ref)) := by rw [upd_same, List.map_append]; rfl
    have P11 := P10.upd (o := .lst (ts.map V.ref ++ [.ref t4])) nF nFl
    have k11 := (ki.trans k10).at_new (o := .lst (ts.map V.ref ++ [.ref t4])) hF0
    have rows11 : RowsN (upd H10 F (.lst (ts.map V.ref ++ [.ref t4]))) (ts ++ [t4]) ss SmallR := rows10.updL hF9
    have hL11 : (upd H10 F (.lst (ts.map V.ref ++ [.ref t4]))) L = some (.lst (ss.map V.str)) := by rw [upd_ne nLF]; exact hL10
    generalize upd H10 F (.lst (ts.map V.ref ++ [.ref t4])) = H11 at hF11 P11 k11 rows11 hL11 ⊢
    have lts : (ts ++ [t4]).length = i + 1 := by rw [List.length_append, hl]; rfl
    generalize ts ++ [t4] = us at hF11 rows11 lts
    obtain ⟨kv11, hp11⟩ := P11.dk
    refine ⟨_, rfl, F, _, rfl, .inl (SqL.of hF11), _, _, rfl, rfl, _, rfl, ?_⟩
    refine ite2 (fun c1 => ?_) (fun _ => iteF ⟨us, _, _, _, rfl, hF11, lts, by omega, rows11, hL11, P11.le (by omega), k11⟩)
    have c1 : (1 : Int) < ((us.map V.ref).length : Nat) := of_decide_eq_true c1
    refine ⟨_, rfl, p, l, 7, _, rfl, P11, by omega, by omega, by omega, fun v7 H12 a7 b7 P12 k12 => ?_⟩
    have hF12 := k12 _ _ hF11 nF
    have hL12 := k12 _ _ hL11 nL
    have rows12 : RowsN H12 us ss SmallR := rows11.keep k12 hp11
    obtain ⟨kv12, hp12⟩ := P12.dk
    refine ⟨rfl, _, rfl, ?_⟩
    refine ite2 (fun _ => ?_) (fun _ => ⟨us, _, _, _, rfl, hF12, lts, by omega, rows12, hL12, P12.le (by omega), k11.trans k12⟩)
    refine ⟨_, rfl, (by show 1 ≤ sizeLine; decide), fun t5 h5 => ?_⟩
    have hF13 := same_new h5 (.tup [.str z]) _ _ hF12
    refine ⟨_, rfl, _, rfl, _, rfl, _, rfl, F, _, rfl, SqL.of hF13, fun u hu => ?_⟩
    refine ⟨p, l, u, _, _, rfl, (P12.new h5).new hu, by omega, SqL.of upd_same, by rw [cut_last (by omega)]; omega, by rw [cut_last (by omega), List.length_map]; omega, fun v8 H14 hv8 P14 k14 => ?_⟩
    obtain ⟨t0, ht0, rfl⟩ := List.mem_map.mp (cut_mem hv8)
    have k13 : Keep p H12 H14 := ((Keep.refl.new h5).new hu).trans k14
    obtain ⟨nm0, d0, p0, s0, e0, ok0, R0⟩ := (rows12.row (by omega) t0 ht0).keep k13 hp12
    refine ⟨_, rfl, t0, _, rfl, SqT.of e0, fun z => absurd z.1 (by show ¬ (1 = 0); decide), fun y1 hy1 => ?_⟩
    have nt5 : t5 ≠ p := P12.ne h5
    have ht5 := same_new hy1 (.tup (cutV [.str nm0, .int d0, .int p0, .int s0] (some 1) none)) _ _ (k14 _ _ (same_new hu (.lst (cutV (us.map V.ref) none (some (-1)))) _ _ upd_same) nt5)
    refine ⟨t5, y1, [.str z], [.int d0, .int p0, .int s0], rfl, rfl, SqT.of ht5, SqT.of upd_same, (fun e => by cases e), (by show 4 ≤ sizeLine; decide), (fun e => by cases e), fun _ y hy => ?_⟩
    have k15 := (k13.new hy1).new (o := .tup ([.str z] ++ [.int d0, .int p0, .int s0])) hy
    have hF15 := k15 _ _ hF12 nF
    have lus : (us.map V.ref).length = i + 1 := by rw [List.length_map, lts]
    refine ⟨_, rfl, _, rfl, F, _, _, i, rfl, rfl, hF15, by rw [ix_last (by omega), lus]; rfl, ?_⟩
    refine ⟨us.set i y, _, _, _, rfl, by rw [upd_same, List.map_set], by rw [List.length_set, lts], by omega, RowsN.set lts hzi ((rows12.keep k15 hp12).updL hF15) (RowN.updL ⟨d0, p0, s0, upd_same, zok, R0⟩ hF15), by rw [upd_ne nLF]; exact k15 _ _ hL12 nL, (((P14.new hy1).new hy).upd nF nFl).le (by omega), ((k11.trans k12).trans k15).at_new hF0⟩
  · rintro σ' H' ⟨ts, a, b, c, rfl, hFi, hl, him, hrow, hLi, Pi, ki⟩
    rw [List.length_map, hss] at hl
    refine ⟨_, rfl, ?_⟩
    exact q F ts ss H' hFi (by omega) (by omega) (by omega) hrow hok hnd hF (Pi.le (by omega)) ki
end
end Ur
/-! N6: rows with different names: aimed. -/
namespace Ur
open PySem PySem.Spec PyProof.Rows L2
section
variable {P : Program} {w : World} {K : PySem.W.Frag} {mg : Str → Option Value} {base : Heap}
set_option maxHeartbeats 40000000 in
theorem ok_aimedN (D : Dfn K mg "_law_aimed" s__law_aimed P__law_aimed) (B : Blt mg) (CD : Cal P w K mg base 12 "_law_draw" P__law_draw spDr) (CI : Cal P w K mg base 13 "_law_pick" P__law_pick (spPickI K)) (CP : Cal P w K mg base 13 "_law_pick" P__law_pick (spPickL K))
    (CG : Cal P w K mg base 14 "_law_great" P__law_great spGreat) (CN : Cal P w K mg base 14 "_law_names" P__law_names spNamesN) : Cal P w K mg base 15 "_law_aimed" P__law_aimed (spRowsN AimR) := by
  refine D.cal sc__law_aimed (fun vs H Q E h => ?_) fun f cdv A outer s H vs Q E hr h => ?_
  · obtain ⟨p, l, most, n, rfl, _⟩ := h
    rfl
  obtain ⟨p, l, most, n, rfl, Pn, hn, m1, m2, q⟩ := h
  obtain ⟨kvs, hp⟩ := Pn.dk
  have pw12 : CPow 10 12 := ⟨by decide, by decide, by decide⟩
  have e12 : (10 : Int) ^ (12 : Int).toNat = 10 ^ 12 := rfl
  refine ⟨_, (pss_cons (ps_par (i := 2) (j := 3) rfl sc__law_aimed.nd rfl rfl (by decide) rfl rfl (pa_cons (pe_lst pa_nil) (pa_cons (pe_op op_add pe_int (pe_cal CD (hr.mono (by decide)) (pa_cons (pv 0) (pa_cons (pv 1) pa_nil)))) pa_nil)) (by rfl)) (pss_cons (ps_set (i := 4) sc__law_aimed.nd rfl (Or.inl rfl) (pe_lst pa_nil)) (pss_cons (ps_for PassesOwn.never rfl (pi_range1 rfl B.range_ (pa_cons pe_int pa_nil)) (pg_name (i := 5) sc__law_aimed.nd rfl (Or.inl rfl)) (pss_cons (ps_set (i := 6) sc__law_aimed.nd rfl (Or.inl rfl) (pe_op op_mul (pe_cal CG (hr.mono (by decide)) (pa_cons (pv 0) (pa_cons pe_int pa_nil))) (pe_cal CI (hr.mono (by decide)) (pa_cons (pv 0) (pa_cons (pe_lst (pa_cons pe_int (pa_cons (pe_un un_neg pe_int) pa_nil))) pa_nil))))) (pss_one (ps_expr (pe_bm PySem.F.plainAttrs_list PySem.F.slot_list_append PySem.F.type_list_append mt_append (pv 4) (pa_cons (pe_tup (pa_cons (pe_op op_add (pe_op op_pow pe_int pe_int) (pe_cal CG (hr.mono (by decide)) (pa_cons (pv 0) (pa_cons pe_int pa_nil)))) (pa_cons (pv 6) pa_nil))) pa_nil)))))) (pss_cons (ps_set (i := 7) sc__law_aimed.nd rfl (Or.inl rfl) (pe_op op_add pe_int (pe_cal CG (hr.mono (by decide)) (pa_cons (pv 0) (pa_cons pe_int pa_nil))))) (pss_cons (ps_for PassesOwn.never rfl (pi_list (pe_cal CN (hr.mono (by decide)) (pa_cons (pv 0) (pa_cons (pv 3) pa_nil)))) (pg_name (i := 8) sc__law_aimed.nd rfl (Or.inl rfl)) (pss_cons (ps_asg (pe_cal CP (hr.mono (by decide)) (pa_cons (pv 0) (pa_cons (pv 4) pa_nil))) (pg_tup rfl (pgs_cons (pg_name (i := 9) sc__law_aimed.nd rfl (Or.inl rfl)) (pgs_cons (pg_name (i := 6) sc__law_aimed.nd rfl (Or.inl rfl)) pgs_nil)))) (pss_cons (ps_set (i := 10) sc__law_aimed.nd rfl (Or.inl rfl) (pe_lst (pa_cons (pe_cal CG (hr.mono (by decide)) (pa_cons (pv 0) (pa_cons pe_int pa_nil))) (pa_cons (pe_op op_mul (pv 7) (pe_op op_add pe_int (pe_cal CD (hr.mono (by decide)) (pa_cons (pv 0) (pa_cons pe_int pa_nil))))) (pa_cons (pe_cal CD (hr.mono (by decide)) (pa_cons (pv 0) (pa_cons pe_int pa_nil))) pa_nil))))) (pss_cons (ps_set (i := 11) sc__law_aimed.nd rfl (Or.inl rfl) (pe_op op_mul (pe_op op_add pe_int (pe_cal CI (hr.mono (by decide)) (pa_cons (pv 0) (pa_cons (pv 10) pa_nil)))) (pe_cal CI (hr.mono (by decide)) (pa_cons (pv 0) (pa_cons (pe_lst (pa_cons pe_int (pa_cons (pe_un un_neg pe_int) pa_nil))) pa_nil))))) (pss_cons (ps_set (i := 12) sc__law_aimed.nd rfl (Or.inl rfl) (pe_cal CI (hr.mono (by decide)) (pa_cons (pv 0) (pa_cons (pe_lst (pa_cons (pe_cal CD (hr.mono (by decide)) (pa_cons (pv 0) (pa_cons pe_int pa_nil))) (pa_cons (pe_cal CG (hr.mono (by decide)) (pa_cons (pv 0) (pa_cons pe_int pa_nil))) (pa_cons (pe_cal CG (hr.mono (by decide)) (pa_cons (pv 0) (pa_cons pe_int pa_nil))) pa_nil)))) pa_nil)))) (pss_cons (ps_set (i := 9) sc__law_aimed.nd rfl (Or.inl rfl) (pe_op op_sub (pe_op op_add (pv 9) (pe_cal CI (hr.mono (by decide)) (pa_cons (pv 0) (pa_cons (pe_lst (pa_cons pe_int (pa_cons pe_int (pa_cons (pe_cal CD (hr.mono (by decide)) (pa_cons (pv 0) (pa_cons pe_int pa_nil))) pa_nil)))) pa_nil)))) (pv 12))) (pss_cons (ps_expr (pe_bm PySem.F.plainAttrs_list PySem.F.slot_list_append PySem.F.type_list_append mt_append (pv 2) (pa_cons (pe_tup (pa_cons (pv 8) (pa_cons (pv 9) (pa_cons (pe_op op_sub (pv 6) (pe_op op_mul (pv 12) (pv 11))) (pa_cons (pv 11) pa_nil))))) pa_nil))) (pss_one (ps_if (PW.pt (pw_and (pt_cmpR op_gt (pe_callB call_len_seq rfl B.len_ PySem.boot_len (pa_cons (pv 2) pa_nil)) pe_int (nomark _)) (pw_and1 (pt_cmpR op_eq (pe_cal CD (hr.mono (by decide)) (pa_cons (pv 0) (pa_cons pe_int pa_nil))) pe_int (nomark _))))) (pss_one (ps_asg (pe_op op_catT (pe_tup (pa_cons (pv 8) pa_nil)) (pe_slice sl_tup (pe_cal CP (hr.mono (by decide)) (pa_cons (pv 0) (pa_cons (pe_slice sl_list (pv 2) po_none (po_some (pe_un un_neg pe_int))) pa_nil))) (po_some pe_int) po_none)) (pg_sub (pv 2) (pe_un un_neg pe_int) set_list))) pss_nil))))))))) (pss_one (ps_ret (pv 2)))))))), ?_⟩
  refine ⟨(by show 0 ≤ sizeLine; decide), fun F hF => ?_⟩
  have nF := Pn.ne hF
  have nFl := Pn.nl hF
  refine ⟨_, rfl, _, rfl, p, l, most, n, rfl, Pn.new hF, by omega, by omega, by omega, fun v0 H1 a0 b0 P1 k1 => ?_⟩
  have hF1 : H1 F = some (.lst []) := k1 _ _ upd_same nF
  have K1 : Keep p H H1 := (Keep.refl.new hF).trans k1
  refine ⟨_, _, rfl, rfl, _, _, rfl, ?_⟩
  -- hubs
  refine ⟨(by show 0 ≤ sizeLine; decide), fun U hU => ?_⟩
  have nU := P1.ne hU
  have nUl := P1.nl hU
  have nUF : U ≠ F := (ne_of_none hF1 hU).symm
  have hU0 : H U = none := K1.none_of hU nU
  refine ⟨3, rfl, by decide, by decide, for_range (lo := 0) (n := 3) (fun i σ' H' => ∃ (hs : List Addr) (a b : Option V), σ' = [some (.ref p), some (.int (most : Int)), some (.ref F), some (.int (1 + v0)), some (.ref U), a, b, none, none, none, none, none, none] ∧
      H' U = some (.lst (hs.map V.ref)) ∧ hs.length = i ∧ i ≤ 3 ∧ (∀ t ∈ hs, HubAt H' t) ∧ H' F = some (.lst []) ∧ Pen H' p l (n + 12 + 200 * i) ∧ Keep p H H') ⟨[], none, none, rfl, upd_same, rfl, by decide, fun t ht => absurd ht List.not_mem_nil, same_new hU _ _ _ hF1, (P1.new hU).le (by omega), K1.new hU⟩ ?_ ?_⟩
  · rintro i σ' H' hi ⟨hs, a, b, rfl, hUi, hl, _, hrow, hFi, Pi, ki⟩
    obtain ⟨kvi, hpi⟩ := Pi.dk
    refine ⟨_, rfl, p, l, 28, _, rfl, Pi, by omega, by decide, by decide, fun v1 H3 c1 d1 P3 k3 => ?_⟩
    refine ⟨_, rfl, _, rfl, (by show 2 ≤ sizeLine; decide), fun t2 h2 => ?_⟩
    refine ⟨p, l, t2, [1, -1], _, rfl, P3.new h2, by omega, SqL.of upd_same, by decide, by decide, fun v2 H4 hv2 P4 k4 => ?_⟩
    have v2b : v2 = 1 ∨ v2 = -1 := by simpa only [List.mem_cons, List.not_mem_nil, or_false] using hv2
    refine ⟨_, _, rfl, rfl, .inr (by omega), ?_⟩
    have sp : -(10 ^ 28) ≤ v1 * v2 ∧ v1 * v2 ≤ 10 ^ 28 := by rcases v2b with rfl | rfl <;> omega
    have kk : Keep p H' H4 := (k3.new h2).trans k4
    have hU4 := kk _ _ hUi nU
    refine ⟨_, rfl, .inl ⟨rfl, _, SqL.of hU4⟩, ?_⟩
    refine ⟨_, _, rfl, rfl, pw12, _, rfl, p, l, 29, _, rfl, P4, by omega, by decide, by decide, fun v3 H5 c3 d3 P5 k5 => ?_⟩
    refine ⟨_, _, rfl, rfl, _, rfl, (by show 2 ≤ sizeLine; decide), fun t3 h3 => ?_⟩
    have k6 := (kk.trans k5).new (o := .tup [.int (10 ^ (12 : Int).toNat + v3), .int (v1 * v2)]) h3
    have hU6 := k6 _ _ hUi nU
    have hF6 := k6 _ _ hFi nF
    refine ⟨U, _, _, rfl, rfl, hU6, by rw [List.length_map]; exact small1000 (by omega), ?_⟩
    have hub : HubAt (upd H5 t3 (.tup [.int (10 ^ (12 : Int).toNat + v3), .int (v1 * v2)])) t3 := ⟨_, _, upd_same, by rw [e12]; omega, by rw [e12]; omega, sp.1, sp.2⟩
    refine ⟨hs ++ [t3], _, _, rfl, by rw [upd_same, List.map_append]; rfl, by rw [List.length_append, hl]; rfl, by omega, fun t ht => ?_, by rw [upd_ne nUF.symm]; exact hF6, ((P5.new h3).upd nU nUl).le (by omega), (ki.trans k6).at_new hU0⟩
    exact HubAt.updL (mem_snoc (P := HubAt (upd H5 t3 (.tup [.int (10 ^ (12 : Int).toNat + v3), .int (v1 * v2)]))) (fun t ht => (hrow t ht).keep k6 hpi) hub t ht) hU6
  rintro σ' H2 ⟨hs, a, b, rfl, hU2, hs3, _, hub2, hF2, P2, k2⟩
  -- lot
  refine ⟨_, rfl, p, l, 9, _, rfl, P2, by omega, by decide, by decide, fun v3 H3 a3 b3 P3 k3 => ?_⟩
  obtain ⟨kv2, hp2⟩ := P2.dk
  refine ⟨_, _, rfl, rfl, ?_⟩
  have hU3 := k3 _ _ hU2 nU
  have hF3 := k3 _ _ hF2 nF
  have hub3 : ∀ t ∈ hs, HubAt H3 t := fun t ht => (hub2 t ht).keep k3 hp2
  have K3 := k2.trans k3
  obtain ⟨lot, hlot, l0, l1⟩ : ∃ lot : Int, 1 + v3 = lot ∧ 1 ≤ lot ∧ lot ≤ 10 ^ 9 := ⟨_, rfl, by omega, by omega⟩
  -- for label in names(pen, many)
  obtain ⟨m, hm⟩ : ∃ m : Nat, 1 + v0 = (m : Int) := ⟨(1 + v0).toNat, by omega⟩
  refine ⟨_, rfl, _, rfl, p, l, m, _, by show [V.ref p, V.int (1 + v0)] = [V.ref p, V.int (m : Int)]; rw [hm], P3, by omega, by omega, fun L ss H4 hL hss hok hnd hL0 P4 k4 => ?_⟩
  have hU4 := k4 _ _ hU3 nU
  have hF4 := k4 _ _ hF3 nF
  obtain ⟨kv3, hp3⟩ := P3.dk
  have hub4 : ∀ t ∈ hs, HubAt H4 t := fun t ht => (hub3 t ht).keep k4 hp3
  have nLF : L ≠ F := fun e => by rw [e, hF3] at hL0; cases hL0
  have nLU : L ≠ U := fun e => by rw [e, hU3] at hL0; cases hL0
  have nL : L ≠ p := P3.ne hL0
  refine ⟨L, rfl, ⟨_, SqL.of hL⟩, for_list (K := K) (a := L) (xs := ss.map V.str) (fun i σ' H' => ∃ (ts : List Addr) (k b6 b8 b9 b10 b11 b12 : Option V), σ' = [some (.ref p), some (.int (most : Int)), some (.ref F), some (.int (1 + v0)), some (.ref U), k, b6, some (.int (1 + v3)), b8, b9, b10, b11, b12] ∧
      H' F = some (.lst (ts.map V.ref)) ∧ ts.length = i ∧ i ≤ m ∧ RowsN H' ts ss AimR ∧ H' L = some (.lst (ss.map V.str)) ∧ Pen H' p l (n + 2000 + 12 * (m + 9) + 800 * i) ∧ Keep p H H' ∧ H' U = some (.lst (hs.map V.ref)) ∧ (∀ t ∈ hs, HubAt H' t)) ⟨[], _, _, none, none, none, none, none, rfl, hF4, rfl, Nat.zero_le _, RowsN.nil, hL, P4.le (by omega), K3.trans k4, hU4, hub4⟩ (fun i σ' H' _ ⟨_, _, _, _, _, _, _, _, _, _, _, _, _, h, _⟩ => SqL.of h) ?_ ?_⟩
  · rintro i x σ' H' hx ⟨ts, k, b6, b8, b9, b10, b11, b12, rfl, hFi, hl, him, hrow, hLi, Pi, ki, hUi, hubi⟩
    obtain ⟨kvi, hpi⟩ := Pi.dk
    have him : i < m := by
      have := (List.getElem?_eq_some_iff.mp hx).1
      rw [List.length_map] at this
      omega
    obtain ⟨z, hzi, rfl⟩ := str_at hx
    have zok := hok z (List.mem_of_getElem? hzi)
    -- date, spot = pick(hubs)
    refine ⟨_, rfl, _, rfl, p, l, U, _, _, rfl, Pi, by omega, SqL.of hUi, by rw [List.length_map, hs3]; decide, by rw [List.length_map, hs3]; decide, fun v1 H5 hv1 P5 k5 => ?_⟩
    obtain ⟨t0, ht0, rfl⟩ := List.mem_map.mp hv1
    obtain ⟨D, S, e0, D0, D1, S0, S1⟩ := (hubi t0 ht0).keep k5 hpi
    refine ⟨t0, _, rfl, SqT.of e0, rfl, _, _, rfl, _, _, rfl, rfl, ?_⟩
    -- some
    refine ⟨_, rfl, p, l, 17, _, rfl, P5, by omega, by decide, by decide, fun a1 H6 c1 d1 P6 k6 => ?_⟩
    refine ⟨_, rfl, _, rfl, p, l, 6, _, rfl, P6, by omega, by omega, by omega, fun a2 H7 c2 d2 P7 k7 => ?_⟩
    refine ⟨_, _, rfl, rfl, _, _, rfl, rfl, .inl (by omega), _, rfl, p, l, 9, _, rfl, P7, by omega, by omega, by omega, fun a3 H8 c3 d3 P8 k8 => ?_⟩
    refine ⟨(by show 3 ≤ sizeLine; decide), fun W hW => ?_⟩
    -- pace
    refine ⟨_, rfl, _, rfl, p, l, W, [a1, (1 + v3) * (1 + a2), a3], _, rfl, P8.new hW, by omega, SqL.of upd_same, by show 1 ≤ 3; decide, by show 3 ≤ 1000000; decide, fun b1 H9 hb1 P9 k9 => ?_⟩
    have lb := mul_bd (a := 1 + v3) (b := 1 + a2) (A := 10 ^ 9) (B := 6) (by omega) (by omega) (by omega) (by omega) (by decide)
    have lb1 := mul_pos1 (a := 1 + v3) (b := 1 + a2) (by omega) (by omega)
    have b1b : 0 ≤ b1 ∧ b1 < 10 ^ 17 := by
      simp only [List.mem_cons, List.not_mem_nil, or_false] at hb1
      rcases hb1 with rfl | rfl | rfl <;> omega
    refine ⟨_, _, rfl, rfl, ?_⟩
    refine ⟨_, rfl, _, rfl, (by show 2 ≤ sizeLine; decide), fun t2 h2 => ?_⟩
    refine ⟨p, l, t2, [1, -1], _, rfl, P9.new h2, by omega, SqL.of upd_same, by decide, by decide, fun v2 H10 hv2 P10 k10 => ?_⟩
    have v2b : v2 = 1 ∨ v2 = -1 := by simpa only [List.mem_cons, List.not_mem_nil, or_false] using hv2
    refine ⟨_, _, rfl, rfl, .inr (by omega), ?_⟩
    have pb : -(10 ^ 17) ≤ (1 + b1) * v2 ∧ (1 + b1) * v2 ≤ 10 ^ 17 ∧ (1 + b1) * v2 ≠ 0 := by rcases v2b with rfl | rfl <;> omega
    -- steps
    refine ⟨_, rfl, _, rfl, p, l, 4, _, rfl, P10, by omega, by omega, by omega, fun a4 H11 c4 d4 P11 k11 => ?_⟩
    refine ⟨_, rfl, p, l, 11, _, rfl, P11, by omega, by decide, by decide, fun a5 H12 c5 d5 P12 k12 => ?_⟩
    refine ⟨_, rfl, p, l, 11, _, rfl, P12, by omega, by decide, by decide, fun a6 H13 c6 d6 P13 k13 => ?_⟩
    refine ⟨(by show 3 ≤ sizeLine; decide), fun t3 h3 => ?_⟩
    refine ⟨p, l, t3, [a4, a5, a6], _, rfl, P13.new h3, by omega, SqL.of upd_same, by show 1 ≤ 3; decide, by show 3 ≤ 1000000; decide, fun st H14 hst P14 k14 => ?_⟩
    have stb : 0 ≤ st ∧ st < 10 ^ 11 := by
      simp only [List.mem_cons, List.not_mem_nil, or_false] at hst
      rcases hst with rfl | rfl | rfl <;> omega
    -- date
    refine ⟨_, rfl, _, rfl, _, rfl, p, l, 4, _, rfl, P14, by omega, by omega, by omega, fun a7 H15 c7 d7 P15 k15 => ?_⟩
    refine ⟨(by show 3 ≤ sizeLine; decide), fun t4 h4 => ?_⟩
    refine ⟨p, l, t4, [0, 0, a7], _, rfl, P15.new h4, by omega, SqL.of upd_same, by show 1 ≤ 3; decide, by show 3 ≤ 1000000; decide, fun dt H16 hdt P16 k16 => ?_⟩
    have dtb : 0 ≤ dt ∧ dt ≤ 3 := by
      simp only [List.mem_cons, List.not_mem_nil, or_false] at hdt
      omega
    refine ⟨_, _, rfl, rfl, _, rfl, _, _, rfl, rfl, ?_⟩
    have kk : Keep p H' H16 := (((((((((((k5.trans k6).trans k7).trans k8).new hW).trans k9).new h2).trans k10).trans k11).trans k12).trans k13 |>.new h3).trans k14 |>.trans k15 |>.new h4).trans k16
    have hF16 := kk _ _ hFi nF
    have mb := mul_bd (a := st) (b := (1 + b1) * v2) (A := 10 ^ 11) (B := 10 ^ 17) (by omega) (by omega) pb.1 pb.2.1 (by decide)
    -- append
    refine ⟨_, rfl, .inl ⟨rfl, _, SqL.of hF16⟩, ?_⟩
    refine ⟨_, rfl, _, rfl, _, rfl, _, rfl, _, rfl, _, _, rfl, rfl, .inl (by omega), _, _, rfl, rfl, _, rfl, (by show 4 ≤ sizeLine; decide), fun t5 h5 => ?_⟩
    obtain ⟨od, hod⟩ : ∃ o : HO, o = .tup [.str z, .int (D + dt - st), .int (S - st * ((1 + b1) * v2)), .int ((1 + b1) * v2)] := ⟨_, rfl⟩
    rw [← hod]
    have hF17 := same_new h5 od _ _ hF16
    refine ⟨F, _, _, rfl, rfl, hF17, by rw [List.length_map]; exact small1000 (by omega), ?_⟩
    have k17 := kk.new (o := od) h5
    have nt5 : t5 ≠ F := (ne_of_none hF16 h5).symm
    have row5 : RowN (upd H16 t5 od) t5 z AimR := ⟨D + dt - st, S - st * ((1 + b1) * v2), (1 + b1) * v2, by rw [upd_same, hod], zok, by unfold AimR; refine ⟨by omega, by omega, by omega, by omega, pb⟩⟩
    have hL17 := k17 _ _ hLi nL
    have hU17 := k17 _ _ hUi nU
    have hub17 : ∀ t ∈ hs, HubAt (upd H16 t5 od) t := fun t ht => (hubi t ht).keep k17 hpi
    have rows17 : RowsN (upd H16 t5 od) (ts ++ [t5]) ss AimR := RowsN.snoc hl hzi (hrow.keep k17 hpi) row5
    have P17 := P16.new (o := od) h5
    generalize upd H16 t5 od = H17 at hF17 k17 row5 hL17 rows17 P17 hU17 hub17 ⊢
    have hF18 : (upd H17 F (.lst (ts.map V.ref ++ [.ref t5]))) F = some (.lst ((ts ++ [t5]).map V.ref)) := by rw [upd_same, List.map_append]; rfl
    have P18 := P17.upd (o := .lst (ts.map V.ref ++ [.ref t5])) nF nFl
    have k18 := (ki.trans k17).at_new (o := .lst (ts.map V.ref ++ [.ref t5])) hF
    have rows18 : RowsN (upd H17 F (.lst (ts.map V.ref ++ [.ref t5]))) (ts ++ [t5]) ss AimR := rows17.updL hF17
    have hL18 : (upd H17 F (.lst (ts.map V.ref ++ [.ref t5]))) L = some (.lst (ss.map V.str)) := by rw [upd_ne nLF]; exact hL17
    have hU18 : (upd H17 F (.lst (ts.map V.ref ++ [.ref t5]))) U = some (.lst (hs.map V.ref)) := by rw [upd_ne nUF]; exact hU17
    have hub18 : ∀ t ∈ hs, HubAt (upd H17 F (.lst (ts.map V.ref ++ [.ref t5]))) t := fun t ht => (hub17 t ht).updL hF17
    generalize upd H17 F (.lst (ts.map V.ref ++ [.ref t5])) = H18 at hF18 P18 k18 rows18 hL18 hU18 hub18 ⊢
    have lts : (ts ++ [t5]).length = i + 1 := by rw [List.length_append, hl]; rfl
    generalize ts ++ [t5] = us at hF18 rows18 lts
    obtain ⟨kv18, hp18⟩ := P18.dk
    refine ⟨_, rfl, F, _, rfl, .inl (SqL.of hF18), _, _, rfl, rfl, _, rfl, ?_⟩
    refine ite2 (fun c1 => ?_) (fun _ => iteF ⟨us, _, _, _, _, _, _, _, rfl, hF18, lts, by omega, rows18, hL18, P18.le (by omega), k18, hU18, hub18⟩)
    have c1 : (1 : Int) < ((us.map V.ref).length : Nat) := of_decide_eq_true c1
    refine ⟨_, rfl, p, l, 7, _, rfl, P18, by omega, by omega, by omega, fun v7 H19 a7 b7 P19 k19 => ?_⟩
    have hF19 := k19 _ _ hF18 nF
    have hL19 := k19 _ _ hL18 nL
    have hU19 := k19 _ _ hU18 nU
    have hub19 : ∀ t ∈ hs, HubAt H19 t := fun t ht => (hub18 t ht).keep k19 hp18
    have rows19 : RowsN H19 us ss AimR := rows18.keep k19 hp18
    obtain ⟨kv19, hp19⟩ := P19.dk
    refine ⟨rfl, _, rfl, ?_⟩
    refine ite2 (fun _ => ?_) (fun _ => ⟨us, _, _, _, _, _, _, _, rfl, hF19, lts, by omega, rows19, hL19, P19.le (by omega), k18.trans k19, hU19, hub19⟩)
    refine ⟨_, rfl, (by show 1 ≤ sizeLine; decide), fun t6 h6 => ?_⟩
    have hF20 := same_new h6 (.tup [.str z]) _ _ hF19
    refine ⟨_, rfl, _, rfl, _, rfl, _, rfl, F, _, rfl, SqL.of hF20, fun u hu => ?_⟩
    refine ⟨p, l, u, _, _, rfl, (P19.new h6).new hu, by omega, SqL.of upd_same, by rw [cut_last (by omega)]; omega, by rw [cut_last (by omega), List.length_map]; omega, fun v8 H21 hv8 P21 k21 => ?_⟩
    obtain ⟨t0, ht0, rfl⟩ := List.mem_map.mp (cut_mem hv8)
    have k20 : Keep p H19 H21 := ((Keep.refl.new h6).new hu).trans k21
    obtain ⟨nm0, d0, p0, s0, e0, ok0, R0⟩ := (rows19.row (by omega) t0 ht0).keep k20 hp19
    refine ⟨_, rfl, t0, _, rfl, SqT.of e0, fun z => absurd z.1 (by show ¬ (1 = 0); decide), fun y1 hy1 => ?_⟩
    have nt6 : t6 ≠ p := P19.ne h6
    have ht6 := same_new hy1 (.tup (cutV [.str nm0, .int d0, .int p0, .int s0] (some 1) none)) _ _ (k21 _ _ (same_new hu (.lst (cutV (us.map V.ref) none (some (-1)))) _ _ upd_same) nt6)
    refine ⟨t6, y1, [.str z], [.int d0, .int p0, .int s0], rfl, rfl, SqT.of ht6, SqT.of upd_same, (fun e => by cases e), (by show 4 ≤ sizeLine; decide), (fun e => by cases e), fun _ y hy => ?_⟩
    have k22 := (k20.new hy1).new (o := .tup ([.str z] ++ [.int d0, .int p0, .int s0])) hy
    have hF22 := k22 _ _ hF19 nF
    have lus : (us.map V.ref).length = i + 1 := by rw [List.length_map, lts]
    refine ⟨_, rfl, _, rfl, F, _, _, i, rfl, rfl, hF22, by rw [ix_last (by omega), lus]; rfl, ?_⟩
    refine ⟨us.set i y, _, _, _, _, _, _, _, rfl, by rw [upd_same, List.map_set], by rw [List.length_set, lts], by omega, RowsN.set lts hzi ((rows19.keep k22 hp19).updL hF22) (RowN.updL ⟨d0, p0, s0, upd_same, zok, R0⟩ hF22), by rw [upd_ne nLF]; exact k22 _ _ hL19 nL, (((P21.new hy1).new hy).upd nF nFl).le (by omega), ((k18.trans k19).trans k22).at_new hF, by rw [upd_ne nUF]; exact k22 _ _ hU19 nU, fun t ht => ((hub19 t ht).keep k22 hp19).updL hF22⟩
  · rintro σ' H' ⟨ts, k, b6, b8, b9, b10, b11, b12, rfl, hFi, hl, him, hrow, hLi, Pi, ki, _, _⟩
    rw [List.length_map, hss] at hl
    refine ⟨_, rfl, ?_⟩
    exact q F ts ss H' hFi (by omega) (by omega) (by omega) hrow hok hnd hF (Pi.le (by omega)) ki
end
end Ur
/-! N7: rows with different names: lined. -/
namespace Ur
open PySem PySem.Spec PyProof.Rows L2
section
variable {P : Program} {w : World} {K : PySem.W.Frag} {mg : Str → Option Value} {base : Heap}
set_option maxHeartbeats 40000000 in
theorem ok_linedN (D : Dfn K mg "_law_lined" s__law_lined P__law_lined) (B : Blt mg) (CD : Cal P w K mg base 12 "_law_draw" P__law_draw spDr) (CI : Cal P w K mg base 13 "_law_pick" P__law_pick (spPickI K)) (CA : Cal P w K mg base 13 "_law_around" P__law_around spAround)
    (CG : Cal P w K mg base 14 "_law_great" P__law_great spGreat) (CN : Cal P w K mg base 14 "_law_names" P__law_names spNamesN) : Cal P w K mg base 15 "_law_lined" P__law_lined (spRowsN LineR) := by
  refine D.cal sc__law_lined (fun vs H Q E h => ?_) fun f cdv A outer s H vs Q E hr h => ?_
  · obtain ⟨p, l, most, n, rfl, _⟩ := h
    rfl
  obtain ⟨p, l, most, n, rfl, Pn, hn, m1, m2, q⟩ := h
  obtain ⟨kvs, hp⟩ := Pn.dk
  have pw12 : CPow 10 12 := ⟨by decide, by decide, by decide⟩
  have e12 : (10 : Int) ^ (12 : Int).toNat = 10 ^ 12 := rfl
  refine ⟨_, (pss_cons (ps_par (i := 2) (j := 3) rfl sc__law_lined.nd rfl rfl (by decide) rfl rfl (pa_cons (pe_lst pa_nil) (pa_cons (pe_op op_add pe_int (pe_cal CD (hr.mono (by decide)) (pa_cons (pv 0) (pa_cons (pv 1) pa_nil)))) pa_nil)) (by rfl)) (pss_cons (ps_par (i := 4) (j := 5) rfl sc__law_lined.nd rfl rfl (by decide) rfl rfl (pa_cons (pe_op op_add pe_int (pe_cal CG (hr.mono (by decide)) (pa_cons (pv 0) (pa_cons pe_int pa_nil)))) (pa_cons (pe_op op_mul (pe_cal CG (hr.mono (by decide)) (pa_cons (pv 0) (pa_cons pe_int pa_nil))) (pe_cal CI (hr.mono (by decide)) (pa_cons (pv 0) (pa_cons (pe_lst (pa_cons pe_int (pa_cons (pe_un un_neg pe_int) pa_nil))) pa_nil)))) pa_nil)) (by rfl)) (pss_cons (ps_for PassesOwn.never rfl (pi_list (pe_cal CN (hr.mono (by decide)) (pa_cons (pv 0) (pa_cons (pv 3) pa_nil)))) (pg_name (i := 6) sc__law_lined.nd rfl (Or.inl rfl)) (pss_cons (ps_set (i := 7) sc__law_lined.nd rfl (Or.inl rfl) (pe_op op_mul (pe_op op_mul (pv 4) (pe_op op_add pe_int (pe_cal CD (hr.mono (by decide)) (pa_cons (pv 0) (pa_cons pe_int pa_nil))))) (pe_cal CI (hr.mono (by decide)) (pa_cons (pv 0) (pa_cons (pe_lst (pa_cons pe_int (pa_cons pe_int (pa_cons (pe_un un_neg pe_int) pa_nil)))) pa_nil))))) (pss_cons (ps_set (i := 8) sc__law_lined.nd rfl (Or.inl rfl) (pe_op op_add (pv 5) (pe_cal CD (hr.mono (by decide)) (pa_cons (pv 0) (pa_cons (pe_callB (call_min2 rfl) rfl B.min_ (by decide +kernel) (pa_cons (pv 4) (pa_cons pe_int pa_nil))) pa_nil))))) (pss_cons (ps_set (i := 8) sc__law_lined.nd rfl (Or.inl rfl) (pe_op op_add (pv 8) (pe_op op_mul (pv 4) (pe_cal CA (hr.mono (by decide)) (pa_cons (pv 0) (pa_cons (pe_cal CI (hr.mono (by decide)) (pa_cons (pv 0) (pa_cons (pe_lst (pa_cons pe_int (pa_cons pe_int (pa_cons (pe_op op_pow pe_int pe_int) pa_nil)))) pa_nil))) pa_nil)))))) (pss_cons (ps_set (i := 9) sc__law_lined.nd rfl (Or.inl rfl) (pe_cal CI (hr.mono (by decide)) (pa_cons (pv 0) (pa_cons (pe_lst (pa_cons pe_int (pa_cons (pe_cal CD (hr.mono (by decide)) (pa_cons (pv 0) (pa_cons pe_int pa_nil))) (pa_cons (pe_cal CG (hr.mono (by decide)) (pa_cons (pv 0) (pa_cons pe_int pa_nil))) pa_nil)))) pa_nil)))) (pss_one (ps_expr (pe_bm PySem.F.plainAttrs_list PySem.F.slot_list_append PySem.F.type_list_append mt_append (pv 2) (pa_cons (pe_tup (pa_cons (pv 6) (pa_cons (pv 9) (pa_cons (pv 8) (pa_cons (pv 7) pa_nil))))) pa_nil))))))))) (pss_one (ps_ret (pv 2)))))), ?_⟩
  refine ⟨(by show 0 ≤ sizeLine; decide), fun F hF => ?_⟩
  have nF := Pn.ne hF
  have nFl := Pn.nl hF
  refine ⟨_, rfl, _, rfl, p, l, most, n, rfl, Pn.new hF, by omega, by omega, by omega, fun v0 H1 a0 b0 P1 k1 => ?_⟩
  have hF1 : H1 F = some (.lst []) := k1 _ _ upd_same nF
  have K1 : Keep p H H1 := (Keep.refl.new hF).trans k1
  refine ⟨_, _, rfl, rfl, _, _, rfl, ?_⟩
  -- lot, base
  refine ⟨_, rfl, p, l, 16, _, rfl, P1, by omega, by decide, by decide, fun v1 H2 a1 b1 P2 k2 => ?_⟩
  refine ⟨_, _, rfl, rfl, _, rfl, p, l, 29, _, rfl, P2, by omega, by decide, by decide, fun v2 H3 a2 b2 P3 k3 => ?_⟩
  refine ⟨_, rfl, _, rfl, (by show 2 ≤ sizeLine; decide), fun t1 h1 => ?_⟩
  refine ⟨p, l, t1, [1, -1], _, rfl, P3.new h1, by omega, SqL.of upd_same, by decide, by decide, fun v3 H4 hv3 P4 k4 => ?_⟩
  have v3b : v3 = 1 ∨ v3 = -1 := by simpa only [List.mem_cons, List.not_mem_nil, or_false] using hv3
  refine ⟨_, _, rfl, rfl, .inr (by omega), _, _, rfl, ?_⟩
  have bb : -(10 ^ 29) ≤ v2 * v3 ∧ v2 * v3 ≤ 10 ^ 29 := by rcases v3b with rfl | rfl <;> omega
  have K4 := K1.trans (((k2.trans k3).new h1).trans k4)
  have hF4 := (((k2.trans k3).new h1).trans k4) _ _ hF1 nF
  -- for label in names(pen, many)
  obtain ⟨m, hm⟩ : ∃ m : Nat, 1 + v0 = (m : Int) := ⟨(1 + v0).toNat, by omega⟩
  refine ⟨_, rfl, _, rfl, p, l, m, _, by show [V.ref p, V.int (1 + v0)] = [V.ref p, V.int (m : Int)]; rw [hm], P4, by omega, by omega, fun L ss H5 hL hss hok hnd hL0 P5 k5 => ?_⟩
  have hF5 := k5 _ _ hF4 nF
  have nLF : L ≠ F := fun e => by rw [e, hF4] at hL0; cases hL0
  have nL : L ≠ p := P4.ne hL0
  refine ⟨L, rfl, ⟨_, SqL.of hL⟩, for_list (K := K) (a := L) (xs := ss.map V.str) (fun i σ' H' => ∃ (ts : List Addr) (b6 b7 b8 b9 : Option V), σ' = [some (.ref p), some (.int (most : Int)), some (.ref F), some (.int (1 + v0)), some (.int (1 + v1)), some (.int (v2 * v3)), b6, b7, b8, b9] ∧
      H' F = some (.lst (ts.map V.ref)) ∧ ts.length = i ∧ i ≤ m ∧ RowsN H' ts ss LineR ∧ H' L = some (.lst (ss.map V.str)) ∧ Pen H' p l (n + 2000 + 12 * (m + 9) + 800 * i) ∧ Keep p H H') ⟨[], none, none, none, none, rfl, hF5, rfl, Nat.zero_le _, RowsN.nil, hL, P5.le (by omega), K4.trans k5⟩ (fun i σ' H' _ ⟨_, _, _, _, _, _, _, _, _, _, h, _⟩ => SqL.of h) ?_ ?_⟩
  · rintro i x σ' H' hx ⟨ts, b6, b7, b8, b9, rfl, hFi, hl, him, hrow, hLi, Pi, ki⟩
    obtain ⟨kvi, hpi⟩ := Pi.dk
    have him : i < m := by
      have := (List.getElem?_eq_some_iff.mp hx).1
      rw [List.length_map] at this
      omega
    obtain ⟨z, hzi, rfl⟩ := str_at hx
    have zok := hok z (List.mem_of_getElem? hzi)
    -- pace
    refine ⟨_, rfl, _, rfl, p, l, 12, _, rfl, Pi, by omega, by omega, by omega, fun c1 H6 x1 y1 P6 k6 => ?_⟩
    refine ⟨_, _, rfl, rfl, _, _, rfl, rfl, .inl (by omega), _, rfl, _, rfl, (by show 3 ≤ sizeLine; decide), fun t2 h2 => ?_⟩
    refine ⟨p, l, t2, [1, 1, -1], _, rfl, P6.new h2, by omega, SqL.of upd_same, by decide, by decide, fun c2 H7 hc2 P7 k7 => ?_⟩
    have c2b : c2 = 1 ∨ c2 = -1 := by
      simp only [List.mem_cons, List.not_mem_nil, or_false] at hc2
      omega
    have lb := mul_bd (a := 1 + v1) (b := 1 + c1) (A := 10 ^ 16) (B := 12) (by omega) (by omega) (by omega) (by omega) (by decide)
    have lb1 := mul_pos1 (a := 1 + v1) (b := 1 + c1) (by omega) (by omega)
    refine ⟨_, _, rfl, rfl, .inr (by omega), ?_⟩
    have pb : -(12 * 10 ^ 16) ≤ (1 + v1) * (1 + c1) * c2 ∧ (1 + v1) * (1 + c1) * c2 ≤ 12 * 10 ^ 16 ∧ (1 + v1) * (1 + c1) * c2 ≠ 0 := by rcases c2b with rfl | rfl <;> omega
    -- spot
    refine ⟨_, rfl, _, rfl, _, rfl, _, _, rfl, p, l, _, _, rfl, P7, by omega, by split <;> omega, by split <;> omega, fun c3 H8 x3 y3 P8 k8 => ?_⟩
    have y3 : c3 < 2 := by split at y3 <;> omega
    refine ⟨_, _, rfl, rfl, ?_⟩
    refine ⟨_, rfl, _, rfl, _, rfl, _, rfl, _, _, rfl, rfl, pw12, (by show 3 ≤ sizeLine; decide), fun t3 h3 => ?_⟩
    refine ⟨p, l, t3, [3, 40, 10 ^ (12 : Int).toNat], _, rfl, P8.new h3, by omega, SqL.of upd_same, by decide, by decide, fun c4 H9 hc4 P9 k9 => ?_⟩
    have c4b : 0 ≤ c4 ∧ c4 ≤ 10 ^ 12 := by
      simp only [List.mem_cons, List.not_mem_nil, or_false] at hc4
      omega
    refine ⟨p, l, c4, _, rfl, P9, by omega, by omega, by omega, fun c5 H10 x5 y5 P10 k10 => ?_⟩
    have ab := mul_bd (a := 1 + v1) (b := c5) (A := 10 ^ 16) (B := 10 ^ 12) (by omega) (by omega) (by omega) (by omega) (by decide)
    refine ⟨_, _, rfl, rfl, .inl (by omega), _, _, rfl, rfl, ?_⟩
    -- date
    refine ⟨_, rfl, _, rfl, p, l, 30, _, rfl, P10, by omega, by omega, by omega, fun c6 H11 x6 y6 P11 k11 => ?_⟩
    refine ⟨_, rfl, p, l, 29, _, rfl, P11, by omega, by decide, by decide, fun c7 H12 x7 y7 P12 k12 => ?_⟩
    refine ⟨(by show 3 ≤ sizeLine; decide), fun t4 h4 => ?_⟩
    refine ⟨p, l, t4, [0, c6, c7], _, rfl, P12.new h4, by omega, SqL.of upd_same, by show 1 ≤ 3; decide, by show 3 ≤ 1000000; decide, fun dt H13 hdt P13 k13 => ?_⟩
    have dtb : 0 ≤ dt ∧ dt ≤ 10 ^ 29 := by
      simp only [List.mem_cons, List.not_mem_nil, or_false] at hdt
      rcases hdt with rfl | rfl | rfl <;> omega
    have kk : Keep p H' H13 := ((((k6.new h2).trans k7).trans k8 |>.new h3).trans k9 |>.trans k10 |>.trans k11 |>.trans k12 |>.new h4).trans k13
    have hF13 := kk _ _ hFi nF
    refine ⟨_, rfl, .inl ⟨rfl, _, SqL.of hF13⟩, ?_⟩
    refine ⟨_, rfl, _, rfl, _, rfl, _, rfl, (by show 4 ≤ sizeLine; decide), fun t5 h5 => ?_⟩
    obtain ⟨od, hod⟩ : ∃ o : HO, o = .tup [.str z, .int dt, .int (v2 * v3 + c3 + (1 + v1) * c5), .int ((1 + v1) * (1 + c1) * c2)] := ⟨_, rfl⟩
    rw [← hod]
    have hF14 := same_new h5 od _ _ hF13
    refine ⟨F, _, _, rfl, rfl, hF14, by rw [List.length_map]; exact small1000 (by omega), ?_⟩
    have k14 := kk.new (o := od) h5
    have row5 : RowN (upd H13 t5 od) t5 z LineR := ⟨dt, v2 * v3 + c3 + (1 + v1) * c5, (1 + v1) * (1 + c1) * c2, by rw [upd_same, hod], zok, by unfold LineR; refine ⟨by omega, by omega, by omega, by omega, pb⟩⟩
    have rows14 : RowsN (upd H13 t5 od) (ts ++ [t5]) ss LineR := RowsN.snoc hl hzi (hrow.keep k14 hpi) row5
    refine ⟨ts ++ [t5], _, _, _, _, rfl, by rw [upd_same, List.map_append]; rfl, by rw [List.length_append, hl]; rfl, by omega, rows14.updL hF14, by rw [upd_ne nLF]; exact k14 _ _ hLi nL, ((P13.new h5).le (by omega)).upd nF nFl, (ki.trans k14).at_new hF⟩
  · rintro σ' H' ⟨ts, b6, b7, b8, b9, rfl, hFi, hl, him, hrow, hLi, Pi, ki⟩
    rw [List.length_map, hss] at hl
    refine ⟨_, rfl, ?_⟩
    exact q F ts ss H' hFi (by omega) (by omega) (by omega) hrow hok hnd hF (Pi.le (by omega)) ki
end
end Ur
/-! FA: a fence is made: Fence.__init__. -/
namespace Ur
open PySem PySem.Spec PyProof.Rows L2
/-- a painter as it stands -/
structure Pt where
  a : Addr
  nm : Str
  d : Int
  p : Int
  s : Int
def PtAt (C : Addr) (H : Hp) (x : Pt) : Prop := PnAt C H x.a x.nm x.d x.p x.s ∧ PartOk x.nm x.d x.p x.s
def refsOf (L : List Pt) : List V := L.map fun x => V.ref x.a
def kvOf (L : List Pt) : List (Key × V) := L.map fun x => (Sum.inr x.nm, V.ref x.a)
def ffs (t d : Addr) : List (Str × V) := [("_painters", .ref t), ("_by_name", .ref d)]
theorem ffs_p (t d : Addr) : (ffs t d).lookup ("_painters" : Str) = some (V.ref t) := rfl
theorem ffs_b (t d : Addr) : (ffs t d).lookup ("_by_name" : Str) = some (V.ref d) := rfl
/-- painters that can stand in a fence -/
structure Crew (C : Addr) (H : Hp) (L : List Pt) : Prop where
  at_ : ∀ x ∈ L, PtAt C H x
  nd : (L.map Pt.nm).Nodup
  few : L.length ≤ 40
/-- a fence stands at f -/
structure FcAt (C CF : Addr) (H : Hp) (f : Addr) (L : List Pt) : Prop where
  ex : ∃ dx t d, H f = some (.ins CF dx (ffs t d)) ∧ H t = some (.tup (refsOf L)) ∧ H d = some (.dK (kvOf L))
  crew : Crew C H L
theorem PtAt.same {C : Addr} {H H' : Hp} {x : Pt} (h : PtAt C H x) (s : Same H H') : PtAt C H' x := let ⟨⟨dx, e⟩, z⟩ := h; ⟨⟨dx, s _ _ e⟩, z⟩
theorem Crew.same {C : Addr} {H H' : Hp} {L : List Pt} (h : Crew C H L) (s : Same H H') : Crew C H' L := ⟨fun x hx => (h.at_ x hx).same s, h.nd, h.few⟩
theorem FcAt.same {C CF : Addr} {H H' : Hp} {f : Addr} {L : List Pt} (h : FcAt C CF H f L) (s : Same H H') : FcAt C CF H' f L :=
  let ⟨dx, t, d, h1, h2, h3⟩ := h.ex
  ⟨⟨dx, t, d, s _ _ h1, s _ _ h2, s _ _ h3⟩, h.crew.same s⟩
theorem valV_of {L : List Pt} {nm : Str} (h : nm ∉ L.map Pt.nm) : valV (kvOf L) (Sum.inr nm : Key) = none := by
  induction L with
  | nil => rfl
  | cons x r ih =>
    have h1 : ¬ nm = x.nm := fun e => h (by rw [e]; exact List.mem_cons_self)
    have h2 : nm ∉ r.map Pt.nm := fun e => h (List.mem_cons_of_mem _ e)
    show valV ((Sum.inr x.nm, V.ref x.a) :: kvOf r) _ = none
    rw [valV_neg (fun e => h1 (Sum.inr.inj e).symm)]
    exact ih h2
theorem valV_at {L : List Pt} (nd : (L.map Pt.nm).Nodup) {x : Pt} (h : x ∈ L) : valV (kvOf L) (Sum.inr x.nm : Key) = some (V.ref x.a) := by
  induction L with
  | nil => cases h
  | cons y r ih =>
    have nd' := List.nodup_cons.mp nd
    show valV ((Sum.inr y.nm, V.ref y.a) :: kvOf r) _ = _
    rcases List.mem_cons.mp h with rfl | h
    · exact valV_pos rfl
    · have ne : ¬ y.nm = x.nm := fun e => nd'.1 (by rw [e]; exact List.mem_map_of_mem h)
      rw [valV_neg (fun e => ne (Sum.inr.inj e))]
      exact ih nd'.2 h
/-- what the class of fences must have -/
structure FTxt (K : PySem.W.Frag) (mg : Str → Option Value) (CF : Addr) : Prop where
  cl : Cls K CF
  nP : NoAttr K CF "_painters"
  nB : NoAttr K CF "_by_name"
  mgF : mg "Fence" = some (.ref CF)
theorem fun_star {K : PySem.W.Frag} {P : Program} {w : World} {mg : Str → Option Value} {base : Heap} {x qual : Str} {st : Stmt} {f : Addr} {fd : FuncData} {N : List Str} {p1 pv : Str} {k : Nat} {sp : Sp} (F : Fun K x qual st f fd) (S : FnScope N [p1, pv] (defScope st))
    (h0 : ∀ (kV doc pm : Value) (an : Option Addr) (cdv ct : Value) (a : Value), bindArgs (PySem.W.fnOf x qual (defArgs st) (defBody st) (defScope st) .none kV doc pm an cdv ct) ⟨[a], []⟩ = (newTuple [] >>= fun t => pure [(p1, a), (pv, t)]))
    (h1 : ∀ (kV doc pm : Value) (an : Option Addr) (cdv ct : Value) (a r : Value) (rs : List Value), bindArgs (PySem.W.fnOf x qual (defArgs st) (defBody st) (defScope st) .none kV doc pm an cdv ct) ⟨a :: r :: rs, []⟩ = (newTuple (r :: rs) >>= fun t => pure [(p1, a), (pv, t)]))
    (hbody : ∀ (cdv : Value) (A : Around) (outer : List Env) (s : Shared) (H : Hp) (vs : List V) (Q : VK) (E : XK), Room k (A.deeper (envOfC qual (defScope st) s.heap.objs.size f cdv)) → sp vs H Q E →
      ∃ t, PSs (cxOf CX0 P w K mg base N qual (defScope st) f cdv A outer s H E).nox (defBody st) t ∧ t { nx := fun _ H' => Q .non H', rt := Q } (start N vs) H) :
    FnR P w K mg base CX0 (k + 1) f (fun vs H Q E => ∃ w rest, vs = w :: rest ∧ rest.length ≤ sizeLine ∧ ∀ p, H p = Option.none → sp [w, V.ref p] (upd H p (.tup rest)) Q E) := by
  obtain ⟨oc, od, kV, doc, pm, an, cdv, ct, osl, rfl, lk, hcd⟩ := F.ex
  refine (StX.fn_star (ps := [p1]) (pv := pv) (sp := sp) lk hcd S StX.cxUp_none (StX.bind_star1 (B := fun us => bindArgs (PySem.W.fnOf x qual (defArgs st) (defBody st) (defScope st) .none kV doc pm an cdv ct) ⟨us, []⟩) (h0 kV doc pm an cdv ct) (h1 kV doc pm an cdv ct)) fun A outer s H vs Q E hr hsp => ?_).imp ?_
  · obtain ⟨t, h, q⟩ := hbody cdv A outer s H vs Q E hr hsp
    exact ⟨t, h.nox, q⟩
  · rintro vs H Q E ⟨w, rest, rfl, hl, q⟩
    exact ⟨[w], rest, rfl, rfl, hl, q⟩
abbrev s_Fence_init : Stmt := (inClass (topS 18) 0)
abbrev N_sc_Fence_init : List Str := ["self", "painters", "index", "painter", "by_name"]
abbrev P_Fence_init : List Str := ["self", "painters"]
theorem sc_Fence_init : FnScope N_sc_Fence_init P_Fence_init (defScope s_Fence_init) := ⟨rfl, rfl, rfl, by decide +kernel, rfl, by decide +kernel, by decide +kernel⟩
def spFInit (C CF : Addr) : Sp := fun vs H Q _ => ∃ (x dx t : Addr) (L : List Pt), vs = [.ref x, .ref t] ∧ H x = some (.ins CF dx []) ∧ H t = some (.tup (refsOf L)) ∧ Crew C H L ∧
  ∀ H' d, H' x = some (.ins CF dx (ffs t d)) → H' d = some (.dK (kvOf L)) → Keep x H H' → Q .non H'
section
variable {P : Program} {w : World} {K : PySem.W.Frag} {mg : Str → Option Value} {base : Heap}
theorem refs_at {L : List Pt} {i : Nat} {v : V} (h : (refsOf L)[i]? = some v) : ∃ x, L[i]? = some x ∧ v = V.ref x.a := by
  unfold refsOf at h
  rw [List.getElem?_map] at h
  cases e : L[i]? with
  | none => rw [e] at h; cases h
  | some x => rw [e] at h; exact ⟨x, rfl, (Option.some.inj h).symm⟩
theorem take_snoc {α : Type} {L : List α} {i : Nat} {x : α} (h : L[i]? = some x) : L.take (i + 1) = L.take i ++ [x] := by
  rw [List.take_add_one, h]
  rfl
set_option maxHeartbeats 16000000 in
theorem ok_finit {C CF f : Addr} {fd : FuncData} (F : Fun K "__init__" "Fence.__init__" s_Fence_init f fd) (B : Blt mg) (hEn : mg "enumerate" = none) (T : PTxt K mg C) (U : FTxt K mg CF) (hI : C8.InsC K C) (hName : PropS P w K mg base C "name" 1 (getSp C "_name"))
    {uM : Value} (hMP : mg "MAX_PAINTERS" = some uM) (rMP : L2.RelV (.int 40) uM) :
    FnR P w K mg base CX0 3 f (fun vs H Q E => ∃ w rest, vs = w :: rest ∧ rest.length ≤ sizeLine ∧ ∀ p, H p = Option.none → spFInit C CF [w, V.ref p] (upd H p (.tup rest)) Q E) := by
  refine fun_star F (k := 2) sc_Fence_init (fun _ _ _ _ _ _ _ => rfl) (fun _ _ _ _ _ _ _ _ _ => rfl) (fun cdv A outer s H vs Q E hr h => ?_)
  obtain ⟨x, dx, t, L, rfl, hx, ht, cr, q⟩ := h
  have hu := hu_of hr
  refine ⟨_, (pss_cons (ps_for PassesOwn.never rfl (pi_enumT rfl hEn (pa_cons (pv 1) pa_nil)) (pg_tup rfl (pgs_cons (pg_name (i := 2) sc_Fence_init.nd rfl (Or.inl rfl)) (pgs_cons (pg_name (i := 3) sc_Fence_init.nd rfl (Or.inl rfl)) pgs_nil))) (pss_one (ps_if (pt_not (pt_val (pe_callB (C8.call_isC hI) rfl B.isinstance_ (by decide +kernel) (pa_cons (pv 3) (pa_cons (pe_glob (v := V.ref C) rfl T.mgP rfl) pa_nil))))) (pss_one ps_never) pss_nil))) (pss_cons (ps_set (i := 4) sc_Fence_init.nd rfl (Or.inl rfl) pe_dnewK) (pss_cons (ps_for PassesOwn.never rfl (pi_tup (pv 1)) (pg_name (i := 3) sc_Fence_init.nd rfl (Or.inl rfl)) (pss_cons (ps_if (pt_cmp (pc_din hu (pe_prS (pv 3) T.cl hName (hr.mono (by decide))) (pv 4))) (pss_one ps_never) pss_nil) (pss_one (ps_dput hu (pv 4) (pe_prS (pv 3) T.cl hName (hr.mono (by decide))) (pv 3) rfl)))) (pss_cons (ps_if (pt_cmpR op_gt (pe_callB call_len_seq rfl B.len_ PySem.boot_len (pa_cons (pv 1) pa_nil)) (pe_glob (v := .int 40) rfl hMP rMP) (nomark _)) (pss_one ps_never) pss_nil) (pss_cons (ps_fld (pv 0) (pv 1) rfl) (pss_one (ps_fld (pv 0) (pv 4) rfl))))))), ?_⟩
  refine ⟨_, rfl, t, _, rfl, .inl (.inl ht), ?_⟩
  refine for_it walk_enumT (fun i σ H1 => ∃ o2 o3, σ = [some (.ref x), some (.ref t), o2, o3, none] ∧ Same H H1) ⟨_, _, rfl, Same.refl _⟩ (fun i σ H1 _ h => by obtain ⟨_, _, _, h⟩ := h; exact sameTup h (.inl (.inl ht))) ?_ ?_
  · rintro i v σ H1 H2 hi ⟨o2, o3, rfl, s1⟩ ⟨T0, y1, y2, rfl, hT, rfl, e1, e2⟩
    obtain rfl := Option.some.inj e1
    obtain ⟨z, hz, rfl⟩ := refs_at e2
    refine ⟨T0, _, rfl, .inl (.inl upd_same), rfl, _, _, rfl, _, _, rfl, rfl, ?_⟩
    have pz := ((cr.at_ z (List.mem_of_getElem? hz)).same s1).same (same_new hT (.tup [V.int (i : Int), V.ref z.a]))
    obtain ⟨dz, ez⟩ := pz.1
    refine ⟨_, rfl, z.a, dz, _, rfl, ez, true, rfl, iteF ?_⟩
    exact ⟨_, _, rfl, s1.trans (same_new hT _)⟩
  · rintro σ H1 ⟨o2, o3, rfl, s1⟩
    refine fun d hd => ?_
    have ht1 := s1 _ _ ht
    have cr1 := cr.same s1
    have hx1 := s1 _ _ hx
    refine ⟨_, rfl, t, rfl, ⟨_, .inl (.inl (same_new hd _ _ _ ht1))⟩, for_tup (K := K) (a := t) (xs := refsOf L) (fun i σ H2 => ∃ o3, σ = [some (.ref x), some (.ref t), o2, o3, some (.ref d)] ∧ H2 d = some (.dK (kvOf (L.take i))) ∧ Same H1 H2) ⟨_, rfl, upd_same, same_new hd _⟩ (fun i σ H2 _ h => by obtain ⟨_, _, _, h⟩ := h; exact .inl (.inl (h _ _ ht1))) ?_ ?_⟩
    · rintro i v σ H2 e2 ⟨o3, rfl, hd2, s2⟩
      obtain ⟨z, hz, rfl⟩ := refs_at e2
      have hi : i < L.length := (List.getElem?_eq_some_iff.mp hz).1
      have pz := (cr1.at_ z (List.mem_of_getElem? hz)).same s2
      obtain ⟨dz, ez⟩ := id pz.1
      have nk : z.nm ∉ (L.take i).map Pt.nm := by
        have h1 := cr.nd
        have h2 : L = L.take i ++ z :: L.drop (i + 1) := by
          have h3 : L.drop i = z :: L.drop (i + 1) := by
            rw [List.drop_eq_getElem_cons hi]
            congr 1
            exact Option.some.inj ((List.getElem?_eq_getElem hi).symm.trans hz)
          rw [← h3, List.take_append_drop]
        rw [h2, List.map_append, List.map_cons] at h1
        exact fun e => (List.nodup_append.mp h1).2.2 _ e _ List.mem_cons_self rfl
      have vn := valV_of nk
      refine ⟨_, rfl, z.a, dz, _, rfl, ez, z.a, dz, _, _, rfl, ez, pfs_name _ _ _ _, ?_⟩
      refine ⟨_, rfl, d, none, rfl, ?_, _, rfl, iteF ?_⟩
      · have g := DGet.k (k := (Sum.inr z.nm : Key)) hd2
        rw [vn] at g
        exact g
      refine ⟨_, rfl, _, rfl, _, rfl, z.a, dz, _, rfl, ez, z.a, dz, _, _, rfl, ez, pfs_name _ _ _ _, d, _, rfl, DPut.k (k := (Sum.inr z.nm : Key)) hd2 (by show (kvOf (L.take i)).length < sizeLine; unfold kvOf; rw [List.length_map, List.length_take]; exact Nat.lt_of_le_of_lt (Nat.le_trans (Nat.min_le_right _ _) cr.few) (by decide)), ?_⟩
      refine ⟨_, rfl, ?_, fun b o e => ?_⟩
      · rw [upd_same, putK_new _ vn, take_snoc hz]
        show some (HO.dK (kvOf (L.take i) ++ [(Sum.inr z.nm, V.ref z.a)])) = some (HO.dK (kvOf (L.take i ++ [z])))
        unfold kvOf
        rw [List.map_append]
        rfl
      · have nb : b ≠ d := ne_of_none e hd
        rw [upd_ne nb]
        exact s2 _ _ e
    · rintro σ H2 ⟨o3, rfl, hd2, s2⟩
      have hl : (refsOf L).length = L.length := by unfold refsOf; rw [List.length_map]
      rw [hl, List.take_length] at hd2
      have ht2 := s2 _ _ ht1
      have hx2 := s2 _ _ hx1
      refine ⟨_, rfl, t, _, rfl, .inr (SqT.of ht2), _, _, rfl, rfl, _, rfl, ?_⟩
      have c : decide ((40 : Int) < ((refsOf L).length : Int)) = false := decide_eq_false (by have := cr.few; rw [hl]; omega)
      show (if decide ((40 : Int) < ((refsOf L).length : Int)) = true then _ else _)
      rw [c]
      refine iteF ?_
      refine ⟨_, rfl, _, rfl, x, CF, dx, [], rfl, hx2, U.cl, U.nP, (by show 0 < 1000; decide), ?_⟩
      refine ⟨_, rfl, _, rfl, x, CF, dx, _, rfl, upd_same, U.cl, U.nB, (by show 1 < 1000; decide), ?_⟩
      have nd : d ≠ x := fun e => by rw [e] at hd; rw [hx1] at hd; cases hd
      refine q _ d upd_same ?_ fun b o e nb => ?_
      · rw [upd_ne nd, upd_ne nd]
        exact hd2
      · rw [upd_ne nb, upd_ne nb]
        exact s2 _ _ (s1 _ _ e)
end
end Ur
/-! FB: fences: painters, names, len, in, [..], + . -/
namespace Ur
open PySem PySem.Spec PyProof.Rows L2
theorem FcAt.len {C CF : Addr} {H : Hp} {f : Addr} {L : List Pt} (h : FcAt C CF H f L) : L.length ≤ 40 := h.crew.few
theorem refs_len (L : List Pt) : (refsOf L).length = L.length := by unfold refsOf; rw [List.length_map]
theorem refs_snoc (L : List Pt) (x : Pt) : refsOf (L ++ [x]) = refsOf L ++ [V.ref x.a] := by unfold refsOf; rw [List.map_append]; rfl
/-- a fence that was just made -/
theorem fence_made {C CF : Addr} {H H2 : Hp} {x dx p d : Addr} {L : List Pt} (nx : H x = none) (nd : H dx = none) (np : upd (upd H dx (.own x)) x (.ins CF dx []) p = none) (h1 : H2 x = some (.ins CF dx (ffs p d))) (h2 : H2 d = some (.dK (kvOf L)))
    (k : Keep x (upd (upd (upd H dx (.own x)) x (.ins CF dx [])) p (.tup (refsOf L))) H2) (cr : Crew C H L) : FcAt C CF H2 x L ∧ Same H H2 := by
  have px : p ≠ x := fun e => by rw [e, upd_same] at np; cases np
  have sm : Same H H2 := Same.made nx nd fun b o e hb => k b o (by rw [upd_ne (ne_of_none e np)]; exact e) hb
  exact ⟨⟨⟨dx, p, d, h1, k _ _ upd_same px, h2⟩, cr.same sm⟩, sm⟩
/-- what a crew asks where the fence is made -/
theorem Crew.made {C CF : Addr} {H : Hp} {x dx p : Addr} {L : List Pt} (nx : H x = none) (nd : H dx = none) (np : upd (upd H dx (.own x)) x (.ins CF dx []) p = none) (cr : Crew C H L) (u : HO) : Crew C (upd (upd (upd H dx (.own x)) x (.ins CF dx [])) p u) L :=
  cr.same fun b o e => by
    have e2 : upd (upd H dx (.own x)) x (.ins CF dx []) b = some o := by rw [upd_ne (ne_of_none e nx), upd_ne (ne_of_none e nd)]; exact e
    rw [upd_ne (ne_of_none e2 np)]
    exact e2
/-- the promise of Fence.__init__ as it is called -/
abbrev spFI (C CF : Addr) : Sp := fun vs H Q E => ∃ w rest, vs = w :: rest ∧ rest.length ≤ sizeLine ∧ ∀ p, H p = Option.none → spFInit C CF [w, V.ref p] (upd H p (.tup rest)) Q E
/-- how it is asked where a fence is made of a crew -/
theorem ask_fence {C CF : Addr} {H : Hp} {x dx : Addr} {L : List Pt} {Q : VK} {E : XK} (nx : H x = none) (nd : H dx = none) (cr : Crew C H L) (q : ∀ H', FcAt C CF H' x L → Same H H' → Q .non H') :
    spFI C CF (V.ref x :: refsOf L) (upd (upd H dx (.own x)) x (.ins CF dx [])) Q E := by
  refine ⟨_, _, rfl, by rw [refs_len]; exact Nat.le_trans cr.few (by decide), fun p np => ?_⟩
  have px : x ≠ p := fun e => by rw [← e, upd_same] at np; cases np
  refine ⟨x, dx, p, L, rfl, by rw [upd_ne px]; exact upd_same, upd_same, cr.made nx nd np _, fun H' d h1 h2 k => ?_⟩
  obtain ⟨f, s⟩ := fence_made nx nd np h1 h2 k cr
  exact q H' f s
def MkF (P : Program) (w : World) (K : PySem.W.Frag) (mg : Str → Option Value) (base : Heap) (C CF : Addr) : Prop := ∃ f, Mk K CF f ∧ FnR P w K mg base CX0 3 f (spFI C CF)
abbrev s_Fence_add : Stmt := (inClass (topS 18) 9)
abbrev N_sc_Fence_add : List Str := ["self", "other"]
abbrev P_Fence_add : List Str := ["self", "other"]
theorem sc_Fence_add : FnScope N_sc_Fence_add P_Fence_add (defScope s_Fence_add) := ⟨rfl, rfl, rfl, by decide +kernel, rfl, by decide +kernel, by decide +kernel⟩
def spFAdd (C CF : Addr) : Sp := fun vs H Q _ => ∃ (f : Addr) (L : List Pt) (x : Pt), vs = [.ref f, .ref x.a] ∧ FcAt C CF H f L ∧ Crew C H (L ++ [x]) ∧ ∀ g H', FcAt C CF H' g (L ++ [x]) → Same H H' → Q (.ref g) H'
section
variable {P : Program} {w : World} {K : PySem.W.Frag} {mg : Str → Option Value} {base : Heap} {C CF : Addr} {f : Addr} {fd : FuncData}
theorem ok_fadd (F : Fun K "__add__" "Fence.__add__" s_Fence_add f fd) (U : FTxt K mg CF) (hMk : MkF P w K mg base C CF) : FnOk P w K mg base CX0 5 f fd P_Fence_add (spFAdd C CF) := by
  obtain ⟨fI, MF, FI⟩ := hMk
  refine F.ok sc_Fence_add (fun vs H Q E h => ?_) (fun cdv A outer s H vs Q E hr h => ?_)
  · obtain ⟨f, L, x, rfl, _⟩ := h
    rfl
  obtain ⟨f, L, x, rfl, hf, cr, q⟩ := h
  obtain ⟨dx, t, d, h1, h2, h3⟩ := hf.ex
  refine ⟨_, (pss_one (ps_ret (pe_makeS2 MF FI (hr.mono (by decide)) rfl U.mgF pass0 (StX.pa_star (pe_fld (pv 0) rfl) (pa_cons (pv 1) pa_nil))))), ?_⟩
  refine ⟨_, rfl, f, CF, dx, _, _, rfl, h1, U.cl, U.nP, ffs_p _ _, t, _, rfl, .inl (.inl (.inl h2)), _, rfl, fun x1 dx1 nx nd ne => ?_⟩
  rw [show refsOf L ++ [V.ref x.a] = refsOf (L ++ [x]) from (refs_snoc _ _).symm]
  exact ask_fence nx nd cr fun H' hf' s' => ⟨rfl, q x1 H' hf' s'⟩
end
abbrev s_Fence_painters : Stmt := (inClass (topS 18) 1)
abbrev N_sc_Fence_painters : List Str := ["self"]
abbrev P_Fence_painters : List Str := ["self"]
theorem sc_Fence_painters : FnScope N_sc_Fence_painters P_Fence_painters (defScope s_Fence_painters) := ⟨rfl, rfl, rfl, by decide +kernel, rfl, by decide +kernel, by decide +kernel⟩
section
variable {P : Program} {w : World} {K : PySem.W.Frag} {mg : Str → Option Value} {base : Heap} {C CF : Addr} {f : Addr} {fd : FuncData}
theorem ok_get_painters (F : Fun K "painters" "Fence.painters" s_Fence_painters f fd) (U : FTxt K mg CF) : FnOk P w K mg base CX0 1 f fd ["self"] (getSp CF "_painters") := by
  refine F.ok sc_Fence_painters (fun vs H Q E h => ?_) (fun cdv A outer s H vs Q E hr h => ?_)
  · obtain ⟨a, dx, fs, v, rfl, _⟩ := h
    rfl
  obtain ⟨a, dx, fs, v, rfl, ha, hl, q⟩ := h
  exact ⟨_, (pss_one (ps_ret (pe_fld (pv 0) rfl))), _, rfl, a, CF, dx, fs, v, rfl, ha, U.cl, U.nP, hl, q⟩
end
abbrev s_Fence_names : Stmt := (inClass (topS 18) 2)
abbrev N_sc_Fence_names : List Str := ["self", "painter"]
abbrev P_Fence_names : List Str := ["self"]
theorem sc_Fence_names : FnScope N_sc_Fence_names P_Fence_names (defScope s_Fence_names) := ⟨rfl, rfl, rfl, by decide +kernel, rfl, by decide +kernel, by decide +kernel⟩
def spFNames (C CF : Addr) : Sp := fun vs H Q _ => ∃ (f : Addr) (L : List Pt), vs = [.ref f] ∧ FcAt C CF H f L ∧ ∀ r H', H' r = some (.tup (L.map fun x => V.str x.nm)) → Same H H' → Q (.ref r) H'
section
variable {P : Program} {w : World} {K : PySem.W.Frag} {mg : Str → Option Value} {base : Heap} {C CF : Addr} {f : Addr} {fd : FuncData}
theorem ok_fnames (F : Fun K "names" "Fence.names" s_Fence_names f fd) (T : PTxt K mg C) (U : FTxt K mg CF) (nb_tuple : mg "tuple" = none) (hName : PropS P w K mg base C "name" 1 (getSp C "_name")) : FnOk P w K mg base CX0 3 f fd ["self"] (spFNames C CF) := by
  refine F.ok sc_Fence_names (fun vs H Q E h => ?_) (fun cdv A outer s H vs Q E hr h => ?_)
  · obtain ⟨f, L, rfl, _⟩ := h
    rfl
  obtain ⟨f, L, rfl, hf, q⟩ := h
  obtain ⟨dx, t, d, h1, h2, h3⟩ := hf.ex
  refine ⟨_, (pss_one (ps_ret (pe_callTy call_tuple_of rfl nb_tuple (by decide +kernel) (pa_cons (pe_lc (own := [("painter", 1)]) (g := gName 1) (tt := tYes) rfl sc_Fence_names.nd (pi_tup (pe_fld (pv 0) rfl)) (blkOk_by (N := N_sc_Fence_names) (sc := defScope s_Fence_names) (by decide +kernel)) (fun _ _ _ _ _ => pg_name (i := 1) sc_Fence_names.nd rfl (Or.inl rfl)) (fun _ _ _ _ _ => pts_nil) (fun _ _ _ _ _ => (pe_prS (pv 1) T.cl hName (hr.mono (by decide))))) pa_nil)))), ?_⟩
  refine ⟨_, rfl, f, CF, dx, _, _, rfl, h1, U.cl, U.nP, ffs_p _ _, t, rfl, ⟨_, .inl (.inl h2)⟩, fun D hD => ?_⟩
  refine lc_tup (K := K) (a := t) (xs := refsOf L) (fun i H' => H' D = some (.lst ((L.take i).map fun x => V.str x.nm)) ∧ Same H H') ⟨upd_same, same_new hD _⟩ (fun i H' _ h => .inl (.inl (h.2 _ _ h2))) ?_ ?_
  · rintro i v H' e ⟨hD', sm⟩
    obtain ⟨z, hz, rfl⟩ := refs_at e
    have pz := (hf.crew.at_ z (List.mem_of_getElem? hz)).same sm
    obtain ⟨dz, ez⟩ := pz.1
    refine ⟨rfl, _, rfl, z.a, dz, _, rfl, ez, z.a, dz, _, _, rfl, ez, pfs_name _ _ _ _, _, hD', ?_, ?_, ?_⟩
    · rw [List.length_map, List.length_take]
      exact Nat.lt_of_le_of_lt (Nat.le_trans (Nat.min_le_right _ _) hf.len) (by decide)
    · rw [upd_same, take_snoc hz, List.map_append]
      rfl
    · exact fun b o e => by rw [upd_ne (ne_of_none e hD)]; exact sm _ _ e
  · rintro H' ⟨hD', sm⟩
    rw [refs_len, List.take_length] at hD'
    refine ⟨D, _, rfl, .inl ⟨SqL.of hD', fun r hr0 => ?_⟩⟩
    exact q r _ upd_same (sm.trans (same_new hr0 _))
end
abbrev s_Fence_len : Stmt := (inClass (topS 18) 4)
abbrev N_sc_Fence_len : List Str := ["self"]
abbrev P_Fence_len : List Str := ["self"]
theorem sc_Fence_len : FnScope N_sc_Fence_len P_Fence_len (defScope s_Fence_len) := ⟨rfl, rfl, rfl, by decide +kernel, rfl, by decide +kernel, by decide +kernel⟩
def spFLen (C CF : Addr) : Sp := fun vs H Q _ => ∃ (f : Addr) (L : List Pt), vs = [.ref f] ∧ FcAt C CF H f L ∧ Q (.int L.length) H
section
variable {P : Program} {w : World} {K : PySem.W.Frag} {mg : Str → Option Value} {base : Heap} {C CF : Addr} {f : Addr} {fd : FuncData}
theorem ok_flen (F : Fun K "__len__" "Fence.__len__" s_Fence_len f fd) (B : Blt mg) (U : FTxt K mg CF) : FnOk P w K mg base CX0 1 f fd ["self"] (spFLen C CF) := by
  refine F.ok sc_Fence_len (fun vs H Q E h => ?_) (fun cdv A outer s H vs Q E hr h => ?_)
  · obtain ⟨f, L, rfl, _⟩ := h
    rfl
  obtain ⟨f, L, rfl, hf, q⟩ := h
  obtain ⟨dx, t, d, h1, h2, h3⟩ := hf.ex
  refine ⟨_, (pss_one (ps_ret (pe_callB call_len_seq rfl B.len_ PySem.boot_len (pa_cons (pe_fld (pv 0) rfl) pa_nil)))), ?_⟩
  refine ⟨_, rfl, f, CF, dx, _, _, rfl, h1, U.cl, U.nP, ffs_p _ _, t, _, rfl, .inr (SqT.of h2), ?_⟩
  rw [refs_len]
  exact q
end
/-- isinstance(x, T), T a built-in type, x of a told kind -/
def rIsT (K : PySem.W.Frag) (T : String) (g : PyData → Bool) : List V → Hp → VK → Prop := fun xs H Q => ∃ (x : V) (d : PyData), xs = [x, .ty T] ∧ TyX K H x (.type (kindD d)) ∧ Q (.bl (g d)) H
theorem call_isT {X : Cx} {K : PySem.W.Frag} (e : X.K = K) {T : String} {g : PyData → Bool} (hk : ∀ d, PySem.W.kitOne K (.type (kindD d)) (.type T) = some (g d)) : CallR X (.builtin "isinstance") (rIsT K T g) := by
  subst e
  intro pins s σ H xs us Q I r h
  obtain ⟨x, d, rfl, hd, q⟩ := h
  exact call_isi pins s σ H _ us Q I r ⟨x, .ty T, _, _, g d, rfl, .ty T, hd, hk d, q⟩
/-- a value of the kind of d; a text is d's own -/
def Kin (K : PySem.W.Frag) (H : Hp) (y : V) (d : PyData) : Prop := TyX K H y (.type (kindD d)) ∧ ∀ z, d = .str z → y = .str z
/-- x in fence -/
def inD (L : List Pt) (d : PyData) : Bool := match d with
  | .str z => decide (z ∈ L.map Pt.nm)
  | _ => false
def InF (K : PySem.W.Frag) (C CF : Addr) : Addr → V → Bool → Hp → Prop := fun f y b H => ∃ (L : List Pt) (d : PyData), FcAt C CF H f L ∧ Kin K H y d ∧ b = inD L d
theorem any_str {H : Hp} {y : V} {z : Str} (h : Any H y (.str z)) : y = .str z := by
  obtain ⟨np, n, h⟩ := h
  cases n with
  | zero => cases h; rfl
  | succ n =>
    rcases h with h | ⟨a, xs, ds, _, _, _, _, ed⟩ | ⟨a, xs, ds, _, _, _, ed⟩ | ⟨a, kvs, es, _, _, _, _, ed⟩
    · cases h; rfl
    · cases ed
    · cases ed
    · cases ed
theorem kin_of {K : PySem.W.Frag} {H : Hp} {y : V} {d : PyData} (h : Any H y d) : Kin K H y d := ⟨let ⟨_, _, z⟩ := h; z.ty, fun z e => any_str (by rw [← e]; exact h)⟩
abbrev s_Fence_contains : Stmt := (inClass (topS 18) 5)
abbrev N_sc_Fence_contains : List Str := ["self", "x"]
abbrev P_Fence_contains : List Str := ["self", "x"]
theorem sc_Fence_contains : FnScope N_sc_Fence_contains P_Fence_contains (defScope s_Fence_contains) := ⟨rfl, rfl, rfl, by decide +kernel, rfl, by decide +kernel, by decide +kernel⟩
section
variable {P : Program} {w : World} {K : PySem.W.Frag} {mg : Str → Option Value} {base : Heap} {C CF : Addr} {f : Addr} {fd : FuncData}
theorem valV_is (L : List Pt) (z : Str) : (valV (kvOf L) (Sum.inr z : Key)).isSome = decide (z ∈ L.map Pt.nm) := by
  induction L with
  | nil => rfl
  | cons x r ih =>
    show (valV ((Sum.inr x.nm, V.ref x.a) :: kvOf r) _).isSome = _
    by_cases e : x.nm = z
    · rw [valV_pos (p := ((Sum.inr x.nm : Key), V.ref x.a)) (by rw [e])]
      subst e
      simp
    · rw [valV_neg (p := ((Sum.inr x.nm : Key), V.ref x.a)) (fun q => e (Sum.inr.inj q)), ih]
      have e' : ¬ z = x.nm := fun q => e q.symm
      simp [e']
theorem ok_fin (F : Fun K "__contains__" "Fence.__contains__" s_Fence_contains f fd) (B : Blt mg) (U : FTxt K mg CF) : FnOk P w K mg base CX0 1 f fd P_Fence_contains (spIn (InF K C CF)) := by
  refine F.ok sc_Fence_contains (fun vs H Q E h => ?_) (fun cdv A outer s H vs Q E hr h => ?_)
  · obtain ⟨a, y, b, rfl, _⟩ := h
    rfl
  obtain ⟨f, y, b, rfl, ⟨L, d, hf, hy, rfl⟩, q⟩ := h
  obtain ⟨dx, t, dd, h1, h2, h3⟩ := hf.ex
  have hu := hu_of hr
  refine ⟨_, (pss_one (ps_ret (pe_and (pe_callB (call_isT (K := K) rfl kit_strD) rfl B.isinstance_ (by decide +kernel) (pa_cons (pv 1) (pa_cons (pe_bltn (v := .ty "str") rfl B.str_ (by decide +kernel) rfl) pa_nil))) (pe_one (pe_cmp (pc_din hu (pv 1) (pe_fld (pv 0) rfl)) rfl))))), ?_⟩
  refine ⟨_, rfl, y, d, rfl, hy.1, isStrD d, rfl, ?_⟩
  cases d with
  | str z =>
    obtain rfl := hy.2 z rfl
    refine iteT ?_
    refine ⟨_, rfl, _, rfl, f, CF, dx, _, _, rfl, h1, U.cl, U.nB, ffs_b _ _, dd, _, rfl, DGet.k (k := (Sum.inr z : Key)) h3, ?_⟩
    rw [valV_is]
    exact q H Ext.rfl'
  | none => exact iteF (q H Ext.rfl')
  | bool _ => exact iteF (q H Ext.rfl')
  | int _ => exact iteF (q H Ext.rfl')
  | list _ => exact iteF (q H Ext.rfl')
  | tuple _ => exact iteF (q H Ext.rfl')
  | dict _ => exact iteF (q H Ext.rfl')
end
abbrev s_Fence_getitem : Stmt := (inClass (topS 18) 6)
abbrev N_sc_Fence_getitem : List Str := ["self", "at"]
abbrev P_Fence_getitem : List Str := ["self", "at"]
theorem sc_Fence_getitem : FnScope N_sc_Fence_getitem P_Fence_getitem (defScope s_Fence_getitem) := ⟨rfl, rfl, rfl, by decide +kernel, rfl, by decide +kernel, by decide +kernel⟩
def spFGet (C CF : Addr) : Sp := fun vs H Q _ => ∃ (f : Addr) (L : List Pt) (x : Pt), vs = [.ref f, .str x.nm] ∧ FcAt C CF H f L ∧ x ∈ L ∧ ∀ H', Same H H' → Q (.ref x.a) H'
section
variable {P : Program} {w : World} {K : PySem.W.Frag} {mg : Str → Option Value} {base : Heap} {C CF : Addr} {f : Addr} {fd : FuncData}
theorem kin_str (K : PySem.W.Frag) (H : Hp) (z : Str) : Kin K H (.str z) (.str z) := ⟨.base (.str z), fun y e => by cases e; rfl⟩
theorem ok_fget (F : Fun K "__getitem__" "Fence.__getitem__" s_Fence_getitem f fd) (B : Blt mg) (U : FTxt K mg CF) (hIn : OwnR P w K mg base CF "__contains__" 1 P_Fence_contains (spIn (InF K C CF))) : FnOk P w K mg base CX0 2 f fd P_Fence_getitem (spFGet C CF) := by
  refine F.ok sc_Fence_getitem (fun vs H Q E h => ?_) (fun cdv A outer s H vs Q E hr h => ?_)
  · obtain ⟨a, L, x, rfl, _⟩ := h
    rfl
  obtain ⟨f, L, x, rfl, hf, hx, q⟩ := h
  obtain ⟨dx, t, dd, h1, h2, h3⟩ := hf.ex
  have hu := hu_of hr
  refine ⟨_, (pss_cons (ps_if (pt_cmpR (op_notInO hIn (hr.mono (by decide))) (pv 1) (pv 0) (by rfl)) (pss_one ps_never) pss_nil) (pss_one (ps_ret (pe_dget hu (pe_fld (pv 0) rfl) (pv 1) (fun _ _ => rfl))))), ?_⟩
  refine ⟨_, rfl, _, rfl, f, dx, _, true, rfl, h1, ⟨L, _, hf, kin_str K H x.nm, ?_⟩, fun H' e => ⟨false, rfl, iteF ?_⟩⟩
  · exact (decide_eq_true (List.mem_map_of_mem hx)).symm
  have hf' := hf.same (H' := H') fun b o z => e b o z
  have v := DGet.k (k := (Sum.inr x.nm : Key)) (e _ _ h3)
  rw [valV_at hf.crew.nd hx] at v
  exact ⟨_, rfl, f, CF, dx, _, _, rfl, e _ _ h1, U.cl, U.nB, ffs_b _ _, _, rfl, dd, _, rfl, v, q H' fun b o z => e b o z⟩
end
end Ur
/-! FC: == and != of painters and of fences. -/
namespace Ur
open PySem PySem.Spec PyProof.Rows L2
/-! ### isinstance of an own class, both answers -/
structure KitC (K : PySem.W.Frag) (C : Addr) : Prop where
  no : ∀ d : PyData, PySem.W.kitOne K (.type (kindD d)) (.ref C) = some false
/-- a value of another kind than an instance -/
def Oth (K : PySem.W.Frag) (H : Hp) (y : V) : Prop := ∃ d : PyData, TyX K H y (.type (kindD d)) ∧ Knd H y (.type (kindD d))
def rIsO (K : PySem.W.Frag) (C : Addr) : List V → Hp → VK → Prop := fun xs H Q => ∃ (y : V) (b : Bool), xs = [y, .ref C] ∧ ((∃ a dx fs, y = .ref a ∧ H a = some (.ins C dx fs) ∧ b = true) ∨ Oth K H y ∧ b = false) ∧ Q (.bl b) H
theorem call_isO {X : Cx} {K : PySem.W.Frag} (ek : X.K = K) {C : Addr} (c : C8.InsC K C) (z : KitC K C) : CallR X (.builtin "isinstance") (rIsO K C) := by
  subst ek
  intro pins s σ H xs us Q I r h
  obtain ⟨y, b, rfl, h, q⟩ := h
  rcases h with ⟨a, dx, fs, rfl, ha, rfl⟩ | ⟨⟨d, hd, _⟩, rfl⟩
  · exact C8.call_isC c pins s σ H _ us Q I r ⟨a, dx, fs, rfl, ha, q⟩
  · exact call_isi pins s σ H _ us Q I r ⟨y, .ref C, _, _, false, rfl, .own C, hd, z.no d, q⟩
theorem DqN.knd {H : Hp} {np : Addr} : ∀ {n : Nat} {v : V} {d : PyData}, DqN H np n v d → Knd H v (.type (kindD d))
  | 0, _, _, h => by cases h <;> constructor
  | n + 1, v, d, h => by
    rcases h with h | ⟨a, xs, ds, rfl, ha, ns, ps, rfl⟩ | ⟨a, xs, ds, rfl, ha, ps, rfl⟩ | ⟨a, kvs, es, rfl, na, ha, ps, rfl⟩
    · cases h <;> constructor
    · exact .lst ha
    · exact .tup ha
    · exact .dK ha
theorem notFirst_ty {K : PySem.W.Frag} {C : Addr} (d : PyData) : PySem.W.notFirst K C (.type (kindD d)) = true := by
  have key : ∀ (T : String) (l : List String), fastBuiltinMro T = some (l.map Value.type) → PySem.W.notFirst K C (.type T) = true := fun T l e => by
    have z : PySem.W.subIn K (.type T) (.ref C) = some false := by
      show (fastBuiltinMro T).map (·.contains (.ref C)) = some false
      rw [e]
      show some ((l.map Value.type).contains (.ref C)) = some false
      congr 1
      induction l with
      | nil => rfl
      | cons x r ih =>
        rw [List.map_cons, List.contains_cons]
        have h : (Value.ref C == Value.type x) = false := Bool.eq_false_iff.mpr fun q => by cases beq_iff_eq.mp q
        rw [h]
        clear e
        induction r with
        | nil => rfl
        | cons y r ih2 =>
          rw [List.map_cons, List.contains_cons]
          have h2 : (Value.ref C == Value.type y) = false := Bool.eq_false_iff.mpr fun q => by cases beq_iff_eq.mp q
          rw [h2]
          simp
    unfold PySem.W.notFirst
    rw [z]
    simp
  cases d with
  | none => exact key "NoneType" ["NoneType", "object"] (by decide +kernel)
  | bool _ => exact key "bool" ["bool", "int", "object"] (by decide +kernel)
  | int _ => exact key "int" ["int", "object"] (by decide +kernel)
  | str _ => exact key "str" ["str", "object"] (by decide +kernel)
  | list _ => exact key "list" ["list", "object"] (by decide +kernel)
  | tuple _ => exact key "tuple" ["tuple", "object"] (by decide +kernel)
  | dict _ => exact key "dict" ["dict", "object"] (by decide +kernel)
theorem sub_ty_no {K : PySem.W.Frag} {C : Addr} (d : PyData) : PySem.W.subIn K (.type (kindD d)) (.ref C) = some false := by
  have z := notFirst_ty (K := K) (C := C) d
  unfold PySem.W.notFirst at z
  rcases Bool.or_eq_true_iff.mp z with e | e
  · cases beq_iff_eq.mp e
  · exact beq_iff_eq.mp e
theorem kitC_of {K : PySem.W.Frag} {C : Addr} (i : PySem.W.isClsIn K C = true) (t : PySem.W.typeIn K (.ref C) = some (.type "type")) : KitC K C := ⟨fun d => by
  have e2 : ((PySem.W.clsIn K C).isSome && PySem.W.typeIn K (.ref C) == some (.type "type")) = true := by
    have i2 : (PySem.W.clsIn K C).isSome = true := i
    rw [i2, t] <;> rfl
  show (if (Value.type (kindD d) == Value.ref C) = true then some true else if ((PySem.W.clsIn K C).isSome && PySem.W.typeIn K (.ref C) == some (.type "type")) = true then PySem.W.subIn K (.type (kindD d)) (.ref C) else none) = some false
  rw [if_neg (fun z => by cases beq_iff_eq.mp z), if_pos e2]
  exact sub_ty_no d⟩
theorem notFirst_own {K : PySem.W.Frag} {C : Addr} : PySem.W.notFirst K C (.ref C) = true := by simp [PySem.W.notFirst]
theorem Any.ext {H H' : Hp} {v : V} {d : PyData} (h : Any H v d) (e : Ext H H') : Any H' v d := let ⟨np, n, z⟩ := h; ⟨np, n, DqN.same (fun b o q => e b o q) z⟩
/-! ### painters -/
def Pt.parts (x : Pt) : Str × Int × Int × Int := (x.nm, x.d, x.p, x.s)
def PnX (C : Addr) (H : Hp) (x : Pt) : Prop := PnAt C H x.a x.nm x.d x.p x.s
theorem PnX.ext {C : Addr} {H H' : Hp} {x : Pt} (h : PnX C H x) (e : Ext H H') : PnX C H' x := let ⟨dx, z⟩ := h; ⟨dx, e _ _ z⟩
theorem PnX.same_parts {C : Addr} {H : Hp} {x z : Pt} (h : PnX C H x) (h2 : PnX C H z) (e : x.a = z.a) : x.parts = z.parts := by
  obtain ⟨d1, e1⟩ := h
  obtain ⟨d2, e2⟩ := h2
  rw [e] at e1
  rw [e1] at e2
  have e3 := HO.ins.inj (Option.some.inj e2)
  have e4 : pfs x.nm x.d x.p x.s = pfs z.nm z.d z.p z.s := e3.2.2
  unfold pfs at e4
  simp only [List.cons.injEq, Prod.mk.injEq, V.str.injEq, V.int.injEq, and_true, true_and] at e4
  unfold Pt.parts
  rw [e4.1, e4.2.1, e4.2.2.1, e4.2.2.2]
def SaysP (K : PySem.W.Frag) (C : Addr) : Says := fun a y b H => ∃ x : Pt, x.a = a ∧ PnX C H x ∧ ((∃ z : Pt, y = .ref z.a ∧ PnX C H z ∧ b = decide (x.parts = z.parts)) ∨ Oth K H y ∧ b = false)
abbrev s_Painter_eq : Stmt := (inClass (topS 15) 14)
abbrev N_sc_Painter_eq : List Str := ["self", "other"]
abbrev P_Painter_eq : List Str := ["self", "other"]
theorem sc_Painter_eq : FnScope N_sc_Painter_eq P_Painter_eq (defScope s_Painter_eq) := ⟨rfl, rfl, rfl, by decide +kernel, rfl, by decide +kernel, by decide +kernel⟩
section
variable {P : Program} {w : World} {K : PySem.W.Frag} {mg : Str → Option Value} {base : Heap} {C : Addr} {f : Addr} {fd : FuncData}
theorem bl_of {b c : Bool} {Q : VK} {H : Hp} (q : Q (.bl b) H) (e : b = c) : Q (.bl c) H := e ▸ q
theorem ok_eqB (F : Fun K "__eq__" "Painter.__eq__" s_Painter_eq f fd) (B : Blt mg) (T : PTxt K mg C) (hI : C8.InsC K C) (hK : KitC K C) : FnOk P w K mg base CX0 1 f fd P_Painter_eq (spEqB (SaysP K C)) := by
  refine F.ok sc_Painter_eq (fun vs H Q E h => ?_) (fun cdv A outer s H vs Q E hr h => ?_)
  · obtain ⟨a, y, b, rfl, _⟩ := h
    rfl
  obtain ⟨a, y, b, rfl, ⟨x, rfl, ⟨dx, hx⟩, hy⟩, q⟩ := h
  refine ⟨_, (pss_one (ps_ret (pe_and (pe_callB (call_isO (K := K) rfl hI hK) rfl B.isinstance_ (by decide +kernel) (pa_cons (pv 1) (pa_cons (pe_glob (v := V.ref C) rfl T.mgP rfl) pa_nil))) (pe_and (pe_cmpR op_eq (pe_fld (pv 0) rfl) (pe_fld (pv 1) rfl) (nomark _)) (pe_and (pe_cmpR op_eq (pe_fld (pv 0) rfl) (pe_fld (pv 1) rfl) (nomark _)) (pe_and (pe_cmpR op_eq (pe_fld (pv 0) rfl) (pe_fld (pv 1) rfl) (nomark _)) (pe_one (pe_cmpR op_eq (pe_fld (pv 0) rfl) (pe_fld (pv 1) rfl) (nomark _))))))))), ?_⟩
  have q := q H Ext.rfl'
  rcases hy with ⟨z, rfl, ⟨dz, hz⟩, rfl⟩ | ⟨hd, rfl⟩
  · refine ⟨_, rfl, _, true, rfl, .inl ⟨z.a, dz, _, rfl, hz, rfl⟩, true, rfl, iteT ?_⟩
    refine ⟨_, rfl, x.a, C, dx, _, _, rfl, hx, T.cl, T.nN, pfs_name _ _ _ _, _, rfl, z.a, C, dz, _, _, rfl, hz, T.cl, T.nN, pfs_name _ _ _ _, rfl, ?_⟩
    refine ⟨_, rfl, ?_⟩
    by_cases e1 : ¬ x.nm = z.nm
    · exact iteDF (fun e => e1 (V.str.inj e)) (bl_of q (decide_eq_false fun e => e1 (congrArg (·.1) e)))
    have e1 : x.nm = z.nm := Decidable.not_not.mp e1
    refine iteDT (by rw [e1]) ?_
    refine ⟨_, rfl, x.a, C, dx, _, _, rfl, hx, T.cl, T.nD, pfs_day _ _ _ _, _, rfl, z.a, C, dz, _, _, rfl, hz, T.cl, T.nD, pfs_day _ _ _ _, rfl, ?_⟩
    refine ⟨_, rfl, ?_⟩
    by_cases e2 : ¬ x.d = z.d
    · exact iteDF (fun e => e2 (V.int.inj e)) (bl_of q (decide_eq_false fun e => e2 (congrArg (·.2.1) e)))
    have e2 : x.d = z.d := Decidable.not_not.mp e2
    refine iteDT (by rw [e2]) ?_
    refine ⟨_, rfl, x.a, C, dx, _, _, rfl, hx, T.cl, T.nP, pfs_post _ _ _ _, _, rfl, z.a, C, dz, _, _, rfl, hz, T.cl, T.nP, pfs_post _ _ _ _, rfl, ?_⟩
    refine ⟨_, rfl, ?_⟩
    by_cases e3 : ¬ x.p = z.p
    · exact iteDF (fun e => e3 (V.int.inj e)) (bl_of q (decide_eq_false fun e => e3 (congrArg (·.2.2.1) e)))
    have e3 : x.p = z.p := Decidable.not_not.mp e3
    refine iteDT (by rw [e3]) ?_
    refine ⟨_, rfl, x.a, C, dx, _, _, rfl, hx, T.cl, T.nS, pfs_stride _ _ _ _, _, rfl, z.a, C, dz, _, _, rfl, hz, T.cl, T.nS, pfs_stride _ _ _ _, rfl, ?_⟩
    refine bl_of q ?_
    by_cases e4 : x.s = z.s
    · rw [decide_eq_true (show V.int x.s = V.int z.s by rw [e4]), decide_eq_true (show x.parts = z.parts by unfold Pt.parts; rw [e1, e2, e3, e4])]
    · rw [decide_eq_false (show ¬ V.int x.s = V.int z.s from fun e => e4 (V.int.inj e)), decide_eq_false (show ¬ x.parts = z.parts from fun e => e4 (congrArg (·.2.2.2) e))]
  · exact ⟨_, rfl, _, false, rfl, .inr ⟨hd, rfl⟩, false, rfl, iteF q⟩
end
/-- two painters, as items -/
def DPt (C : Addr) : EqvB := fun u v b H => ∃ x z : Pt, u = .ref x.a ∧ v = .ref z.a ∧ PnX C H x ∧ PnX C H z ∧ b = decide (x.parts = z.parts)
theorem mon_pt {C : Addr} : MonB (DPt C) := fun u v b H H' e h => let ⟨x, z, h1, h2, h3, h4, h5⟩ := h; ⟨x, z, h1, h2, h3.ext e, h4.ext e, h5⟩
theorem RcB.imp {X : Cx} {n : Nat} {op : CmpOp} {g : Bool → Bool} {D D' : EqvB} (h : RcB X n op g D) (f : ∀ x y b H, D' x y b H → D x y b H) : RcB X n op g D' := fun A pins s σ H x y b u v sb I rx ry d => h A pins s σ H x y b u v sb I rx ry (f _ _ _ _ d)
section
variable {X : Cx} {C : Addr}
theorem pt_own {x y : V} {b : Bool} {H : Hp} (h : DPt C x y b H) : DOwn X.K C (SaysP X.K C) x y b H := by
  obtain ⟨x, z, rfl, rfl, h3, h4, h5⟩ := h
  obtain ⟨dx, e⟩ := id h3
  obtain ⟨dz, e'⟩ := id h4
  exact ⟨x.a, dx, _, .ref C, rfl, e, .ins e', notFirst_own, x, rfl, h3, .inl ⟨z, rfl, h4, h5⟩⟩
theorem rcB_pt (h : EqC X.prog X.w X.K X.mg X.base C 1 (SaysP X.K C)) : RcB X 1 .Eq id (DPt C) := (rcB_own h).imp fun _ _ _ _ d => pt_own d
theorem rcB_ptNe (h : EqC X.prog X.w X.K X.mg X.base C 1 (SaysP X.K C)) : RcB X 2 .NotEq (!·) (DPt C) := (rcB_ownNe h).imp fun _ _ _ _ d => pt_own d
theorem eqB_pt (h : EqC X.prog X.w X.K X.mg X.base C 1 (SaysP X.K C)) : EqB X 1 (DPt C) := (rcB_pt h).eqB (fun x y b H d => let ⟨x, z, h1, h2, _⟩ := d; ⟨_, _, h1, h2⟩) fun a b H d => by
  obtain ⟨x, z, h1, h2, h3, h4, rfl⟩ := d
  exact decide_eq_true (h3.same_parts h4 (by rw [← V.ref.inj h1, ← V.ref.inj h2]))
end
/-! ### tuples of painters -/
def partsOf (L : List Pt) : List (Str × Int × Int × Int) := L.map Pt.parts
def eAt (L M : List Pt) (i : Nat) : Bool := match L[i]?, M[i]? with
  | some x, some z => decide (x.parts = z.parts)
  | _, _ => true
theorem allB_parts (L M : List Pt) : allB (eAt L M) L.length M.length = decide (partsOf L = partsOf M) := by
  have key : allB (eAt L M) L.length M.length = true ↔ partsOf L = partsOf M := by
    unfold allB
    rw [Bool.and_eq_true, List.all_eq_true, beq_iff_eq]
    constructor
    · rintro ⟨h1, h2⟩
      apply List.ext_getElem?
      intro i
      unfold partsOf
      rw [List.getElem?_map, List.getElem?_map]
      by_cases hi : i < L.length
      · have hj : i < M.length := h2 ▸ hi
        have z := h1 i (by rw [List.mem_range]; omega)
        unfold eAt at z
        rw [List.getElem?_eq_getElem hi, List.getElem?_eq_getElem hj] at z ⊢
        have z := of_decide_eq_true z
        simp [z]
      · rw [List.getElem?_eq_none (by omega), List.getElem?_eq_none (by omega)]
    · intro h
      have hl : L.length = M.length := by
        have := congrArg List.length h
        unfold partsOf at this
        rw [List.length_map, List.length_map] at this
        exact this
      refine ⟨fun i hi => ?_, hl⟩
      rw [List.mem_range] at hi
      have h1 : i < L.length := by omega
      have h2 : i < M.length := by omega
      have z := congrArg (·[i]?) h
      unfold partsOf at z
      simp only [List.getElem?_map, List.getElem?_eq_getElem h1, List.getElem?_eq_getElem h2, Option.map_some] at z
      unfold eAt
      rw [List.getElem?_eq_getElem h1, List.getElem?_eq_getElem h2]
      exact decide_eq_true (Option.some.inj z)
  cases e : allB (eAt L M) L.length M.length with
  | true => exact (decide_eq_true (key.mp e)).symm
  | false => exact (decide_eq_false fun h => by rw [key.mpr h] at e; cases e).symm
theorem prs_parts {C : Addr} {H : Hp} {L M : List Pt} (h1 : ∀ x ∈ L, PnX C H x) (h2 : ∀ x ∈ M, PnX C H x) : PrsB (DPt C) (refsOf L) (refsOf M) (eAt L M) H := by
  intro i u v e1 e2
  obtain ⟨x, hx, rfl⟩ := refs_at e1
  obtain ⟨z, hz, rfl⟩ := refs_at e2
  refine ⟨x, z, rfl, rfl, h1 x (List.mem_of_getElem? hx), h2 z (List.mem_of_getElem? hz), ?_⟩
  unfold eAt
  rw [hx, hz]
/-- two tuples of painters -/
theorem tup_parts {K : PySem.W.Frag} {C : Addr} {H : Hp} {L M : List Pt} {a c : Addr} (h1 : ∀ x ∈ L, PnX C H x) (h2 : ∀ x ∈ M, PnX C H x) (ha : SqT K H a (refsOf L)) (hc : SqT K H c (refsOf M)) : DTupB K (DPt C) (.ref a) (.ref c) (decide (partsOf L = partsOf M)) H :=
  ⟨a, c, _, _, eAt L M, rfl, rfl, ha, hc, prs_parts h1 h2, by rw [refs_len, refs_len, allB_parts]⟩
theorem Crew.pn {C : Addr} {H : Hp} {L : List Pt} (h : Crew C H L) : ∀ x ∈ L, PnX C H x := fun x hx => (h.at_ x hx).1
/-! ### fences -/
def SaysF (K : PySem.W.Frag) (C CF : Addr) : Says := fun f y b H => ∃ L, FcAt C CF H f L ∧ ((∃ g M, y = .ref g ∧ FcAt C CF H g M ∧ b = decide (partsOf L = partsOf M)) ∨ Oth K H y ∧ b = false)
abbrev s_Fence_eq : Stmt := (inClass (topS 18) 8)
abbrev N_sc_Fence_eq : List Str := ["self", "other"]
abbrev P_Fence_eq : List Str := ["self", "other"]
theorem sc_Fence_eq : FnScope N_sc_Fence_eq P_Fence_eq (defScope s_Fence_eq) := ⟨rfl, rfl, rfl, by decide +kernel, rfl, by decide +kernel, by decide +kernel⟩
section
variable {P : Program} {w : World} {K : PySem.W.Frag} {mg : Str → Option Value} {base : Heap} {C CF : Addr} {f : Addr} {fd : FuncData}
theorem ok_feqB (F : Fun K "__eq__" "Fence.__eq__" s_Fence_eq f fd) (B : Blt mg) (U : FTxt K mg CF) (hI : C8.InsC K CF) (hK : KitC K CF) (hEq : EqC P w K mg base C 1 (SaysP K C)) : FnOk P w K mg base CX0 3 f fd P_Fence_eq (spEqB (SaysF K C CF)) := by
  refine F.ok sc_Fence_eq (fun vs H Q E h => ?_) (fun cdv A outer s H vs Q E hr h => ?_)
  · obtain ⟨a, y, b, rfl, _⟩ := h
    rfl
  obtain ⟨f, y, b, rfl, ⟨L, hf, hy⟩, q⟩ := h
  obtain ⟨dx, t, dd, h1, h2, h3⟩ := hf.ex
  refine ⟨_, (pss_one (ps_ret (pe_and (pe_callB (call_isO (K := K) rfl hI hK) rfl B.isinstance_ (by decide +kernel) (pa_cons (pv 1) (pa_cons (pe_glob (v := V.ref CF) rfl U.mgF rfl) pa_nil))) (pe_one (pe_cmpR (op_rcB (rcB_tup mon_pt (eqB_pt hEq)) (hr.mono (by decide))) (pe_fld (pv 0) rfl) (pe_fld (pv 1) rfl) (nomark _)))))), ?_⟩
  rcases hy with ⟨g, M, rfl, hg, rfl⟩ | ⟨hd, rfl⟩
  · obtain ⟨dy, t', dd', g1, g2, g3⟩ := hg.ex
    refine ⟨_, rfl, _, true, rfl, .inl ⟨g, dy, _, rfl, g1, rfl⟩, true, rfl, iteT ?_⟩
    exact ⟨_, rfl, f, CF, dx, _, _, rfl, h1, U.cl, U.nP, ffs_p _ _, _, rfl, g, CF, dy, _, _, rfl, g1, U.cl, U.nP, ffs_p _ _, _, tup_parts hf.crew.pn hg.crew.pn (.inl (.inl h2)) (.inl (.inl g2)), fun H' e => q H' e⟩
  · exact ⟨_, rfl, _, false, rfl, .inr ⟨hd, rfl⟩, false, rfl, iteF (q H Ext.rfl')⟩
end
/-- a fence and another one, or a value of another kind -/
def DFc (K : PySem.W.Frag) (C CF : Addr) : EqvB := fun u v b H => ∃ f, u = .ref f ∧ SaysF K C CF f v b H
section
variable {X : Cx} {C CF : Addr}
theorem fc_own {x y : V} {b : Bool} {H : Hp} (h : DFc X.K C CF x y b H) : DOwn X.K CF (SaysF X.K C CF) x y b H := by
  obtain ⟨f, rfl, L, hf, hy⟩ := h
  obtain ⟨dx, t, dd, h1, h2, h3⟩ := hf.ex
  rcases hy with ⟨g, M, rfl, hg, rfl⟩ | ⟨hd, rfl⟩
  · obtain ⟨dy, t', dd', g1, g2, g3⟩ := hg.ex
    exact ⟨f, dx, _, .ref CF, rfl, h1, .ins g1, notFirst_own, L, hf, .inl ⟨g, M, rfl, hg, rfl⟩⟩
  · obtain ⟨d, hd1, hd2⟩ := id hd
    exact ⟨f, dx, _, _, rfl, h1, hd2, notFirst_ty d, L, hf, .inr ⟨hd, rfl⟩⟩
theorem rcB_fc (h : EqC X.prog X.w X.K X.mg X.base CF 3 (SaysF X.K C CF)) : RcB X 3 .Eq id (DFc X.K C CF) := (rcB_own h).imp fun _ _ _ _ d => fc_own d
theorem rcB_fcNe (h : EqC X.prog X.w X.K X.mg X.base CF 3 (SaysF X.K C CF)) : RcB X 4 .NotEq (!·) (DFc X.K C CF) := (rcB_ownNe h).imp fun _ _ _ _ d => fc_own d
end
end Ur
/-! FD: the laws' own fences: _law_painter, _law_fence, _law_some, _law_odd. -/
namespace Ur
open PySem PySem.Spec PyProof.Rows L2
/-- one row's values -/
abbrev Quad := Str × Int × Int × Int
def quadV (q : Quad) : List V := [.str q.1, .int q.2.1, .int q.2.2.1, .int q.2.2.2]
def QuadOk (q : Quad) : Prop := PartOk q.1 q.2.1 q.2.2.1 q.2.2.2
/-- rows of painters that can stand in one fence -/
structure Team (H : Hp) (ts : List Addr) (qs : List Quad) : Prop where
  len : ts.length = qs.length
  at_ : ∀ (j : Nat) (t : Addr) (q : Quad), ts[j]? = some t → qs[j]? = some q → H t = some (.tup (quadV q))
  ok : ∀ q ∈ qs, QuadOk q
  nd : (qs.map (·.1)).Nodup
  few : qs.length ≤ 40
section
variable {H H' : Hp} {ts : List Addr} {qs : List Quad} {p F : Addr} {kvs : List (Key × V)} {xs ys : List V}
theorem Team.same (h : Team H ts qs) (s : Same H H') : Team H' ts qs := ⟨h.len, fun j t q a b => s _ _ (h.at_ j t q a b), h.ok, h.nd, h.few⟩
theorem Team.keep (h : Team H ts qs) (k : Keep p H H') (hp : H p = some (.dK kvs)) : Team H' ts qs := ⟨h.len, fun j t q a b => k _ _ (h.at_ j t q a b) (ne_of (h.at_ j t q a b) hp (by intro z; cases z)), h.ok, h.nd, h.few⟩
theorem Team.updL (h : Team H ts qs) (hF : H F = some (.lst xs)) : Team (upd H F (.lst ys)) ts qs := ⟨h.len, fun j t q a b => by rw [upd_ne (ne_of (h.at_ j t q a b) hF (by intro z; cases z))]; exact h.at_ j t q a b, h.ok, h.nd, h.few⟩
theorem Team.nil : Team H [] [] := ⟨rfl, fun j t q e => by simp at e, (fun q h => nomatch h), List.nodup_nil, Nat.zero_le _⟩
theorem team_of {R : Int → Int → Int → Prop} {ss : List Str} (hR : ∀ d p s, R d p s → AnyR d p s) (hl : ts.length = ss.length) (h : RowsN H ts ss R) : ∃ qs : List Quad, qs.map (·.1) = ss ∧ (∀ q ∈ qs, (NameOk q.1 → QuadOk q) ∧ R q.2.1 q.2.2.1 q.2.2.2) ∧ ∀ (j : Nat) (t : Addr) (q : Quad), ts[j]? = some t → qs[j]? = some q → H t = some (.tup (quadV q)) := by
  induction ss generalizing ts with
  | nil => exact ⟨[], rfl, (fun q h => nomatch h), fun j t q _ e => by simp at e⟩
  | cons z r ih =>
    cases ts with
    | nil => cases hl
    | cons t us =>
      obtain ⟨qs, e1, e2, e3⟩ := ih (Nat.succ.inj hl) fun j t z a b => h (j + 1) t z (by simpa using a) (by simpa using b)
      obtain ⟨d, p, s, e, ok, q⟩ := h 0 t z rfl rfl
      refine ⟨(z, d, p, s) :: qs, by rw [List.map_cons, e1], fun x hx => ?_, fun j u x a b => ?_⟩
      · rcases List.mem_cons.mp hx with rfl | hx
        · exact ⟨fun ok => (hR _ _ _ q).ok ok, q⟩
        · exact e2 x hx
      · cases j with
        | zero =>
          obtain rfl := Option.some.inj a
          obtain rfl := Option.some.inj b
          exact e
        | succ j => exact e3 j u x (by simpa using a) (by simpa using b)
theorem team_mk {R : Int → Int → Int → Prop} {ss : List Str} (hR : ∀ d p s, R d p s → AnyR d p s) (hl : ts.length = ss.length) (h : RowsN H ts ss R) (ok : ∀ z ∈ ss, NameOk z) (nd : ss.Nodup) (few : ts.length ≤ 40) : ∃ qs : List Quad, Team H ts qs ∧ ∀ q ∈ qs, R q.2.1 q.2.2.1 q.2.2.2 := by
  obtain ⟨qs, e1, e2, e3⟩ := team_of hR hl h
  have el : qs.length = ss.length := by rw [← e1, List.length_map]
  exact ⟨qs, ⟨by omega, e3, fun q hq => (e2 q hq).1 (ok _ (by rw [← e1]; exact List.mem_map_of_mem hq)), by rw [e1]; exact nd, by omega⟩, fun q hq => (e2 q hq).2⟩
theorem Team.get (h : Team H ts qs) {j : Nat} {v : V} (e : (ts.map V.ref)[j]? = some v) : ∃ t q, v = .ref t ∧ ts[j]? = some t ∧ qs[j]? = some q ∧ H t = some (.tup (quadV q)) ∧ QuadOk q := by
  rw [List.getElem?_map] at e
  cases e1 : ts[j]? with
  | none => rw [e1] at e; cases e
  | some t =>
    rw [e1] at e
    have hj : j < qs.length := by rw [← h.len]; exact (List.getElem?_eq_some_iff.mp e1).1
    exact ⟨t, qs[j], (Option.some.inj e).symm, rfl, List.getElem?_eq_getElem hj, h.at_ j t _ e1 (List.getElem?_eq_getElem hj), h.ok _ (List.getElem_mem hj)⟩
end
section
variable {P : Program} {w : World} {K : PySem.W.Frag} {mg : Str → Option Value} {base : Heap} {C CF : Addr}
theorem partsOf_names (L : List Pt) : (partsOf L).map (·.1) = L.map Pt.nm := by unfold partsOf; rw [List.map_map]; rfl
theorem crew_snoc {C : Addr} {H : Hp} {L : List Pt} {x : Pt} {qs : List Quad} {i : Nat} {q : Quad} (cr : Crew C H L) (e : partsOf L = qs.take i) (hq : qs[i]? = some q) (hx : PnAt C H x.a x.nm x.d x.p x.s) (ex : x.parts = q) (ok : ∀ q ∈ qs, QuadOk q) (nd : (qs.map (·.1)).Nodup) (few : qs.length ≤ 40) :
    Crew C H (L ++ [x]) ∧ partsOf (L ++ [x]) = qs.take (i + 1) := by
  have hp : partsOf (L ++ [x]) = qs.take (i + 1) := by
    rw [take_snoc hq, ← e, ← ex]
    unfold partsOf
    rw [List.map_append]
    rfl
  refine ⟨⟨fun y hy => ?_, ?_, ?_⟩, hp⟩
  · rcases List.mem_append.mp hy with hy | hy
    · exact cr.at_ y hy
    · obtain rfl := List.mem_singleton.mp hy
      have o := ok q (List.mem_of_getElem? hq)
      rw [← ex] at o
      exact ⟨hx, o⟩
  · rw [← partsOf_names, hp, List.map_take]
    exact nd.sublist (List.take_sublist _ _)
  · have z := congrArg List.length hp
    unfold partsOf at z
    rw [List.length_map, List.length_take] at z
    omega
end
/-- days and posts well within the bounds -/
def MidR (d p s : Int) : Prop := AnyR d p s ∧ d ≤ 3 * 10 ^ 29 ∧ -(3 * 10 ^ 29) ≤ p ∧ p ≤ 3 * 10 ^ 29
theorem small_mid {d p s : Int} (h : SmallR d p s) : MidR d p s := by unfold SmallR at h; unfold MidR AnyR; omega
theorem aim_mid {d p s : Int} (h : AimR d p s) : MidR d p s := by unfold AimR at h; unfold MidR AnyR; omega
theorem line_mid {d p s : Int} (h : LineR d p s) : MidR d p s := by unfold LineR at h; unfold MidR AnyR; omega
end Ur
/-! FS: what a fence shows: _law_shows. -/
namespace Ur
open PySem PySem.Spec PyProof.Rows L2
/-! ### what can be shown, with short leaves -/
structure ShB (d : PyData) (n k : Nat) : Prop where
  sh : d.showable = true
  nd : d.hasDict = false
  dp : d.depth ≤ k
  lv : d.leavesShort 110 = true
  wt : d.weight ≤ n
structure ShBAll (ds : List PyData) (n k : Nat) : Prop where
  sh : PyData.showableAll ds = true
  nd : PyData.hasDictAll ds = false
  dp : PyData.depthAll ds ≤ k
  lv : PyData.leavesShortAll 110 ds = true
  wt : PyData.weightAll ds ≤ n
theorem ShB.mono {d : PyData} {n k m j : Nat} (s : ShB d n k) (h1 : n ≤ m) (h2 : k ≤ j) : ShB d m j := ⟨s.sh, s.nd, Nat.le_trans s.dp h2, s.lv, Nat.le_trans s.wt h1⟩
theorem ShB.int {i : Int} {b : Nat} (h : i.natAbs < 2 ^ b) (h0 : 0 < b) (h1 : b ≤ 105) : ShB (.int i) b 0 := by
  have z := PySem.Flt.log2_lt_of h0 h
  refine ⟨decide_eq_true (by omega), rfl, Nat.le_refl _, decide_eq_true ?_, ?_⟩
  · have e : PyData.shown (.int i) = Str.ofString (toString i) := by simp only [PyData.shown]
    rw [e, PySem.ofString_length]
    exact Nat.le_trans (PySem.int_text_length_le (k := b) h0 z) (by omega)
  · show (if i == 0 then 0 else i.natAbs.log2 + 1) ≤ b
    split <;> omega
theorem ShB.str {x : Str} (h : ∀ c ∈ x.cps.toList, c < 16 ^ 8) : ShB (.str x) x.length 0 := ⟨rfl, rfl, Nat.le_refl _, List.all_eq_true.mpr fun c hc => decide_eq_true (h c hc), Nat.le_refl _⟩
theorem ShB.non : ShB .none 0 0 := ⟨rfl, rfl, Nat.le_refl _, rfl, Nat.le_refl _⟩
theorem ShBAll.nil : ShBAll [] 0 0 := ⟨rfl, rfl, Nat.le_refl _, rfl, Nat.le_refl _⟩
theorem ShBAll.cons {d : PyData} {ds : List PyData} {n k m j : Nat} (a : ShB d n k) (b : ShBAll ds m j) : ShBAll (d :: ds) (n + 1 + m) (max k j) := by
  refine ⟨?_, ?_, ?_, ?_, ?_⟩
  · show (d.showable && PyData.showableAll ds) = true
    rw [a.sh, b.sh]; rfl
  · show (d.hasDict || PyData.hasDictAll ds) = false
    rw [a.nd, b.nd]; rfl
  · show max d.depth (PyData.depthAll ds) ≤ max k j
    have := a.dp; have := b.dp; omega
  · show (d.leavesShort 110 && PyData.leavesShortAll 110 ds) = true
    rw [a.lv, b.lv]; rfl
  · show d.weight + 1 + PyData.weightAll ds ≤ n + 1 + m
    have := a.wt; have := b.wt; omega
theorem ShBAll.lst {ds : List PyData} {n k : Nat} (a : ShBAll ds n k) : ShB (.list ds) n (k + 1) := ⟨a.sh, a.nd, Nat.succ_le_succ a.dp, a.lv, a.wt⟩
theorem ShBAll.tup {ds : List PyData} {n k : Nat} (a : ShBAll ds n k) : ShB (.tuple ds) n (k + 1) := ⟨a.sh, a.nd, Nat.succ_le_succ a.dp, a.lv, a.wt⟩
theorem ShBAll.all {ds : List PyData} {n k : Nat} (h : ∀ d ∈ ds, ShB d n k) : ShBAll ds ((n + 1) * ds.length) k := by
  induction ds with
  | nil => exact ⟨rfl, rfl, Nat.zero_le _, rfl, Nat.le_refl _⟩
  | cons d r ih =>
    have a := h d List.mem_cons_self
    have b := ih fun x hx => h x (List.mem_cons_of_mem _ hx)
    have c := ShBAll.cons a b
    refine ⟨c.sh, c.nd, by have := c.dp; omega, c.lv, Nat.le_trans c.wt ?_⟩
    rw [List.length_cons, Nat.mul_succ]
    omega
/-- it can be shown -/
structure Fit (d : PyData) : Prop where
  sh : d.showable = true
  nd : d.hasDict = false
  dp : d.depth ≤ 64
  sz : d.shown.length ≤ sizeLine
theorem ShB.fit {d : PyData} {n k : Nat} (s : ShB d n k) (h : n ≤ 100000) (h2 : k ≤ 64) : Fit d := by
  refine ⟨s.sh, s.nd, Nat.le_trans s.dp h2, ?_⟩
  have z := PyData.shown_le 110 (by decide) d s.lv
  have w : (110 + 2) * d.weight ≤ 112 * 100000 := Nat.mul_le_mul_left _ (Nat.le_trans s.wt h)
  have e : sizeLine = 16777216 := by decide
  omega
def rReprT (K : PySem.W.Frag) : List V → Hp → VK → Prop := fun xs H Q => ∃ (x : V) (d : PyData), xs = [x] ∧ Dp K H x d ∧ Fit d ∧ ∀ z : Str, z = d.shown → Q (.str z) H
theorem call_reprT {X : Cx} (hs : Still X.A) (hu : X.A.units + 66 < cLine) : CallR X (.builtin "repr") (rReprT X.K) := by
  intro pins s σ H xs us Q I r h
  obtain ⟨x, d, rfl, hd, f, q⟩ := h
  exact call_reprD hs hu pins s σ H [x] us Q I r ⟨x, d, rfl, hd, f.sh, f.nd, f.dp, f.sz, q _ rfl⟩
/-! ### rows as data -/
def quadD (q : Quad) : PyData := .tuple [.str q.1, .int q.2.1, .int q.2.2.1, .int q.2.2.2]
theorem name_short {z : Str} (h : NameOk z) : ∀ c ∈ z.cps.toList, c < 16 ^ 8 := fun c hc => by
  have := h.2.2 c hc
  have e : (16 : Nat) ^ 8 = 4294967296 := by decide
  omega
theorem quad_sh {q : Quad} (h : QuadOk q) : ShB (quadD q) 300 1 := by
  have h0 := h.d0; have h1 := h.d1; have h2 := h.p0; have h3 := h.p1; have h4 := h.s0; have h5 := h.s1
  have a := (ShB.str (name_short h.nm)).mono h.nm.2.1 (Nat.le_refl 0)
  have b : ShB (.int q.2.1) 100 0 := .int (by omega) (by decide) (by decide)
  have c : ShB (.int q.2.2.1) 100 0 := .int (by omega) (by decide) (by decide)
  have d : ShB (.int q.2.2.2) 64 0 := .int (by omega) (by decide) (by decide)
  exact ((((ShBAll.nil.cons d).cons c).cons b).cons a).tup.mono (by decide) (by decide)
theorem quads_fit {qs : List Quad} (ok : ∀ q ∈ qs, QuadOk q) (few : qs.length ≤ 40) : ShB (.list (qs.map quadD)) 12040 2 := by
  refine (ShBAll.all (n := 300) (k := 1) fun d hd => ?_).lst.mono ?_ (Nat.le_refl _)
  · obtain ⟨q, hq, rfl⟩ := List.mem_map.mp hd
    exact quad_sh (ok q hq)
  · rw [List.length_map]
    omega
/-- tuples of rows -/
def QuadsAt (K : PySem.W.Frag) (H : Hp) (ts : List Addr) (qs : List Quad) : Prop := ts.length = qs.length ∧ ∀ (j : Nat) (t : Addr) (q : Quad), ts[j]? = some t → qs[j]? = some q → SqT K H t (quadV q)
theorem quad_dp {K : PySem.W.Frag} {H : Hp} {t : Addr} {q : Quad} (h : SqT K H t (quadV q)) : Dp K H (.ref t) (quadD q) := .tup h (.cons (.str _) (.cons (.int _) (.cons (.int _) (.cons (.int _) .nil))))
theorem quads_dps {K : PySem.W.Frag} {H : Hp} : ∀ {ts : List Addr} {qs : List Quad}, QuadsAt K H ts qs → DpAll K H (ts.map V.ref) (qs.map quadD)
  | [], [], _ => .nil
  | [], _ :: _, h => nomatch h.1
  | _ :: _, [], h => nomatch h.1
  | t :: ts, q :: qs, h => .cons (quad_dp (h.2 0 t q rfl rfl)) (quads_dps ⟨Nat.succ.inj h.1, fun j u x a b => h.2 (j + 1) u x (by simpa using a) (by simpa using b)⟩)
def rTupOf (K : PySem.W.Frag) : List V → Hp → VK → Prop := fun xs H Q => ∃ p ys, xs = [.ref p] ∧ ((SqL K H p ys ∧ ∀ l, H l = none → Q (.ref l) (upd H l (.tup ys))) ∨ (SqT K H p ys ∧ Q (.ref p) H))
theorem call_tupleK {X : Cx} {K : PySem.W.Frag} (e : X.K = K) : CallR X (.type "tuple") (rTupOf K) := by
  subst e
  exact call_tuple_of
section
variable {K : PySem.W.Frag}
theorem Team.quads {H : Hp} {ts : List Addr} {qs : List Quad} (h : Team H ts qs) : QuadsAt K H ts qs := ⟨h.len, fun j t q a b => .inl (.inl (h.at_ j t q a b))⟩
end
end Ur
/-! FT: texts of painters and fences, read again. -/
namespace Ur
open PySem PySem.Spec PyProof.Rows L2 TL
theorem name_tl {z : Str} (h : NameOk z) : ∀ c ∈ tl z, 97 ≤ c ∧ c ≤ 122 := fun c hc => h.2.2 c hc
/-! ### a painter's text -/
theorem tl_of (s : String) : tl (s : Str) = s.toList.map Char.toNat := tl_ofString s
theorem sp_tl : tl (" " : Str) = [32] := by rw [tl_of]; rfl
theorem nl_tl : tl ("\n" : Str) = [10] := by rw [tl_of]; rfl
theorem lo256 {y : Str} (h : ∀ c ∈ tl y, c < 256) : y.cps.all (· < 256) = true := arr_allT fun c hc => decide_eq_true (h c hc)
theorem line_split {nm : Str} {d p s : Int} (h : NameOk nm) : Txt.split (lineOf nm d p s) " " = [nm, (toString d : Str), (toString p : Str), (toString s : Str)] := by
  rw [← line_join]
  refine split_join (s := 32) (S := []) sp_tl (lo256 (by rw [sp_tl]; decide)) (by simp) fun x hx => ?_
  simp only [List.mem_cons, List.not_mem_nil, or_false] at hx
  rcases hx with rfl | rfl | rfl | rfl
  · intro m
    have := name_tl h _ m
    omega
  all_goals
    rw [tl_int]
    exact intL_free (by decide) (by decide)
theorem line_len {nm : Str} {d p s : Int} (h : PartOk nm d p s) : (lineOf nm d p s).length ≤ 300 := by
  have h0 := h.d0; have h1 := h.d1; have h2 := h.p0; have h3 := h.p1; have h4 := h.s0; have h5 := h.s1
  have a := h.nm.2.1
  have b := intL_len (i := d) (by omega)
  have c := intL_len (i := p) (by omega)
  have e := intL_len (i := s) (by omega)
  have ls : (" " : Str).length = 1 := by rw [len_tl, sp_tl]; rfl
  rw [← tl_int, ← len_tl] at b c e
  unfold lineOf
  simp only [Str.length_append]
  omega
/-! ### integer_of -/
abbrev s_integer_of : Stmt := (topS 12)
abbrev N_sc_integer_of : List Str := ["word", "digits", "number"]
abbrev P_integer_of : List Str := ["word"]
theorem sc_integer_of : FnScope N_sc_integer_of P_integer_of (defScope s_integer_of) := ⟨rfl, rfl, rfl, by decide +kernel, rfl, by decide +kernel, by decide +kernel⟩
def spIof : Sp := fun vs H Q _ => ∃ i : Int, vs = [.str (toString i : Str)] ∧ i.natAbs < 10 ^ 80 ∧ Q (.int i) H
section
variable {P : Program} {w : World} {K : PySem.W.Frag} {mg : Str → Option Value} {base : Heap}
theorem ok_iof (D : Dfn K mg "integer_of" s_integer_of P_integer_of) (B : Blt mg) {uD : Value} (hMD : mg "MAX_DIGITS" = some uD) (rMD : L2.RelV (.int 80) uD) : Cal P w K mg base 1 "integer_of" P_integer_of spIof := by
  refine D.cal sc_integer_of (fun vs H Q E h => ?_) fun f cdv A outer s H vs Q E hr h => ?_
  · obtain ⟨i, rfl, _⟩ := h
    rfl
  obtain ⟨i, rfl, hi, q⟩ := h
  have l1 := digits_len hi
  have l2 : (toString i : Str).length ≤ 81 := by rw [len_tl, tl_int]; exact intL_len hi
  have sh : i.natAbs.log2 < 1920 := log2_of (b := 300) (by omega) (by decide) (by decide)
  refine ⟨_, (pss_cons (ps_set (i := 1) sc_integer_of.nd rfl (Or.inl rfl) (pe_m1 PySem.F.slot_str_removeprefix PySem.F.type_str_removeprefix mt_removeprefix (pv 0) pe_str)) (pss_cons (ps_if (PW.pt (pw_or (pt_cmpR op_gt (pe_callB call_len_str rfl B.len_ PySem.boot_len (pa_cons (pv 1) pa_nil)) (pe_glob (v := .int 80) rfl hMD rMD) (nomark _)) (pw_or (pt_not (pt_val (pe_m0 PySem.F.slot_str_isascii PySem.F.type_str_isascii mt_isascii (pv 1)))) (pw_or1 (pt_not (pt_val (pe_m0 PySem.F.slot_str_isdigit PySem.F.type_str_isdigit mt_isdigit (pv 1)))))))) (pss_one (ps_ret pe_non)) pss_nil) (pss_cons (ps_set (i := 2) sc_integer_of.nd rfl (Or.inl rfl) (pe_callTy call_int_str rfl B.int_ (by decide +kernel) (pa_cons (pv 0) pa_nil))) (pss_one (ps_ret (pe_ifExp (pt_cmpR op_eq (pe_callTy call_str_int rfl B.str_ (by decide +kernel) (pa_cons (pv 2) pa_nil)) (pv 0) (nomark _)) (pv 2) pe_non)))))), ?_⟩
  refine ⟨_, rfl, ⟨_, rfl⟩, _, _, rfl, rfl, by rw [sizeLine_eq]; omega, ?_⟩
  refine ⟨_, rfl, _, rfl, by rw [sizeLine_eq]; omega, _, _, rfl, rfl, _, rfl, ?_⟩
  refine iteDF (by omega) ?_
  refine ⟨_, rfl, ⟨_, rfl⟩, _, rfl, rfl, trivial, true, by rw [digits_ascii], iteF ?_⟩
  refine ⟨_, rfl, ⟨_, rfl⟩, _, rfl, rfl, trivial, true, by rw [digits_digit], iteF ?_⟩
  refine ⟨_, rfl, _, _, rfl, intText_int hi, by omega, ?_⟩
  refine ⟨_, rfl, _, rfl, sh, _, rfl, ?_⟩
  exact ⟨rfl, _, rfl, iteDT rfl ⟨_, rfl, q⟩⟩
end
/-! ### Painter.read -/
abbrev s_Painter_read : Stmt := (inClass (topS 15) 16)
abbrev N_sc_Painter_read : List Str := ["cls", "text", "parts", "name", "words", "day", "post", "stride", "word"]
abbrev P_Painter_read : List Str := ["cls", "text"]
theorem sc_Painter_read : FnScope N_sc_Painter_read P_Painter_read (defScope s_Painter_read) := ⟨rfl, rfl, rfl, by decide +kernel, rfl, by decide +kernel, by decide +kernel⟩
def spPRead (C : Addr) : Sp := fun vs H Q _ => ∃ (nm : Str) (d p s : Int), vs = [.ref C, .str (lineOf nm d p s)] ∧ PartOk nm d p s ∧ ∀ x H', PnAt C H' x nm d p s → Same H H' → Q (.ref x) H'
section
variable {P : Program} {w : World} {K : PySem.W.Frag} {mg : Str → Option Value} {base : Heap} {C : Addr} {f : Addr} {fd : FuncData}
theorem ok_pread (F : Fun K "read" "Painter.read" s_Painter_read f fd) (B : Blt mg) (T : PTxt K mg C) (hMk : MkP P w K mg base C) (CIo : Cal P w K mg base 1 "integer_of" P_integer_of spIof) : FnOk P w K mg base CX0 5 f fd P_Painter_read (spPRead C) := by
  obtain ⟨fI, fdI, MP, FI, bI⟩ := hMk
  refine F.ok sc_Painter_read (fun vs H Q E h => ?_) (fun cdv A outer s H vs Q E hr h => ?_)
  · obtain ⟨nm, d, p, st, rfl, _⟩ := h
    rfl
  obtain ⟨nm, d, p, st, rfl, ok, q⟩ := h
  have h0 := ok.d0; have h1 := ok.d1; have h2 := ok.p0; have h3 := ok.p1; have h4 := ok.s0; have h5 := ok.s1
  have ll := line_len ok
  refine ⟨_, (pss_cons (ps_set (i := 2) sc_Painter_read.nd rfl (Or.inl rfl) (pe_ifExp (pt_val (pe_callB (call_isT (K := K) rfl kit_strD) rfl B.isinstance_ (by decide +kernel) (pa_cons (pv 1) (pa_cons (pe_bltn (v := .ty "str") rfl B.str_ (by decide +kernel) rfl) pa_nil)))) (pe_split (pv 1) pe_str) (pe_lst pa_nil))) (pss_cons (ps_if (pt_cmpR op_ne (pe_callB call_len_seq rfl B.len_ PySem.boot_len (pa_cons (pv 2) pa_nil)) pe_int (nomark _)) (pss_one ps_never) pss_nil) (pss_cons (ps_asg (pv 2) (pg_head rfl (pgs_cons (pg_name (i := 3) sc_Painter_read.nd rfl (Or.inl rfl)) (pgs_star (pg_name (i := 4) sc_Painter_read.nd rfl (Or.inl rfl)) pgs_nil)))) (pss_cons (ps_asg (pe_lc (own := [("word", 8)]) (g := gName 8) (tt := tYes) rfl sc_Painter_read.nd (pi_list (pv 4)) (blkOk_by (N := N_sc_Painter_read) (sc := defScope s_Painter_read) (by decide +kernel)) (fun _ _ _ _ _ => pg_name (i := 8) sc_Painter_read.nd rfl (Or.inl rfl)) (fun _ _ _ _ _ => pts_nil) (fun _ _ _ _ _ => (pe_cal CIo (hr.mono (by decide)) (pa_cons (pv 8) pa_nil)))) (pg_unl rfl (pgs_cons (pg_name (i := 5) sc_Painter_read.nd rfl (Or.inl rfl)) (pgs_cons (pg_name (i := 6) sc_Painter_read.nd rfl (Or.inl rfl)) (pgs_cons (pg_name (i := 7) sc_Painter_read.nd rfl (Or.inl rfl)) pgs_nil))))) (pss_one (ps_try_thru0 (pss_one (ps_ret (pe_makeL (i := 0) MP FI (hr.mono (by decide)) rfl (Or.inl rfl) bI .nil pass0 (pa_cons (pv 3) (pa_cons (pv 5) (pa_cons (pv 6) (pa_cons (pv 7) pa_nil))))))))))))), ?_⟩
  refine ⟨_, rfl, _, .str (lineOf nm d p st), rfl, .base (.str _), true, rfl, iteT ?_⟩
  refine ⟨_, rfl, ⟨_, rfl⟩, _, _, rfl, rfl, rfl, by rw [sizeLine_eq]; omega, fun L hL => ?_⟩
  rw [line_split ok.nm]
  have sL := same_new hL (.lst (([nm, (toString d : Str), (toString p : Str), (toString st : Str)] : List Str).map V.str))
  refine ⟨_, rfl, L, _, rfl, .inl (SqL.of upd_same), rfl, _, rfl, iteNS rfl ?_⟩
  refine ⟨_, rfl, L, _, _, rfl, SqL.of upd_same, by show 3 ≤ 16000; decide, fun D hD => ?_⟩
  have sD := same_new hD (.lst (([(toString d : Str), (toString p : Str), (toString st : Str)] : List Str).map V.str))
  have sLD := sL.trans sD
  have aD : upd (upd H L (.lst (([nm, (toString d : Str), (toString p : Str), (toString st : Str)] : List Str).map V.str))) D (.lst (([(toString d : Str), (toString p : Str), (toString st : Str)] : List Str).map V.str)) D = some (.lst ([V.str (toString d), V.str (toString p), V.str (toString st)])) := upd_same
  refine ⟨_, _, rfl, _, _, rfl, rfl, ?_⟩
  refine ⟨_, rfl, D, rfl, ⟨_, SqL.of aD⟩, fun M hM => lc_list (K := K) (a := D) (xs := [V.str (toString d), V.str (toString p), V.str (toString st)]) (fun i H' => H' M = some (.lst ((([d, p, st] : List Int).take i).map V.int)) ∧ Same _ H') ⟨upd_same, same_new hM _⟩ (fun i H' _ h => SqL.of (h.2 _ _ aD)) ?_ ?_⟩
  · rintro i x H' hx ⟨hM', sm⟩
    have hi : i < 3 := (List.getElem?_eq_some_iff.mp hx).1
    have hi : i = 0 ∨ i = 1 ∨ i = 2 := by omega
    rcases hi with rfl | rfl | rfl
    · obtain rfl : V.str (toString d) = x := Option.some.inj hx
      exact ⟨rfl, _, rfl, d, rfl, by omega, _, hM', by show 0 < sizeLine; decide, upd_same, sameAt sm hM⟩
    · obtain rfl : V.str (toString p) = x := Option.some.inj hx
      exact ⟨rfl, _, rfl, p, rfl, by omega, _, hM', by show 1 < sizeLine; decide, upd_same, sameAt sm hM⟩
    · obtain rfl : V.str (toString st) = x := Option.some.inj hx
      exact ⟨rfl, _, rfl, st, rfl, by omega, _, hM', by show 2 < sizeLine; decide, upd_same, sameAt sm hM⟩
  · rintro H1 ⟨hM1, sm⟩
    refine ⟨M, _, rfl, SqL.of hM1, rfl, _, _, rfl, _, _, rfl, _, _, rfl, rfl, ?_⟩
    refine ⟨rfl, _, rfl, _, rfl, _, rfl, _, rfl, fun x dx nx ndx nex => ?_⟩
    exact ⟨x, dx, nm, d, p, st, rfl, upd_same, ok, fun H7 hx7 kp7 => ⟨rfl, q x H7 ⟨dx, hx7⟩ ((sLD.trans sm).trans (Same.made nx ndx kp7))⟩⟩
/-- Painter.read, as it is called -/
abbrev HReadP (P : Program) (w : World) (K : PySem.W.Frag) (mg : Str → Option Value) (base : Heap) (C : Addr) : Prop := CMethS P w K mg base C "read" 5 (spPRead C)
end
/-! ### Fence.text -/
def lineQ (q : Quad) : Str := lineOf q.1 q.2.1 q.2.2.1 q.2.2.2
def textQ (qs : List Quad) : Str := Txt.join "\n" (qs.map lineQ)
theorem lines_len {qs : List Quad} (ok : ∀ q ∈ qs, QuadOk q) : ((qs.map lineQ).map (·.length)).sum ≤ 300 * qs.length := by
  induction qs with
  | nil => exact Nat.zero_le _
  | cons q r ih =>
    have a := ih fun x hx => ok x (List.mem_cons_of_mem _ hx)
    have b : (lineQ q).length ≤ 300 := line_len (ok q List.mem_cons_self)
    simp only [List.map_cons, List.sum_cons, List.length_cons]
    omega
abbrev s_Fence_text : Stmt := (inClass (topS 18) 3)
abbrev N_sc_Fence_text : List Str := ["self", "painter"]
abbrev P_Fence_text : List Str := ["self"]
theorem sc_Fence_text : FnScope N_sc_Fence_text P_Fence_text (defScope s_Fence_text) := ⟨rfl, rfl, rfl, by decide +kernel, rfl, by decide +kernel, by decide +kernel⟩
def spFText (C CF : Addr) : Sp := fun vs H Q _ => ∃ (f : Addr) (L : List Pt), vs = [.ref f] ∧ FcAt C CF H f L ∧ ∀ H', Same H H' → Q (.str (textQ (partsOf L))) H'
section
variable {P : Program} {w : World} {K : PySem.W.Frag} {mg : Str → Option Value} {base : Heap} {C CF : Addr} {f : Addr} {fd : FuncData}
theorem ok_ftext (F : Fun K "text" "Fence.text" s_Fence_text f fd) (T : PTxt K mg C) (U : FTxt K mg CF) (hText : PropS P w K mg base C "text" 1 (spText C)) : FnOk P w K mg base CX0 3 f fd ["self"] (spFText C CF) := by
  refine F.ok sc_Fence_text (fun vs H Q E h => ?_) (fun cdv A outer s H vs Q E hr h => ?_)
  · obtain ⟨f, L, rfl, _⟩ := h
    rfl
  obtain ⟨f, L, rfl, hf, q⟩ := h
  obtain ⟨dx, t, d, h1, h2, h3⟩ := hf.ex
  have okL : ∀ x ∈ partsOf L, QuadOk x := fun x hx => by
    obtain ⟨z, hz, rfl⟩ := List.mem_map.mp hx
    exact (hf.crew.at_ z hz).2
  have lL : (partsOf L).length = L.length := by unfold partsOf; rw [List.length_map]
  have few := hf.len
  refine ⟨_, (pss_one (ps_ret (pe_join pe_str (pe_lc (own := [("painter", 1)]) (g := gName 1) (tt := tYes) rfl sc_Fence_text.nd (pi_tup (pe_fld (pv 0) rfl)) (blkOk_by (N := N_sc_Fence_text) (sc := defScope s_Fence_text) (by decide +kernel)) (fun _ _ _ _ _ => pg_name (i := 1) sc_Fence_text.nd rfl (Or.inl rfl)) (fun _ _ _ _ _ => pts_nil) (fun _ _ _ _ _ => (pe_prS (pv 1) T.cl hText (hr.mono (by decide)))))))), ?_⟩
  refine ⟨⟨_, rfl⟩, _, rfl, f, CF, dx, _, _, rfl, h1, U.cl, U.nP, ffs_p _ _, t, rfl, ⟨_, .inl (.inl h2)⟩, fun D hD => ?_⟩
  refine lc_tup (K := K) (a := t) (xs := refsOf L) (fun i H' => H' D = some (.lst ((((partsOf L).map lineQ).take i).map V.str)) ∧ Same H H') ⟨upd_same, same_new hD _⟩ (fun i H' _ h => .inl (.inl (h.2 _ _ h2))) ?_ ?_
  · rintro i v H' e ⟨hD', sm⟩
    obtain ⟨z, hz, rfl⟩ := refs_at e
    have pz := (hf.crew.at_ z (List.mem_of_getElem? hz)).same sm
    obtain ⟨dz, ez⟩ := pz.1
    have el : ((partsOf L).map lineQ)[i]? = some (lineOf z.nm z.d z.p z.s) := by unfold partsOf; rw [List.getElem?_map, List.getElem?_map, hz]; rfl
    refine ⟨rfl, _, rfl, z.a, dz, _, rfl, ez, z.a, z.nm, z.d, z.p, z.s, rfl, pz.1, Nat.le_trans pz.2.nm.2.1 (by decide), pz.2.short, _, hD', ?_, ?_, ?_⟩
    · rw [List.length_map, List.length_take, List.length_map, lL]
      exact Nat.lt_of_le_of_lt (Nat.le_trans (Nat.min_le_right _ _) few) (by decide)
    · rw [upd_same, take_snoc el, List.map_append]
      rfl
    · exact fun b o e => by rw [upd_ne (ne_of_none e hD)]; exact sm _ _ e
  · rintro H' ⟨hD', sm⟩
    rw [refs_len, show L.length = ((partsOf L).map lineQ).length by rw [List.length_map, lL], List.take_length] at hD'
    refine ⟨_, D, (partsOf L).map lineQ, rfl, rfl, .inl (SqL.of hD'), ?_, q H' sm⟩
    have a := lines_len okL
    have b : ("\n" : Str).length = 1 := by rw [len_tl, nl_tl]; rfl
    rw [b, List.length_map, lL] at *
    omega
end
end Ur
/-! GA: painters moved beyond the bounds: Painter(..), + that raise; the law's own trial of +. -/
namespace Ur
open PySem PySem.Spec PyProof.Rows L2
abbrev s_InvalidPainter_init : Stmt := (inClass (topS 2) 0)
abbrev N_sc_InvalidPainter_init : List Str := ["self", "reason"]
abbrev P_InvalidPainter_init : List Str := ["self", "reason"]
theorem sc_InvalidPainter_init : FnScope N_sc_InvalidPainter_init P_InvalidPainter_init (defScope s_InvalidPainter_init) := ⟨rfl, rfl, rfl, by decide +kernel, rfl, by decide +kernel, by decide +kernel⟩
section
variable {P : Program} {w : World} {K : PySem.W.Frag} {mg : Str → Option Value} {base : Heap} {C f : Addr} {fd : FuncData}
theorem ok_errI (F : Fun K "__init__" "InvalidPainter.__init__" s_InvalidPainter_init f fd) (T : ErrK K C "reason") : FnOk P w K mg base (L2.CX P w) 1 f fd P_InvalidPainter_init (spXI C "reason") := by
  refine F.okX sc_InvalidPainter_init (fun vs H Q E h => ?_) (fun cdv A outer s H vs Q E hr h => ?_)
  · obtain ⟨a, v, rfl, _⟩ := h
    rfl
  obtain ⟨a, v, rfl, ha, q⟩ := h
  exact ⟨_, pss_one (ps_ost (pv 0) (pv 1)), _, rfl, _, rfl, a, C, rfl, T.o, T.no, .inl ⟨ha, fun dx n ne => q dx n ne⟩⟩
end
/-- Painter(..) where only the post may be wrong -/
def spInitP (C CI : Addr) : Sp := fun vs H Q E => ∃ (x dx : Addr) (nm : Str) (d p s : Int), vs = [.ref x, .str nm, .int d, .int p, .int s] ∧ H x = some (.ins C dx []) ∧ PartOk nm d 0 s ∧
  ((-(10 ^ 30) ≤ p ∧ p ≤ 10 ^ 30) → ∀ H', H' x = some (.ins C dx (pfs nm d p s)) → (∀ b o, H b = some o → b ≠ x → H' b = some o) → Q .non H') ∧ (¬ (-(10 ^ 30) ≤ p ∧ p ≤ 10 ^ 30) → Lets E CI "reason" (.str "post") H)
section
variable {P : Program} {w : World} {K : PySem.W.Frag} {mg : Str → Option Value} {base : Heap}
set_option maxHeartbeats 16000000 in
theorem ok_initP {C CI pN f fN : Addr} {fd fdN : FuncData} (F : Fun K "__init__" "Painter.__init__" s_Painter_init f fd) (T : PTxt K mg C) (smP : SMet K C (.type "type") "is_name" pN fN) (FN : FnOk P w K mg base CX0 1 fN fdN P_Painter_is_name spIsName) (bN : Binds K fdN P_Painter_is_name [])
    (CB : Cal P w K mg base 2 "is_between" P_is_between spBetween) (EI : ErrOk P w K mg base CI "InvalidPainter" "reason") : FnOk P w K mg base (L2.CX P w) 3 f fd P_Painter_init (spInitP C CI) := by
  refine F.okX sc_Painter_init (fun vs H Q E h => ?_) (fun cdv A outer s H vs Q E hr h => ?_)
  · obtain ⟨x, dx, nm, d, p, st, rfl, _⟩ := h
    rfl
  obtain ⟨x, dx, nm, d, p, st, rfl, hx, ok, q, bad⟩ := h
  obtain ⟨uD, cD⟩ := T.cD
  obtain ⟨uP, cP⟩ := T.cP
  obtain ⟨uS, cS⟩ := T.cS
  refine ⟨_, (pss_cons (ps_if (pt_not (pt_val (pe_smeth (pe_glob (v := .ref C) rfl T.mgP rfl) T.rd smP FN bN (hr.mono (by decide)) pass0 (pa_cons (pv 1) pa_nil)))) (pss_one (ps_raise rfl (takes_of rfl rfl rfl rfl) (pmk_err EI (hr.mono (by decide)) (pa_cons pe_str pa_nil)))) pss_nil) (pss_cons (ps_if (pt_not (pt_val (pe_cal CB (hr.mono (by decide)) (pa_cons (pv 2) (pa_cons pe_int (pa_cons (ClX.pe_cval (pe_glob (v := .ref C) rfl T.mgP rfl)) pa_nil)))))) (pss_one (ps_raise rfl (takes_of rfl rfl rfl rfl) (pmk_err EI (hr.mono (by decide)) (pa_cons pe_str pa_nil)))) pss_nil) (pss_cons (ps_if (pt_not (pt_val (pe_cal CB (hr.mono (by decide)) (pa_cons (pv 3) (pa_cons (pe_un un_neg (ClX.pe_cval (pe_glob (v := .ref C) rfl T.mgP rfl))) (pa_cons (ClX.pe_cval (pe_glob (v := .ref C) rfl T.mgP rfl)) pa_nil)))))) (pss_one (ps_raise rfl (takes_of rfl rfl rfl rfl) (pmk_err EI (hr.mono (by decide)) (pa_cons pe_str pa_nil)))) pss_nil) (pss_cons (ps_if (PW.pt (pw_or (pt_not (pt_val (pe_cal CB (hr.mono (by decide)) (pa_cons (pv 4) (pa_cons (pe_un un_neg (ClX.pe_cval (pe_glob (v := .ref C) rfl T.mgP rfl))) (pa_cons (ClX.pe_cval (pe_glob (v := .ref C) rfl T.mgP rfl)) pa_nil)))))) (pw_or1 (pt_cmpR op_eq (pv 4) pe_int (nomark _))))) (pss_one (ps_raise rfl (takes_of rfl rfl rfl rfl) (pmk_err EI (hr.mono (by decide)) (pa_cons pe_str pa_nil)))) pss_nil) (pss_cons (ps_fld (pv 0) (pv 1) rfl) (pss_cons (ps_fld (pv 0) (pv 2) rfl) (pss_cons (ps_fld (pv 0) (pv 3) rfl) (pss_one (ps_fld (pv 0) (pv 4) rfl))))))))), ?_⟩
  refine ⟨rfl, _, rfl, nm, rfl, ok.nm, true, rfl, iteF ?_⟩
  refine ⟨_, rfl, C, _, _, _, rfl, T.rd, cD, d, _, _, rfl, _, rfl, iteNS ⟨ok.d0, ok.d1⟩ ?_⟩
  by_cases c3 : -(10 ^ 30) ≤ p ∧ p ≤ 10 ^ 30
  case neg => exact ⟨_, rfl, C, _, _, _, rfl, T.rd, cP, _, rfl, C, _, _, _, rfl, T.rd, cP, p, _, _, rfl, _, rfl, iteNN c3 (err_made (bad c3))⟩
  have q := q c3
  refine ⟨_, rfl, C, _, _, _, rfl, T.rd, cP, _, rfl, C, _, _, _, rfl, T.rd, cP, p, _, _, rfl, _, rfl, iteNS c3 ?_⟩
  refine ⟨_, rfl, C, _, _, _, rfl, T.rd, cS, _, rfl, C, _, _, _, rfl, T.rd, cS, st, _, _, rfl, _, rfl, iteNS ⟨ok.s0, ok.s1⟩ ?_⟩
  have c : decide (V.int st = V.int 0) = false := decide_eq_false fun e => ok.sn (V.int.inj e)
  refine ⟨_, rfl, rfl, _, rfl, ?_⟩
  show (if decide (V.int st = V.int 0) = true then _ else _)
  rw [c]
  refine iteF ?_
  refine ⟨_, rfl, _, rfl, x, C, dx, [], rfl, hx, T.cl, T.nN, (by show 0 < 1000; decide), ?_⟩
  refine ⟨_, rfl, _, rfl, x, C, dx, _, rfl, upd_same, T.cl, T.nD, (by show 1 < 1000; decide), ?_⟩
  refine ⟨_, rfl, _, rfl, x, C, dx, _, rfl, upd_same, T.cl, T.nP, (by show 2 < 1000; decide), ?_⟩
  refine ⟨_, rfl, _, rfl, x, C, dx, _, rfl, upd_same, T.cl, T.nS, (by show 3 < 1000; decide), ?_⟩
  refine q _ upd_same fun b o e hb => ?_
  rw [upd_ne hb, upd_ne hb, upd_ne hb, upd_ne hb]
  exact e
def MkPX (P : Program) (w : World) (K : PySem.W.Frag) (mg : Str → Option Value) (base : Heap) (C CI : Addr) : Prop := ∃ f fd, Mk K C f ∧ FnOk P w K mg base (L2.CX P w) 3 f fd P_Painter_init (spInitP C CI) ∧ Binds K fd P_Painter_init []
end
section
variable {X : Cx} {C CI : Addr} {e : Expr} {es : List Expr} {pos p : Pos} {t : TA} {E : XK}
theorem pe_mkPX (hp : MkPX X.prog X.w X.K X.mg X.base C CI) (T : PTxt X.K X.mg C) (hr : Room 4 X.A) (hx : Passes (L2.CX X.prog X.w) X E) (ha : PA X (e :: es) t) (hg : Gl X "Painter" := by rfl)
    (he : starEach (e :: es) X.env = (false, eval e X.env) :: starEach es X.env := by rfl) (hpl : (backTo pos (starEach es X.env)).any (·.1) = false := by rfl) : PE X (.Call (.Name "Painter" p) (e :: es) [] pos) (tMake C (spInitP C CI) [] E t) := by
  obtain ⟨f, fd, M, F, b⟩ := hp
  exact pe_make M F hr hg T.mgP b .nil hx ha (he := he) (hpl := hpl)
end
/-- painter + posts, which may raise -/
def spAddX (C CI : Addr) : Sp := fun vs H Q E => ∃ (a : Addr) (nm : Str) (d p s i : Int), vs = [.ref a, .int i] ∧ PnAt C H a nm d p s ∧ PartOk nm d p s ∧
  ((-(10 ^ 30) ≤ p + i ∧ p + i ≤ 10 ^ 30) → ∀ x H', PnAt C H' x nm d (p + i) s → Same H H' → Q (.ref x) H') ∧
  (¬ (-(10 ^ 30) ≤ p + i ∧ p + i ≤ 10 ^ 30) → ∀ dd H', H' dd = some (.xd [("reason", .str "post")]) → Same H H' → E (.ref CI) (some dd) H')
section
variable {P : Program} {w : World} {K : PySem.W.Frag} {mg : Str → Option Value} {base : Heap} {C CI : Addr} {f : Addr} {fd : FuncData}
theorem ok_addX (F : Fun K "__add__" "Painter.__add__" s_Painter_add f fd) (T : PTxt K mg C) (hMk : MkPX P w K mg base C CI) : FnOk P w K mg base (L2.CX P w) 5 f fd P_Painter_add (spAddX C CI) := by
  refine F.okX sc_Painter_add (fun vs H Q E h => ?_) (fun cdv A outer s H vs Q E hr h => ?_)
  · obtain ⟨a, nm, d, p, st, i, rfl, _⟩ := h
    rfl
  obtain ⟨a, nm, d, p, st, i, rfl, ⟨dx, ha⟩, ok, q, bad⟩ := h
  refine ⟨_, (pss_one (ps_ret (pe_mkPX hMk T (hr.mono (by decide)) (passD rfl rfl rfl rfl) (pa_cons (pe_fld (pv 0) rfl) (pa_cons (pe_fld (pv 0) rfl) (pa_cons (pe_op op_add (pe_fld (pv 0) rfl) (pv 1)) (pa_cons (pe_fld (pv 0) rfl) pa_nil))))))), ?_⟩
  refine ⟨_, rfl, a, C, dx, _, _, rfl, ha, T.cl, T.nN, pfs_name _ _ _ _, _, rfl, a, C, dx, _, _, rfl, ha, T.cl, T.nD, pfs_day _ _ _ _, _, rfl, a, C, dx, _, _, rfl, ha, T.cl, T.nP, pfs_post _ _ _ _, _, rfl, _, _, rfl, rfl, _, rfl, a, C, dx, _, _, rfl, ha, T.cl, T.nS, pfs_stride _ _ _ _, fun x dx nx ndx nex => ?_⟩
  refine ⟨x, dx, nm, d, p + i, st, rfl, upd_same, ⟨ok.nm, ok.d0, ok.d1, by decide, by decide, ok.s0, ok.s1, ok.sn⟩, fun c H7 hx7 kp7 => ⟨rfl, q c x H7 ⟨dx, hx7⟩ (Same.made nx ndx kp7)⟩, fun c dd hdd => ?_⟩
  exact bad c dd _ upd_same fun b o e => by rw [upd_ne (ne_of_none (by rw [upd_ne (ne_of_none e nx), upd_ne (ne_of_none e ndx)]; exact e) hdd), upd_ne (ne_of_none e nx), upd_ne (ne_of_none e ndx)]; exact e
end
/-- an operator that may raise, as it is found -/
def OwnSX (P : Program) (w : World) (K : PySem.W.Frag) (mg : Str → Option Value) (base : Heap) (C : Addr) (m : Str) (k : Nat) (ps : List Str) (sp : Sp) : Prop :=
  ∃ f fd, PySem.W.findIn K (.ref C) m = some (some (.ref f)) ∧ PySem.W.isFn K (.ref f) = true ∧ FnOk P w K mg base (L2.CX P w) k f fd ps sp ∧ Binds K fd ps []
theorem op_addOwnX {X : Cx} {C : Addr} {k : Nat} {sp : Sp} {ps : List Str} {E : XK} (h : OwnSX X.prog X.w X.K X.mg X.base C "__add__" k ps sp) (c : AddCls X.K C) (hr : Room k X.A) (hx : Passes (L2.CX X.prog X.w) X E) : OpR X (binaryOp .Add) (fun x y H Q => ∃ a dx fs i, x = .ref a ∧ y = .int i ∧ H a = some (.ins C dx fs) ∧ sp [.ref a, .int i] H Q E) := by
  intro pins s σ H x y v u Q I rx ry hq
  obtain ⟨a, dx, fs, i, rfl, rfl, ha, q⟩ := hq
  obtain ⟨f, fd, hs, hf, F, b⟩ := h
  have e : v = .ref a := rx
  subst e
  obtain ⟨t, rfl⟩ := ry
  obtain ⟨mA, J0, _⟩ := ins_get I.hok ha
  obtain ⟨od, J, _⟩ := J0.look
  obtain ⟨m, F0⟩ := I.fr
  obtain ⟨v1, e1⟩ := c.iadd
  obtain ⟨v2, e2⟩ := c.irad
  refine PySem.W.ksp_binT (op := .Add) (T := "int") F0 I.ok.mod.kin J rfl c.self hs hf c.back (.inl rfl) e1 e2 c.sub (wpAny_mono (run_fn F hr b .nil hx I (.cons (show L2.RelV (.ref a) (.ref a) from rfl) (.cons (show L2.RelV (.int i) (.int i t) from ⟨t, rfl⟩) .nil)) q) (fun v s' hv => ?_) fun _ _ z => z)
  cases v <;> first | exact hv | (obtain ⟨x, _, _, rx, _⟩ := hv; cases x <;> first | (cases rx; done) | (obtain ⟨_, rx⟩ := rx; cases rx))
theorem takes_lenG {X : Cx} {W : WX} (tk : Takes X W) : Takes X (fun c d σ H => σ.length = X.N.length → W c d σ H) := by
  rintro u s' ⟨a, B, sI, pins, σ, H, cls, d, rfl, I, nb, up, sky, na, os, ag, w⟩
  exact tk _ _ ⟨a, B, sI, pins, σ, H, cls, d, rfl, I, nb, up, sky, na, os, ag, w I.len⟩
/-! ### _law_parts, _law_added -/
abbrev s__law_parts : Stmt := (topS 32)
abbrev N_sc__law_parts : List Str := ["_law_made"]
abbrev P__law_parts : List Str := ["_law_made"]
theorem sc__law_parts : FnScope N_sc__law_parts P__law_parts (defScope s__law_parts) := ⟨rfl, rfl, rfl, by decide +kernel, rfl, by decide +kernel, by decide +kernel⟩
def spParts (C : Addr) : Sp := fun vs H Q _ => ∃ (a : Addr) (nm : Str) (d p s : Int), vs = [.ref a] ∧ PnAt C H a nm d p s ∧ ∀ u H', H' u = some (.tup [.str nm, .int d, .int p, .int s]) → Same H H' → Q (.ref u) H'
section
variable {P : Program} {w : World} {K : PySem.W.Frag} {mg : Str → Option Value} {base : Heap} {C CI : Addr}
theorem ok_parts (D : Dfn K mg "_law_parts" s__law_parts P__law_parts) (T : PTxt K mg C) (hName : PropS P w K mg base C "name" 1 (getSp C "_name")) (hDay : PropS P w K mg base C "day" 1 (getSp C "_day")) (hPost : PropS P w K mg base C "post" 1 (getSp C "_post")) (hStride : PropS P w K mg base C "stride" 1 (getSp C "_stride")) :
    Cal P w K mg base 3 "_law_parts" P__law_parts (spParts C) := by
  refine D.cal sc__law_parts (fun vs H Q E h => ?_) fun f cdv A outer s H vs Q E hr h => ?_
  · obtain ⟨a, nm, d, p, st, rfl, _⟩ := h
    rfl
  obtain ⟨a, nm, d, p, st, rfl, ⟨dz, ez⟩, q⟩ := h
  refine ⟨_, (pss_one (ps_ret (pe_tup (pa_cons (pe_prS (pv 0) T.cl hName (hr.mono (by decide))) (pa_cons (pe_prS (pv 0) T.cl hDay (hr.mono (by decide))) (pa_cons (pe_prS (pv 0) T.cl hPost (hr.mono (by decide))) (pa_cons (pe_prS (pv 0) T.cl hStride (hr.mono (by decide))) pa_nil))))))), ?_⟩
  refine ⟨_, rfl, a, dz, _, rfl, ez, a, dz, _, _, rfl, ez, pfs_name _ _ _ _, _, rfl, a, dz, _, rfl, ez, a, dz, _, _, rfl, ez, pfs_day _ _ _ _, _, rfl, a, dz, _, rfl, ez, a, dz, _, _, rfl, ez, pfs_post _ _ _ _, _, rfl, a, dz, _, rfl, ez, a, dz, _, _, rfl, ez, pfs_stride _ _ _ _, (by show 4 ≤ sizeLine; decide), fun u hu => ?_⟩
  exact q u _ upd_same (same_new hu _)
end
abbrev s__law_added : Stmt := (topS 33)
abbrev N_sc__law_added : List Str := ["_law_made", "_law_posts", "e"]
abbrev P__law_added : List Str := ["_law_made", "_law_posts"]
theorem sc__law_added : FnScope N_sc__law_added P__law_added (defScope s__law_added) := ⟨rfl, rfl, rfl, by decide +kernel, rfl, by decide +kernel, by decide +kernel⟩
def spAdded (C : Addr) : Sp := fun vs H Q _ => ∃ (a : Addr) (nm : Str) (d p s i : Int), vs = [.ref a, .int i] ∧ PnAt C H a nm d p s ∧ PartOk nm d p s ∧
  ((-(10 ^ 30) ≤ p + i ∧ p + i ≤ 10 ^ 30) → ∀ u H', H' u = some (.tup [.str nm, .int d, .int (p + i), .int s]) → Same H H' → Q (.ref u) H') ∧
  (¬ (-(10 ^ 30) ≤ p + i ∧ p + i ≤ 10 ^ 30) → ∀ H', Same H H' → Q (.str "post") H')
section
variable {P : Program} {w : World} {K : PySem.W.Frag} {mg : Str → Option Value} {base : Heap} {C CI : Addr}
set_option maxHeartbeats 16000000 in
theorem ok_added (D : Dfn K mg "_law_added" s__law_added P__law_added) (CPa : Cal P w K mg base 3 "_law_parts" P__law_parts (spParts C)) (hAdd : OwnSX P w K mg base C "__add__" 5 P_Painter_add (spAddX C CI)) (ac : AddCls K C)
    (mI : mg "InvalidPainter" = some (.ref CI)) (kI : ErrK K CI "reason") (eII : PySem.W.exmOne K (.ref CI) (.ref CI) = some true) : Cal P w K mg base 6 "_law_added" P__law_added (spAdded C) := by
  refine D.cal sc__law_added (fun vs H Q E h => ?_) fun f cdv A outer s H vs Q E hr h => ?_
  · obtain ⟨a, nm, d, p, st, i, rfl, _⟩ := h
    rfl
  obtain ⟨a, nm, d, p, st, i, rfl, ha, ok, q, bad⟩ := h
  refine ⟨_, pss_one (ps_tries (tb := fun W => tRet (tCall (spParts C) [] E0 (tCons (tOp (fun x y H Q => ∃ a dx fs i, x = .ref a ∧ y = .int i ∧ H a = some (.ins C dx fs) ∧ spAddX C CI [.ref a, .int i] H Q (fun cls d H => ∀ σ : L2.St, σ.length = 3 → W cls d σ H)) (tVar 0) (tVar 1)) tNil))) rfl rfl rfl sc__law_added.nd takes0
    (fun W pn xe tk _ => pss_one (ps_ret (pe_cal CPa (hr.mono (by decide)) (pa_cons (pe_op (op_addOwnX hAdd ac (hr.mono (by decide)) (passes_call (takes_lenG tk) fun cls d σ H e l => e σ l)) (pv 0) (pv 1)) pa_nil))))
    (.cons (i := 2) ⟨rfl, by decide, .inl mI⟩ rfl rfl (fun p o cls d pn z fo => pss_one (ps_ret (pe_xf kI.x kI.no z fo (pv 2)))) .nil)), ?_⟩
  obtain ⟨dx, ea⟩ := id ha
  refine ⟨_, rfl, _, rfl, a, dx, _, i, rfl, rfl, ea, a, nm, d, p, st, i, rfl, ha, ok, fun c x H' hx s' => ?_, fun c dd H' hdd s' σ l3 => ?_⟩
  · exact ⟨x, nm, d, p + i, st, rfl, hx, fun u H2 hu s2 => q c u H2 hu (s'.trans s2)⟩
  · obtain ⟨s0, s1, s2, rfl⟩ : ∃ s0 s1 s2, σ = [s0, s1, s2] := by
      match σ, l3 with
      | [a, b, c], _ => exact ⟨a, b, c, rfl⟩
    refine ⟨true, eII, fun _ p hp => ?_, fun z => nomatch z⟩
    exact ⟨_, rfl, rfl, rfl, dd, _, _, rfl, hdd, rfl, bad c H' s'⟩
end
end Ur
/-! L04: the law. -/
namespace Ur
open PySem PySem.Spec PyProof.Rows L2 TL
/-- what stands while one painter is asked -/
structure Pa (C : Addr) (H : Hp) (p l : Addr) (n : Nat) (Z : Addr) (us : List Addr) (t x : Addr) (q : Quad) : Prop where
  pen : Pen H p l n
  hZ : H Z = some (.lst (us.map V.ref))
  rows : ∀ u ∈ us, Row H u AnyR
  ht : H t = some (.tup (quadV q))
  ok : QuadOk q
  px : PnAt C H x q.1 q.2.1 q.2.2.1 q.2.2.2
section
variable {C : Addr} {H H' : Hp} {p l : Addr} {n m : Nat} {Z : Addr} {us : List Addr} {t x : Addr} {q : Quad}
theorem PnAt.keep {kvs : List (Key × V)} {nm : Str} {d p0 s : Int} (h : PnAt C H x nm d p0 s) (k : Keep p H H') (hp : H p = some (.dK kvs)) : PnAt C H' x nm d p0 s := let ⟨dx, e⟩ := h; ⟨dx, k _ _ e (ne_of e hp (by intro z; cases z))⟩
theorem Pa.keep (h : Pa C H p l n Z us t x q) (k : Keep p H H') (P : Pen H' p l m) : Pa C H' p l m Z us t x q := by
  obtain ⟨kvs, hp⟩ := h.pen.dk
  exact ⟨P, k _ _ h.hZ (ne_of h.hZ hp (by intro z; cases z)), fun u hu => (h.rows u hu).keep k hp, k _ _ h.ht (ne_of h.ht hp (by intro z; cases z)), h.ok, h.px.keep k hp⟩
theorem Pa.same (h : Pa C H p l n Z us t x q) (s : Same H H') : Pa C H' p l n Z us t x q := h.keep (Keep.of s) (h.pen.same s)
end
theorem quad_inj {q r : Quad} : PyData.eqv (quadD q) (quadD r) = decide (q = r) := by
  obtain ⟨a, b, c, d⟩ := q
  obtain ⟨a', b', c', d'⟩ := r
  show (a == a' && ((b == b') && ((c == c') && ((d == d') && true)))) = _
  rw [Bool.and_true]
  by_cases h1 : a = a' <;> by_cases h2 : b = b' <;> by_cases h3 : c = c' <;> by_cases h4 : d = d' <;> simp [h1, h2, h3, h4]
theorem name_lay {z : Str} (h : NameOk z) : PyData.strOk z = true := arr_allT fun c hc => decide_eq_true (by have := h.2.2 c hc; omega)
theorem quad_shaped {q : Quad} (h : QuadOk q) : SeqAt.shaped (quadD q) = true := by
  show ((PyData.strOk q.1 && (true && (true && (true && true)))) && decide (_ ≤ 64)) = true
  rw [name_lay h.nm]
  rfl
theorem quad_fit {q : Quad} (h : QuadOk q) : Fit (quadD q) := (quad_sh h).fit (by decide) (by decide)
theorem post_fit : Fit (.str "post") := (ShB.str (x := "post") (by decide)).fit (by decide) (by decide)
theorem lst_new {H : Hp} {Z : Addr} {o : HO} (hZ : H Z = none) : ∃ H', H' = upd H Z o ∧ Same H H' ∧ H' Z = some o := ⟨_, rfl, same_new hZ _, upd_same⟩
def OthS (K : PySem.W.Frag) (H : Hp) (v : V) : Prop := ∀ H', Same H H' → Oth K H' v
theorem OthS.same {K : PySem.W.Frag} {H H' : Hp} {v : V} (h : OthS K H v) (s : Same H H') : OthS K H' v := fun H2 s2 => h H2 (s.trans s2)
theorem othS_tup {K : PySem.W.Frag} {H : Hp} {t : Addr} {xs : List V} (h : H t = some (.tup xs)) : OthS K H (.ref t) := fun H' s => ⟨.tuple [], .base (.tup (s _ _ h)), .tup (s _ _ h)⟩
theorem othS_lst {K : PySem.W.Frag} {H : Hp} {t : Addr} {xs : List V} (h : H t = some (.lst xs)) : OthS K H (.ref t) := fun H' s => ⟨.list [], .base (.lst (s _ _ h)), .lst (s _ _ h)⟩
theorem othS_str {K : PySem.W.Frag} {H : Hp} (z : Str) : OthS K H (.str z) := fun H' s => ⟨.str z, .base (.str z), .str z⟩
theorem othS_non {K : PySem.W.Frag} {H : Hp} : OthS K H .non := fun H' s => ⟨.none, .base .non, .non⟩
abbrev s_law : Stmt := (topS 34)
abbrev N_sc_law : List Str := ["_law_script", "_law_pen_here", "_law_turn", "_law_part", "_law_name", "_law_day", "_law_post", "_law_stride", "_law_made", "_law_posts", "_law_due", "_law_some", "_law_other", "_law_twin", "_law_things", "_law_thing"]
abbrev P_law : List Str := ["_law_script"]
theorem sc_law : FnScope N_sc_law P_law (defScope s_law) := ⟨rfl, rfl, rfl, by decide +kernel, rfl, by decide +kernel, by decide +kernel⟩
def spLaw (K : PySem.W.Frag) : Sp := fun vs H Q _ => ∃ (a : Addr) (ns : List Int), vs = [.ref a] ∧ SqL K H a (ns.map V.int) ∧ ns.length ≤ 63 ∧ ∀ H', Q (.bl true) H'
section
variable {P : Program} {w : World} {K : PySem.W.Frag} {mg : Str → Option Value} {base : Heap} {C CF : Addr}
set_option pp.deepTerms false in
set_option pp.maxSteps 3000 in
set_option maxHeartbeats 40000000 in
theorem ok_law {f : Addr} {fd : FuncData} (F : Fun K "law" "law" s_law f fd) (B : Blt mg) (T : PTxt K mg C) (U : FTxt K mg CF) (hMk : MkP P w K mg base C) (hMkF : MkF P w K mg base C CF) (CPen : Cal P w K mg base 1 "_law_pen" P__law_pen (spPen K))
    (CP : Cal P w K mg base 13 "_law_pick" P__law_pick (spPickL K)) (CA : Cal P w K mg base 13 "_law_around" P__law_around spAround) (CG : Cal P w K mg base 14 "_law_great" P__law_great spGreat) (CPs : Cal P w K mg base 16 "_law_painters" P__law_painters spPainters)
    (CPa : Cal P w K mg base 3 "_law_parts" P__law_parts (spParts C)) (CAd : Cal P w K mg base 6 "_law_added" P__law_added (spAdded C)) (CLi : Cal P w K mg base 1 "_law_line" P__law_line (spLine K)) (hText : PropS P w K mg base C "text" 1 (spText C))
    (hNeg : OwnS P w K mg base C "__neg__" 5 P_Painter_neg (spNeg C)) (hPRead : HReadP P w K mg base C) (hGet : OwnR P w K mg base CF "__getitem__" 2 P_Fence_getitem (spFGet C CF))
    (hEqP : EqC P w K mg base C 1 (SaysP K C)) (hEqF : EqC P w K mg base CF 3 (SaysF K C CF)) : FnG P w K mg base 40 f fd P_law (spLaw K) := by
  obtain ⟨fI, MF, FI⟩ := hMkF
  refine runG F sc_law (fun vs H Q E h => ?_) (fun cdv A outer s H vs Q E hs hr h => ?_)
  · obtain ⟨a, ns, rfl, _⟩ := h
    rfl
  obtain ⟨a, ns, rfl, hS, hlen, q⟩ := h
  have hs : Still (A.deeper (envOfC "law" (defScope s_law) s.heap.objs.size f cdv)) := hs
  have hu6 : (A.deeper (envOfC "law" (defScope s_law) s.heap.objs.size f cdv)).units + 66 < cLine := by have := hr.un; omega
  have pw30 : CPow 10 30 := ⟨by decide, by decide, by decide⟩
  have pw18 : CPow 10 18 := ⟨by decide, by decide, by decide⟩
  refine ⟨_, (pss_cons (ps_set (i := 1) sc_law.nd rfl (Or.inl rfl) (pe_cal CPen (hr.mono (by decide)) (pa_cons (pv 0) pa_nil))) (pss_cons (ps_for PassesOwn.never rfl (pi_range1 rfl B.range_ (pa_cons pe_int pa_nil)) (pg_name (i := 2) sc_law.nd rfl (Or.inl rfl)) (pss_one (ps_for PassesOwn.never rfl (pi_list (pe_op op_cat (pe_cal CPs (hr.mono (by decide)) (pa_cons (pv 1) pa_nil)) (pe_lst (pa_cons (pe_tup (pa_cons pe_str (pa_cons pe_int (pa_cons (pe_op op_pow pe_int pe_int) (pa_cons (pe_un un_neg pe_int) pa_nil))))) (pa_cons (pe_tup (pa_cons pe_str (pa_cons pe_int (pa_cons (pe_un un_neg (pe_op op_pow pe_int pe_int)) (pa_cons pe_int pa_nil))))) (pa_cons (pe_tup (pa_cons pe_str (pa_cons pe_int (pa_cons pe_int (pa_cons (pe_op op_pow pe_int pe_int) pa_nil))))) pa_nil)))))) (pg_name (i := 3) sc_law.nd rfl (Or.inl rfl)) (pss_cons (ps_asg (pv 3) (pg_tup rfl (pgs_cons (pg_name (i := 4) sc_law.nd rfl (Or.inl rfl)) (pgs_cons (pg_name (i := 5) sc_law.nd rfl (Or.inl rfl)) (pgs_cons (pg_name (i := 6) sc_law.nd rfl (Or.inl rfl)) (pgs_cons (pg_name (i := 7) sc_law.nd rfl (Or.inl rfl)) pgs_nil)))))) (C8.pss_cut (ps_set (i := 8) sc_law.nd rfl (Or.inr rfl) (pe_mkP hMk T (hr.mono (by decide)) (pa_cons (pv 4) (pa_cons (pv 5) (pa_cons (pv 6) (pa_cons (pv 7) pa_nil)))))) (C8.pss_cut (ps_for PassesOwn.never rfl (pi_list (pe_lst (pa_cons pe_int (pa_cons (pe_cal CA (hr.mono (by decide)) (pa_cons (pv 1) (pa_cons pe_int pa_nil))) (pa_cons (pe_cal CG (hr.mono (by decide)) (pa_cons (pv 1) (pa_cons pe_int pa_nil))) (pa_cons (pe_op op_sub pe_int (pe_cal CG (hr.mono (by decide)) (pa_cons (pv 1) (pa_cons pe_int pa_nil)))) (pa_cons (pe_op op_sub (pe_op op_pow pe_int pe_int) (pv 6)) pa_nil))))))) (pg_name (i := 9) sc_law.nd rfl (Or.inl rfl)) (pss_cons (ps_set (i := 10) sc_law.nd rfl (Or.inl rfl) (pe_ifExp (pt_cmpR op_le (pe_callB call_abs rfl B.abs_ (by decide +kernel) (pa_cons (pe_op op_add (pv 6) (pv 9)) pa_nil)) (pe_op op_pow pe_int pe_int) (nomark _)) (pe_tup (pa_cons (pv 4) (pa_cons (pv 5) (pa_cons (pe_op op_add (pv 6) (pv 9)) (pa_cons (pv 7) pa_nil))))) pe_str)) (pss_one (ps_if (pt_cmpR op_ne (pe_callB (call_reprT hs hu6) rfl B.repr_ (by decide +kernel) (pa_cons (pe_cal CAd (hr.mono (by decide)) (pa_cons (pv 8) (pa_cons (pv 9) pa_nil))) pa_nil)) (pe_callB (call_reprT hs hu6) rfl B.repr_ (by decide +kernel) (pa_cons (pv 10) pa_nil)) (nomark _)) (pss_one (ps_ret pe_bl)) pss_nil)))) (C8.pss_cut (ps_if (PW.pt (pw_or (pt_cmpR op_ne (pe_callB (call_reprT hs hu6) rfl B.repr_ (by decide +kernel) (pa_cons (pe_cal CPa (hr.mono (by decide)) (pa_cons (pe_un (un_own hNeg (hr.mono (by decide))) (pv 8)) pa_nil)) pa_nil)) (pe_callB (call_reprT hs hu6) rfl B.repr_ (by decide +kernel) (pa_cons (pe_tup (pa_cons (pv 4) (pa_cons (pv 5) (pa_cons (pe_op op_sub pe_int (pv 6)) (pa_cons (pe_op op_sub pe_int (pv 7)) pa_nil))))) pa_nil)) (nomark _)) (pw_or1 (pt_cmpR (op_neD hr.units) (pe_cal CPa (hr.mono (by decide)) (pa_cons (pv 8) pa_nil)) (pv 3) (nomark _))))) (pss_one (ps_ret pe_bl)) pss_nil) (C8.pss_cut (ps_set (i := 11) sc_law.nd rfl (Or.inl rfl) (pe_lst (pa_cons (pv 3) (pa_cons (pe_op op_catT (pe_tup (pa_cons pe_str pa_nil)) (pe_slice sl_tup (pv 3) (po_some pe_int) po_none)) (pa_cons (pe_tup (pa_cons (pv 4) (pa_cons (pe_op op_fdivW (pv 5) pe_int) (pa_cons (pv 6) (pa_cons (pv 7) pa_nil))))) (pa_cons (pe_tup (pa_cons (pv 4) (pa_cons (pv 5) (pa_cons (pe_op op_fdivW (pv 6) pe_int) (pa_cons (pv 7) pa_nil))))) pa_nil)))))) (C8.pss_cut (ps_set (i := 12) sc_law.nd rfl (Or.inl rfl) (pe_cal CP (hr.mono (by decide)) (pa_cons (pv 1) (pa_cons (pe_op op_cat (pv 11) (pe_lst (pa_cons (pe_tup (pa_cons (pv 4) (pa_cons (pv 5) (pa_cons (pv 6) (pa_cons (pe_op op_sub pe_int (pv 7)) pa_nil))))) pa_nil))) pa_nil)))) (C8.pss_cut (ps_set (i := 13) sc_law.nd rfl (Or.inl rfl) (pe_mkP hMk T (hr.mono (by decide)) (pa_cons (pe_ix ix_tup (pv 12) pe_int (fun _ _ => rfl)) (pa_cons (pe_ix ix_tup (pv 12) pe_int (fun _ _ => rfl)) (pa_cons (pe_ix ix_tup (pv 12) pe_int (fun _ _ => rfl)) (pa_cons (pe_ix ix_tup (pv 12) pe_int (fun _ _ => rfl)) pa_nil)))))) (C8.pss_cut (ps_if (PW.pt (pw_or (pt_cmpR op_ne (pe_cmpR (op_rcB (n := 1) (g := id) (D := DPt C) (rcB_pt hEqP) (hr.mono (by decide))) (pv 8) (pv 13) (nomark _)) (pe_cmpR (op_eqD hr.units) (pv 12) (pv 3) (nomark _)) (nomark _)) (pw_or1 (pt_cmpR op_eq (pe_cmpR (op_rcB (n := 2) (g := (!·)) (D := DPt C) (rcB_ptNe hEqP) (hr.mono (by decide))) (pv 8) (pv 13) (nomark _)) (pe_cmpR (op_eqD hr.units) (pv 12) (pv 3) (nomark _)) (nomark _))))) (pss_one (ps_ret pe_bl)) pss_nil) (C8.pss_cut (ps_set (i := 14) sc_law.nd rfl (Or.inl rfl) (pe_lst (pa_cons pe_non (pa_cons (pv 4) (pa_cons (pv 3) (pa_cons (pe_callTy call_list_of rfl B.list_ (by decide +kernel) (pa_cons (pv 3) pa_nil)) (pa_cons (pe_prS (pv 8) T.cl hText (hr.mono (by decide))) pa_nil))))))) (C8.pss_cut (ps_if (pt_cmpR (op_neD hr.units) (pe_lc (own := [("_law_thing", 15)]) (g := gName 15) rfl sc_law.nd (pi_list (pv 14)) (blkOk_by (N := N_sc_law) (sc := defScope s_law) (by decide +kernel)) (fun _ _ _ _ _ => pg_name (i := 15) sc_law.nd rfl (Or.inl rfl)) (fun _ _ _ _ _ => pts_one (PW.pt (pw_or (pt_cmpR (op_rcB (n := 1) (g := id) (D := DOwn K C (SaysP K C)) (rcB_own hEqP) (hr.mono (by decide))) (pv 8) (pv 15) (nomark _)) (pw_or1 (pt_not (pt_cmpR (op_rcB (n := 2) (g := (!·)) (D := DOwn K C (SaysP K C)) (rcB_ownNe hEqP) (hr.mono (by decide))) (pv 8) (pv 15) (nomark _))))))) (fun _ _ _ _ _ => (pv 15))) (pe_lst pa_nil) (nomark _)) (pss_one (ps_ret pe_bl)) pss_nil) (C8.pss_cut (ps_if (PW.pt (pw_or (pt_not (pt_cmpR (op_rcB (n := 1) (g := id) (D := DPt C) (rcB_pt hEqP) (hr.mono (by decide))) (pe_cmethS (pe_glob (v := V.ref C) rfl T.mgP rfl) hPRead (hr.mono (by decide)) (pa_cons (pe_prS (pv 8) T.cl hText (hr.mono (by decide))) pa_nil)) (pv 8) (nomark _))) (pw_or1 (pt_cmpR (op_neD hr.units) (pe_cal CPa (hr.mono (by decide)) (pa_cons (pe_cmethS (pe_glob (v := V.ref C) rfl T.mgP rfl) hPRead (hr.mono (by decide)) (pa_cons (pe_cal CLi (hr.mono (by decide)) (pa_cons (pv 12) pa_nil)) pa_nil)) pa_nil)) (pv 12) (nomark _))))) (pss_one (ps_ret pe_bl)) pss_nil) (pss_one (ps_if (PW.pt (pw_or (pt_not (pt_cmpR (op_rcB (n := 1) (g := id) (D := DPt C) (rcB_pt hEqP) (hr.mono (by decide))) (pe_ixO hGet (hr.mono (by decide)) (StX.pe_makeR MF FI (hr.mono (by decide)) rfl U.mgF pass0 (pa_cons (pv 8) pa_nil)) (pv 4)) (pv 8) (nomark _))) (pw_or1 (pt_cmpR op_ne (pe_cmpR (op_rcB (n := 3) (g := id) (D := DFc K C CF) (rcB_fc hEqF) (hr.mono (by decide))) (StX.pe_makeR MF FI (hr.mono (by decide)) rfl U.mgF pass0 (pa_cons (pv 8) pa_nil)) (StX.pe_makeR MF FI (hr.mono (by decide)) rfl U.mgF pass0 (pa_cons (pv 13) pa_nil)) (nomark _)) (pe_cmpR (op_eqD hr.units) (pv 12) (pv 3) (nomark _)) (nomark _))))) (pss_one (ps_ret pe_bl)) pss_nil)))))))))))))))) (pss_one (ps_ret pe_bl)))), ?_⟩
  refine ⟨_, rfl, a, ns, rfl, hS, hlen, fun p l H1 P1 hp0 hl0 s1 => ?_⟩
  refine ⟨10, rfl, by decide, by decide, for_range (lo := 0) (n := 10) (fun i σ' H' => ∃ (o2 o3 o4 o5 o6 o7 o8 o9 o10 o11 o12 o13 o14 : Option V), σ' = [some (.ref a), some (.ref p), o2, o3, o4, o5, o6, o7, o8, o9, o10, o11, o12, o13, o14, none] ∧ Pen H' p l (200000 * i)) ⟨none, none, none, none, none, none, none, none, none, none, none, none, none, rfl, P1⟩ ?_ ?_⟩
  · rintro i σ' H3 hi ⟨o2, o3, o4, o5, o6, o7, o8, o9, o10, o11, o12, o13, o14, rfl, P3⟩
    refine ⟨_, rfl, p, l, _, rfl, P3, by omega, fun F ts H4 hF l6 rows hF0 P4 k4 => ?_⟩
    refine ⟨_, _, rfl, rfl, pw30, _, rfl, (by show 4 ≤ sizeLine; decide), fun t1 h1 => ?_⟩
    refine ⟨_, _, rfl, rfl, pw30, _, rfl, (by show 4 ≤ sizeLine; decide), fun t2 h2 => ?_⟩
    refine ⟨_, _, rfl, rfl, pw18, (by show 4 ≤ sizeLine; decide), fun t3 h3 => ?_⟩
    refine ⟨(by show 3 ≤ sizeLine; decide), fun W hW => ?_⟩
    obtain ⟨kv4, hp4⟩ := P4.dk
    have sW := ((((same_new h1 _).trans (same_new h2 _)).trans (same_new h3 _)).trans (same_new hW (.lst [.ref t1, .ref t2, .ref t3])))
    refine ⟨F, W, _, _, rfl, rfl, sW _ _ hF, upd_same, by rw [List.length_map]; exact Nat.le_trans (show ts.length + 3 ≤ 9 by omega) (by decide), fun Z hZ => ?_⟩
    obtain ⟨us, eus⟩ : ∃ us : List Addr, us = ts ++ [t1, t2, t3] := ⟨_, rfl⟩
    have el : ts.map V.ref ++ [.ref t1, .ref t2, .ref t3] = us.map V.ref := by rw [eus, List.map_append]; rfl
    rw [el]
    obtain ⟨HZ, eHZ, sZ, hZ0⟩ := lst_new hZ (o := .lst (us.map V.ref))
    rw [← eHZ]
    have PZ : Pen HZ p l (200000 * i + 100012) := (P4.same sW).same sZ
    have e30 : (10 : Int) ^ (30 : Int).toNat = 10 ^ 30 := rfl
    have e18 : (10 : Int) ^ (18 : Int).toNat = 10 ^ 18 := rfl
    have rowsZ : ∀ u ∈ us, Row HZ u AnyR := by
      have s34 := (same_new hW (.lst [.ref t1, .ref t2, .ref t3])).trans sZ
      intro u hu
      rw [eus] at hu
      rcases List.mem_append.mp hu with hu | hu
      · exact ((rows u hu).same sW).same sZ
      · simp only [List.mem_cons, List.not_mem_nil, or_false] at hu
        rcases hu with rfl | rfl | rfl
        · exact ⟨"a", 0, 10 ^ 30, -1, s34 _ _ ((same_new h3 _) _ _ ((same_new h2 _) _ _ upd_same)), ⟨by decide, by decide, fun c hc => by have hc : c ∈ [97] := hc; rw [List.mem_singleton.mp hc]; decide⟩, by unfold AnyR; omega⟩
        · exact ⟨"b", 3, -(10 ^ 30), 5, s34 _ _ ((same_new h3 _) _ _ upd_same), ⟨by decide, by decide, fun c hc => by have hc : c ∈ [98] := hc; rw [List.mem_singleton.mp hc]; decide⟩, by unfold AnyR; omega⟩
        · exact ⟨"c", 0, 0, 10 ^ 18, s34 _ _ upd_same, ⟨by decide, by decide, fun c hc => by have hc : c ∈ [99] := hc; rw [List.mem_singleton.mp hc]; decide⟩, by unfold AnyR; omega⟩
    have lus : us.length ≤ 9 := by rw [eus, List.length_append]; show ts.length + 3 ≤ 9; omega
    clear eHZ sZ sW hW h1 h2 h3 P4 k4 hp4 rows hF hF0 P3 el eus
    refine ⟨Z, rfl, ⟨_, SqL.of hZ0⟩, for_list (K := K) (a := Z) (xs := us.map V.ref) (fun j σ' H' => ∃ (o3 o4 o5 o6 o7 o8 o9 o10 o11 o12 o13 o14 : Option V), σ' = [some (.ref a), some (.ref p), some (.int (0 + (i : Int))), o3, o4, o5, o6, o7, o8, o9, o10, o11, o12, o13, o14, none] ∧ Pen H' p l (200000 * i + 100012 + 300 * j) ∧ H' Z = some (.lst (us.map V.ref)) ∧ ∀ u ∈ us, Row H' u AnyR) ⟨_, _, _, _, _, _, _, _, _, _, _, _, rfl, PZ, hZ0, rowsZ⟩ (fun j σ' H' _ h => by obtain ⟨_, _, _, _, _, _, _, _, _, _, _, _, _, _, h, _⟩ := h; exact SqL.of h) ?_ ?_⟩
    · rintro j v σ' H4 e ⟨o3, o4, o5, o6, o7, o8, o9, o10, o11, o12, o13, o14, rfl, P4, hZ4, rows4⟩
      have hj := (List.getElem?_eq_some_iff.mp e).1
      rw [List.length_map] at hj
      obtain ⟨t, ht, rfl⟩ : ∃ t ∈ us, v = .ref t := by
        rw [List.getElem?_map] at e
        cases z : us[j]? with
        | none => rw [z] at e; cases e
        | some t => rw [z] at e; exact ⟨t, List.mem_of_getElem? z, (Option.some.inj e).symm⟩
      obtain ⟨nm, d, ps, st, et, okn, anyr⟩ := rows4 t ht
      have ok : QuadOk (nm, d, ps, st) := anyr.ok okn
      refine ⟨_, rfl, t, _, rfl, SqT.of et, rfl, _, _, rfl, _, _, rfl, _, _, rfl, _, _, rfl, rfl, ?_⟩
      -- the painter
      refine ⟨fun σ' H' => ∃ x : Addr, σ' = [some (.ref a), some (.ref p), some (.int (0 + (i : Int))), some (.ref t), some (.str nm), some (.int d), some (.int ps), some (.int st), some (.ref x), o9, o10, o11, o12, o13, o14, none] ∧ Pa C H' p l (200000 * i + 100012 + 300 * j) Z us t x (nm, d, ps, st), ?_, ?_⟩
      · refine ⟨_, rfl, _, rfl, _, rfl, _, rfl, fun x dx nx ndx nex => ⟨x, dx, nm, d, ps, st, rfl, upd_same, ok, fun H5 hx5 kp5 => ⟨rfl, x, rfl, ?_⟩⟩⟩
        have s5 := Same.made nx ndx kp5
        exact ⟨P4.same s5, s5 _ _ hZ4, fun u hu => (rows4 u hu).same s5, s5 _ _ et, ok, dx, hx5⟩
      rintro σ' H5 ⟨x, rfl, A5⟩
      clear rows4 hZ4 P4 et
      -- moved
      refine ⟨fun σ' H' => ∃ (o9 o10 : Option V), σ' = [some (.ref a), some (.ref p), some (.int (0 + (i : Int))), some (.ref t), some (.str nm), some (.int d), some (.int ps), some (.int st), some (.ref x), o9, o10, o11, o12, o13, o14, none] ∧ Pa C H' p l (200000 * i + 100012 + 300 * j + 160) Z us t x (nm, d, ps, st), ?_, ?_⟩
      · refine ⟨_, rfl, p, l, 9, _, rfl, A5.pen, by omega, by omega, by omega, fun c1 G1 x1 y1 Q1 k1 => ?_⟩
        have B1 := A5.keep k1 Q1
        refine ⟨_, rfl, p, l, 30, _, rfl, B1.pen, by omega, by decide, by decide, fun c2 G2 x2 y2 Q2 k2 => ?_⟩
        have B2 := B1.keep k2 Q2
        refine ⟨_, rfl, p, l, 31, _, rfl, B2.pen, by omega, by decide, by decide, fun c3 G3 x3 y3 Q3 k3 => ?_⟩
        have B3 := B2.keep k3 (Q3.le (show _ ≤ 200000 * i + 100012 + 300 * j + 160 by omega))
        refine ⟨_, _, rfl, rfl, _, _, rfl, rfl, pw30, _, rfl, _, _, rfl, rfl, (by show 5 ≤ sizeLine; decide), fun D hD => ?_⟩
        obtain ⟨HD, eHD, sD, hD0⟩ := lst_new hD (o := .lst [.int 0, .int c1, .int c2, .int (0 - c3), .int (10 ^ (30 : Int).toNat - ps)])
        rw [← eHD]
        refine ⟨D, rfl, ⟨_, SqL.of hD0⟩, for_list (K := K) (a := D) (xs := [.int 0, .int c1, .int c2, .int (0 - c3), .int (10 ^ (30 : Int).toNat - ps)]) (fun jj σ' H' => ∃ (o9 o10 : Option V), σ' = [some (.ref a), some (.ref p), some (.int (0 + (i : Int))), some (.ref t), some (.str nm), some (.int d), some (.int ps), some (.int st), some (.ref x), o9, o10, o11, o12, o13, o14, none] ∧ Pa C H' p l (200000 * i + 100012 + 300 * j + 160) Z us t x (nm, d, ps, st) ∧ H' D = some (.lst [.int 0, .int c1, .int c2, .int (0 - c3), .int (10 ^ (30 : Int).toNat - ps)])) ⟨_, _, rfl, B3.same sD, hD0⟩ (fun jj σ' H' _ h => by obtain ⟨_, _, _, _, h⟩ := h; exact SqL.of h) ?_ ?_⟩
        · rintro jj v σ' H' e ⟨o9, o10, rfl, A', hD'⟩
          obtain ⟨m, rfl⟩ : ∃ m, v = .int m := by
            have := List.mem_of_getElem? e
            simp only [List.mem_cons, List.not_mem_nil, or_false] at this
            rcases this with rfl | rfl | rfl | rfl | rfl <;> exact ⟨_, rfl⟩
          refine ⟨_, rfl, _, rfl, _, _, rfl, rfl, _, rfl, _, _, rfl, rfl, pw30, _, _, rfl, rfl, _, rfl, ?_⟩
          by_cases c : -(10 ^ 30) ≤ ps + m ∧ ps + m ≤ 10 ^ 30
          · have okm : QuadOk (nm, d, ps + m, st) := ⟨ok.nm, ok.d0, ok.d1, c.1, c.2, ok.s0, ok.s1, ok.sn⟩
            refine iteDT (by rw [e30]; split <;> omega) ⟨_, rfl, _, rfl, _, rfl, _, rfl, _, _, rfl, rfl, _, rfl, (by show 4 ≤ sizeLine; decide), fun u hu => ?_⟩
            have su := same_new hu (.tup (quadV (nm, d, ps + m, st)))
            have A2 := A'.same su
            refine ⟨_, rfl, _, rfl, x, nm, d, ps, st, m, rfl, A2.px, ok, fun _ u2 G2 hu2 s2 => ?_, fun z => absurd c z⟩
            refine ⟨_, quadD (nm, d, ps + m, st), rfl, quad_dp (SqT.of hu2), quad_fit okm, fun y1 e1 => ⟨_, rfl, _, quadD (nm, d, ps + m, st), rfl, quad_dp (SqT.of (s2 _ _ upd_same)), quad_fit okm, fun y2 e2 => ⟨rfl, _, rfl, iteNS (by rw [e1, e2]) ⟨_, _, rfl, A2.same s2, s2 _ _ (su _ _ hD')⟩⟩⟩⟩
          · refine iteDF (by rw [e30]; split <;> omega) ?_
            refine ⟨_, rfl, _, rfl, x, nm, d, ps, st, m, rfl, A'.px, ok, fun z => absurd z c, fun _ G2 s2 => ?_⟩
            exact ⟨_, _, rfl, .str _, post_fit, fun y1 e1 => ⟨_, rfl, _, _, rfl, .str _, post_fit, fun y2 e2 => ⟨rfl, _, rfl, iteNS (by rw [e1, e2]) ⟨_, _, rfl, A'.same s2, s2 _ _ hD'⟩⟩⟩⟩
        · rintro σ' H' ⟨o9, o10, rfl, A', _⟩
          exact ⟨_, _, rfl, A'⟩
      rintro σ' H6 ⟨o9', o10', rfl, A6⟩
      clear A5
      -- turned
      refine ⟨fun σ' H' => σ' = [some (.ref a), some (.ref p), some (.int (0 + (i : Int))), some (.ref t), some (.str nm), some (.int d), some (.int ps), some (.int st), some (.ref x), o9', o10', o11, o12, o13, o14, none] ∧ Pa C H' p l (200000 * i + 100012 + 300 * j + 160) Z us t x (nm, d, ps, st), ?_, ?_⟩
      · obtain ⟨dx, ex⟩ := A6.px
        have okn' : QuadOk (nm, d, -ps, -st) := PartOk.neg (nm := nm) (d := d) (p := ps) (s := st) ok
        refine ⟨_, rfl, x, dx, _, rfl, ex, x, nm, d, ps, st, rfl, A6.px, ok, fun y G1 hy s1 => ⟨y, nm, d, -ps, -st, rfl, hy, fun u G2 hu s2 => ⟨_, quadD (nm, d, -ps, -st), rfl, quad_dp (SqT.of hu), quad_fit okn', fun y1 e1 => ?_⟩⟩⟩
        refine ⟨_, rfl, _, rfl, _, rfl, _, _, rfl, rfl, _, rfl, _, _, rfl, rfl, (by show 4 ≤ sizeLine; decide), fun w hw => ?_⟩
        have z1 : (0 : Int) - ps = -ps := Int.zero_sub ps
        have z2 : (0 : Int) - st = -st := Int.zero_sub st
        have fz : Fit (quadD (nm, d, 0 - ps, 0 - st)) := by rw [z1, z2]; exact quad_fit okn'
        refine ⟨_, quadD (nm, d, 0 - ps, 0 - st), rfl, quad_dp (SqT.of upd_same), fz, fun y2 e2 => ⟨rfl, _, rfl, iteNS (by rw [e1, e2, z1, z2]) ?_⟩⟩
        have B6 := A6.same ((s1.trans s2).trans (same_new hw (.tup (quadV (nm, d, 0 - ps, 0 - st)))))
        refine ⟨_, rfl, x, nm, d, ps, st, rfl, B6.px, fun u3 G3 hu3 s3 => ⟨_, rfl, quadD (nm, d, ps, st), quadD (nm, d, ps, st), quad_dp (SqT.of hu3), quad_dp (SqT.of (s3 _ _ B6.ht)), quad_shaped ok, quad_shaped ok, _, rfl, ?_⟩⟩
        rw [quad_inj, decide_eq_true rfl]
        exact iteF ⟨rfl, B6.same s3⟩
      rintro σ' H7 ⟨rfl, A7⟩
      clear A6
      -- some of them
      refine ⟨fun σ' H' => ∃ (S : Addr) (ss : List Addr), σ' = [some (.ref a), some (.ref p), some (.int (0 + (i : Int))), some (.ref t), some (.str nm), some (.int d), some (.int ps), some (.int st), some (.ref x), o9', o10', some (.ref S), o12, o13, o14, none] ∧ H' S = some (.lst (ss.map V.ref)) ∧ ss.length = 4 ∧ (∀ u ∈ ss, ∃ r, H' u = some (.tup (quadV r)) ∧ QuadOk r) ∧ Pa C H' p l (200000 * i + 100012 + 300 * j + 160) Z us t x (nm, d, ps, st), ?_, ?_⟩
      · have cd : ∀ z : Int, CDivW z 2 := fun z => ⟨by decide, by decide⟩
        have h0 : 0 ≤ d := ok.d0
        have h1 : d ≤ 10 ^ 30 := ok.d1
        have h2 : -(10 ^ 30) ≤ ps := ok.p0
        have h3 : ps ≤ 10 ^ 30 := ok.p1
        refine ⟨_, rfl, (by show 1 ≤ sizeLine; decide), fun z1 hz1 => ?_⟩
        have s1 := same_new hz1 (.tup [.str "zz"])
        refine ⟨_, rfl, _, rfl, t, _, rfl, SqT.of (s1 _ _ A7.ht), fun z => absurd z.1 (by show ¬ (1 = 0); decide), fun y1 hy1 => ?_⟩
        have s2 := same_new hy1 (.tup (cutV (quadV (nm, d, ps, st)) (some 1) none))
        refine ⟨z1, y1, [.str "zz"], [.int d, .int ps, .int st], rfl, rfl, SqT.of (s2 _ _ upd_same), SqT.of upd_same, (fun e => by cases e), (by show 4 ≤ sizeLine; decide), (fun e => by cases e), fun _ y hy => ?_⟩
        have s3 := same_new hy (.tup ([.str "zz"] ++ [.int d, .int ps, .int st]))
        refine ⟨_, rfl, _, rfl, _, _, rfl, rfl, cd _, _, rfl, _, rfl, (by show 4 ≤ sizeLine; decide), fun z3 hz3 => ?_⟩
        have s4 := same_new hz3 (.tup (quadV (nm, d / 2, ps, st)))
        refine ⟨_, rfl, _, rfl, _, rfl, _, _, rfl, rfl, cd _, _, rfl, (by show 4 ≤ sizeLine; decide), fun z4 hz4 => ?_⟩
        have s5 := same_new hz4 (.tup (quadV (nm, d, ps / 2, st)))
        refine ⟨(by show 4 ≤ sizeLine; decide), fun S hS => ?_⟩
        have s6 := same_new hS (.lst [.ref t, .ref y, .ref z3, .ref z4])
        refine ⟨S, [t, y, z3, z4], rfl, upd_same, rfl, fun u hu => ?_, A7.same (((((s1.trans s2).trans s3).trans s4).trans s5).trans s6)⟩
        simp only [List.mem_cons, List.not_mem_nil, or_false] at hu
        rcases hu with rfl | rfl | rfl | rfl
        · exact ⟨_, s6 _ _ (s5 _ _ (s4 _ _ (s3 _ _ (s2 _ _ (s1 _ _ A7.ht))))), ok⟩
        · exact ⟨("zz", d, ps, st), s6 _ _ (s5 _ _ (s4 _ _ upd_same)), ⟨by show 1 ≤ ("zz" : Str).length; decide, by show ("zz" : Str).length ≤ 8; decide, fun c hc => by have hc : c ∈ [122, 122] := hc; simp only [List.mem_cons, List.not_mem_nil, or_false, or_self] at hc; omega⟩, ok.d0, ok.d1, ok.p0, ok.p1, ok.s0, ok.s1, ok.sn⟩
        · exact ⟨(nm, d / 2, ps, st), s6 _ _ (s5 _ _ upd_same), ok.nm, by show 0 ≤ d / 2; omega, by show d / 2 ≤ 10 ^ 30; omega, ok.p0, ok.p1, ok.s0, ok.s1, ok.sn⟩
        · exact ⟨(nm, d, ps / 2, st), s6 _ _ upd_same, ok.nm, ok.d0, ok.d1, by show -(10 ^ 30) ≤ ps / 2; omega, by show ps / 2 ≤ 10 ^ 30; omega, ok.s0, ok.s1, ok.sn⟩
      rintro σ' H8 ⟨S, ss, rfl, hS8, l4, ss8, A8⟩
      clear A7
      -- another one
      refine ⟨fun σ' H' => ∃ (u : Addr) (r : Quad), σ' = [some (.ref a), some (.ref p), some (.int (0 + (i : Int))), some (.ref t), some (.str nm), some (.int d), some (.int ps), some (.int st), some (.ref x), o9', o10', some (.ref S), some (.ref u), o13, o14, none] ∧ H' u = some (.tup (quadV r)) ∧ QuadOk r ∧ Pa C H' p l (200000 * i + 100012 + 300 * j + 180) Z us t x (nm, d, ps, st), ?_, ?_⟩
      · refine ⟨_, rfl, _, rfl, _, rfl, _, rfl, _, rfl, _, rfl, _, _, rfl, rfl, (by show 4 ≤ sizeLine; decide), fun z5 hz5 => ?_⟩
        have s1 := same_new hz5 (.tup (quadV (nm, d, ps, 0 - st)))
        refine ⟨(by show 1 ≤ sizeLine; decide), fun W hW => ?_⟩
        have s2 := same_new hW (.lst [.ref z5])
        refine ⟨S, W, _, _, rfl, rfl, s2 _ _ (s1 _ _ hS8), upd_same, by rw [List.length_map, l4]; show 4 + 1 ≤ sizeLine; decide, fun Y hY => ?_⟩
        obtain ⟨HY, eHY, s3, hY0⟩ := lst_new hY (o := .lst (ss.map V.ref ++ [.ref z5]))
        rw [← eHY]
        have sY := (s1.trans s2).trans s3
        have B8 := A8.same sY
        have le : (ss.map V.ref ++ [V.ref z5]).length = 5 := by rw [List.length_append, List.length_map, l4]; rfl
        refine ⟨p, l, Y, _, _, rfl, B8.pen, by omega, SqL.of hY0, by rw [le]; decide, by rw [le]; decide, fun v H' hv P' k' => ?_⟩
        obtain ⟨kvs, hp⟩ := B8.pen.dk
        obtain ⟨u, rfl, r, hu, okr⟩ : ∃ u, v = .ref u ∧ ∃ r, HY u = some (.tup (quadV r)) ∧ QuadOk r := by
          rcases List.mem_append.mp hv with hv | hv
          · obtain ⟨u, hu, rfl⟩ := List.mem_map.mp hv
            obtain ⟨r, e, okr⟩ := ss8 u hu
            exact ⟨u, rfl, r, sY _ _ e, okr⟩
          · have h4 : -(10 ^ 18) ≤ st := ok.s0
            have h5 : st ≤ 10 ^ 18 := ok.s1
            have h6 : st ≠ 0 := ok.sn
            exact ⟨z5, List.mem_singleton.mp hv, (nm, d, ps, 0 - st), s3 _ _ (s2 _ _ upd_same), ok.nm, ok.d0, ok.d1, ok.p0, ok.p1, by show -(10 ^ 18) ≤ 0 - st; omega, by show 0 - st ≤ 10 ^ 18; omega, by show 0 - st ≠ 0; omega⟩
        exact ⟨u, r, rfl, k' _ _ hu (ne_of hu hp (by intro z; cases z)), okr, B8.keep k' (P'.le (by omega))⟩
      rintro σ' H9 ⟨u, r, rfl, hu9, okr, A9⟩
      clear A8 ss8 hS8 l4
      -- its painter
      refine ⟨fun σ' H' => ∃ y : Addr, σ' = [some (.ref a), some (.ref p), some (.int (0 + (i : Int))), some (.ref t), some (.str nm), some (.int d), some (.int ps), some (.int st), some (.ref x), o9', o10', some (.ref S), some (.ref u), some (.ref y), o14, none] ∧ H' u = some (.tup (quadV r)) ∧ PnAt C H' y r.1 r.2.1 r.2.2.1 r.2.2.2 ∧ Pa C H' p l (200000 * i + 100012 + 300 * j + 180) Z us t x (nm, d, ps, st), ?_, ?_⟩
      · have hu := SqT.of (K := K) hu9
        refine ⟨_, rfl, u, _, _, _, rfl, rfl, hu, atI_nat (j := 0) rfl, _, rfl, u, _, _, _, rfl, rfl, hu, atI_nat (j := 1) rfl, _, rfl, u, _, _, _, rfl, rfl, hu, atI_nat (j := 2) rfl, _, rfl, u, _, _, _, rfl, rfl, hu, atI_nat (j := 3) rfl, fun y dy ny ndy ney => ⟨y, dy, r.1, r.2.1, r.2.2.1, r.2.2.2, rfl, upd_same, okr, fun G1 hy kp => ⟨rfl, y, rfl, ?_⟩⟩⟩
        have s1 := Same.made ny ndy kp
        exact ⟨s1 _ _ hu9, ⟨dy, hy⟩, A9.same s1⟩
      rintro σ' H10 ⟨y, rfl, hu10, py10, A10⟩
      clear A9 hu9
      have qx : ∀ {H' : Hp}, PnAt C H' x nm d ps st → PnX C H' ⟨x, nm, d, ps, st⟩ := fun h => h
      have qy : ∀ {H' : Hp}, PnAt C H' y r.1 r.2.1 r.2.2.1 r.2.2.2 → PnX C H' ⟨y, r.1, r.2.1, r.2.2.1, r.2.2.2⟩ := fun h => h
      have n8 : nm.length ≤ 1000 := Nat.le_trans ok.nm.2.1 (by decide)
      have nr8 : r.1.length ≤ 1000 := Nat.le_trans okr.nm.2.1 (by decide)
      have eqs : decide (Pt.parts ⟨x, nm, d, ps, st⟩ = Pt.parts ⟨y, r.1, r.2.1, r.2.2.1, r.2.2.2⟩) = PyData.eqv (quadD r) (quadD (nm, d, ps, st)) := by
        rw [quad_inj]
        exact decide_eq_decide.mpr ⟨fun h => h.symm, fun h => h.symm⟩
      -- alike?
      refine ⟨fun σ' H' => σ' = [some (.ref a), some (.ref p), some (.int (0 + (i : Int))), some (.ref t), some (.str nm), some (.int d), some (.int ps), some (.int st), some (.ref x), o9', o10', some (.ref S), some (.ref u), some (.ref y), o14, none] ∧ H' u = some (.tup (quadV r)) ∧ PnAt C H' y r.1 r.2.1 r.2.2.1 r.2.2.2 ∧ Pa C H' p l (200000 * i + 100012 + 300 * j + 180) Z us t x (nm, d, ps, st), ?_, ?_⟩
      · refine ⟨_, rfl, _, rfl, _, ⟨⟨x, nm, d, ps, st⟩, ⟨y, r.1, r.2.1, r.2.2.1, r.2.2.2⟩, rfl, rfl, qx A10.px, qy py10, rfl⟩, fun G1 e1 => ?_⟩
        have s1 : Same H10 G1 := fun b o z => e1 b o z
        have B1 := A10.same s1
        have py1 : PnAt C G1 y r.1 r.2.1 r.2.2.1 r.2.2.2 := let ⟨dy, z⟩ := py10; ⟨dy, s1 _ _ z⟩
        refine ⟨_, rfl, _, rfl, quadD r, quadD (nm, d, ps, st), quad_dp (SqT.of (s1 _ _ hu10)), quad_dp (SqT.of B1.ht), quad_shaped okr, quad_shaped ok, rfl, _, rfl, iteNS (by rw [eqs]; rfl) ?_⟩
        refine ⟨_, rfl, _, rfl, _, ⟨⟨x, nm, d, ps, st⟩, ⟨y, r.1, r.2.1, r.2.2.1, r.2.2.2⟩, rfl, rfl, qx B1.px, qy py1, rfl⟩, fun G2 e2 => ?_⟩
        have s2 : Same G1 G2 := fun b o z => e2 b o z
        have B2 := B1.same s2
        have s12 := s1.trans s2
        have py2 : PnAt C G2 y r.1 r.2.1 r.2.2.1 r.2.2.2 := let ⟨dy, z⟩ := py10; ⟨dy, s12 _ _ z⟩
        refine ⟨_, rfl, _, rfl, quadD r, quadD (nm, d, ps, st), quad_dp (SqT.of (s12 _ _ hu10)), quad_dp (SqT.of B2.ht), quad_shaped okr, quad_shaped ok, rfl, _, rfl, iteDF (by rw [eqs]; intro z; have z := V.bl.inj z; revert z; cases PyData.eqv (quadD r) (quadD (nm, d, ps, st)) <;> decide) ?_⟩
        exact ⟨rfl, s12 _ _ hu10, py2, B2⟩
      rintro σ' H11 ⟨rfl, hu11, py11, A11⟩
      clear A10 hu10 py10
      -- other things
      refine ⟨fun σ' H' => ∃ Ts LL : Addr, σ' = [some (.ref a), some (.ref p), some (.int (0 + (i : Int))), some (.ref t), some (.str nm), some (.int d), some (.int ps), some (.int st), some (.ref x), o9', o10', some (.ref S), some (.ref u), some (.ref y), some (.ref Ts), none] ∧ H' Ts = some (.lst [.non, .str nm, .ref t, .ref LL, .str (lineOf nm d ps st)]) ∧ H' LL = some (.lst (quadV (nm, d, ps, st))) ∧ H' u = some (.tup (quadV r)) ∧ PnAt C H' y r.1 r.2.1 r.2.2.1 r.2.2.2 ∧ Pa C H' p l (200000 * i + 100012 + 300 * j + 180) Z us t x (nm, d, ps, st), ?_, ?_⟩
      · refine ⟨_, rfl, _, rfl, _, rfl, t, _, rfl, .inr (SqT.of A11.ht), fun LL hLL => ?_⟩
        have s1 := same_new hLL (.lst (quadV (nm, d, ps, st)))
        have B1 := A11.same s1
        obtain ⟨dx, ex⟩ := id B1.px
        refine ⟨_, rfl, x, dx, _, rfl, ex, x, nm, d, ps, st, rfl, B1.px, n8, PartOk.short ok, (by show 5 ≤ sizeLine; decide), fun Ts hTs => ?_⟩
        have s2 := same_new hTs (.lst [.non, .str nm, .ref t, .ref LL, .str (lineOf nm d ps st)])
        have s12 := s1.trans s2
        have py2 : PnAt C _ y r.1 r.2.1 r.2.2.1 r.2.2.2 := let ⟨dy, z⟩ := py11; ⟨dy, s12 _ _ z⟩
        exact ⟨Ts, LL, rfl, upd_same, s2 _ _ upd_same, s12 _ _ hu11, py2, B1.same s2⟩
      rintro σ' H12 ⟨Ts, LL, rfl, hTs, hLL, hu12, py12, A12⟩
      clear A11 hu11 py11
      -- none of them is a painter
      refine ⟨fun σ' H' => σ' = [some (.ref a), some (.ref p), some (.int (0 + (i : Int))), some (.ref t), some (.str nm), some (.int d), some (.int ps), some (.int st), some (.ref x), o9', o10', some (.ref S), some (.ref u), some (.ref y), some (.ref Ts), none] ∧ H' u = some (.tup (quadV r)) ∧ PnAt C H' y r.1 r.2.1 r.2.2.1 r.2.2.2 ∧ Pa C H' p l (200000 * i + 100012 + 300 * j + 180) Z us t x (nm, d, ps, st), ?_, ?_⟩
      · refine ⟨_, rfl, Ts, rfl, ⟨_, SqL.of hTs⟩, fun D hD => lc_list (K := K) (a := Ts) (xs := [.non, .str nm, .ref t, .ref LL, .str (lineOf nm d ps st)]) (fun jj H' => H' D = some (.lst []) ∧ Same H12 H') ⟨upd_same, same_new hD _⟩ (fun jj H' _ h => SqL.of (h.2 _ _ hTs)) ?_ ?_⟩
        · rintro jj v H' e ⟨hD', sm⟩
          have oth : OthS K H12 v := by
            have := List.mem_of_getElem? e
            simp only [List.mem_cons, List.not_mem_nil, or_false] at this
            rcases this with rfl | rfl | rfl | rfl | rfl
            · exact othS_non
            · exact othS_str _
            · exact othS_tup A12.ht
            · exact othS_lst hLL
            · exact othS_str _
          have B1 := A12.same sm
          obtain ⟨dx, ex⟩ := id B1.px
          obtain ⟨dd, k1, k2⟩ := oth H' sm
          refine ⟨rfl, _, rfl, _, rfl, false, ⟨x, dx, _, _, rfl, ex, k2, notFirst_ty dd, ⟨x, nm, d, ps, st⟩, rfl, qx B1.px, .inr ⟨⟨dd, k1, k2⟩, rfl⟩⟩, fun G1 e1 => ⟨_, rfl, iteF ?_⟩⟩
          have s1 : Same H12 G1 := fun b o z => e1 b o (sm _ _ z)
          have B2 := A12.same s1
          obtain ⟨dx2, ex2⟩ := id B2.px
          obtain ⟨dd, k1, k2⟩ := oth G1 s1
          refine ⟨_, rfl, _, rfl, false, ⟨x, dx2, _, _, rfl, ex2, k2, notFirst_ty dd, ⟨x, nm, d, ps, st⟩, rfl, qx B2.px, .inr ⟨⟨dd, k1, k2⟩, rfl⟩⟩, fun G2 e2 => ⟨_, rfl, iteF ?_⟩⟩
          exact ⟨e2 _ _ (e1 _ _ hD'), fun b o z => e2 b o (s1 _ _ z)⟩
        · rintro H' ⟨hD', sm⟩
          refine ⟨(by show 0 ≤ sizeLine; decide), fun E hE => ⟨.list [], .list [], .lst (SqL.of (same_new hE (.lst []) _ _ hD')) .nil, .lst (SqL.of upd_same) .nil, rfl, rfl, false, rfl, iteF ?_⟩⟩
          have s1 := sm.trans (same_new hE (.lst []))
          have py2 : PnAt C _ y r.1 r.2.1 r.2.2.1 r.2.2.2 := let ⟨dy, z⟩ := py12; ⟨dy, s1 _ _ z⟩
          exact ⟨rfl, s1 _ _ hu12, py2, A12.same s1⟩
      rintro σ' H13 ⟨rfl, hu13, py13, A13⟩
      clear A12 hu12 py12 hTs hLL
      -- read again
      refine ⟨fun σ' H' => σ' = [some (.ref a), some (.ref p), some (.int (0 + (i : Int))), some (.ref t), some (.str nm), some (.int d), some (.int ps), some (.int st), some (.ref x), o9', o10', some (.ref S), some (.ref u), some (.ref y), some (.ref Ts), none] ∧ H' u = some (.tup (quadV r)) ∧ PnAt C H' y r.1 r.2.1 r.2.2.1 r.2.2.2 ∧ Pa C H' p l (200000 * i + 100012 + 300 * j + 180) Z us t x (nm, d, ps, st), ?_, ?_⟩
      · obtain ⟨dx, ex⟩ := id A13.px
        refine ⟨rfl, _, rfl, x, dx, _, rfl, ex, x, nm, d, ps, st, rfl, A13.px, n8, PartOk.short ok, nm, d, ps, st, rfl, ok, fun y1 G1 hy1 s1 => ⟨_, rfl, _, ⟨⟨y1, nm, d, ps, st⟩, ⟨x, nm, d, ps, st⟩, rfl, rfl, hy1, qx (A13.same s1).px, rfl⟩, fun G2 e2 => ⟨_, rfl, ?_⟩⟩⟩
        rw [decide_eq_true (show Pt.parts ⟨y1, nm, d, ps, st⟩ = Pt.parts ⟨x, nm, d, ps, st⟩ from rfl)]
        refine iteF ?_
        have s2 : Same H13 G2 := s1.trans fun b o z => e2 b o z
        refine ⟨rfl, _, rfl, u, r.1, r.2.1, r.2.2.1, r.2.2.2, rfl, SqT.of (s2 _ _ hu13), nr8, PartOk.short okr, fun G3 s3 => ⟨r.1, r.2.1, r.2.2.1, r.2.2.2, rfl, okr, fun y2 G4 hy2 s4 => ⟨y2, r.1, r.2.1, r.2.2.1, r.2.2.2, rfl, hy2, fun v G5 hv s5 => ?_⟩⟩⟩
        have sm := (((s2.trans s3).trans s4).trans s5)
        refine ⟨_, rfl, quadD r, quadD r, quad_dp (SqT.of hv), quad_dp (SqT.of (sm _ _ hu13)), quad_shaped okr, quad_shaped okr, _, rfl, ?_⟩
        rw [quad_inj, decide_eq_true rfl]
        have py2 : PnAt C _ y r.1 r.2.1 r.2.2.1 r.2.2.2 := let ⟨dy, z⟩ := py13; ⟨dy, sm _ _ z⟩
        exact iteF ⟨rfl, sm _ _ hu13, py2, A13.same sm⟩
      rintro σ' H14 ⟨rfl, hu14, py14, A14⟩
      clear A13 hu13 py13
      -- fences of one painter
      have crew1 : ∀ {H' : Hp} {z : Addr} {q : Quad}, PnAt C H' z q.1 q.2.1 q.2.2.1 q.2.2.2 → QuadOk q → Crew C H' [⟨z, q.1, q.2.1, q.2.2.1, q.2.2.2⟩] := fun h o => ⟨fun v hv => by obtain rfl := List.mem_singleton.mp hv; exact ⟨h, o⟩, List.nodup_cons.mpr ⟨List.not_mem_nil, List.nodup_nil⟩, (by show 1 ≤ 40; decide)⟩
      refine ⟨_, rfl, fun f1 df nf ndf nef => ask_fence (L := [⟨x, nm, d, ps, st⟩]) nf ndf (crew1 (q := (nm, d, ps, st)) A14.px ok) fun G1 g1 s1 => ⟨rfl, ?_⟩⟩
      obtain ⟨d1, t1, b1, h1, h2, h3⟩ := g1.ex
      refine ⟨_, rfl, f1, d1, _, rfl, h1, f1, [⟨x, nm, d, ps, st⟩], ⟨x, nm, d, ps, st⟩, rfl, g1, List.mem_singleton.mpr rfl, fun G2 s2 => ?_⟩
      have B2 := A14.same (s1.trans s2)
      refine ⟨_, rfl, _, ⟨⟨x, nm, d, ps, st⟩, ⟨x, nm, d, ps, st⟩, rfl, rfl, qx B2.px, qx B2.px, rfl⟩, fun G3 e3 => ⟨_, rfl, ?_⟩⟩
      rw [decide_eq_true (show Pt.parts ⟨x, nm, d, ps, st⟩ = Pt.parts ⟨x, nm, d, ps, st⟩ from rfl)]
      refine iteF ?_
      have s3 : Same H14 G3 := (s1.trans s2).trans fun b o z => e3 b o z
      have B3 := A14.same s3
      refine ⟨_, rfl, fun f2 df2 nf2 ndf2 nef2 => ask_fence (L := [⟨x, nm, d, ps, st⟩]) nf2 ndf2 (crew1 (q := (nm, d, ps, st)) B3.px ok) fun G4 g4 s4 => ⟨rfl, ?_⟩⟩
      have s34 := s3.trans s4
      have py4 : PnAt C G4 y r.1 r.2.1 r.2.2.1 r.2.2.2 := let ⟨dy, z⟩ := py14; ⟨dy, s34 _ _ z⟩
      refine ⟨_, rfl, fun f3 df3 nf3 ndf3 nef3 => ask_fence (L := [⟨y, r.1, r.2.1, r.2.2.1, r.2.2.2⟩]) nf3 ndf3 (crew1 py4 okr) fun G5 g5 s5 => ⟨rfl, ?_⟩⟩
      refine ⟨_, ⟨f2, rfl, [⟨x, nm, d, ps, st⟩], g4.same s5, .inl ⟨f3, [⟨y, r.1, r.2.1, r.2.2.1, r.2.2.2⟩], rfl, g5, rfl⟩⟩, fun G6 e6 => ?_⟩
      have s6 : Same H14 G6 := (s34.trans s5).trans fun b o z => e6 b o z
      have B6 := A14.same s6
      have eql : decide (partsOf [⟨x, nm, d, ps, st⟩] = partsOf [⟨y, r.1, r.2.1, r.2.2.1, r.2.2.2⟩]) = PyData.eqv (quadD r) (quadD (nm, d, ps, st)) := by
        rw [← eqs]
        exact decide_eq_decide.mpr ⟨fun h => (List.cons.inj h).1, fun h => congrArg (fun z => [z]) h⟩
      refine ⟨_, rfl, _, rfl, quadD r, quadD (nm, d, ps, st), quad_dp (SqT.of (s6 _ _ hu14)), quad_dp (SqT.of B6.ht), quad_shaped okr, quad_shaped ok, rfl, _, rfl, iteNS (by rw [eql]; rfl) ?_⟩
      exact ⟨_, _, _, _, _, _, _, _, _, _, _, _, rfl, B6.pen.le (by omega), B6.hZ, B6.rows⟩
    · rintro σ' H' ⟨o3, o4, o5, o6, o7, o8, o9, o10, o11, o12, o13, o14, rfl, P4, _, _⟩
      exact ⟨_, _, _, _, _, _, _, _, _, _, _, _, _, rfl, P4.le (by rw [List.length_map]; omega)⟩
  · rintro σ' H' ⟨o2, o3, o4, o5, o6, o7, o8, o9, o10, o11, o12, o13, o14, rfl, P3⟩
    exact q H'
end
end Ur
/-! E13: the end. -/
namespace Ur
open PySem PySem.Spec PyProof.Rows L2
theorem all_mk {l : PySem.W.OpenLaw} {w : World} {K : PySem.W.Frag} {h : Heap} {mg : Str → Option Value} {fa : Addr} (X : K.In h) (G : h.Ns mainGlobals mg) (hfa : mg "law" = some (.ref fa))
    {f1 f2 f3 f4 f5 f6 f7 f8 f9 f10 f11 f12 f13 f14 f15 f16 f17 fL CPainter f18 p19 f19 p20 f20 p21 f21 p22 f22 p23 f23 p24 f24 p25 f25 f26 f27 f28 CFence f29 f30 f31 f32 CInvalidPainter NInvalidPainter f33 : Addr}
    {od1 an1 od2 an2 od3 an3 od4 an4 od5 an5 od6 an6 od7 an7 od8 an8 od9 an9 od10 an10 od11 an11 od12 an12 od13 an13 od14 an14 od15 an15 od16 an16 od17 an17 odL anL od18 an18 od19 an19 od20 an20 od21 an21 od22 an22 od23 an23 od24 an24 od25 an25 od26 an26 od27 an27 od28 an28 od29 an29 od30 an30 od31 an31 od32 an32 ddInvalidPainter od33 an33 : Option Addr}
    {sl1 sl2 sl3 sl4 sl5 sl6 sl7 sl8 sl9 sl10 sl11 sl12 sl13 sl14 sl15 sl16 sl17 slL sl18 sl19 sl20 sl21 sl22 sl23 sl24 sl25 sl26 sl27 sl28 sl29 sl30 sl31 sl32 sl33 : Array (Option Value)}
    {oc1 kV1 dc1 pm1 cd1 ct1 oc2 kV2 dc2 pm2 cd2 ct2 oc3 kV3 dc3 pm3 cd3 ct3 oc4 kV4 dc4 pm4 cd4 ct4 oc5 kV5 dc5 pm5 cd5 ct5 oc6 kV6 dc6 pm6 cd6 ct6 oc7 kV7 dc7 pm7 cd7 ct7 oc8 kV8 dc8 pm8 cd8 ct8 oc9 kV9 dc9 pm9 cd9 ct9 oc10 kV10 dc10 pm10 cd10 ct10 oc11 kV11 dc11 pm11 cd11 ct11 oc12 kV12 dc12 pm12 cd12 ct12 oc13 kV13 dc13 pm13 cd13 ct13 oc14 kV14 dc14 pm14 cd14 ct14 oc15 kV15 dc15 pm15 cd15 ct15 oc16 kV16 dc16 pm16 cd16 ct16 oc17 kV17 dc17 pm17 cd17 ct17 ocL kVL dcL pmL cdL ctL uPainterMAX_DAY uPainterMAX_POST uPainterMAX_STRIDE oc18 kV18 dc18 pm18 cd18 ct18 oc19 kV19 dc19 pm19 cd19 ct19 oc20 kV20 dc20 pm20 cd20 ct20 oc21 kV21 dc21 pm21 cd21 ct21 oc22 kV22 dc22 pm22 cd22 ct22 oc23 kV23 dc23 pm23 cd23 ct23 oc24 kV24 dc24 pm24 cd24 ct24 oc25 kV25 dc25 pm25 cd25 ct25 oc26 kV26 dc26 pm26 cd26 ct26 oc27 kV27 dc27 pm27 cd27 ct27 oc28 kV28 dc28 pm28 cd28 ct28 oc29 kV29 dc29 pm29 cd29 ct29 oc30 kV30 dc30 pm30 cd30 ct30 oc31 kV31 dc31 pm31 cd31 ct31 oc32 kV32 dc32 pm32 cd32 ct32 oc33 kV33 dc33 pm33 cd33 ct33 vgMAX_PAINTERS vgMAX_DIGITS : Value}
    {r19 r20 r21 r22 r23 r24 r25 bsInvalidPainter subInvalidPainter : List Value}
    {xoPainter xrPainter m0InvalidPainter m1InvalidPainter m2InvalidPainter m3InvalidPainter m5InvalidPainter : Option Value}
    {nmInvalidPainter qInvalidPainter : Str}
    {snInvalidPainter : List Str}
    {abInvalidPainter : Bool}
    {colInvalidPainter : Option Bool}
    (a1 : PySem.W.nsIn K mainGlobals "_law_pen" = some (some (.ref f1)))
    (l1 : K.lookup f1 = some ⟨oc1, od1, .func (PySem.W.fnOf "_law_pen" "_law_pen" (defArgs s__law_pen) (defBody s__law_pen) (defScope s__law_pen) .none kV1 dc1 pm1 an1 cd1 ct1), sl1⟩)
    (c1 : PySem.W.codeIn K cd1 "_law_pen" = true)
    (k1 : PySem.W.keepIn K (.ref f1) = true)
    (a2 : PySem.W.nsIn K mainGlobals "_law_draw" = some (some (.ref f2)))
    (l2 : K.lookup f2 = some ⟨oc2, od2, .func (PySem.W.fnOf "_law_draw" "_law_draw" (defArgs s__law_draw) (defBody s__law_draw) (defScope s__law_draw) .none kV2 dc2 pm2 an2 cd2 ct2), sl2⟩)
    (c2 : PySem.W.codeIn K cd2 "_law_draw" = true)
    (k2 : PySem.W.keepIn K (.ref f2) = true)
    (a3 : PySem.W.nsIn K mainGlobals "_law_pick" = some (some (.ref f3)))
    (l3 : K.lookup f3 = some ⟨oc3, od3, .func (PySem.W.fnOf "_law_pick" "_law_pick" (defArgs s__law_pick) (defBody s__law_pick) (defScope s__law_pick) .none kV3 dc3 pm3 an3 cd3 ct3), sl3⟩)
    (c3 : PySem.W.codeIn K cd3 "_law_pick" = true)
    (k3 : PySem.W.keepIn K (.ref f3) = true)
    (a4 : PySem.W.nsIn K mainGlobals "_law_around" = some (some (.ref f4)))
    (l4 : K.lookup f4 = some ⟨oc4, od4, .func (PySem.W.fnOf "_law_around" "_law_around" (defArgs s__law_around) (defBody s__law_around) (defScope s__law_around) .none kV4 dc4 pm4 an4 cd4 ct4), sl4⟩)
    (c4 : PySem.W.codeIn K cd4 "_law_around" = true)
    (k4 : PySem.W.keepIn K (.ref f4) = true)
    (a5 : PySem.W.nsIn K mainGlobals "_law_power" = some (some (.ref f5)))
    (l5 : K.lookup f5 = some ⟨oc5, od5, .func (PySem.W.fnOf "_law_power" "_law_power" (defArgs s__law_power) (defBody s__law_power) (defScope s__law_power) .none kV5 dc5 pm5 an5 cd5 ct5), sl5⟩)
    (c5 : PySem.W.codeIn K cd5 "_law_power" = true)
    (k5 : PySem.W.keepIn K (.ref f5) = true)
    (a6 : PySem.W.nsIn K mainGlobals "_law_great" = some (some (.ref f6)))
    (l6 : K.lookup f6 = some ⟨oc6, od6, .func (PySem.W.fnOf "_law_great" "_law_great" (defArgs s__law_great) (defBody s__law_great) (defScope s__law_great) .none kV6 dc6 pm6 an6 cd6 ct6), sl6⟩)
    (c6 : PySem.W.codeIn K cd6 "_law_great" = true)
    (k6 : PySem.W.keepIn K (.ref f6) = true)
    (a7 : PySem.W.nsIn K mainGlobals "_law_names" = some (some (.ref f7)))
    (l7 : K.lookup f7 = some ⟨oc7, od7, .func (PySem.W.fnOf "_law_names" "_law_names" (defArgs s__law_names) (defBody s__law_names) (defScope s__law_names) .none kV7 dc7 pm7 an7 cd7 ct7), sl7⟩)
    (c7 : PySem.W.codeIn K cd7 "_law_names" = true)
    (k7 : PySem.W.keepIn K (.ref f7) = true)
    (a8 : PySem.W.nsIn K mainGlobals "_law_small" = some (some (.ref f8)))
    (l8 : K.lookup f8 = some ⟨oc8, od8, .func (PySem.W.fnOf "_law_small" "_law_small" (defArgs s__law_small) (defBody s__law_small) (defScope s__law_small) .none kV8 dc8 pm8 an8 cd8 ct8), sl8⟩)
    (c8 : PySem.W.codeIn K cd8 "_law_small" = true)
    (k8 : PySem.W.keepIn K (.ref f8) = true)
    (a9 : PySem.W.nsIn K mainGlobals "_law_aimed" = some (some (.ref f9)))
    (l9 : K.lookup f9 = some ⟨oc9, od9, .func (PySem.W.fnOf "_law_aimed" "_law_aimed" (defArgs s__law_aimed) (defBody s__law_aimed) (defScope s__law_aimed) .none kV9 dc9 pm9 an9 cd9 ct9), sl9⟩)
    (c9 : PySem.W.codeIn K cd9 "_law_aimed" = true)
    (k9 : PySem.W.keepIn K (.ref f9) = true)
    (a10 : PySem.W.nsIn K mainGlobals "_law_lined" = some (some (.ref f10)))
    (l10 : K.lookup f10 = some ⟨oc10, od10, .func (PySem.W.fnOf "_law_lined" "_law_lined" (defArgs s__law_lined) (defBody s__law_lined) (defScope s__law_lined) .none kV10 dc10 pm10 an10 cd10 ct10), sl10⟩)
    (c10 : PySem.W.codeIn K cd10 "_law_lined" = true)
    (k10 : PySem.W.keepIn K (.ref f10) = true)
    (a11 : PySem.W.nsIn K mainGlobals "_law_line" = some (some (.ref f11)))
    (l11 : K.lookup f11 = some ⟨oc11, od11, .func (PySem.W.fnOf "_law_line" "_law_line" (defArgs s__law_line) (defBody s__law_line) (defScope s__law_line) .none kV11 dc11 pm11 an11 cd11 ct11), sl11⟩)
    (c11 : PySem.W.codeIn K cd11 "_law_line" = true)
    (k11 : PySem.W.keepIn K (.ref f11) = true)
    (a12 : PySem.W.nsIn K mainGlobals "_law_painters" = some (some (.ref f12)))
    (l12 : K.lookup f12 = some ⟨oc12, od12, .func (PySem.W.fnOf "_law_painters" "_law_painters" (defArgs s__law_painters) (defBody s__law_painters) (defScope s__law_painters) .none kV12 dc12 pm12 an12 cd12 ct12), sl12⟩)
    (c12 : PySem.W.codeIn K cd12 "_law_painters" = true)
    (k12 : PySem.W.keepIn K (.ref f12) = true)
    (a13 : PySem.W.nsIn K mainGlobals "_law_parts" = some (some (.ref f13)))
    (l13 : K.lookup f13 = some ⟨oc13, od13, .func (PySem.W.fnOf "_law_parts" "_law_parts" (defArgs s__law_parts) (defBody s__law_parts) (defScope s__law_parts) .none kV13 dc13 pm13 an13 cd13 ct13), sl13⟩)
    (c13 : PySem.W.codeIn K cd13 "_law_parts" = true)
    (k13 : PySem.W.keepIn K (.ref f13) = true)
    (a14 : PySem.W.nsIn K mainGlobals "_law_added" = some (some (.ref f14)))
    (l14 : K.lookup f14 = some ⟨oc14, od14, .func (PySem.W.fnOf "_law_added" "_law_added" (defArgs s__law_added) (defBody s__law_added) (defScope s__law_added) .none kV14 dc14 pm14 an14 cd14 ct14), sl14⟩)
    (c14 : PySem.W.codeIn K cd14 "_law_added" = true)
    (k14 : PySem.W.keepIn K (.ref f14) = true)
    (a15 : PySem.W.nsIn K mainGlobals "is_integer" = some (some (.ref f15)))
    (l15 : K.lookup f15 = some ⟨oc15, od15, .func (PySem.W.fnOf "is_integer" "is_integer" (defArgs s_is_integer) (defBody s_is_integer) (defScope s_is_integer) .none kV15 dc15 pm15 an15 cd15 ct15), sl15⟩)
    (c15 : PySem.W.codeIn K cd15 "is_integer" = true)
    (k15 : PySem.W.keepIn K (.ref f15) = true)
    (a16 : PySem.W.nsIn K mainGlobals "is_between" = some (some (.ref f16)))
    (l16 : K.lookup f16 = some ⟨oc16, od16, .func (PySem.W.fnOf "is_between" "is_between" (defArgs s_is_between) (defBody s_is_between) (defScope s_is_between) .none kV16 dc16 pm16 an16 cd16 ct16), sl16⟩)
    (c16 : PySem.W.codeIn K cd16 "is_between" = true)
    (k16 : PySem.W.keepIn K (.ref f16) = true)
    (a17 : PySem.W.nsIn K mainGlobals "integer_of" = some (some (.ref f17)))
    (l17 : K.lookup f17 = some ⟨oc17, od17, .func (PySem.W.fnOf "integer_of" "integer_of" (defArgs s_integer_of) (defBody s_integer_of) (defScope s_integer_of) .none kV17 dc17 pm17 an17 cd17 ct17), sl17⟩)
    (c17 : PySem.W.codeIn K cd17 "integer_of" = true)
    (k17 : PySem.W.keepIn K (.ref f17) = true)
    (aL : PySem.W.nsIn K mainGlobals "law" = some (some (.ref fL)))
    (lL : K.lookup fL = some ⟨ocL, odL, .func (PySem.W.fnOf "law" "law" (defArgs s_law) (defBody s_law) (defScope s_law) .none kVL dcL pmL anL cdL ctL), slL⟩)
    (cL : PySem.W.codeIn K cdL "law" = true)
    (kL : PySem.W.keepIn K (.ref fL) = true)
    (gPainter : PySem.W.nsIn K mainGlobals "Painter" = some (some (.ref CPainter)))
    (pgPainter : PySem.W.plainGet K CPainter Str.empty = true)
    (hdPainter : PySem.W.hasDictIn K CPainter = true)
    (poPainter : PySem.W.plainOver K CPainter = true)
    (saPainter : PySem.W.findIn K (.ref CPainter) "__setattr__" = some (some (.builtin "object.__setattr__")))
    (rdPainter : PySem.W.readsIn K CPainter (.type "type") = true)
    (gaPainter : PySem.W.specialIn K (.ref CPainter) "__getattribute__" = some (some (.builtin "type.__getattribute__")))
    (nPainter_name : PySem.W.findIn K (.ref CPainter) "_name" = some none)
    (nPainter_day : PySem.W.findIn K (.ref CPainter) "_day" = some none)
    (nPainter_post : PySem.W.findIn K (.ref CPainter) "_post" = some none)
    (nPainter_stride : PySem.W.findIn K (.ref CPainter) "_stride" = some none)
    (vPainterMAX_DAY : PySem.W.findCls K (.ref CPainter) (.type "type") "MAX_DAY" = some (.val uPainterMAX_DAY))
    (wPainterMAX_DAY : L2.RelV (.int (10 ^ 30)) uPainterMAX_DAY)
    (vPainterMAX_POST : PySem.W.findCls K (.ref CPainter) (.type "type") "MAX_POST" = some (.val uPainterMAX_POST))
    (wPainterMAX_POST : L2.RelV (.int (10 ^ 30)) uPainterMAX_POST)
    (vPainterMAX_STRIDE : PySem.W.findCls K (.ref CPainter) (.type "type") "MAX_STRIDE" = some (.val uPainterMAX_STRIDE))
    (wPainterMAX_STRIDE : L2.RelV (.int (10 ^ 18)) uPainterMAX_STRIDE)
    (a18 : PySem.W.findIn K (.ref CPainter) "__init__" = some (some (.ref f18)))
    (i18 : PySem.W.isFn K (.ref f18) = true)
    (l18 : K.lookup f18 = some ⟨oc18, od18, .func (PySem.W.fnOf "__init__" "Painter.__init__" (defArgs s_Painter_init) (defBody s_Painter_init) (defScope s_Painter_init) .none kV18 dc18 pm18 an18 cd18 ct18), sl18⟩)
    (c18 : PySem.W.codeIn K cd18 "Painter.__init__" = true)
    (k18 : PySem.W.keepIn K (.ref f18) = true)
    (mkPainter : PySem.W.makesIn K CPainter = true)
    (kcPainter : PySem.W.keepIn K (.ref CPainter) = true)
    (a19 : PySem.W.findCls K (.ref CPainter) (.type "type") "is_name" = some (.get (.builtin "staticmethod.__get__") (.ref p19) .none (.ref CPainter)))
    (e19 : PySem.W.recIn K p19 "staticmethod" = some (.ref f19 :: r19))
    (l19 : K.lookup f19 = some ⟨oc19, od19, .func (PySem.W.fnOf "is_name" "Painter.is_name" (defArgs s_Painter_is_name) (defBody s_Painter_is_name) (defScope s_Painter_is_name) .none kV19 dc19 pm19 an19 cd19 ct19), sl19⟩)
    (c19 : PySem.W.codeIn K cd19 "Painter.is_name" = true)
    (k19 : PySem.W.keepIn K (.ref f19) = true)
    (a20 : PySem.W.findCls K (.ref CPainter) (.type "type") "read" = some (.get (.builtin "classmethod.__get__") (.ref p20) .none (.ref CPainter)))
    (e20 : PySem.W.recIn K p20 "classmethod" = some (.ref f20 :: r20))
    (l20 : K.lookup f20 = some ⟨oc20, od20, .func (PySem.W.fnOf "read" "Painter.read" (defArgs s_Painter_read) (defBody s_Painter_read) (defScope s_Painter_read) .none kV20 dc20 pm20 an20 cd20 ct20), sl20⟩)
    (c20 : PySem.W.codeIn K cd20 "Painter.read" = true)
    (k20 : PySem.W.keepIn K (.ref f20) = true)
    (a21 : PySem.W.findIn K (.ref CPainter) "name" = some (some (.ref p21)))
    (s21 : PySem.W.specialIn K (.ref p21) "__get__" = some (some (.builtin "property.__get__")))
    (t21 : PySem.W.takesIn K (.ref p21) = some true)
    (e21 : PySem.W.recIn K p21 "property" = some (.ref f21 :: r21))
    (l21 : K.lookup f21 = some ⟨oc21, od21, .func (PySem.W.fnOf "name" "Painter.name" (defArgs s_Painter_name) (defBody s_Painter_name) (defScope s_Painter_name) .none kV21 dc21 pm21 an21 cd21 ct21), sl21⟩)
    (c21 : PySem.W.codeIn K cd21 "Painter.name" = true)
    (k21 : PySem.W.keepIn K (.ref f21) = true)
    (a22 : PySem.W.findIn K (.ref CPainter) "day" = some (some (.ref p22)))
    (s22 : PySem.W.specialIn K (.ref p22) "__get__" = some (some (.builtin "property.__get__")))
    (t22 : PySem.W.takesIn K (.ref p22) = some true)
    (e22 : PySem.W.recIn K p22 "property" = some (.ref f22 :: r22))
    (l22 : K.lookup f22 = some ⟨oc22, od22, .func (PySem.W.fnOf "day" "Painter.day" (defArgs s_Painter_day) (defBody s_Painter_day) (defScope s_Painter_day) .none kV22 dc22 pm22 an22 cd22 ct22), sl22⟩)
    (c22 : PySem.W.codeIn K cd22 "Painter.day" = true)
    (k22 : PySem.W.keepIn K (.ref f22) = true)
    (a23 : PySem.W.findIn K (.ref CPainter) "post" = some (some (.ref p23)))
    (s23 : PySem.W.specialIn K (.ref p23) "__get__" = some (some (.builtin "property.__get__")))
    (t23 : PySem.W.takesIn K (.ref p23) = some true)
    (e23 : PySem.W.recIn K p23 "property" = some (.ref f23 :: r23))
    (l23 : K.lookup f23 = some ⟨oc23, od23, .func (PySem.W.fnOf "post" "Painter.post" (defArgs s_Painter_post) (defBody s_Painter_post) (defScope s_Painter_post) .none kV23 dc23 pm23 an23 cd23 ct23), sl23⟩)
    (c23 : PySem.W.codeIn K cd23 "Painter.post" = true)
    (k23 : PySem.W.keepIn K (.ref f23) = true)
    (a24 : PySem.W.findIn K (.ref CPainter) "stride" = some (some (.ref p24)))
    (s24 : PySem.W.specialIn K (.ref p24) "__get__" = some (some (.builtin "property.__get__")))
    (t24 : PySem.W.takesIn K (.ref p24) = some true)
    (e24 : PySem.W.recIn K p24 "property" = some (.ref f24 :: r24))
    (l24 : K.lookup f24 = some ⟨oc24, od24, .func (PySem.W.fnOf "stride" "Painter.stride" (defArgs s_Painter_stride) (defBody s_Painter_stride) (defScope s_Painter_stride) .none kV24 dc24 pm24 an24 cd24 ct24), sl24⟩)
    (c24 : PySem.W.codeIn K cd24 "Painter.stride" = true)
    (k24 : PySem.W.keepIn K (.ref f24) = true)
    (a25 : PySem.W.findIn K (.ref CPainter) "text" = some (some (.ref p25)))
    (s25 : PySem.W.specialIn K (.ref p25) "__get__" = some (some (.builtin "property.__get__")))
    (t25 : PySem.W.takesIn K (.ref p25) = some true)
    (e25 : PySem.W.recIn K p25 "property" = some (.ref f25 :: r25))
    (l25 : K.lookup f25 = some ⟨oc25, od25, .func (PySem.W.fnOf "text" "Painter.text" (defArgs s_Painter_text) (defBody s_Painter_text) (defScope s_Painter_text) .none kV25 dc25 pm25 an25 cd25 ct25), sl25⟩)
    (c25 : PySem.W.codeIn K cd25 "Painter.text" = true)
    (k25 : PySem.W.keepIn K (.ref f25) = true)
    (a26 : PySem.W.findIn K (.ref CPainter) "__eq__" = some (some (.ref f26)))
    (i26 : PySem.W.isFn K (.ref f26) = true)
    (l26 : K.lookup f26 = some ⟨oc26, od26, .func (PySem.W.fnOf "__eq__" "Painter.__eq__" (defArgs s_Painter_eq) (defBody s_Painter_eq) (defScope s_Painter_eq) .none kV26 dc26 pm26 an26 cd26 ct26), sl26⟩)
    (c26 : PySem.W.codeIn K cd26 "Painter.__eq__" = true)
    (k26 : PySem.W.keepIn K (.ref f26) = true)
    (a27 : PySem.W.findIn K (.ref CPainter) "__add__" = some (some (.ref f27)))
    (i27 : PySem.W.isFn K (.ref f27) = true)
    (l27 : K.lookup f27 = some ⟨oc27, od27, .func (PySem.W.fnOf "__add__" "Painter.__add__" (defArgs s_Painter_add) (defBody s_Painter_add) (defScope s_Painter_add) .none kV27 dc27 pm27 an27 cd27 ct27), sl27⟩)
    (c27 : PySem.W.codeIn K cd27 "Painter.__add__" = true)
    (k27 : PySem.W.keepIn K (.ref f27) = true)
    (a28 : PySem.W.findIn K (.ref CPainter) "__neg__" = some (some (.ref f28)))
    (i28 : PySem.W.isFn K (.ref f28) = true)
    (l28 : K.lookup f28 = some ⟨oc28, od28, .func (PySem.W.fnOf "__neg__" "Painter.__neg__" (defArgs s_Painter_neg) (defBody s_Painter_neg) (defScope s_Painter_neg) .none kV28 dc28 pm28 an28 cd28 ct28), sl28⟩)
    (c28 : PySem.W.codeIn K cd28 "Painter.__neg__" = true)
    (k28 : PySem.W.keepIn K (.ref f28) = true)
    (gFence : PySem.W.nsIn K mainGlobals "Fence" = some (some (.ref CFence)))
    (pgFence : PySem.W.plainGet K CFence Str.empty = true)
    (hdFence : PySem.W.hasDictIn K CFence = true)
    (poFence : PySem.W.plainOver K CFence = true)
    (saFence : PySem.W.findIn K (.ref CFence) "__setattr__" = some (some (.builtin "object.__setattr__")))
    (rdFence : PySem.W.readsIn K CFence (.type "type") = true)
    (gaFence : PySem.W.specialIn K (.ref CFence) "__getattribute__" = some (some (.builtin "type.__getattribute__")))
    (nFence_painters : PySem.W.findIn K (.ref CFence) "_painters" = some none)
    (nFence_by_name : PySem.W.findIn K (.ref CFence) "_by_name" = some none)
    (a29 : PySem.W.findIn K (.ref CFence) "__init__" = some (some (.ref f29)))
    (i29 : PySem.W.isFn K (.ref f29) = true)
    (l29 : K.lookup f29 = some ⟨oc29, od29, .func (PySem.W.fnOf "__init__" "Fence.__init__" (defArgs s_Fence_init) (defBody s_Fence_init) (defScope s_Fence_init) .none kV29 dc29 pm29 an29 cd29 ct29), sl29⟩)
    (c29 : PySem.W.codeIn K cd29 "Fence.__init__" = true)
    (k29 : PySem.W.keepIn K (.ref f29) = true)
    (mkFence : PySem.W.makesIn K CFence = true)
    (kcFence : PySem.W.keepIn K (.ref CFence) = true)
    (a30 : PySem.W.findIn K (.ref CFence) "__contains__" = some (some (.ref f30)))
    (i30 : PySem.W.isFn K (.ref f30) = true)
    (l30 : K.lookup f30 = some ⟨oc30, od30, .func (PySem.W.fnOf "__contains__" "Fence.__contains__" (defArgs s_Fence_contains) (defBody s_Fence_contains) (defScope s_Fence_contains) .none kV30 dc30 pm30 an30 cd30 ct30), sl30⟩)
    (c30 : PySem.W.codeIn K cd30 "Fence.__contains__" = true)
    (k30 : PySem.W.keepIn K (.ref f30) = true)
    (a31 : PySem.W.findIn K (.ref CFence) "__getitem__" = some (some (.ref f31)))
    (i31 : PySem.W.isFn K (.ref f31) = true)
    (l31 : K.lookup f31 = some ⟨oc31, od31, .func (PySem.W.fnOf "__getitem__" "Fence.__getitem__" (defArgs s_Fence_getitem) (defBody s_Fence_getitem) (defScope s_Fence_getitem) .none kV31 dc31 pm31 an31 cd31 ct31), sl31⟩)
    (c31 : PySem.W.codeIn K cd31 "Fence.__getitem__" = true)
    (k31 : PySem.W.keepIn K (.ref f31) = true)
    (a32 : PySem.W.findIn K (.ref CFence) "__eq__" = some (some (.ref f32)))
    (i32 : PySem.W.isFn K (.ref f32) = true)
    (l32 : K.lookup f32 = some ⟨oc32, od32, .func (PySem.W.fnOf "__eq__" "Fence.__eq__" (defArgs s_Fence_eq) (defBody s_Fence_eq) (defScope s_Fence_eq) .none kV32 dc32 pm32 an32 cd32 ct32), sl32⟩)
    (c32 : PySem.W.codeIn K cd32 "Fence.__eq__" = true)
    (k32 : PySem.W.keepIn K (.ref f32) = true)
    (iCPainter : PySem.W.isClsIn K CPainter = true)
    (tCPainter : PySem.W.typeIn K (.ref CPainter) = some (.type "type"))
    (iCFence : PySem.W.isClsIn K CFence = true)
    (tCFence : PySem.W.typeIn K (.ref CFence) = some (.type "type"))
    (nePainter : PySem.W.findIn K (.ref CPainter) "__ne__" = some (some (.builtin "object.__ne__")))
    (moPainter : PySem.W.mroIn K CPainter (.type "object") = some true)
    (neFence : PySem.W.findIn K (.ref CFence) "__ne__" = some (some (.builtin "object.__ne__")))
    (moFence : PySem.W.mroIn K CFence (.type "object") = some true)
    (x1Painter : PySem.W.selfFirst K CPainter = true)
    (x2Painter : PySem.W.findIn K (.ref CPainter) "__radd__" = some none)
    (x3Painter : PySem.W.findIn K (.type "int") "__add__" = some xoPainter)
    (x4Painter : PySem.W.findIn K (.type "int") "__radd__" = some xrPainter)
    (x5Painter : PySem.W.subIn K (.type "int") (.ref CPainter) = some false)
    (y1Painter : PySem.W.findIn K (.ref CPainter) "__class__" = some (some (.builtin "object.__class__")))
    (y2Painter : PySem.W.specialIn K (.builtin "object.__class__") "__get__" = some (some (.builtin "getset_descriptor.__get__")))
    (y3Painter : PySem.W.takesIn K (.builtin "object.__class__") = some true)
    (y4Painter : PySem.W.mroIn K CPainter (.type "object") = some true)
    (y1Fence : PySem.W.findIn K (.ref CFence) "__class__" = some (some (.builtin "object.__class__")))
    (y2Fence : PySem.W.specialIn K (.builtin "object.__class__") "__get__" = some (some (.builtin "getset_descriptor.__get__")))
    (y3Fence : PySem.W.takesIn K (.builtin "object.__class__") = some true)
    (y4Fence : PySem.W.mroIn K CFence (.type "object") = some true)
    (gInvalidPainter : PySem.W.nsIn K mainGlobals "InvalidPainter" = some (some (.ref CInvalidPainter)))
    (xLInvalidPainter : K.lookup CInvalidPainter = some (excClassObj nmInvalidPainter qInvalidPainter CInvalidPainter NInvalidPainter bsInvalidPainter [.type "ValueError", .type "Exception", .type "BaseException", .type "object"] true snInvalidPainter subInvalidPainter abInvalidPainter colInvalidPainter ddInvalidPainter m0InvalidPainter m1InvalidPainter m2InvalidPainter m3InvalidPainter m5InvalidPainter "ValueError.__new__"))
    (saInvalidPainter : PySem.W.findIn K (.ref CInvalidPainter) "__setattr__" = some (some (.builtin "object.__setattr__")))
    (gaInvalidPainter : PySem.W.findIn K (.ref CInvalidPainter) "__getattribute__" = some (some (.builtin "BaseException.__getattribute__")))
    (ggInvalidPainter : PySem.W.findIn K (.ref CInvalidPainter) "__getattr__" = some none)
    (nbInvalidPainter : PySem.W.findIn K (.ref CInvalidPainter) "reason" = some none)
    (kCInvalidPainter : PySem.W.keepIn K (.ref CInvalidPainter) = true)
    (eCInvalidPainter : PySem.W.subIn K (.ref CInvalidPainter) (.type "BaseException") = some true)
    (vCInvalidPainter : PySem.W.subIn K (.ref CInvalidPainter) (.type "ValueError") = some true)
    (tCInvalidPainter : PySem.W.typeIn K (.ref CInvalidPainter) = some (.type "type"))
    (hCInvalidPainter : PySem.W.hasDictIn K CInvalidPainter = true)
    (y1InvalidPainter : PySem.W.findIn K (.ref CInvalidPainter) "__class__" = some (some (.builtin "object.__class__")))
    (y2InvalidPainter : PySem.W.specialIn K (.builtin "object.__class__") "__get__" = some (some (.builtin "getset_descriptor.__get__")))
    (y3InvalidPainter : PySem.W.takesIn K (.builtin "object.__class__") = some true)
    (y4InvalidPainter : PySem.W.mroIn K CInvalidPainter (.type "object") = some true)
    (a33 : PySem.W.findIn K (.ref CInvalidPainter) "__init__" = some (some (.ref f33)))
    (t33 : PySem.W.typeIn K (.ref f33) = some (.type "function"))
    (l33 : K.lookup f33 = some ⟨oc33, od33, .func (PySem.W.fnOf "__init__" "InvalidPainter.__init__" (defArgs s_InvalidPainter_init) (defBody s_InvalidPainter_init) (defScope s_InvalidPainter_init) .none kV33 dc33 pm33 an33 cd33 ct33), sl33⟩)
    (c33 : PySem.W.codeIn K cd33 "InvalidPainter.__init__" = true)
    (k33 : PySem.W.keepIn K (.ref f33) = true)
    (suInvalidPainterInvalidPainter : PySem.W.subIn K (.ref CInvalidPainter) (.ref CInvalidPainter) = some true)
    (GMAX_PAINTERS : PySem.W.nsIn K mainGlobals "MAX_PAINTERS" = some (some vgMAX_PAINTERS))
    (HMAX_PAINTERS : L2.RelV (.int (40)) vgMAX_PAINTERS)
    (GMAX_DIGITS : PySem.W.nsIn K mainGlobals "MAX_DIGITS" = some (some vgMAX_DIGITS))
    (HMAX_DIGITS : L2.RelV (.int (80)) vgMAX_DIGITS)
    (zlen : PySem.W.nsIn K mainGlobals "len" = some none)
    (zint : PySem.W.nsIn K mainGlobals "int" = some none)
    (zabs : PySem.W.nsIn K mainGlobals "abs" = some none)
    (zlist : PySem.W.nsIn K mainGlobals "list" = some none)
    (zrange : PySem.W.nsIn K mainGlobals "range" = some none)
    (zmin : PySem.W.nsIn K mainGlobals "min" = some none)
    (zmax : PySem.W.nsIn K mainGlobals "max" = some none)
    (zrepr : PySem.W.nsIn K mainGlobals "repr" = some none)
    (zstr : PySem.W.nsIn K mainGlobals "str" = some none)
    (zbool : PySem.W.nsIn K mainGlobals "bool" = some none)
    (zisinstance : PySem.W.nsIn K mainGlobals "isinstance" = some none)
    (zany : PySem.W.nsIn K mainGlobals "any" = some none)
    (zdivmod : PySem.W.nsIn K mainGlobals "divmod" = some none)
    (zenumerate : PySem.W.nsIn K mainGlobals "enumerate" = some none)
    : ∃ fd : FuncData, (∀ (s : Shared) (v : Value), BindsTo s fd ⟨[v], []⟩ [("_law_script", v)]) ∧ ∀ base : Heap, K.In base → base.Ns mainGlobals mg → FnG l.prog w K mg base 40 fa fd ["_law_script"] (spLaw K) := by
  have e := hfa.symm.trans (PySem.W.mg_of X G aL)
  cases e
  have F_law := fun_mk (st := s_law) lL cL kL
  have D__law_pen : Dfn K mg "_law_pen" s__law_pen P__law_pen := ⟨f1, _, fun_mk l1 c1 k1, (fun_mk l1 c1 k1).binds fun _ _ _ _ _ _ us hl => match us, hl with | [_], _ => rfl, PySem.W.mg_of X G a1⟩
  have D__law_draw : Dfn K mg "_law_draw" s__law_draw P__law_draw := ⟨f2, _, fun_mk l2 c2 k2, (fun_mk l2 c2 k2).binds fun _ _ _ _ _ _ us hl => match us, hl with | [_, _], _ => rfl, PySem.W.mg_of X G a2⟩
  have D__law_pick : Dfn K mg "_law_pick" s__law_pick P__law_pick := ⟨f3, _, fun_mk l3 c3 k3, (fun_mk l3 c3 k3).binds fun _ _ _ _ _ _ us hl => match us, hl with | [_, _], _ => rfl, PySem.W.mg_of X G a3⟩
  have D__law_around : Dfn K mg "_law_around" s__law_around P__law_around := ⟨f4, _, fun_mk l4 c4 k4, (fun_mk l4 c4 k4).binds fun _ _ _ _ _ _ us hl => match us, hl with | [_, _], _ => rfl, PySem.W.mg_of X G a4⟩
  have D__law_power : Dfn K mg "_law_power" s__law_power P__law_power := ⟨f5, _, fun_mk l5 c5 k5, (fun_mk l5 c5 k5).binds fun _ _ _ _ _ _ us hl => match us, hl with | [_], _ => rfl, PySem.W.mg_of X G a5⟩
  have D__law_great : Dfn K mg "_law_great" s__law_great P__law_great := ⟨f6, _, fun_mk l6 c6 k6, (fun_mk l6 c6 k6).binds fun _ _ _ _ _ _ us hl => match us, hl with | [_, _], _ => rfl, PySem.W.mg_of X G a6⟩
  have D__law_names : Dfn K mg "_law_names" s__law_names P__law_names := ⟨f7, _, fun_mk l7 c7 k7, (fun_mk l7 c7 k7).binds fun _ _ _ _ _ _ us hl => match us, hl with | [_, _], _ => rfl, PySem.W.mg_of X G a7⟩
  have D__law_small : Dfn K mg "_law_small" s__law_small P__law_small := ⟨f8, _, fun_mk l8 c8 k8, (fun_mk l8 c8 k8).binds fun _ _ _ _ _ _ us hl => match us, hl with | [_, _], _ => rfl, PySem.W.mg_of X G a8⟩
  have D__law_aimed : Dfn K mg "_law_aimed" s__law_aimed P__law_aimed := ⟨f9, _, fun_mk l9 c9 k9, (fun_mk l9 c9 k9).binds fun _ _ _ _ _ _ us hl => match us, hl with | [_, _], _ => rfl, PySem.W.mg_of X G a9⟩
  have D__law_lined : Dfn K mg "_law_lined" s__law_lined P__law_lined := ⟨f10, _, fun_mk l10 c10 k10, (fun_mk l10 c10 k10).binds fun _ _ _ _ _ _ us hl => match us, hl with | [_, _], _ => rfl, PySem.W.mg_of X G a10⟩
  have D__law_line : Dfn K mg "_law_line" s__law_line P__law_line := ⟨f11, _, fun_mk l11 c11 k11, (fun_mk l11 c11 k11).binds fun _ _ _ _ _ _ us hl => match us, hl with | [_], _ => rfl, PySem.W.mg_of X G a11⟩
  have D__law_painters : Dfn K mg "_law_painters" s__law_painters P__law_painters := ⟨f12, _, fun_mk l12 c12 k12, (fun_mk l12 c12 k12).binds fun _ _ _ _ _ _ us hl => match us, hl with | [_], _ => rfl, PySem.W.mg_of X G a12⟩
  have D__law_parts : Dfn K mg "_law_parts" s__law_parts P__law_parts := ⟨f13, _, fun_mk l13 c13 k13, (fun_mk l13 c13 k13).binds fun _ _ _ _ _ _ us hl => match us, hl with | [_], _ => rfl, PySem.W.mg_of X G a13⟩
  have D__law_added : Dfn K mg "_law_added" s__law_added P__law_added := ⟨f14, _, fun_mk l14 c14 k14, (fun_mk l14 c14 k14).binds fun _ _ _ _ _ _ us hl => match us, hl with | [_, _], _ => rfl, PySem.W.mg_of X G a14⟩
  have D_is_integer : Dfn K mg "is_integer" s_is_integer P_is_integer := ⟨f15, _, fun_mk l15 c15 k15, (fun_mk l15 c15 k15).binds fun _ _ _ _ _ _ us hl => match us, hl with | [_], _ => rfl, PySem.W.mg_of X G a15⟩
  have D_is_between : Dfn K mg "is_between" s_is_between P_is_between := ⟨f16, _, fun_mk l16 c16 k16, (fun_mk l16 c16 k16).binds fun _ _ _ _ _ _ us hl => match us, hl with | [_, _, _], _ => rfl, PySem.W.mg_of X G a16⟩
  have D_integer_of : Dfn K mg "integer_of" s_integer_of P_integer_of := ⟨f17, _, fun_mk l17 c17 k17, (fun_mk l17 c17 k17).binds fun _ _ _ _ _ _ us hl => match us, hl with | [_], _ => rfl, PySem.W.mg_of X G a17⟩
  have cl_Painter : Cls K CPainter := ⟨pgPainter, hdPainter, poPainter, saPainter⟩
  have rd_Painter : ClX.CRead K CPainter (.type "type") := ⟨rdPainter, gaPainter⟩
  have mg_Painter : mg "Painter" = some (.ref CPainter) := PySem.W.mg_of X G gPainter
  have cv_Painter_MAX_DAY : ∃ u, ClX.CVal K CPainter (.type "type") "MAX_DAY" (.int (10 ^ 30)) u := ⟨_, vPainterMAX_DAY, wPainterMAX_DAY⟩
  have cv_Painter_MAX_POST : ∃ u, ClX.CVal K CPainter (.type "type") "MAX_POST" (.int (10 ^ 30)) u := ⟨_, vPainterMAX_POST, wPainterMAX_POST⟩
  have cv_Painter_MAX_STRIDE : ∃ u, ClX.CVal K CPainter (.type "type") "MAX_STRIDE" (.int (10 ^ 18)) u := ⟨_, vPainterMAX_STRIDE, wPainterMAX_STRIDE⟩
  have F_Painter_init := fun_mk (st := s_Painter_init) (x := "__init__") l18 c18 k18
  have b_Painter_init := F_Painter_init.binds (ps := P_Painter_init) fun _ _ _ _ _ _ us hl => match us, hl with | [_, _, _, _, _], _ => rfl
  have mk_Painter : Mk K CPainter f18 := ⟨mkPainter, a18, i18, kcPainter⟩
  have F_Painter_is_name := fun_mk (st := s_Painter_is_name) (x := "is_name") l19 c19 k19
  have b_Painter_is_name := F_Painter_is_name.binds (ps := P_Painter_is_name) fun _ _ _ _ _ _ us hl => match us, hl with | [_], _ => rfl
  have sm_Painter_is_name : SMet K CPainter (.type "type") "is_name" p19 f19 := ⟨a19, ⟨_, e19⟩, k19⟩
  have F_Painter_read := fun_mk (st := s_Painter_read) (x := "read") l20 c20 k20
  have b_Painter_read := F_Painter_read.binds (ps := P_Painter_read) fun _ _ _ _ _ _ us hl => match us, hl with | [_, _], _ => rfl
  have cm_Painter_read : ClX.CMet K CPainter (.type "type") "read" p20 f20 := ⟨a20, ⟨_, e20⟩, by unfold PySem.W.fnIn; rw [l20]⟩
  have F_Painter_name := fun_mk (st := s_Painter_name) (x := "name") l21 c21 k21
  have b_Painter_name := F_Painter_name.binds (ps := P_Painter_name) fun _ _ _ _ _ _ us hl => match us, hl with | [_], _ => rfl
  have pr_Painter_name : PropOf K CPainter "name" p21 f21 := ⟨a21, s21, t21, ⟨_, e21⟩⟩
  have F_Painter_day := fun_mk (st := s_Painter_day) (x := "day") l22 c22 k22
  have b_Painter_day := F_Painter_day.binds (ps := P_Painter_day) fun _ _ _ _ _ _ us hl => match us, hl with | [_], _ => rfl
  have pr_Painter_day : PropOf K CPainter "day" p22 f22 := ⟨a22, s22, t22, ⟨_, e22⟩⟩
  have F_Painter_post := fun_mk (st := s_Painter_post) (x := "post") l23 c23 k23
  have b_Painter_post := F_Painter_post.binds (ps := P_Painter_post) fun _ _ _ _ _ _ us hl => match us, hl with | [_], _ => rfl
  have pr_Painter_post : PropOf K CPainter "post" p23 f23 := ⟨a23, s23, t23, ⟨_, e23⟩⟩
  have F_Painter_stride := fun_mk (st := s_Painter_stride) (x := "stride") l24 c24 k24
  have b_Painter_stride := F_Painter_stride.binds (ps := P_Painter_stride) fun _ _ _ _ _ _ us hl => match us, hl with | [_], _ => rfl
  have pr_Painter_stride : PropOf K CPainter "stride" p24 f24 := ⟨a24, s24, t24, ⟨_, e24⟩⟩
  have F_Painter_text := fun_mk (st := s_Painter_text) (x := "text") l25 c25 k25
  have b_Painter_text := F_Painter_text.binds (ps := P_Painter_text) fun _ _ _ _ _ _ us hl => match us, hl with | [_], _ => rfl
  have pr_Painter_text : PropOf K CPainter "text" p25 f25 := ⟨a25, s25, t25, ⟨_, e25⟩⟩
  have F_Painter_eq := fun_mk (st := s_Painter_eq) (x := "__eq__") l26 c26 k26
  have b_Painter_eq := F_Painter_eq.binds (ps := P_Painter_eq) fun _ _ _ _ _ _ us hl => match us, hl with | [_, _], _ => rfl
  have me_Painter___eq__ : Meth K CPainter "__eq__" f26 := ⟨a26, i26, k26⟩
  have fi_Painter___eq__ : PySem.W.fnIn K f26 = true := by unfold PySem.W.fnIn; rw [l26]
  have F_Painter_add := fun_mk (st := s_Painter_add) (x := "__add__") l27 c27 k27
  have b_Painter_add := F_Painter_add.binds (ps := P_Painter_add) fun _ _ _ _ _ _ us hl => match us, hl with | [_, _], _ => rfl
  have me_Painter___add__ : Meth K CPainter "__add__" f27 := ⟨a27, i27, k27⟩
  have fi_Painter___add__ : PySem.W.fnIn K f27 = true := by unfold PySem.W.fnIn; rw [l27]
  have F_Painter_neg := fun_mk (st := s_Painter_neg) (x := "__neg__") l28 c28 k28
  have b_Painter_neg := F_Painter_neg.binds (ps := P_Painter_neg) fun _ _ _ _ _ _ us hl => match us, hl with | [_], _ => rfl
  have me_Painter___neg__ : Meth K CPainter "__neg__" f28 := ⟨a28, i28, k28⟩
  have fi_Painter___neg__ : PySem.W.fnIn K f28 = true := by unfold PySem.W.fnIn; rw [l28]
  have cl_Fence : Cls K CFence := ⟨pgFence, hdFence, poFence, saFence⟩
  have rd_Fence : ClX.CRead K CFence (.type "type") := ⟨rdFence, gaFence⟩
  have mg_Fence : mg "Fence" = some (.ref CFence) := PySem.W.mg_of X G gFence
  have F_Fence_init := fun_mk (st := s_Fence_init) (x := "__init__") l29 c29 k29
  have mk_Fence : Mk K CFence f29 := ⟨mkFence, a29, i29, kcFence⟩
  have F_Fence_contains := fun_mk (st := s_Fence_contains) (x := "__contains__") l30 c30 k30
  have b_Fence_contains := F_Fence_contains.binds (ps := P_Fence_contains) fun _ _ _ _ _ _ us hl => match us, hl with | [_, _], _ => rfl
  have me_Fence___contains__ : Meth K CFence "__contains__" f30 := ⟨a30, i30, k30⟩
  have fi_Fence___contains__ : PySem.W.fnIn K f30 = true := by unfold PySem.W.fnIn; rw [l30]
  have F_Fence_getitem := fun_mk (st := s_Fence_getitem) (x := "__getitem__") l31 c31 k31
  have b_Fence_getitem := F_Fence_getitem.binds (ps := P_Fence_getitem) fun _ _ _ _ _ _ us hl => match us, hl with | [_, _], _ => rfl
  have me_Fence___getitem__ : Meth K CFence "__getitem__" f31 := ⟨a31, i31, k31⟩
  have fi_Fence___getitem__ : PySem.W.fnIn K f31 = true := by unfold PySem.W.fnIn; rw [l31]
  have F_Fence_eq := fun_mk (st := s_Fence_eq) (x := "__eq__") l32 c32 k32
  have b_Fence_eq := F_Fence_eq.binds (ps := P_Fence_eq) fun _ _ _ _ _ _ us hl => match us, hl with | [_, _], _ => rfl
  have me_Fence___eq__ : Meth K CFence "__eq__" f32 := ⟨a32, i32, k32⟩
  have fi_Fence___eq__ : PySem.W.fnIn K f32 = true := by unfold PySem.W.fnIn; rw [l32]
  have kk_Painter : KitC K CPainter := kitC_of iCPainter tCPainter
  have kk_Fence : KitC K CFence := kitC_of iCFence tCFence
  have ac_Painter : AddCls K CPainter := ⟨x1Painter, x2Painter, ⟨_, x3Painter⟩, ⟨_, x4Painter⟩, x5Painter⟩
  have ic_Painter : C8.InsC K CPainter := ⟨cl_Painter, y1Painter, y2Painter, y3Painter, y4Painter, if_pos (beq_self_eq_true _)⟩
  have ic_Fence : C8.InsC K CFence := ⟨cl_Fence, y1Fence, y2Fence, y3Fence, y4Fence, if_pos (beq_self_eq_true _)⟩
  have F_InvalidPainter_init := fun_mk (st := s_InvalidPainter_init) (x := "__init__") l33 c33 k33
  have b_InvalidPainter_init := F_InvalidPainter_init.binds (ps := P_InvalidPainter_init) fun _ _ _ _ _ _ us hl => match us, hl with | [_, _], _ => rfl
  have ek_InvalidPainter : ErrK K CInvalidPainter "reason" := ⟨⟨⟨_, _, _, _, _, _, _, _, _, _, _, _, _, _, _, xLInvalidPainter, by decide +kernel⟩, saInvalidPainter, eCInvalidPainter, tCInvalidPainter, kCInvalidPainter⟩, nbInvalidPainter, ⟨gaInvalidPainter, ggInvalidPainter, eCInvalidPainter, hCInvalidPainter⟩, ⟨gaInvalidPainter, ggInvalidPainter, eCInvalidPainter, hCInvalidPainter, y1InvalidPainter, y2InvalidPainter, y3InvalidPainter, y4InvalidPainter⟩⟩
  have mg_InvalidPainter : mg "InvalidPainter" = some (.ref CInvalidPainter) := PySem.W.mg_of X G gInvalidPainter
  have in_InvalidPainter := And.intro a33 t33
  have ex_InvalidPainter_InvalidPainter := PySem.W.exm_ref eCInvalidPainter hCInvalidPainter tCInvalidPainter suInvalidPainterInvalidPainter
  have gl_MAX_PAINTERS : ∃ u, mg "MAX_PAINTERS" = some u ∧ L2.RelV (.int (40)) u := ⟨_, PySem.W.mg_of X G GMAX_PAINTERS, HMAX_PAINTERS⟩
  have gl_MAX_DIGITS : ∃ u, mg "MAX_DIGITS" = some u ∧ L2.RelV (.int (80)) u := ⟨_, PySem.W.mg_of X G GMAX_DIGITS, HMAX_DIGITS⟩
  have B : Blt mg := ⟨PySem.W.mg_none_of X G zlen, PySem.W.mg_none_of X G zint, PySem.W.mg_none_of X G zabs, PySem.W.mg_none_of X G zlist, PySem.W.mg_none_of X G zrange, PySem.W.mg_none_of X G zmin, PySem.W.mg_none_of X G zmax, PySem.W.mg_none_of X G zrepr, PySem.W.mg_none_of X G zstr, PySem.W.mg_none_of X G zbool, PySem.W.mg_none_of X G zisinstance, PySem.W.mg_none_of X G zany, PySem.W.mg_none_of X G zdivmod⟩
  have nb_enumerate : mg "enumerate" = none := PySem.W.mg_none_of X G zenumerate
  refine ⟨PySem.W.fnOf "law" "law" (defArgs s_law) (defBody s_law) (defScope s_law) .none kVL dcL pmL anL cdL ctL, fun s v => .of_eq rfl, fun base hKb _ => ?_⟩
  have T : PTxt K mg CPainter := ⟨cl_Painter, nPainter_name, nPainter_day, nPainter_post, nPainter_stride, mg_Painter, rd_Painter, cv_Painter_MAX_DAY, cv_Painter_MAX_POST, cv_Painter_MAX_STRIDE⟩
  have U : FTxt K mg CFence := ⟨cl_Fence, nFence_painters, nFence_by_name, mg_Fence⟩
  have CD := ok_draw (P := l.prog) (w := w) (base := base) D__law_draw B
  have CP := ok_pickL (P := l.prog) (w := w) (base := base) D__law_pick B CD
  have CPS := ok_pickS (P := l.prog) (w := w) (base := base) D__law_pick B CD
  have CI := ok_pickI CP
  have CA := ok_around (P := l.prog) (w := w) (base := base) D__law_around CD
  have CW := ok_power (P := l.prog) (w := w) (base := base) D__law_power B
  have CG := ok_great (P := l.prog) (w := w) (base := base) D__law_great CW CD CP
  have CN := ok_names (P := l.prog) (w := w) (base := base) D__law_names B CD CP CPS
  have CPen := ok_pen (P := l.prog) (w := w) (base := base) D__law_pen B
  have CInt := ok_is_integer (P := l.prog) (w := w) (base := base) D_is_integer B
  have CB := ok_is_between (P := l.prog) (w := w) (base := base) D_is_between CInt
  have FN := ok_is_name (P := l.prog) (w := w) (base := base) F_Painter_is_name B
  have FI := ok_init (P := l.prog) (w := w) (base := base) F_Painter_init T sm_Painter_is_name FN b_Painter_is_name CB
  have hMk : MkP l.prog w K mg base CPainter := ⟨_, _, mk_Painter, FI, b_Painter_init⟩
  have hName : PropS l.prog w K mg base CPainter "name" 1 (getSp CPainter "_name") := ⟨_, _, _, pr_Painter_name, ok_get_name F_Painter_name T, b_Painter_name⟩
  have hDay : PropS l.prog w K mg base CPainter "day" 1 (getSp CPainter "_day") := ⟨_, _, _, pr_Painter_day, ok_get_day F_Painter_day T, b_Painter_day⟩
  have hPost : PropS l.prog w K mg base CPainter "post" 1 (getSp CPainter "_post") := ⟨_, _, _, pr_Painter_post, ok_get_post F_Painter_post T, b_Painter_post⟩
  have hStride : PropS l.prog w K mg base CPainter "stride" 1 (getSp CPainter "_stride") := ⟨_, _, _, pr_Painter_stride, ok_get_stride F_Painter_stride T, b_Painter_stride⟩
  obtain ⟨uM, hMP, rMP⟩ := gl_MAX_PAINTERS
  have FF := ok_finit (P := l.prog) (w := w) (base := base) F_Fence_init B nb_enumerate T U ic_Painter hName hMP rMP
  have hMkF : MkF l.prog w K mg base CPainter CFence := ⟨_, mk_Fence, FF⟩
  have hIn : OwnR l.prog w K mg base CFence "__contains__" 1 P_Fence_contains (spIn (InF K CPainter CFence)) := ⟨_, _, me_Fence___contains__.at_, me_Fence___contains__.fn, fi_Fence___contains__, ok_fin F_Fence_contains B U, b_Fence_contains⟩
  have hGet : OwnR l.prog w K mg base CFence "__getitem__" 2 P_Fence_getitem (spFGet CPainter CFence) := ⟨_, _, me_Fence___getitem__.at_, me_Fence___getitem__.fn, fi_Fence___getitem__, ok_fget F_Fence_getitem B U hIn, b_Fence_getitem⟩
  have hEqP : EqC l.prog w K mg base CPainter 1 (SaysP K CPainter) := ⟨_, _, _, me_Painter___eq__.at_, me_Painter___eq__.fn, ok_eqB F_Painter_eq B T ic_Painter kk_Painter, b_Painter_eq, nePainter, moPainter⟩
  have hEqF : EqC l.prog w K mg base CFence 3 (SaysF K CPainter CFence) := ⟨_, _, _, me_Fence___eq__.at_, me_Fence___eq__.fn, ok_feqB F_Fence_eq B U ic_Fence kk_Fence hEqP, b_Fence_eq, neFence, moFence⟩
  have CS := ok_small (P := l.prog) (w := w) (base := base) D__law_small B CD CI CP CA CN
  have CM := ok_aimed (P := l.prog) (w := w) (base := base) D__law_aimed B CD CI CP CG CN
  have CL := ok_lined (P := l.prog) (w := w) (base := base) D__law_lined B CD CI CA CG CN
  have hText : PropS l.prog w K mg base CPainter "text" 1 (spText CPainter) := ⟨_, _, _, pr_Painter_text, ok_text F_Painter_text T, b_Painter_text⟩
  obtain ⟨uD, hMD, rMD⟩ := gl_MAX_DIGITS
  have CIo := ok_iof (P := l.prog) (w := w) (base := base) D_integer_of B hMD rMD
  have CLi := ok_line (P := l.prog) (w := w) (base := base) D__law_line B
  have CPs := ok_painters (P := l.prog) (w := w) (base := base) D__law_painters CD CS CM CL
  have raw0 : ∀ {k : Nat} {f : Addr} {sp : Sp} {fd : FuncData} {ps : List Str}, FnOk l.prog w K mg base CX0 k f fd ps sp → L2.Binds K fd ps [] → FnR l.prog w K mg base CX0 k f sp := fun F hb => (F.raw hb .nil).imp fun vs H Q E h => by rw [List.append_nil]; exact h
  have hPRead : HReadP l.prog w K mg base CPainter := ⟨_, _, _, rd_Painter, cm_Painter_read, raw0 (ok_pread F_Painter_read B T hMk CIo) b_Painter_read⟩
  have EI : ErrOk l.prog w K mg base CInvalidPainter "InvalidPainter" "reason" := ⟨mg_InvalidPainter, ek_InvalidPainter, _, _, _, in_InvalidPainter.1, in_InvalidPainter.2, ok_errI F_InvalidPainter_init ek_InvalidPainter, b_InvalidPainter_init⟩
  have FIP := ok_initP (P := l.prog) (w := w) (base := base) F_Painter_init T sm_Painter_is_name FN b_Painter_is_name CB EI
  have hMkX : MkPX l.prog w K mg base CPainter CInvalidPainter := ⟨_, _, mk_Painter, FIP, b_Painter_init⟩
  have hAddX : OwnSX l.prog w K mg base CPainter "__add__" 5 P_Painter_add (spAddX CPainter CInvalidPainter) := ⟨_, _, me_Painter___add__.at_, me_Painter___add__.fn, ok_addX F_Painter_add T hMkX, b_Painter_add⟩
  have hNeg : OwnS l.prog w K mg base CPainter "__neg__" 5 P_Painter_neg (spNeg CPainter) := ⟨_, _, me_Painter___neg__.at_, me_Painter___neg__.fn, ok_neg F_Painter_neg T hMk, b_Painter_neg⟩
  have CPa := ok_parts (P := l.prog) (w := w) (base := base) D__law_parts T hName hDay hPost hStride
  have CAd := ok_added (P := l.prog) (w := w) (base := base) D__law_added CPa hAddX ac_Painter mg_InvalidPainter ek_InvalidPainter ex_InvalidPainter_InvalidPainter
  exact ok_law F_law B T U hMk hMkF CPen CP CA CG CPs CPa CAd CLi hText hNeg hPRead hGet hEqP hEqF
theorem walk {l : PySem.W.OpenLaw} {q : Program} {loose : List Str} {XP : (Str → Option Value) → Heap → Prop} {YP : World → Heap → Prop} {d : DefRec} {K : Params → PySem.W.Frag} (hn : l.most = some 63) (hdf : d.params.defaults = []) (hY : ∀ (w : World) (h : Heap), YP w h → (K w.params).In h)
    (F : ∀ (w : World) (mg : Str → Option Value) (fa : Addr) (h : Heap), (K w.params).In h → h.Ns mainGlobals mg → mg d.name = some (.ref fa) → ∃ fd : FuncData, (∀ (s : Shared) (u : Value), BindsTo s fd ⟨[u], []⟩ [("_law_script", u)]) ∧ ∀ base : Heap, (K w.params).In base → base.Ns mainGlobals mg → FnG l.prog w (K w.params) mg base 40 fa fd ["_law_script"] (spLaw (K w.params))) :
    PySem.W.WalkO q loose XP YP l.row.toRowW d [] (fun f vs => PySem.call f vs) :=
  walk_ofG (n := 63) (k := 40) (x := "_law_script") (sp := spLaw) hn (by decide) hdf ⟨rfl, by decide, by decide⟩ hY F fun _ _ a ns hl hS => ⟨a, ns, rfl, hS, hl, fun _ => rfl⟩
end Ur
open PySem PySem.W PyProof.Rows
set_option maxRecDepth 100000 in
set_option maxHeartbeats 0 in
theorem PySem.Challenge.cw_paintposts_k04_whole_painters_moved_comp_holds : PySem.Challenge.rw_paintposts_k04_whole_painters_moved_comp.Holds := by
  w_on; o_law; k_head; (case hw => w_witness2)
  k_fill
  refine Ur.walk (l := PySem.Challenge.rw_paintposts_k04_whole_painters_moved_comp) rfl rfl (fun w h Y => PySem.W.kIn_of Y) ?F
  case F =>
    intro w mg fa h KX G hmg
    refine' Ur.all_mk KX G hmg ?a1 ?l1 ?c1 ?k1 ?a2 ?l2 ?c2 ?k2 ?a3 ?l3 ?c3 ?k3 ?a4 ?l4 ?c4 ?k4 ?a5 ?l5 ?c5 ?k5 ?a6 ?l6 ?c6 ?k6 ?a7 ?l7 ?c7 ?k7 ?a8 ?l8 ?c8 ?k8 ?a9 ?l9 ?c9 ?k9 ?a10 ?l10 ?c10 ?k10 ?a11 ?l11 ?c11 ?k11 ?a12 ?l12 ?c12 ?k12 ?a13 ?l13 ?c13 ?k13 ?a14 ?l14 ?c14 ?k14 ?a15 ?l15 ?c15 ?k15 ?a16 ?l16 ?c16 ?k16 ?a17 ?l17 ?c17 ?k17 ?aL ?lL ?cL ?kL ?gPainter ?pgPainter ?hdPainter ?poPainter ?saPainter ?rdPainter ?gaPainter ?nPainter_name ?nPainter_day ?nPainter_post ?nPainter_stride ?vPainterMAX_DAY ?wPainterMAX_DAY ?vPainterMAX_POST ?wPainterMAX_POST ?vPainterMAX_STRIDE ?wPainterMAX_STRIDE ?a18 ?i18 ?l18 ?c18 ?k18 ?mkPainter ?kcPainter ?a19 ?e19 ?l19 ?c19 ?k19 ?a20 ?e20 ?l20 ?c20 ?k20 ?a21 ?s21 ?t21 ?e21 ?l21 ?c21 ?k21 ?a22 ?s22 ?t22 ?e22 ?l22 ?c22 ?k22 ?a23 ?s23 ?t23 ?e23 ?l23 ?c23 ?k23 ?a24 ?s24 ?t24 ?e24 ?l24 ?c24 ?k24 ?a25 ?s25 ?t25 ?e25 ?l25 ?c25 ?k25 ?a26 ?i26 ?l26 ?c26 ?k26 ?a27 ?i27 ?l27 ?c27 ?k27 ?a28 ?i28 ?l28 ?c28 ?k28 ?gFence ?pgFence ?hdFence ?poFence ?saFence ?rdFence ?gaFence ?nFence_painters ?nFence_by_name ?a29 ?i29 ?l29 ?c29 ?k29 ?mkFence ?kcFence ?a30 ?i30 ?l30 ?c30 ?k30 ?a31 ?i31 ?l31 ?c31 ?k31 ?a32 ?i32 ?l32 ?c32 ?k32 ?iCPainter ?tCPainter ?iCFence ?tCFence ?nePainter ?moPainter ?neFence ?moFence ?x1Painter ?x2Painter ?x3Painter ?x4Painter ?x5Painter ?y1Painter ?y2Painter ?y3Painter ?y4Painter ?y1Fence ?y2Fence ?y3Fence ?y4Fence ?gInvalidPainter ?xLInvalidPainter ?saInvalidPainter ?gaInvalidPainter ?ggInvalidPainter ?nbInvalidPainter ?kCInvalidPainter ?eCInvalidPainter ?vCInvalidPainter ?tCInvalidPainter ?hCInvalidPainter ?y1InvalidPainter ?y2InvalidPainter ?y3InvalidPainter ?y4InvalidPainter ?a33 ?t33 ?l33 ?c33 ?k33 ?suInvalidPainterInvalidPainter ?GMAX_PAINTERS ?HMAX_PAINTERS ?GMAX_DIGITS ?HMAX_DIGITS ?zlen ?zint ?zabs ?zlist ?zrange ?zmin ?zmax ?zrepr ?zstr ?zbool ?zisinstance ?zany ?zdivmod ?zenumerate
    (case a1 => k_is)
    (case l1 => k_is)
    (case c1 => k_is)
    (case k1 => k_is)
    (case a2 => k_is)
    (case l2 => k_is)
    (case c2 => k_is)
    (case k2 => k_is)
    (case a3 => k_is)
    (case l3 => k_is)
    (case c3 => k_is)
    (case k3 => k_is)
    (case a4 => k_is)
    (case l4 => k_is)
    (case c4 => k_is)
    (case k4 => k_is)
    (case a5 => k_is)
    (case l5 => k_is)
    (case c5 => k_is)
    (case k5 => k_is)
    (case a6 => k_is)
    (case l6 => k_is)
    (case c6 => k_is)
    (case k6 => k_is)
    (case a7 => k_is)
    (case l7 => k_is)
    (case c7 => k_is)
    (case k7 => k_is)
    (case a8 => k_is)
    (case l8 => k_is)
    (case c8 => k_is)
    (case k8 => k_is)
    (case a9 => k_is)
    (case l9 => k_is)
    (case c9 => k_is)
    (case k9 => k_is)
    (case a10 => k_is)
    (case l10 => k_is)
    (case c10 => k_is)
    (case k10 => k_is)
    (case a11 => k_is)
    (case l11 => k_is)
    (case c11 => k_is)
    (case k11 => k_is)
    (case a12 => k_is)
    (case l12 => k_is)
    (case c12 => k_is)
    (case k12 => k_is)
    (case a13 => k_is)
    (case l13 => k_is)
    (case c13 => k_is)
    (case k13 => k_is)
    (case a14 => k_is)
    (case l14 => k_is)
    (case c14 => k_is)
    (case k14 => k_is)
    (case a15 => k_is)
    (case l15 => k_is)
    (case c15 => k_is)
    (case k15 => k_is)
    (case a16 => k_is)
    (case l16 => k_is)
    (case c16 => k_is)
    (case k16 => k_is)
    (case a17 => k_is)
    (case l17 => k_is)
    (case c17 => k_is)
    (case k17 => k_is)
    (case aL => k_is)
    (case lL => k_is)
    (case cL => k_is)
    (case kL => k_is)
    (case gPainter => k_is)
    (case pgPainter => k_is)
    (case hdPainter => k_is)
    (case poPainter => k_is)
    (case saPainter => k_is)
    (case rdPainter => k_is)
    (case gaPainter => k_is)
    (case nPainter_name => k_is)
    (case nPainter_day => k_is)
    (case nPainter_post => k_is)
    (case nPainter_stride => k_is)
    (case vPainterMAX_DAY => k_is)
    (case wPainterMAX_DAY => exact ⟨_, rfl⟩)
    (case vPainterMAX_POST => k_is)
    (case wPainterMAX_POST => exact ⟨_, rfl⟩)
    (case vPainterMAX_STRIDE => k_is)
    (case wPainterMAX_STRIDE => exact ⟨_, rfl⟩)
    (case a18 => k_is)
    (case i18 => k_is)
    (case l18 => k_is)
    (case c18 => k_is)
    (case k18 => k_is)
    (case mkPainter => k_is)
    (case kcPainter => k_is)
    (case a19 => k_is)
    (case e19 => k_is)
    (case l19 => k_is)
    (case c19 => k_is)
    (case k19 => k_is)
    (case a20 => k_is)
    (case e20 => k_is)
    (case l20 => k_is)
    (case c20 => k_is)
    (case k20 => k_is)
    (case a21 => k_is)
    (case s21 => k_is)
    (case t21 => k_is)
    (case e21 => k_is)
    (case l21 => k_is)
    (case c21 => k_is)
    (case k21 => k_is)
    (case a22 => k_is)
    (case s22 => k_is)
    (case t22 => k_is)
    (case e22 => k_is)
    (case l22 => k_is)
    (case c22 => k_is)
    (case k22 => k_is)
    (case a23 => k_is)
    (case s23 => k_is)
    (case t23 => k_is)
    (case e23 => k_is)
    (case l23 => k_is)
    (case c23 => k_is)
    (case k23 => k_is)
    (case a24 => k_is)
    (case s24 => k_is)
    (case t24 => k_is)
    (case e24 => k_is)
    (case l24 => k_is)
    (case c24 => k_is)
    (case k24 => k_is)
    (case a25 => k_is)
    (case s25 => k_is)
    (case t25 => k_is)
    (case e25 => k_is)
    (case l25 => k_is)
    (case c25 => k_is)
    (case k25 => k_is)
    (case a26 => k_is)
    (case i26 => k_is)
    (case l26 => k_is)
    (case c26 => k_is)
    (case k26 => k_is)
    (case a27 => k_is)
    (case i27 => k_is)
    (case l27 => k_is)
    (case c27 => k_is)
    (case k27 => k_is)
    (case a28 => k_is)
    (case i28 => k_is)
    (case l28 => k_is)
    (case c28 => k_is)
    (case k28 => k_is)
    (case gFence => k_is)
    (case pgFence => k_is)
    (case hdFence => k_is)
    (case poFence => k_is)
    (case saFence => k_is)
    (case rdFence => k_is)
    (case gaFence => k_is)
    (case nFence_painters => k_is)
    (case nFence_by_name => k_is)
    (case a29 => k_is)
    (case i29 => k_is)
    (case l29 => k_is)
    (case c29 => k_is)
    (case k29 => k_is)
    (case mkFence => k_is)
    (case kcFence => k_is)
    (case a30 => k_is)
    (case i30 => k_is)
    (case l30 => k_is)
    (case c30 => k_is)
    (case k30 => k_is)
    (case a31 => k_is)
    (case i31 => k_is)
    (case l31 => k_is)
    (case c31 => k_is)
    (case k31 => k_is)
    (case a32 => k_is)
    (case i32 => k_is)
    (case l32 => k_is)
    (case c32 => k_is)
    (case k32 => k_is)
    (case iCPainter => k_is)
    (case tCPainter => k_is)
    (case iCFence => k_is)
    (case tCFence => k_is)
    (case nePainter => k_is)
    (case moPainter => k_is)
    (case neFence => k_is)
    (case moFence => k_is)
    (case x1Painter => k_is)
    (case x2Painter => k_is)
    (case x3Painter => k_is)
    (case x4Painter => k_is)
    (case x5Painter => k_is)
    (case y1Painter => k_is)
    (case y2Painter => k_is)
    (case y3Painter => k_is)
    (case y4Painter => k_is)
    (case y1Fence => k_is)
    (case y2Fence => k_is)
    (case y3Fence => k_is)
    (case y4Fence => k_is)
    (case gInvalidPainter => k_is)
    (case xLInvalidPainter => k_is)
    (case saInvalidPainter => k_is)
    (case gaInvalidPainter => k_is)
    (case ggInvalidPainter => k_is)
    (case nbInvalidPainter => k_is)
    (case kCInvalidPainter => k_is)
    (case eCInvalidPainter => k_is)
    (case vCInvalidPainter => k_is)
    (case tCInvalidPainter => k_is)
    (case hCInvalidPainter => k_is)
    (case y1InvalidPainter => k_is)
    (case y2InvalidPainter => k_is)
    (case y3InvalidPainter => k_is)
    (case y4InvalidPainter => k_is)
    (case a33 => k_is)
    (case t33 => k_is)
    (case l33 => k_is)
    (case c33 => k_is)
    (case k33 => k_is)
    (case suInvalidPainterInvalidPainter => first | rfl | k_is)
    (case GMAX_PAINTERS => k_is)
    (case HMAX_PAINTERS => exact ⟨_, rfl⟩)
    (case GMAX_DIGITS => k_is)
    (case HMAX_DIGITS => exact ⟨_, rfl⟩)
    (case zlen => k_is)
    (case zint => k_is)
    (case zabs => k_is)
    (case zlist => k_is)
    (case zrange => k_is)
    (case zmin => k_is)
    (case zmax => k_is)
    (case zrepr => k_is)
    (case zstr => k_is)
    (case zbool => k_is)
    (case zisinstance => k_is)
    (case zany => k_is)
    (case zdivmod => k_is)
    (case zenumerate => k_is)
