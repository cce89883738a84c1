import PyProof.Rows.All
import Wide.All
import OpenK.AllK
import Wide.FinOn
import KE.KLam
import HandS.Base
import HandS.Call
import HandS.List
import HandS.Comp
import HandS.Ends
import HandS.Text
import HandS.Exc
import HandS.Codes
import HandS.ExcOwn
import HandS.TryOnly
import HandS.TryMany
import HandS.Lambda
import HandS.Iter
import HandS.Words
import HandS.WordsExc
import HandS.Evl
import PyProof.FString3
import PyProof.FString
import PyProof.Rows.StrIntSpec
import HandS.FStr
import HandS.StrMore
import PyProof.Rows.StrCut
import HandS.Flow
import KE.GoesMore
import KE.GoesZip
import KE.GoesEnum
import HandS.Walk
import HandS.Steps
import KE.DataEq
import PySem.Challenge.RW_recurwright_k08_times_of_day_and_lengths
import HandS.Defaults
import HandS.Style
import PyProof.StrOps2
import HandS.EndOwn
set_option Elab.async false
set_option linter.all false
set_option maxRecDepth 100000
set_option maxHeartbeats 4100000
namespace Rw
open PySem PySem.Spec PyProof.Rows L2 Evl
/-- a lambda of no captured names, as a tracked object -/
def LamO (f : Addr) (q : Str) (params : Arguments) (body : Expr) (scope : Scope) (c' : Addr) : HO :=
  .ext fun h => ∃ pm ctv, h.get? f = some (PySem.W.kla_obj "<lambda>" q params body scope [] pm c' ctv)
theorem LamO_ne {f : Addr} {q : Str} {params : Arguments} {body : Expr} {scope : Scope} {c' : Addr} (ps : Array Value) : LamO f q params body scope c' ≠ .tbl ps := fun z => by
  unfold LamO at z
  cases z
/-- the names of a lambda without parameters that captures nothing -/
structure Lam0 (scope : Scope) : Prop where
  kind : scope.kind = .function
  co : scope.isCoroutine = false
  gen : scope.isGenerator = false
  own : ∀ y ∈ scope.names, y.2 ≠ .local ∧ y.2 ≠ .cell ∧ y.2 ≠ .free
def lam0B (scope : Scope) : Bool := decide (scope.kind = .function) && !scope.isCoroutine && !scope.isGenerator && scope.names.all fun y => !decide (y.2 = .local) && !decide (y.2 = .cell) && !decide (y.2 = .free)
theorem lam0_by {scope : Scope} (h : lam0B scope = true) : Lam0 scope := by
  unfold lam0B at h
  simp only [Bool.and_eq_true, Bool.not_eq_true', decide_eq_true_eq, decide_eq_false_iff_not, List.all_eq_true] at h
  obtain ⟨⟨⟨h1, h2⟩, h3⟩, h4⟩ := h
  exact ⟨h1, h2, h3, fun y hy => ⟨(h4 y hy).1.1, (h4 y hy).1.2, (h4 y hy).2⟩⟩
theorem Lam0.clo {scope : Scope} (L : Lam0 scope) (cells : List (Str × Addr)) : cloFrom cells scope.names [] = [] := by
  have go : ∀ (names : List (Str × NameKind)) (acc : List (Str × Addr)), (∀ y ∈ names, y.2 ≠ .free) → cloFrom cells names acc = acc := by
    intro names
    induction names with
    | nil => intro acc _; rfl
    | cons a r ih =>
      obtain ⟨n, k⟩ := a
      intro acc h
      unfold cloFrom
      have hk : ¬ ((k == NameKind.free) = true) := fun e => h (n, k) List.mem_cons_self (by simpa using e)
      rw [if_neg hk]
      exact ih acc fun y hy => h y (List.mem_cons_of_mem _ hy)
  exact go scope.names [] fun y hy => (L.own y hy).2.2
abbrev lamEnv0 (q : Str) (scope : Scope) (L f c' : Addr) : Env := PySem.W.envX q scope L f (.ref c') []
def lamCx0 (P : Program) (w : World) (K : PySem.W.Frag) (mg : Str → Option Value) (base : Heap) (A : Around) (outer : List Env) (s : Shared) (H : Hp) (E : XK) (q : Str) (scope : Scope) (f c' : Addr) : Cx where
  prog := P
  w := w
  K := K
  mg := mg
  base := base
  A := A.deeper (lamEnv0 q scope s.heap.objs.size f c')
  N := []
  s_0 := s
  H_0 := H
  env := lamEnv0 q scope s.heap.objs.size f c'
  outer := outer
  stack := lamEnv0 q scope s.heap.objs.size f c' :: outer
  ex := []
  fn := fun _ => false
  calm := true
  pn := []
  xe := fun e s' => wpAny (model P w) (A.deeper (lamEnv0 q scope s.heap.objs.size f c')) (leaving (lamEnv0 q scope s.heap.objs.size f c') e) (fun _ s'' => L2.CX P w outer H s E e s'') (fun e' s'' => L2.CX P w outer H s E e' s'') s'
section
variable {P : Program} {w : World} {K : PySem.W.Frag} {mg : Str → Option Value} {base : Heap}
theorem lam_start0 {A : Around} {outer : List Env} {E : XK} {q : Str} {scope : Scope} {f c' : Addr} {hN : Heap} {tk : Nat} {s1 : Shared} {HZ : Hp} (LS : Lam0 scope) (env0 : Env0 P w K mg base A outer s1 HZ) (calm : A.handled = none)
    (newNs : hN.Ns s1.heap.objs.size fun y => ([] : List (Str × Value)).reverse.lookup y) (stays : ∀ b o, s1.heap.get? b = some o → hN.get? b = some o) :
    Inv (lamCx0 P w K mg base A outer s1 HZ E q scope f c') [] [] HZ { s1 with heap := hN, toks := tk } := by
  have noEx : ∀ b : Addr, b ∉ (lamCx0 P w K mg base A outer s1 HZ E q scope f c').ex := fun b z => absurd (show b ∈ ([] : List Addr) from z) (by simp)
  have plainN : ∀ {y : Str} {k : NameKind}, scope.names.lookup y = some k → k ≠ .local ∧ k ≠ .cell ∧ k ≠ .free := fun {y k} hl => LS.own _ (PySem.mem_of_lookup hl)
  refine ⟨⟨env0.mod, LS.kind, rfl, rfl, Nat.le_refl _, fun y z c e1 e2 => ?_, fun y isy => ?_, fun y c z _ => ?_, fun _ => calm, Around.frames_deeper env0.frames, .inr ⟨rfl, rfl⟩, fun b z => absurd z (noEx b), env0.bs, env0.bsz, fun b _ _ => noEx b,
      fun b z => absurd z (noEx b), env0.funs, env0.frf⟩,
    rfl, env0.bare, Un.kept stays, ⟨_, newNs, fun i y v e1 e2 e3 => ?_⟩, fun y c e => ?_, env0.hok.fresh (Nat.le_refl _), fun y c e => ?_, fun q hq => absurd (show q ∈ ([] : List (Addr × Obj)) ++ [] from hq) (by simp), env0.hok.kept stays, rfl⟩
  · have z : List.lookup y ([] : List (Str × Addr)) = some c := e1
    cases z
  · have isy : scope.names.lookup y = some .cell ∨ scope.names.lookup y = some .free := isy
    rcases isy with isy | isy
    · exact absurd rfl (plainN isy).2.1
    · exact absurd rfl (plainN isy).2.2
  · have z : false = true := z
    cases z
  · have e1 : ([] : List Str)[i]? = some y := e1
    simp at e1
  · have z : List.lookup y ([] : List (Str × Addr)) = some c := e
    cases z
  · have z : List.lookup y ([] : List (Str × Addr)) = some c := e
    cases z
end
section
variable {X : Cx} {pins : List (Addr × Obj)} {σ : L2.St} {H : Hp} {s : Shared}
/-- what the body of a lambda at f is worth: E what it raises; read where it runs -/
def LamRun (P : Program) (w : World) (K : PySem.W.Frag) (mg : Str → Option Value) (base : Heap) (k : Nat) (q : Str) (scope : Scope) (body : Expr) (f c' : Addr) (tb : XK → Hp → VK → Prop) : Prop :=
  ∀ (A : Around) (outer : List Env) (s : Shared) (H : Hp) (E : XK), Room k (A.deeper (lamEnv0 q scope s.heap.objs.size f c')) →
    PE (lamCx0 P w K mg base A outer s H E q scope f c') body (fun _ H1 Q1 => tb E H1 Q1)
/-- x() where x holds such a lambda -/
theorem pe_actO {W : WX} {E : XK} {k i : Nat} {a : Str} {p1 p2 : Pos} (takes : Takes X W) (hW : ∀ cls d σ' Hv, E cls d Hv → W cls d σ' Hv) (room : Room (k + 1) X.A)
    (hN : X.N[i]? = some a) (hv : Vis X.env.scope a) (hd : (a == ("__debug__" : Str)) = false := by decide) (hcd : (a == ("__classdict__" : Str)) = false := by decide) :
    PE X (.Call (.Name a p1) [] [] p2) (fun σ H Q => ∃ (f c' : Addr) (q : Str) (params : Arguments) (body : Expr) (scope : Scope) (tb : XK → Hp → VK → Prop), σ[i]? = some (some (.ref f)) ∧ H f = some (LamO f q params body scope c') ∧ H c' = some (LamX.CodeO c' q) ∧ Lam0 scope ∧
      (∀ (pm cv ctv : Value), bindArgs (PySem.W.kla_fn "<lambda>" q params body scope [] pm cv ctv) ⟨[], []⟩ = pure []) ∧ LamRun X.prog X.w X.K X.mg X.base k q scope body f c' tb ∧ tb E H Q) := by
  refine ⟨fun pz tz uz Hz Q Iz h => ?_⟩
  obtain ⟨f, c', q, params, body, scope, tb, hs, isf, isc, L, binds, runs, ht⟩ := h
  refine wpAny_Call_Name_kw (thn ((pe_var (pos := p1) (i := i) hN hv hd hcd).run pz tz uz Hz (fun v H1 => v = .ref f ∧ H1 = Hz) Iz ⟨.ref f, hs, rfl, rfl⟩) fun u sv ⟨v, H1, J1, rel, ends⟩ => ?_)
  obtain ⟨eqv, eqH⟩ := ends
  subst eqv
  rw [eqH] at J1
  obtain rfl : u = Value.ref f := rel
  obtain ⟨⟨pm, ctv, objf⟩, _, _⟩ := J1.hok f _ isf
  refine PySem.W.callWith_F0 ⟨_, _, _, _, objf⟩ ?_
  obtain ⟨⟨oc, vs, t, objc, datac, qualc⟩, _, _⟩ := J1.hok c' _ isc
  have ran : codeAny (model X.prog X.w) X.A (.call (.ref f) ⟨[], []⟩) (CR (L2.CX X.prog X.w) X.stack X.prog X.w Hz sv Q E) sv := by
    refine PySem.W.kla_callFunE room.depth objf rfl L.co L.gen rfl ⟨c', oc, vs, t, rfl, objc, datac, qualc⟩ ?_
    rw [binds]
    refine wpAny_pure (wpAny_newFunctionEnv (fun y hy => (L.own y hy).2.1) (fun y hy => absurd hy (by simp)) (fun hN newNs steps => ⟨J1.nolimit.fresh _ steps, ?_⟩) L.kind)
    show codeAny _ _ (.expr body (lamEnv0 q scope sv.heap.objs.size f c')) _ _
    have stays : ∀ b o, sv.heap.get? b = some o → hN.get? b = some o := fun b o e => steps.extBut b o (Nat.ne_of_lt (Heap.lt_size e)) (Heap.get?_push_of_some _ e)
    have J : Inv (lamCx0 X.prog X.w X.K X.mg X.base X.A X.stack sv Hz E q scope f c') [] [] Hz { sv with heap := hN, toks := sv.toks + ([] : List (Str × Value)).length } :=
      lam_start0 L J1.env0 room.hd newNs stays
    refine PySem.W.kla_codeExpr (wpAny_mono ((runs _ _ sv Hz E (room.deeper _)).run [] _ _ Hz Q J ht) (fun v s' got => ?_) fun e s' got => got)
    obtain ⟨wv, Hv, Jv, rv, q⟩ := got
    exact ⟨wv, Hv, Jv.os, Jv.bare, Jv.base, Jv.hok, rv, q⟩
  have out : Passes (L2.CX X.prog X.w) X E := passes_call takes hW
  refine wpAny_call (codeAny_mono ran fun r s' got => ?_)
  cases r with
  | error e => exact out pz uz Hz sv e s' J1 got
  | ok fl =>
    cases fl with
    | ret u => exact J1.after got
    | next => exact False.elim got
    | brk => exact False.elim got
    | cont => exact False.elim got
/-- lambda: body -/
def tLamO (T : List (Addr × Str)) (q : Str) (params : Arguments) (body : Expr) (scope : Scope) : TE := fun _ H Q => LamX.Tabs T H ∧
  ∀ f cc H1, H f = none → LamX.ExtN H H1 → LamX.Tabs T H1 → H1 f = some (LamO f q params body scope cc) → H1 cc = some (LamX.CodeO cc q) → Q (.ref f) H1
theorem pe_lamO {T : List (Addr × Str)} {c P : Addr} {params : Arguments} {body : Expr} {scope : Scope} {pos : Pos} (L : Lam0 scope) (TB : LamX.TabB X.base X.mg c P) (codeX : X.env.code = .ref c)
    (inT : (P, X.env.qual ++ "<lambda>") ∈ T) (oneT : ∀ p ∈ T, p.1 = P → p.2 = X.env.qual ++ "<lambda>") (nodef : defaultsOf params X.env = ([], [])) :
    PE X (.Lambda params body scope pos) (tLamO T (X.env.qual ++ "<lambda>") params body scope) := by
  refine ⟨fun pins s σ H Q I h => ?_⟩
  obtain ⟨tabs0, h⟩ := h
  obtain ⟨trs, atP, okP, allP⟩ := tabs0 _ inT
  have hclo : cloFrom X.env.cells scope.names [] = [] := L.clo _
  have frees : ∀ y ∈ scope.names, y.2 = .free → ∃ c, X.env.cells.lookup y.1 = some c := fun y hy e => absurd e (L.own y hy).2.2
  refine PySem.W.kla_eval nodef ?_
  have bltP : s.heap.BuiltinsAt X.mg P := TB.bm.keeps I.bk
  have heapP : s.heap.get? P = some { cls := .none, data := .fields trs } := I.hok P _ atP
  cases among : codeAmong pos trs.toList with
  | none =>
    refine PySem.W.kla_makeFunction (mg := X.mg) (c := c) (P := P) (ps := trs) (closure_ok frees) I.ok.glob (I.mod.glob.keeps I.bk) codeX (TB.code.keeps I.bk) heapP okP among TB.gP bltP fun cc tv hp tt kept ge0 lt0 rec0 tab0 => ?_
    rw [hclo]
    obtain ⟨c2, co, fs, t, f2, coAt, coData, coQual⟩ := rec0
    cases f2
    have ge1 : s.heap.objs.size ≤ hp.objs.size := Nat.le_trans ge0 (Nat.le_of_lt lt0)
    have newC : H cc = none := I.hok.fresh ge0
    have J1 := LamX.inv_table (t' := tt) (more := #[rawInt pos.line, rawInt pos.col, .ref cc]) (h' := hp) I atP kept tab0 ge0 ⟨co, fs, t, coAt, coData, coQual⟩
    have extH : LamX.ExtN H (upd (upd H P (.tbl (trs ++ #[rawInt pos.line, rawInt pos.col, .ref cc]))) cc (LamX.CodeO cc (X.env.qual ++ "<lambda>"))) := fun b o e n => by
      rw [upd_ne (ne_of_none e newC), upd_ne (fun z => n trs (Option.some.inj (e.symm.trans (by rw [z]; exact atP))))]
      exact e
    have snocL : (trs ++ #[rawInt pos.line, rawInt pos.col, .ref cc]).toList = trs.toList ++ [rawInt pos.line, rawInt pos.col, .ref cc] := by simp
    have tabs1 : LamX.Tabs T (upd (upd H P (.tbl (trs ++ #[rawInt pos.line, rawInt pos.col, .ref cc]))) cc (LamX.CodeO cc (X.env.qual ++ "<lambda>"))) := fun p hp => by
      by_cases isP : p.1 = P
      · rw [oneT p hp isP, isP]
        refine ⟨_, by rw [upd_ne (ne_of_none atP newC), upd_same], by rw [snocL]; exact PySem.TriplesOk_snoc _ _ _ _ okP, fun pp cd find => ?_⟩
        rw [snocL] at find
        rcases LamX.among_app _ okP find with z | z
        · obtain ⟨c9, f1, f2⟩ := allP pp cd z
          exact ⟨c9, f1, extH _ _ f2 LamX.codeO_ne⟩
        · exact ⟨cc, z, upd_same⟩
      · obtain ⟨trs', t1, t2, t3⟩ := tabs0 p hp
        refine ⟨trs', by rw [upd_ne (ne_of_none t1 newC), upd_ne isP]; exact t1, t2, fun pp cd find => ?_⟩
        obtain ⟨c9, f1, f2⟩ := t3 pp cd find
        exact ⟨c9, f1, extH _ _ f2 LamX.codeO_ne⟩
    -- the function object
    have objF : (hp.push (PySem.W.kla_obj "<lambda>" (X.env.qual ++ "<lambda>") params body scope [] ((X.mg "__name__").getD .none) cc tv)).get? hp.objs.size = some (PySem.W.kla_obj "<lambda>" (X.env.qual ++ "<lambda>") params body scope [] ((X.mg "__name__").getD .none) cc tv) := Heap.get?_push_size _ rfl
    generalize eqH1 : (upd (upd H P (.tbl (trs ++ #[rawInt pos.line, rawInt pos.col, .ref cc]))) cc (LamX.CodeO cc (X.env.qual ++ "<lambda>"))) = H1 at J1 extH tabs1
    have newF : H1 hp.objs.size = none := J1.hok.fresh (Nat.le_refl _)
    have J2 := Inv.laid (a := hp.objs.size) (o := LamO hp.objs.size (X.env.qual ++ "<lambda>") params body scope cc) (t' := tt) (h' := hp.push (PySem.W.kla_obj "<lambda>" (X.env.qual ++ "<lambda>") params body scope [] ((X.mg "__name__").getD .none) cc tv)) J1 (fun b u e => Heap.get?_push_of_some _ e) (Nat.le_refl _)
      ⟨⟨_, _, objF⟩, ⟨_, objF⟩, fun h1 h2 ⟨pm, ct, e⟩ st => ⟨pm, ct, st _ e⟩⟩
    have extH2 : LamX.ExtN H (upd H1 hp.objs.size (LamO hp.objs.size (X.env.qual ++ "<lambda>") params body scope cc)) := fun b o e n => by
      rw [upd_ne (ne_of_none (extH b o e n) newF)]
      exact extH b o e n
    have atC : H1 cc = some (LamX.CodeO cc (X.env.qual ++ "<lambda>")) := by rw [← eqH1]; exact upd_same
    refine ⟨.ref hp.objs.size, _, J2, rfl, h hp.objs.size cc _ (I.hok.fresh ge1) extH2 (tabs1.ext fun b o e => by rw [upd_ne (ne_of_none e newF)]; exact e) upd_same ?_⟩
    rw [upd_ne (ne_of_none atC newF)]
    exact atC
  | some cd =>
    obtain ⟨cc, e, oldC⟩ := allP pos cd among
    subst e
    refine PySem.W.kla_makeFunctionHit (mg := X.mg) (c := c) (P := P) (ps := trs) (closure_ok frees) I.ok.glob (I.mod.glob.keeps I.bk) codeX (TB.code.keeps I.bk) heapP okP among bltP fun tv hp tt kept ge1 => ?_
    rw [hclo]
    have objF : (hp.push (PySem.W.kla_obj "<lambda>" (X.env.qual ++ "<lambda>") params body scope [] ((X.mg "__name__").getD .none) cc tv)).get? hp.objs.size = some (PySem.W.kla_obj "<lambda>" (X.env.qual ++ "<lambda>") params body scope [] ((X.mg "__name__").getD .none) cc tv) := Heap.get?_push_size _ rfl
    have newF : H hp.objs.size = none := I.hok.fresh ge1
    have J2 := Inv.laid (a := hp.objs.size) (o := LamO hp.objs.size (X.env.qual ++ "<lambda>") params body scope cc) (t' := tt) (h' := hp.push (PySem.W.kla_obj "<lambda>" (X.env.qual ++ "<lambda>") params body scope [] ((X.mg "__name__").getD .none) cc tv)) I (fun b u e => Heap.get?_push_of_some _ (kept b u e)) ge1
      ⟨⟨_, _, objF⟩, ⟨_, objF⟩, fun h1 h2 ⟨pm, ct, e⟩ st => ⟨pm, ct, st _ e⟩⟩
    have extH2 : ∀ b o, H b = some o → upd H hp.objs.size (LamO hp.objs.size (X.env.qual ++ "<lambda>") params body scope cc) b = some o := fun b o e => by
      rw [upd_ne (ne_of_none e newF)]
      exact e
    exact ⟨.ref hp.objs.size, _, J2, rfl, h hp.objs.size cc _ newF (LamX.ExtN.of extH2) (tabs0.ext extH2) upd_same (extH2 _ _ oldC)⟩
end

/-- a def whose name the module has, and what it promises; it may raise -/
def Cal (P : Program) (w : World) (K : PySem.W.Frag) (mg : Str → Option Value) (base : Heap) (k : Nat) (x : Str) (sp : Sp) (dvs : List V) : Prop :=
  ∃ (f : Addr) (d : FuncData) (names : List Str) (dv : List Value), mg x = some (.ref f) ∧ PySem.W.keepIn K (.ref f) = true ∧ FnOk P w K mg base (L2.CX P w) k f d names sp ∧ Binds K d names dv ∧ Vals dvs dv
section
variable {X : Cx} {k j : Nat} {x : Str} {sp : Sp} {dvs : List V} {E : XK} {p pos : Pos} {e : Expr} {es : List Expr} {t : TA}
theorem pe_k (c : Cal X.prog X.w X.K X.mg X.base k x sp dvs) (room : Room j X.A) (le : k ≤ j) (out : Passes (L2.CX X.prog X.w) X E) (args : PA X (e :: es) t) (gl : Gl X x := by rfl)
    (plain : (x == ("__debug__" : Str)) = false := by decide) (stars : starEach (e :: es) X.env = (false, eval e X.env) :: starEach es X.env := by rfl) (nostar : (backTo pos (starEach es X.env)).any (·.1) = false := by rfl) :
    PE X (.Call (.Name x p) (e :: es) [] pos) (tCall sp dvs E t) :=
  let ⟨_, _, _, _, at_, kp, F, b, d⟩ := c
  pe_call F (room.mono le) gl at_ kp b d out args plain stars nostar
theorem pe_k0 (c : Cal X.prog X.w X.K X.mg X.base k x sp dvs) (room : Room j X.A) (le : k ≤ j) (out : Passes (L2.CX X.prog X.w) X E) (gl : Gl X x := by rfl)
    (plain : (x == ("__debug__" : Str)) = false := by decide) : PE X (.Call (.Name x p) [] [] pos) (tCall sp dvs E tNil) :=
  let ⟨_, _, _, _, at_, kp, F, b, d⟩ := c
  pe_call0 F (room.mono le) gl at_ kp b d out plain
/-- what a def lets out is taken by its caller, a def likewise -/
theorem passE {X : Cx} {E : XK} {E1 : Value → Shared → Prop} (hs : X.stack = X.env :: X.outer := by rfl) (hf : X.env.frame = some X.env.locals := by rfl) (hex : X.ex = [] := by rfl)
    (hx : X.xe = fun e s' => wpAny (model X.prog X.w) X.A (leaving X.env e) (fun _ s'' => L2.CX X.prog X.w X.outer X.H_0 X.s_0 E e s'') E1 s' := by rfl) : Passes (L2.CX X.prog X.w) X E :=
  passes_call (takes_of hs hf hex hx) fun _ _ _ _ h => h
end
/-! ### the classes of errors -/
structure Exc1 (K : PySem.W.Frag) (mg : Str → Option Value) (x : Str) (C : Addr) : Prop where
  g : mg x = some (.ref C)
  x : PySem.W.excIn K C [.type "ValueError", .type "Exception", .type "BaseException", .type "object"] "ValueError.__new__" = true
  k : PySem.W.keepIn K (.ref C) = true
  b : PySem.W.subIn K (.ref C) (.type "BaseException") = some true
  t : PySem.W.typeIn K (.ref C) = some (.type "type")
def excName : Nat → Str
  | 0 => "BadCalendar"
  | 1 => "BadDay"
  | 2 => "BadTime"
  | 3 => "BadRule"
  | 4 => "BadZone"
  | 5 => "BadSize"
  | 6 => "BadPaper"
  | 7 => "BadText"
  | 8 => "BadStore"
  | 9 => "NoDay"
  | 10 => "NoSuch"
  | _ => ""
def kindName : Nat → Str
  | 0 => "calendar"
  | 1 => "day"
  | 2 => "time"
  | 3 => "rule"
  | 4 => "zone"
  | 5 => "size"
  | 6 => "paper"
  | 7 => "text"
  | 8 => "store"
  | 9 => "no day"
  | 10 => "no such"
  | _ => ""
structure Exs (K : PySem.W.Frag) (mg : Str → Option Value) (c : Nat → Addr) : Prop where
  e : ∀ i, i < 11 → Exc1 K mg (excName i) (c i)
  m : ∀ i j, i < 11 → j ≤ i → PySem.W.exmOne K (.ref (c i)) (.ref (c j)) = some (decide (i = j))
/-- told of an error: its kind -/
def ETold (c : Nat → Addr) (Q : VK) : XK := fun cls _ H => ∃ i, i < 11 ∧ cls = .ref (c i) ∧ Q (.str (kindName i)) H
def spTold (P : Program) (w : World) (K : PySem.W.Frag) (mg : Str → Option Value) (base : Heap) (c : Nat → Addr) (k : Nat) : Sp := fun vs H Q _ =>
  ∃ (f c' : Addr) (q : Str) (params : Arguments) (body : Expr) (scope : Scope) (tb : XK → Hp → VK → Prop), vs = [.ref f] ∧ H f = some (LamO f q params body scope c') ∧ H c' = some (LamX.CodeO c' q) ∧ Lam0 scope ∧
    (∀ (pm cv ctv : Value), bindArgs (PySem.W.kla_fn "<lambda>" q params body scope [] pm cv ctv) ⟨[], []⟩ = pure []) ∧ LamRun P w K mg base k q scope body f c' tb ∧ tb (ETold c Q) H Q
section
variable {X : Cx}
/-- raise X('..') -/
theorem ps_raiseX {C : Addr} {x m : Str} {j : Nat} {p p2 pos pos2 : Pos} {E : XK} {E1 : Value → Shared → Prop} (T : Exc1 X.K X.mg x C) (hc : X.calm = true := by rfl) (hg : Gl X x := by rfl) (hs : X.stack = X.env :: X.outer := by rfl) (hf : X.env.frame = some X.env.locals := by rfl) (hex : X.ex = [] := by rfl)
    (hx : X.xe = fun e s' => wpAny (model X.prog X.w) X.A (leaving X.env e) (fun _ s'' => L2.CX X.prog X.w X.outer X.H_0 X.s_0 E e s'') E1 s' := by rfl) (hdb : (x == ("__debug__" : Str)) = false := by decide) :
    PS X (.Raise (some (.Call (.Name x p) [.Constant (.str m) j p2] [] pos)) none pos2) (fun _ _ H => E (.ref C) none H) :=
  ps_raise hc (takes_of hs hf hex hx) (pmk_own PySem.F.excBase_ValueError T.x T.g T.k (raises_own T.b T.t) hg hdb)
end
/-! ### evaluation -/
theorem et_chain {σ : L2.St} {H : Hp} {ta tb tc : TE} {x y z : V} {r r' : R2} {b b' : Bool} (ha : Ev ta σ H x) (hb : Ev tb σ H y) (hc : b = true → Ev tc σ H z) (hr : RV r x y H (.bl b)) (hr' : b = true → RV r' y z H (.bl b')) : Ev (tChain r r' ta tb tc) σ H (.bl (b && b')) := fun H1 e Q q =>
  ha H1 e _ fun H2 e2 => hb H2 (e.trans e2) _ fun H3 e3 => hr H3 ((e.trans e2).trans e3) _ fun H4 e4 => ⟨b, rfl, by
    cases b with
    | true =>
      rw [if_pos rfl]
      exact hc rfl H4 (((e.trans e2).trans e3).trans e4) _ fun H5 e5 => hr' rfl H5 ((((e.trans e2).trans e3).trans e4).trans e5) Q fun H6 e6 => q H6 (((((e2).trans e3).trans e4).trans e5).trans e6)
    | false =>
      rw [if_neg Bool.false_ne_true]
      exact q H4 ((e2.trans e3).trans e4)⟩
theorem rc_int1 {H : Hp} {i : Int} : RC (fun xs H Q => (∃ i, xs = [V.int i] ∧ Q (V.int i) H) ∨ ∃ k, xs = [V.bl k] ∧ Q (V.int (if k = true then 1 else 0)) H) [.int i] H (.int i) := fun H1 _ _ q => .inl ⟨i, rfl, q H1 (Ex.refl H1)⟩
theorem rc_int1b {H : Hp} {k : Bool} : RC (fun xs H Q => (∃ i, xs = [V.int i] ∧ Q (V.int i) H) ∨ ∃ k, xs = [V.bl k] ∧ Q (V.int (if k = true then 1 else 0)) H) [.bl k] H (.int (if k = true then 1 else 0)) := fun H1 _ _ q => .inr ⟨k, rfl, q H1 (Ex.refl H1)⟩
theorem rc_abs {H : Hp} {i : Int} : RC (fun xs H Q => ∃ i, xs = [V.int i] ∧ Q (V.int (if i < 0 then -i else i)) H) [.int i] H (.int (if i < 0 then -i else i)) := fun H1 _ _ q => ⟨i, rfl, q H1 (Ex.refl H1)⟩
def ExB (d : Addr) (H H' : Hp) : Prop := ∀ x o, x ≠ d → H x = some o → H' x = some o
theorem ExB.of {d : Addr} {H H' : Hp} (e : Ex H H') : ExB d H H' := fun x o _ h => e x o h
theorem ExB.upd {d : Addr} {H H' : Hp} {o : HO} (e : ExB d H H') : ExB d H (upd H' d o) := fun x u n h => by rw [upd_ne n]; exact e x u n h
theorem ExB.trans {d : Addr} {H H1 H2 : Hp} (a : ExB d H H1) (b : ExB d H1 H2) : ExB d H H2 := fun x o n h => b x o n (a x o n h)
theorem ExB.ex {d : Addr} {H H1 H2 : Hp} (a : ExB d H H1) (b : Ex H1 H2) : ExB d H H2 := fun x o n h => b x o (a x o n h)
end Rw
namespace Rw
open PySem PySem.Spec PyProof.Rows L2 Evl
/-! ### what a def gives: a value, a new list, a new tuple, or an error -/
inductive Rs where
  | ok (v : V)
  | lst (xs : List V)
  | tup (xs : List V)
  | err (i : Nat)
  deriving DecidableEq
def Out (c : Nat → Addr) (H : Hp) (Q : VK) (E : XK) : Rs → Prop
  | .ok v => ∀ H', Ex H H' → Q v H'
  | .lst xs => ∀ p H', H p = none → Ex H H' → H' p = some (.lst xs) → Q (.ref p) H'
  | .tup xs => ∀ p H', H p = none → Ex H H' → H' p = some (.tup xs) → Q (.ref p) H'
  | .err i => ∀ H', Ex H H' → E (.ref (c i)) none H'
theorem Out.mono {c : Nat → Addr} {H H1 : Hp} {Q : VK} {E : XK} {r : Rs} (e : Ex H H1) (o : Out c H Q E r) : Out c H1 Q E r := by
  cases r with
  | ok v => exact fun H' e' => o H' (e.trans e')
  | lst xs => exact fun p H' hp e' h => o p H' (fresh_back e hp) (e.trans e') h
  | tup xs => exact fun p H' hp e' h => o p H' (fresh_back e hp) (e.trans e') h
  | err i => exact fun H' e' => o H' (e.trans e')
def spF (c : Nat → Addr) (f : List V → Option Rs) : Sp := fun vs H Q E => ∃ r, f vs = some r ∧ Out c H Q E r
section
variable {c : Nat → Addr} {f : List V → Option Rs} {σ : L2.St} {H : Hp} {vs dvs : List V} {ta : TA} {E : XK} {z : V} {xs : List V}
theorem ev_F (h : EvA ta σ H vs) (hf : f (vs ++ dvs) = some (.ok z)) : Ev (tCall (spF c f) dvs E ta) σ H z := fun H1 e Q q =>
  h H1 e _ fun H2 e2 => ⟨_, hf, fun H3 e3 => q H3 (e2.trans e3)⟩
theorem el_F (h : EvA ta σ H vs) (hf : f (vs ++ dvs) = some (.lst xs)) : EvL (tCall (spF c f) dvs E ta) σ H xs := fun H1 e Q q =>
  h H1 e _ fun H2 e2 => ⟨_, hf, fun p H3 hp e3 h3 => q p H3 (fresh_back e2 hp) (e2.trans e3) h3⟩
theorem eu_F (h : EvA ta σ H vs) (hf : f (vs ++ dvs) = some (.tup xs)) : EvU (tCall (spF c f) dvs E ta) σ H xs := fun H1 e Q q =>
  h H1 e _ fun H2 e2 => ⟨_, hf, fun p H3 hp e3 h3 => q p H3 (fresh_back e2 hp) (e2.trans e3) h3⟩
/-- a call that raises: whatever is wanted of its value -/
theorem er_F {i : Nat} (h : EvA ta σ H vs) (hf : f (vs ++ dvs) = some (.err i)) (k : ∀ H1, Ex H H1 → E (.ref (c i)) none H1) (Q : VK) : tCall (spF c f) dvs E ta σ H Q :=
  h H (Ex.refl H) _ fun H2 e2 => ⟨_, hf, fun H3 e3 => k H3 (e2.trans e3)⟩
end
/-! ### two figures -/
def twoL (n : Int) : List Nat := [48 + n.toNat / 10, 48 + n.toNat % 10]
theorem two_text (n : Int) (h0 : 0 ≤ n) (h1 : n < 100) : (if decide (n < 10) = true then (⟨#[48]⟩ : Str) ++ Str.ofString (toString n) else Str.ofString (toString n)) = SX.S (twoL n) := by
  have all : ∀ m : Fin 100, (if decide (((m.val : Nat) : Int) < 10) = true then (⟨#[48]⟩ : Str) ++ Str.ofString (toString ((m.val : Nat) : Int)) else Str.ofString (toString ((m.val : Nat) : Int))) = SX.S (twoL ((m.val : Nat) : Int)) := by decide +kernel
  have e := all ⟨n.toNat, by omega⟩
  have en : ((n.toNat : Nat) : Int) = n := Int.toNat_of_nonneg h0
  rw [show ((⟨n.toNat, by omega⟩ : Fin 100).val) = n.toNat from rfl, en] at e
  exact e
section
variable {X : Cx}
/-- f'{e:02d}' -/
def tTwo (te : TE) : TE := fun σ H Q => te σ H fun x H1 => ∃ n : Int, x = .int n ∧ 0 ≤ n ∧ n < 100 ∧ Q (.str (SX.S (twoL n))) H1
theorem pe_two {e : Expr} {te : TE} {k : Nat} {p1 p2 pos p3 : Pos} (hD : X.base.NoDigits) (he : PE X e te) : PE X (.JoinedStr [.FormattedValue e (-1) (some (.JoinedStr [.Constant (.str "02d") k p1] p2)) pos] p3) (tTwo te) := by
  refine pe_joined1 ⟨fun pins s σ H Q I h => ?_⟩
  refine wpAny_FormattedValue_spec (thn (he.run pins s σ H _ I h) ?_)
  rintro v s1 ⟨x, H1, I1, r1, n, rfl, h0, h1, q⟩
  obtain ⟨t, rfl⟩ := r1
  have hs : PE X (.JoinedStr [.Constant (.str "02d") k p1] p2) (tC (.str "02d")) := pe_joined1 pe_str
  refine thn (hs.run pins s1 σ H1 (fun v H' => v = .str "02d" ∧ H' = H1) I1 ⟨rfl, rfl⟩) ?_
  rintro r s2 ⟨y, H2, I2, r2, rfl, rfl⟩
  obtain ⟨t2, rfl⟩ := r2
  refine ⟨_, t2, rfl, ?_⟩
  refine formatField_int_specOf (hD.keeps I2.bk) (by have : n.natAbs < 100 := by omega
                                                     exact lt_digitLimit_of_lt (by omega)) (by decide +kernel) (fun W hW F => ?_) (by decide)
  have e := F.pad2 (by decide +kernel) (hW.trans (by decide +kernel)) h0 h1
  rw [two_text n h0 h1] at e
  exact ⟨.str _, H2, I2.tok _, ⟨_, rfl⟩, by rw [e]; exact q⟩
end
theorem ev_two {te : TE} {σ : L2.St} {H : Hp} {n : Int} (h : Ev te σ H (.int n)) (h0 : 0 ≤ n) (h1 : n < 100) : Ev (tTwo te) σ H (.str (SX.S (twoL n))) := fun H1 e Q q =>
  h H1 e _ fun H2 e2 => ⟨n, rfl, h0, h1, q H2 e2⟩
/-! ### comprehensions that keep all -/
theorem given_all (n : Nat) (v : Nat → V) : given n (fun _ => true) v = (List.range n).map v := by
  unfold given
  rw [List.filter_eq_self.mpr fun _ _ => rfl]
theorem given_map {xs ys : List V} {v : Nat → V} (hl : xs.length = ys.length) (h : ∀ i y, ys[i]? = some y → v i = y) : given xs.length (fun _ => true) v = ys := by
  rw [given_all]
  refine List.ext_getElem? fun i => ?_
  rw [List.getElem?_map, hl]
  by_cases hi : i < ys.length
  · rw [List.getElem?_range hi, List.getElem?_eq_getElem hi]
    show some (v i) = some ys[i]
    rw [h i _ (List.getElem?_eq_getElem hi)]
  · rw [List.getElem?_eq_none (by rw [List.length_range]; omega), List.getElem?_eq_none (by omega)]
    rfl
theorem et_yes {σ : L2.St} {H : Hp} : EvT tYes σ H true := fun H1 _ _ q => q H1 (Ex.refl H1)
section
variable {K : PySem.W.Frag} {σ : L2.St} {H : Hp} {te tl : TE} {t : TT} {j : Nat} {vs : List Nat} {xs ys : List V}
/-- a comprehension over a new tuple -/
theorem el_lcNU (f : Nat → Bool) (v : Nat → V) (h : EvU tl σ H xs) (hz : xs.length ≤ 40000) (hw : ∀ x, wipe ((wipe σ vs).set j (some x)) vs = wipe σ vs)
    (tested : ∀ (i : Nat) (x : V) H1, Ex H H1 → xs[i]? = some x → EvT t ((wipe σ vs).set j (some x)) H1 (f i)) (he : ∀ (i : Nat) (x : V) H1, Ex H H1 → xs[i]? = some x → f i = true → Ev te ((wipe σ vs).set j (some x)) H1 (v i)) :
    EvL (tLc (iTup K tl) (gName j) t te vs) σ H (given xs.length f v) := fun H0 e Q q => h H0 e _ fun a H1 _ e1 hx => ⟨a, rfl, ⟨xs, st_of hx⟩, fun Dl hD =>
  lc_tup (xs := xs) (Cw H1 f v Dl) ⟨hD, Ex.new hD, upd_same⟩ (fun i H' _ p => st_of (p.2.1 a _ hx)) (fun i x H' hi p => ⟨hw x, cw_turn p (Nat.lt_of_lt_of_le (List.getElem?_eq_some_iff.mp hi).1 (Nat.le_trans hz (by decide))) (tested i x H1 (e.trans e1) hi) (fun hf => he i x H1 (e.trans e1) hi hf)⟩)
    (fun Hz pz => q Dl Hz (fresh_back e1 pz.1) (e1.trans pz.2.1) pz.2.2)⟩
/-- all items of a new tuple, each made another -/
theorem el_mapNU (h : EvU tl σ H xs) (hz : xs.length ≤ 40000) (hw : ∀ x, wipe ((wipe σ vs).set j (some x)) vs = wipe σ vs) (hl : xs.length = ys.length)
    (he : ∀ (i : Nat) (x y : V) H1, Ex H H1 → xs[i]? = some x → ys[i]? = some y → Ev te ((wipe σ vs).set j (some x)) H1 y) :
    EvL (tLc (iTup K tl) (gName j) tYes te vs) σ H ys := by
  have g := el_lcNU (K := K) (t := tYes) (te := te) (fun _ => true) (fun i => ys.getD i .non) h hz hw (fun _ _ _ _ _ => et_yes) fun i x H1 e hx _ => by
    have hi : i < ys.length := by
      have q := (List.getElem?_eq_some_iff.mp hx).1
      omega
    have ey : ys.getD i .non = ys[i] := by rw [List.getD_eq_getElem?_getD, List.getElem?_eq_getElem hi]; rfl
    rw [ey]
    exact he i x _ H1 e hx (List.getElem?_eq_getElem hi)
  rw [given_map hl fun i y hy => by rw [List.getD_eq_getElem?_getD, hy]; rfl] at g
  exact g
/-- all items of a list, each made another -/
theorem el_mapL {a : Addr} (h : Ev tl σ H (.ref a)) (hx : SqL K H a xs) (hz : xs.length ≤ 40000) (hw : ∀ x, wipe ((wipe σ vs).set j (some x)) vs = wipe σ vs) (hl : xs.length = ys.length)
    (he : ∀ (i : Nat) (x y : V) H1, Ex H H1 → xs[i]? = some x → ys[i]? = some y → Ev te ((wipe σ vs).set j (some x)) H1 y) :
    EvL (tLc (iList K tl) (gName j) tYes te vs) σ H ys := by
  have g := el_lcL (K := K) (t := tYes) (te := te) (fun _ => true) (fun i => ys.getD i .non) h hx hz hw (fun _ _ _ _ _ => et_yes) fun i x H1 e hx _ => by
    have hi : i < ys.length := by
      have q := (List.getElem?_eq_some_iff.mp hx).1
      omega
    have ey : ys.getD i .non = ys[i] := by rw [List.getD_eq_getElem?_getD, List.getElem?_eq_getElem hi]; rfl
    rw [ey]
    exact he i x _ H1 e hx (List.getElem?_eq_getElem hi)
  rw [given_map hl fun i y hy => by rw [List.getD_eq_getElem?_getD, hy]; rfl] at g
  exact g
/-- sep.join(new list) -/
theorem ev_join {to : TE} {a : Str} {zs : List Str} (ho : Ev to σ H (.str a)) (he : EvL te σ H (zs.map V.str)) (hz : (zs.map (·.length)).sum + zs.length * a.length ≤ 16777216) :
    Ev (tM1 (fun x xs H Q => ∃ a p, ∃ ys : List Str, x = .str a ∧ xs = [.ref p] ∧ (SqL K H p (ys.map V.str) ∨ SqT K H p (ys.map V.str)) ∧ (ys.map (·.length)).sum + ys.length * a.length ≤ 16777216 ∧ Q (.str (Txt.join a ys)) H) to te) σ H (.str (Txt.join a zs)) := fun H1 e Q q =>
  ho H1 e _ fun H2 e2 => ⟨⟨a, rfl⟩, he H2 (e.trans e2) _ fun p H3 _ e3 h3 => ⟨a, p, zs, rfl, rfl, .inl (sq_of h3), hz, q H3 (e2.trans e3)⟩⟩
end
end Rw
namespace Rw
open PySem PySem.Spec PyProof.Rows L2 Evl SX
/-! ### texts of figures -/
def isDig (c : Nat) : Bool := decide (48 ≤ c) && decide (c ≤ 57)
theorem figs_cps : (("0123456789" : Str)).cps = #[48, 49, 50, 51, 52, 53, 54, 55, 56, 57] := by decide +kernel
theorem figs_has (c : Nat) : (("0123456789" : Str)).cps.contains c = isDig c := by
  rw [figs_cps]
  unfold isDig
  rw [Bool.eq_iff_iff]
  simp only [Array.contains_eq_mem, Bool.and_eq_true, decide_eq_true_eq]
  simp only [List.mem_toArray, List.mem_cons, List.not_mem_nil, or_false]
  omega
theorem extract_S (l : List Nat) (i j : Nat) : PySem.Builtin.Str.strSub (S l) i j = S ((l.drop i).take (j - i)) := by
  unfold PySem.Builtin.Str.strSub
  refine TL.ext_tl ?_
  show ((S l).cps.extract i j).toList = (l.drop i).take (j - i)
  rw [Array.toList_extract, List.extract_eq_take_drop]
theorem drop_takeWhile (p : Nat → Bool) (l : List Nat) : l.drop (l.takeWhile p).length = l.dropWhile p := by
  induction l with
  | nil => rfl
  | cons a r ih =>
    rw [List.takeWhile_cons, List.dropWhile_cons]
    cases h : p a with
    | true => simpa using ih
    | false => rfl
theorem lstrip_S (l : List Nat) : Txt.lstripChars (S l) "0123456789" = S (l.dropWhile isDig) := by
  unfold Txt.lstripChars
  rw [PyProof.Rows.stripBy_eq, show (("0123456789" : Str)).cps.contains = isDig from funext figs_has]
  unfold stripLo stripHi
  rw [if_pos rfl, if_neg (by decide), extract_S]
  show S ((l.drop (l.takeWhile isDig).length).take ((S l).length - (l.takeWhile isDig).length)) = _
  rw [S_len, drop_takeWhile, List.take_of_length_le]
  have e := congrArg List.length (List.takeWhile_append_dropWhile (p := isDig) (l := l))
  rw [List.length_append] at e
  omega
theorem cut_figs (l : List Nat) : cutS (S l) none (some ((l.length : Int) - ((l.dropWhile isDig).length : Int))) = S (l.takeWhile isDig) := by
  have e := congrArg List.length (List.takeWhile_append_dropWhile (p := isDig) (l := l))
  rw [List.length_append] at e
  have ez : (l.length : Int) - ((l.dropWhile isDig).length : Int) = (((l.takeWhile isDig).length : Nat) : Int) := by omega
  rw [ez]
  unfold cutS
  rw [HT.sIx_none, HT.sIx_nat, S_len, List.drop_zero]
  have em : min (l.takeWhile isDig).length l.length = (l.takeWhile isDig).length := by omega
  rw [em, Nat.sub_zero]
  show S (l.take (l.takeWhile isDig).length) = _
  have t : l.take (l.takeWhile isDig).length = l.takeWhile isDig := by
    conv => lhs; rw [← List.takeWhile_append_dropWhile (p := isDig) (l := l)]
    have hp : ∀ (m : List Nat), (m.takeWhile isDig ++ m.dropWhile isDig).takeWhile isDig = m.takeWhile isDig := fun m => by rw [List.takeWhile_append_dropWhile]
    rw [hp, List.take_left]
  rw [t]
theorem cut_one (l : List Nat) : cutS (S l) none (some 1) = S (l.take 1) := by
  unfold cutS
  rw [HT.sIx_none, show HT.sIx (S l).length (S l).length (some 1) = min 1 (S l).length from HT.sIx_nat _ _ 1, S_len, List.drop_zero, Nat.sub_zero]
  show S (l.take (min 1 l.length)) = _
  cases l with
  | nil => rfl
  | cons a r =>
    rw [show min 1 (a :: r).length = 1 by rw [List.length_cons]; omega]
theorem cut_rest (l : List Nat) : cutS (S l) (some 1) none = S (l.drop 1) := by
  unfold cutS
  rw [HT.sIx_none, show HT.sIx (S l).length 0 (some 1) = min 1 (S l).length from HT.sIx_nat _ _ 1, S_len]
  show S ((l.drop (min 1 l.length)).take (l.length - min 1 l.length)) = _
  cases l with
  | nil => rfl
  | cons a r =>
    rw [show min 1 (a :: r).length = 1 by rw [List.length_cons]; omega, List.take_of_length_le (by rw [List.length_drop]; omega)]
/-! ### letters -/
def letAt (c : Nat) : Int := if c = 100 then 0 else if c = 104 then 1 else if c = 109 then 2 else if c = 115 then 3 else -1
theorem dhms_S : ("dhms" : Str) = S [100, 104, 109, 115] := by decide +kernel
theorem find_let (c : Nat) : Txt.find "dhms" (S [c]) = letAt c := by
  by_cases h : c = 100 ∨ c = 104 ∨ c = 109 ∨ c = 115
  · rcases h with rfl | rfl | rfl | rfl <;> decide +kernel
  · have hn : c ∉ [100, 104, 109, 115] := by
      intro hm
      simp only [List.mem_cons, List.not_mem_nil, or_false] at hm
      exact h hm
    have e := in_one [100, 104, 109, 115] c
    rw [decide_eq_false hn, Bool.not_eq_false', List.isEmpty_iff] at e
    unfold Txt.find
    rw [dhms_S, e]
    unfold letAt
    rw [if_neg (by omega), if_neg (by omega), if_neg (by omega), if_neg (by omega)]
theorem letAt_lt (c : Nat) : letAt c < 4 := by
  unfold letAt
  split
  · decide
  · split
    · decide
    · split
      · decide
      · split <;> decide
def sizeAt (p : Int) : Int := [86400, 3600, 60, 1].getD p.toNat 0
/-! ### a length read -/
/-- what the loop makes of what is left, seconds so far, and the last letter -/
def rlLoop : Nat → List Nat → Int → Int → Rs
  | 0, _, _, _ => .err 7
  | k + 1, l, sec, last =>
    if l = [] then .ok (.int sec) else
    match l.dropWhile isDig with
    | [] => .err 7
    | x :: more =>
      if letAt x ≤ last ∨ ¬ (0 < (l.takeWhile isDig).length ∧ (l.takeWhile isDig).length < 7) ∨ ¬ (l.takeWhile isDig = TL.numL (NumText.digitsVal (l.takeWhile isDig))) then .err 7
      else rlLoop k more (sec + (NumText.digitsVal (l.takeWhile isDig) : Nat) * sizeAt (letAt x)) (letAt x)
theorem rlLoop_succ (k : Nat) (l : List Nat) (sec last : Int) : rlLoop (k + 1) l sec last = if l = [] then .ok (.int sec) else
    match l.dropWhile isDig with
    | [] => .err 7
    | x :: more =>
      if letAt x ≤ last ∨ ¬ (0 < (l.takeWhile isDig).length ∧ (l.takeWhile isDig).length < 7) ∨ ¬ (l.takeWhile isDig = TL.numL (NumText.digitsVal (l.takeWhile isDig))) then .err 7
      else rlLoop k more (sec + (NumText.digitsVal (l.takeWhile isDig) : Nat) * sizeAt (letAt x)) (letAt x) := rfl
def mReadLen (l : List Nat) : Rs := if l = [] then .err 7 else rlLoop (l.length + 1) l 0 (-1)
theorem isDig_letter {x : Nat} (h : 57 < x) : isDig x = false := by
  unfold isDig
  rw [decide_eq_false (show ¬ x ≤ 57 by omega), Bool.and_false]
theorem numL_dig (n : Nat) : ∀ c ∈ TL.numL n, isDig c = true := fun c hc => by
  have h := TL.numL_digits n c hc
  unfold isDig
  rw [decide_eq_true h.1, decide_eq_true h.2]
  rfl
theorem tw_app {a r : List Nat} {x : Nat} (ha : ∀ c ∈ a, isDig c = true) (hx : isDig x = false) : (a ++ x :: r).takeWhile isDig = a ∧ (a ++ x :: r).dropWhile isDig = x :: r := by
  induction a with
  | nil =>
    rw [List.nil_append, List.takeWhile_cons, List.dropWhile_cons, hx]
    exact ⟨rfl, rfl⟩
  | cons b a ih =>
    have hb := ha b List.mem_cons_self
    obtain ⟨h1, h2⟩ := ih fun c hc => ha c (List.mem_cons_of_mem _ hc)
    rw [List.cons_append, List.takeWhile_cons, List.dropWhile_cons, hb]
    exact ⟨by rw [if_pos rfl, h1], by rw [if_pos rfl, h2]⟩
/-- one piece of a told length -/
theorem rl_piece {k n x : Nat} {more : List Nat} {sec last : Int} (hn : n < 1000000) (hx : 57 < x) (hl : last < letAt x) :
    rlLoop (k + 1) (TL.numL n ++ x :: more) sec last = rlLoop k more (sec + (n : Int) * sizeAt (letAt x)) (letAt x) := by
  obtain ⟨h1, h2⟩ := tw_app (a := TL.numL n) (r := more) (numL_dig n) (isDig_letter hx)
  have hne : ¬ (TL.numL n ++ x :: more = []) := by simp
  have l1 : 0 < (TL.numL n).length := List.length_pos_iff.mpr (TL.numL_ne n)
  have l2 : (TL.numL n).length ≤ 6 := TL.numL_len (by decide) (by show n < 1000000; exact hn)
  rw [rlLoop_succ, if_neg hne, h2, h1, TL.numL_val]
  dsimp only
  rw [if_neg]
  rintro (h | h | h)
  · omega
  · exact h ⟨l1, by omega⟩
  · exact h rfl
theorem rl_end {k : Nat} {sec last : Int} : rlLoop (k + 1) [] sec last = .ok (.int sec) := by
  rw [rlLoop_succ, if_pos rfl]
end Rw
namespace Rw
open PySem PySem.Spec PyProof.Rows L2 Evl SX
/-! ### a length told -/
def tlWords : List (Nat × Nat) → Nat → List (List Nat)
  | [], _ => []
  | (c, z) :: r, s => if z ≤ s then (TL.numL (s / z) ++ [c]) :: tlWords r (s % z) else tlWords r s
def tlUnits : List (Nat × Nat) := [(100, 86400), (104, 3600), (109, 60), (115, 1)]
def tlText (s : Nat) : List Nat := if s = 0 then [48, 115] else (tlWords tlUnits s).flatten
def tlVal : List (Nat × Nat) → Nat → Nat
  | [], _ => 0
  | (_, z) :: r, s => if z ≤ s then s / z * z + tlVal r (s % z) else tlVal r s
theorem tlVal_all (s : Nat) : tlVal tlUnits s = s := by
  unfold tlUnits
  simp only [tlVal]
  split <;> split <;> split <;> split <;> omega
theorem rl_words : ∀ (r : List (Nat × Nat)) (s k : Nat) (sec last : Int), (∀ p ∈ r, 57 < p.1 ∧ sizeAt (letAt p.1) = (p.2 : Int)) → r.Pairwise (fun a b => letAt a.1 < letAt b.1) → (∀ p ∈ r, last < letAt p.1) → s < 1000000 →
    (tlWords r s).length < k → rlLoop k (tlWords r s).flatten sec last = .ok (.int (sec + (tlVal r s : Nat)))
  | [], s, k, sec, last, _, _, _, _, hk => by
    obtain ⟨k, rfl⟩ : ∃ j, k = j + 1 := ⟨k - 1, by have : 0 < k := hk; omega⟩
    show rlLoop (k + 1) [] sec last = _
    rw [rl_end]
    simp [tlVal]
  | (c, z) :: r, s, k, sec, last, hp, hs, hl, hn, hk => by
    obtain ⟨h57, hz⟩ := hp (c, z) List.mem_cons_self
    rw [List.pairwise_cons] at hs
    unfold tlWords tlVal
    unfold tlWords at hk
    by_cases q : z ≤ s
    · rw [if_pos q] at hk
      rw [if_pos q, if_pos q]
      obtain ⟨k, rfl⟩ : ∃ j, k = j + 1 := ⟨k - 1, by rw [List.length_cons] at hk; omega⟩
      have e : (((TL.numL (s / z) ++ [c]) :: tlWords r (s % z)) : List (List Nat)).flatten = TL.numL (s / z) ++ c :: (tlWords r (s % z)).flatten := by simp
      rw [e, rl_piece (Nat.lt_of_le_of_lt (Nat.div_le_self _ _) hn) h57 (hl (c, z) List.mem_cons_self)]
      rw [rl_words r (s % z) k _ _ (fun p h => hp p (List.mem_cons_of_mem _ h)) hs.2 (fun p h => hs.1 p h) (Nat.lt_of_le_of_lt (Nat.mod_le _ _) hn) (by rw [List.length_cons] at hk; omega), hz]
      rw [Int.natCast_add, Int.natCast_mul, Int.add_assoc]
    · rw [if_neg q] at hk
      rw [if_neg q, if_neg q]
      exact rl_words r s k sec last (fun p h => hp p (List.mem_cons_of_mem _ h)) hs.2 (fun p h => hl p (List.mem_cons_of_mem _ h)) hn hk
theorem words_len : ∀ (r : List (Nat × Nat)) (s : Nat), (tlWords r s).length ≤ (tlWords r s).flatten.length
  | [], _ => Nat.le_refl _
  | (c, z) :: r, s => by
    unfold tlWords
    split
    · have h := words_len r (s % z)
      rw [List.length_cons, List.flatten_cons, List.length_append, List.length_append]
      show _ ≤ _ + 1 + _
      omega
    · exact words_len r s
/-- told and read -/
theorem read_told (s : Nat) (h : s < 1000000) : mReadLen (tlText s) = .ok (.int (s : Int)) := by
  unfold tlText
  by_cases h0 : s = 0
  · subst h0
    rw [if_pos rfl]
    decide +kernel
  · rw [if_neg h0]
    have go : ∀ k, (tlWords tlUnits s).length < k → rlLoop k (tlWords tlUnits s).flatten 0 (-1) = .ok (.int (s : Int)) := fun k hk => by
      rw [rl_words tlUnits s k 0 (-1) (by decide) (by decide) (by decide) h hk, tlVal_all, Int.zero_add]
    unfold mReadLen
    have hne : ¬ ((tlWords tlUnits s).flatten = []) := fun e => by
      have g := go 5 (by
        have : (tlWords tlUnits s).length ≤ 0 := by
          have w := words_len tlUnits s
          rw [e] at w
          exact w
        omega)
      rw [e, rl_end] at g
      have z : (0 : Int) = (s : Int) := by
        injection g with g
        injection g with g
      omega
    rw [if_neg hne]
    exact go _ (Nat.lt_succ_of_le (words_len tlUnits s))
/-! ### what stands in a told length -/
theorem tlText_units (s : Nat) : (tlWords tlUnits s) = (if 86400 ≤ s then [TL.numL (s / 86400) ++ [100]] else []) ++ ((if 3600 ≤ s % 86400 then [TL.numL (s % 86400 / 3600) ++ [104]] else []) ++
    ((if 60 ≤ s % 3600 then [TL.numL (s % 3600 / 60) ++ [109]] else []) ++ (if 1 ≤ s % 60 then [TL.numL (s % 60) ++ [115]] else []))) := by
  unfold tlUnits
  simp only [tlWords]
  have m1 : s % 86400 % 3600 = s % 3600 := by omega
  have m2 : s % 3600 % 60 = s % 60 := by omega
  have step3 : ∀ t, (if 1 ≤ t then [TL.numL (t / 1) ++ [115]] else []) = (if 1 ≤ t then [TL.numL t ++ [115]] else []) := fun t => by rw [Nat.div_one]
  have f3 : ∀ t, t < 60 → (if 60 ≤ t then (TL.numL (t / 60) ++ [109]) :: (if 1 ≤ t % 60 then [TL.numL (t % 60 / 1) ++ [115]] else []) else (if 1 ≤ t then [TL.numL (t / 1) ++ [115]] else [])) = (if 60 ≤ t then [TL.numL (t / 60) ++ [109]] else []) ++ (if 1 ≤ t % 60 then [TL.numL (t % 60) ++ [115]] else []) := fun t ht => by
    rw [if_neg (show ¬ 60 ≤ t by omega), if_neg (show ¬ 60 ≤ t by omega), step3, show t % 60 = t by omega]
    rfl
  have g3 : ∀ t, (if 60 ≤ t then (TL.numL (t / 60) ++ [109]) :: (if 1 ≤ t % 60 then [TL.numL (t % 60 / 1) ++ [115]] else []) else (if 1 ≤ t then [TL.numL (t / 1) ++ [115]] else [])) = (if 60 ≤ t then [TL.numL (t / 60) ++ [109]] else []) ++ (if 1 ≤ t % 60 then [TL.numL (t % 60) ++ [115]] else []) := fun t => by
    by_cases h : 60 ≤ t
    · rw [if_pos h, if_pos h, step3]
      rfl
    · exact f3 t (by omega)
  have g2 : ∀ t, (if 3600 ≤ t then (TL.numL (t / 3600) ++ [104]) :: (if 60 ≤ t % 3600 then (TL.numL (t % 3600 / 60) ++ [109]) :: (if 1 ≤ t % 3600 % 60 then [TL.numL (t % 3600 % 60 / 1) ++ [115]] else []) else (if 1 ≤ t % 3600 then [TL.numL (t % 3600 / 1) ++ [115]] else []))
      else (if 60 ≤ t then (TL.numL (t / 60) ++ [109]) :: (if 1 ≤ t % 60 then [TL.numL (t % 60 / 1) ++ [115]] else []) else (if 1 ≤ t then [TL.numL (t / 1) ++ [115]] else []))) =
      (if 3600 ≤ t then [TL.numL (t / 3600) ++ [104]] else []) ++ ((if 60 ≤ t % 3600 then [TL.numL (t % 3600 / 60) ++ [109]] else []) ++ (if 1 ≤ t % 60 then [TL.numL (t % 60) ++ [115]] else [])) := fun t => by
    by_cases h : 3600 ≤ t
    · rw [if_pos h, if_pos h, g3 (t % 3600), show t % 3600 % 60 = t % 60 by omega]
      rfl
    · rw [if_neg h, if_neg h, g3 t, show t % 3600 = t by omega]
      rfl
  by_cases h : 86400 ≤ s
  · rw [if_pos h, if_pos h, g2 (s % 86400), m1, show s % 86400 % 60 = s % 60 by omega]
    rfl
  · rw [if_neg h, if_neg h, g2 s, show s % 86400 = s by omega]
    rfl
theorem numL_head {n : Nat} (h : 0 < n) : (TL.numL n).head? ≠ some 48 := by
  induction n using Nat.strongRecOn with
  | ind n ih =>
    by_cases q : n < 10
    · rw [TL.numL_lt q]
      intro e
      have e : 48 + n = 48 := Option.some.inj e
      omega
    · rw [TL.numL_step (by omega)]
      cases hz : TL.numL (n / 10) with
      | nil => exact absurd hz (TL.numL_ne _)
      | cons a r =>
        have g := ih (n / 10) (by omega) (by omega)
        rw [hz] at g
        exact g
theorem mem_opt {x c n : Nat} {p : Prop} [Decidable p] (hx : 57 < x) : x ∈ (if p then [TL.numL n ++ [c]] else []).flatten ↔ p ∧ x = c := by
  by_cases h : p
  · rw [if_pos h]
    have f : x ∉ TL.numL n := TL.numL_free (.inr hx)
    simp [f, h]
  · rw [if_neg h]
    simp [h]
theorem let_mem {x s : Nat} (hx : 57 < x) : x ∈ (tlWords tlUnits s).flatten ↔ (86400 ≤ s ∧ x = 100) ∨ (3600 ≤ s % 86400 ∧ x = 104) ∨ (60 ≤ s % 3600 ∧ x = 109) ∨ (1 ≤ s % 60 ∧ x = 115) := by
  rw [tlText_units, List.flatten_append, List.flatten_append, List.flatten_append, List.mem_append, List.mem_append, List.mem_append, mem_opt hx, mem_opt hx, mem_opt hx, mem_opt hx]
theorem d_in (s : Nat) : decide (100 ∈ tlText s) = decide (86400 ≤ s) := by
  unfold tlText
  by_cases h : s = 0
  · subst h
    decide
  · rw [if_neg h]
    refine decide_eq_decide.mpr ?_
    rw [let_mem (by decide)]
    omega
theorem s_in (s : Nat) : decide (115 ∈ tlText s) = (decide (0 < s % 60) || decide (s = 0)) := by
  unfold tlText
  by_cases h : s = 0
  · subst h
    decide
  · rw [if_neg h, decide_eq_false h, Bool.or_false]
    refine decide_eq_decide.mpr ?_
    rw [let_mem (by decide)]
    omega
def okSign (c : Nat) : Bool := isDig c || decide (c ∈ [100, 104, 109, 115])
theorem words_ok : ∀ (r : List (Nat × Nat)) (s : Nat), (∀ p ∈ r, okSign p.1 = true) → ∀ c ∈ (tlWords r s).flatten, okSign c = true
  | [], _, _, c, h => by cases h
  | (a, z) :: r, s, hp, c, h => by
    unfold tlWords at h
    split at h
    · rw [List.flatten_cons, List.mem_append, List.mem_append, List.mem_singleton] at h
      rcases h with (h | rfl) | h
      · unfold okSign
        rw [numL_dig _ c h]
        rfl
      · exact hp (c, z) List.mem_cons_self
      · exact words_ok r _ (fun p h => hp p (List.mem_cons_of_mem _ h)) c h
    · exact words_ok r s (fun p h => hp p (List.mem_cons_of_mem _ h)) c h
theorem text_ok (s : Nat) : ∀ c ∈ tlText s, okSign c = true := by
  unfold tlText
  split
  · decide
  · exact words_ok tlUnits s (by decide)
theorem words_head : ∀ (r : List (Nat × Nat)) (s : Nat), (∀ p ∈ r, 0 < p.2) → (tlWords r s).flatten.head? ≠ some 48
  | [], _, _ => by
    show ([] : List Nat).head? ≠ some 48
    decide
  | (a, z) :: r, s, hp => by
    have hz : 0 < z := hp (a, z) List.mem_cons_self
    unfold tlWords
    split
    · rename_i q
      rw [List.flatten_cons, List.append_assoc]
      have g := numL_head (n := s / z) (Nat.div_pos q hz)
      cases e : TL.numL (s / z) with
      | nil => exact absurd e (TL.numL_ne _)
      | cons b m =>
        rw [e] at g
        exact g
    · exact words_head r s fun p h => hp p (List.mem_cons_of_mem _ h)
theorem text_head {s : Nat} (h : 0 < s) : (tlText s).head? ≠ some 48 := by
  unfold tlText
  rw [if_neg (by omega)]
  exact words_head tlUnits s (by decide)
theorem text_days {s : Nat} (h : 86400 ≤ s) : ∃ more, tlText s = TL.numL (s / 86400) ++ ([100] ++ more) := by
  unfold tlText
  rw [if_neg (by omega), tlText_units, if_pos h]
  exact ⟨_, by rw [List.flatten_append, List.flatten_singleton, List.append_assoc]⟩
theorem words_short : ∀ (r : List (Nat × Nat)) (s : Nat), s < 1000000 → (tlWords r s).flatten.length ≤ 7 * r.length
  | [], _, _ => Nat.zero_le _
  | (a, z) :: r, s, h => by
    unfold tlWords
    split
    · have g := words_short r (s % z) (Nat.lt_of_le_of_lt (Nat.mod_le _ _) h)
      have l := TL.numL_len (n := s / z) (k := 6) (by decide) (by show s / z < 1000000; exact Nat.lt_of_le_of_lt (Nat.div_le_self _ _) h)
      have er : ((a, z) :: r).length = r.length + 1 := rfl
      have e1 : ([a] : List Nat).length = 1 := rfl
      rw [List.flatten_cons, List.length_append, List.length_append, er, e1]
      omega
    · have g := words_short r s h
      have er : ((a, z) :: r).length = r.length + 1 := rfl
      omega
theorem text_short {s : Nat} (h : s < 1000000) : (tlText s).length ≤ 28 := by
  unfold tlText
  split
  · decide
  · exact words_short tlUnits s h
end Rw
namespace Rw
open PySem PySem.Spec PyProof.Rows L2 Evl SX
/-! ### texts and new lists, evaluated -/
section
variable {K : PySem.W.Frag} {σ : L2.St} {H : Hp} {to te ta tb : TE} {a b z : Str} {xs ys : List V}
theorem ev_m1 {r : V → List V → Hp → VK → Prop} {x y v : V} (ho : Ev to σ H (.str a)) (he : Ev te σ H y) (hr : ∀ H1 (Q : VK), Q v H1 → r (.str a) [y] H1 Q) : Ev (tM1 r to te) σ H v := fun H1 e Q q =>
  ho H1 e _ fun H2 e2 => ⟨⟨a, rfl⟩, he H2 (e.trans e2) _ fun H3 e3 => hr H3 Q (q H3 (e2.trans e3))⟩
theorem ev_lstrip (ho : Ev to σ H (.str a)) (he : Ev te σ H (.str b)) (hz : a.length ≤ 100000) : Ev (tM1 (fun x xs H Q => ∃ a b, x = .str a ∧ xs = [.str b] ∧ a.length ≤ sizeLine ∧ Q (.str (Txt.lstripChars a b)) H) to te) σ H (.str (Txt.lstripChars a b)) :=
  ev_m1 (x := .str a) ho he fun H1 Q q => ⟨a, b, rfl, rfl, sz_of hz, q⟩
theorem ev_strip (ho : Ev to σ H (.str a)) (he : Ev te σ H (.str b)) (hz : a.length ≤ 100000) : Ev (tM1 (fun x xs H Q => ∃ a b, x = .str a ∧ xs = [.str b] ∧ a.length ≤ sizeLine ∧ Q (.str (Txt.stripChars a b)) H) to te) σ H (.str (Txt.stripChars a b)) :=
  ev_m1 (x := .str a) ho he fun H1 Q q => ⟨a, b, rfl, rfl, sz_of hz, q⟩
theorem ev_find (ho : Ev to σ H (.str a)) (he : Ev te σ H (.str b)) : Ev (tM1 (fun x xs H Q => ∃ a b, x = .str a ∧ xs = [.str b] ∧ Q (.int (Txt.find a b)) H) to te) σ H (.int (Txt.find a b)) :=
  ev_m1 (x := .str a) ho he fun H1 Q q => ⟨a, b, rfl, rfl, q⟩
theorem ev_lenS (h : Ev ta σ H (.str z)) (hz : z.length ≤ 100000) : Ev (tCB (fun xs H Q => ∃ z, xs = [.str z] ∧ z.length ≤ sizeLine ∧ Q (.int z.length) H) (tCons ta tNil)) σ H (.int (z.length : Nat)) := fun H1 e Q q =>
  h H1 e _ fun H2 e2 => ⟨z, rfl, sz_of hz, q H2 e2⟩
theorem ev_lenL {p : Addr} (h : Ev ta σ H (.ref p)) (hs : SqL K H p xs) : Ev (tCB (fun xs H Q => ∃ p ys, xs = [.ref p] ∧ (SqL K H p ys ∨ SqT K H p ys) ∧ Q (.int ys.length) H) (tCons ta tNil)) σ H (.int (xs.length : Nat)) := fun H1 e Q q =>
  h H1 e _ fun H2 e2 => ⟨p, xs, rfl, .inl (ex_l (e.trans e2) hs), q H2 e2⟩
theorem ev_slS {tl th : TO} {lo hi : Option Int} (h : Ev te σ H (.str z)) (h1 : EvO tl σ H lo) (h2 : EvO th σ H hi) (hz : z.length ≤ 100000) : Ev (tSl rSlS te tl th) σ H (.str (cutS z lo hi)) := fun H1 e Q q =>
  h H1 e _ fun H2 e2 => h1 H2 (e.trans e2) _ fun H3 e3 => h2 H3 ((e.trans e2).trans e3) _ fun H4 e4 => ⟨z, rfl, sz_of hz, q H4 ((e2.trans e3).trans e4)⟩
theorem ev_intS {n : Int} (h : Ev ta σ H (.str z)) (hn : intText? z = some n) (hz : z.length ≤ 640) : Ev (tCB (fun xs H Q => ∃ a n, xs = [.str a] ∧ PySem.intText? a = some n ∧ a.length ≤ 640 ∧ Q (.int n) H) (tCons ta tNil)) σ H (.int n) := fun H1 e Q q =>
  h H1 e _ fun H2 e2 => ⟨z, n, rfl, hn, hz, q H2 e2⟩
theorem ev_strI {n : Int} (h : Ev ta σ H (.int n)) (hn : n.natAbs.log2 < 1920) : Ev (tCB (fun xs H Q => ∃ i, xs = [.int i] ∧ i.natAbs.log2 < 1920 ∧ Q (.str (toString i)) H) (tCons ta tNil)) σ H (.str (toString n)) := fun H1 e Q q =>
  h H1 e _ fun H2 e2 => ⟨n, rfl, hn, q H2 e2⟩
theorem ev_anyN {bs : List Bool} (h : EvL te σ H (bs.map V.bl)) : Ev (tCB (rAny K) (tCons te tNil)) σ H (.bl (bs.any id)) := fun H1 e Q q =>
  h H1 e _ fun p H2 _ e2 h2 => ⟨p, bs, rfl, sq_of h2, q H2 e2⟩
theorem el_cat (ha : EvL ta σ H xs) (hb : EvL tb σ H ys) (hz : xs.length + ys.length ≤ 100000) : EvL (tOp rCat ta tb) σ H (xs ++ ys) := fun H1 e Q q =>
  ha H1 e _ fun p H2 hp e2 h2 => hb H2 (e.trans e2) _ fun p2 H3 hp2 e3 h3 => ⟨p, p2, xs, ys, rfl, rfl, e3 p _ h2, h3, sz_of hz, fun l hl => q l _ (fresh_back (e2.trans e3) hl) ((e2.trans e3).trans (Ex.new hl)) upd_same⟩
theorem el_split (ho : Ev to σ H (.str a)) (he : Ev te σ H (.str b)) (hb : (b.length == 0) = false) (hz : a.length ≤ 90000) :
    EvL (tM1 (fun x xs H Q => ∃ a b, x = .str a ∧ xs = [.str b] ∧ (b.length == 0) = false ∧ a.length + 2 ≤ sizeLine ∧ rNewStrs (Txt.split a b) H Q) to te) σ H ((Txt.split a b).map V.str) := fun H1 e Q q =>
  ho H1 e _ fun H2 e2 => ⟨⟨a, rfl⟩, he H2 (e.trans e2) _ fun H3 e3 => ⟨a, b, rfl, rfl, hb, sz_of (by omega), fun p hp => q p _ (fresh_back (e2.trans e3) hp) ((e2.trans e3).trans (Ex.new hp)) upd_same⟩⟩
theorem et_val {b : Bool} (h : Ev te σ H (.bl b)) : EvT (tB te) σ H b := et_B h
end
/-! ### words of figures -/
theorem tw_last {p : Nat → Bool} {x : Nat} (hx : p x = false) : ∀ a : List Nat, ((a ++ [x]).takeWhile p).length ≤ a.length
  | [] => by
    rw [List.nil_append, List.takeWhile_cons, hx]
    exact Nat.le_refl _
  | b :: a => by
    rw [List.cons_append, List.takeWhile_cons]
    split
    · have h := tw_last hx a
      rw [List.length_cons, List.length_cons]
      omega
    · exact Nat.zero_le _
theorem strip_S (l : List Nat) : (Txt.stripChars (S l) "0123456789" = "") ↔ l.all isDig = true := by
  have he : ("" : Str) = S [] := by decide +kernel
  rw [he]
  unfold Txt.stripChars
  rw [PyProof.Rows.stripBy_eq, show (("0123456789" : Str)).cps.contains = isDig from funext figs_has]
  unfold stripLo stripHi
  rw [if_pos rfl, if_pos rfl, extract_S]
  show S ((l.drop (l.takeWhile isDig).length).take ((S l).length - ((l.drop (l.takeWhile isDig).length).reverse.takeWhile isDig).length - (l.takeWhile isDig).length)) = S [] ↔ _
  rw [S_len, drop_takeWhile]
  have e := congrArg List.length (List.takeWhile_append_dropWhile (p := isDig) (l := l))
  rw [List.length_append] at e
  cases hd : l.dropWhile isDig with
  | nil =>
    rw [List.take_nil]
    refine ⟨fun _ => ?_, fun _ => rfl⟩
    have t := List.takeWhile_append_dropWhile (p := isDig) (l := l)
    rw [hd, List.append_nil] at t
    rw [← t]
    exact List.all_takeWhile
  | cons x r =>
    have hx : isDig x = false := by
      have q := List.head_dropWhile_not (p := isDig) (l := l) (by rw [hd]; exact List.cons_ne_nil _ _)
      simpa [hd] using q
    have lt := tw_last (p := isDig) hx r.reverse
    rw [List.length_reverse] at lt
    rw [hd, List.length_cons] at e
    rw [List.reverse_cons]
    refine ⟨fun q => ?_, fun q => ?_⟩
    · exfalso
      obtain ⟨m, hm⟩ : ∃ m, l.length - ((r.reverse ++ [x]).takeWhile isDig).length - (l.takeWhile isDig).length = m + 1 := ⟨l.length - ((r.reverse ++ [x]).takeWhile isDig).length - (l.takeWhile isDig).length - 1, by omega⟩
      rw [hm, List.take_succ_cons] at q
      exact List.cons_ne_nil _ _ (S_inj q)
    · exfalso
      have hm : x ∈ l := by
        rw [← List.takeWhile_append_dropWhile (p := isDig) (l := l), hd]
        exact List.mem_append_right _ List.mem_cons_self
      have z := List.all_eq_true.mp q x hm
      rw [hx] at z
      cases z
/-- return f(..): what f gives -/
theorem s_retF {c : Nat → Addr} {f : List V → Option Rs} {σ : L2.St} {H : Hp} {vs dvs : List V} {ta : TA} {E : XK} {Q : VK} {D : Ends} {r : Rs} (h : EvA ta σ H vs) (hf : f (vs ++ dvs) = some r) (o : Out c H Q E r) (hD : D.rt = Q) : tRet (tCall (spF c f) dvs E ta) D σ H := by
  subst hD
  exact h H (Ex.refl H) _ fun H2 e2 => ⟨r, hf, o.mono e2⟩
theorem at_map {ns : List Int} {i : Nat} (h : i < ns.length) : atI (ns.map V.int) (i : Int) = some (.int (ns.getD i 0)) :=
  atI_nat (by rw [List.getElem?_map, List.getElem?_eq_getElem h, List.getD_eq_getElem?_getD, List.getElem?_eq_getElem h]; rfl)
end Rw
namespace Rw
open PySem PySem.Spec PyProof.Rows L2
/-- a text's signs beside a tuple's items: new pairs -/
def ItST (K : PySem.W.Frag) (z : Str) (b : Addr) : It where
  go := fun i H => ∃ (c : Nat) (ys : List V) (y : V), z.cps[i]? = some c ∧ SqT K H b ys ∧ ys[i]? = some y
  yld := fun i H v H' => ∃ (T : Addr) (c : Nat) (y : V), v = .ref T ∧ H T = none ∧ H' = upd H T (.tup [.str ⟨#[c]⟩, y]) ∧ z.cps[i]? = some c ∧ ∀ ys, SqT K H b ys → ys[i]? = some y
  stop := fun i H => ∃ ys : List V, SqT K H b ys ∧ i ≤ z.cps.size ∧ i ≤ ys.length ∧ (i = z.cps.size ∨ i = ys.length)
/-- where such a zip stands: its five cells -/
structure StST (z : Str) (tz : Tok) (b a0 a1 a2 a3 a4 : Addr) (i : Nat) (h : Heap) : Prop where
  zip : IsZip h a0 a1 a2 .none
  two : IsTupOf2 h a1 (.ref a3) (.ref a4)
  res : ∃ u v, IsTupOf2 h a2 u v
  txt : h.IsStrIter a3 (strIterType z) z tz i
  tup : h.IsTupleIter a4 b i
theorem ne_next {b N : Nat} (h : b < N) : b ≠ N + 1 := by omega
theorem iter_at {h h' : Heap} {a : Addr} {T : String} {z : Str} {t : Tok} {i : Nat} (x : h.IsStrIter a T z t i) (k : ∀ o, h.get? a = some o → h'.get? a = some o) : h'.IsStrIter a T z t i := by
  obtain ⟨o, e, c, d⟩ := x
  exact ⟨o, k o e, c, d⟩
theorem five_of {a0 a1 a2 a3 a4 x : Addr} (h : x ∈ [a0, a1, a2, a3, a4]) : x = a0 ∨ x = a1 ∨ x = a2 ∨ x = a3 ∨ x = a4 := by simpa using h
theorem StST.cells {z : Str} {tz : Tok} {b a0 a1 a2 a3 a4 : Addr} {i : Nat} {h : Heap} (S : StST z tz b a0 a1 a2 a3 a4 i h) : ∀ x ∈ [a0, a1, a2, a3, a4], ∃ o, h.get? x = some o ∧ ∀ v, o.data ≠ .cell v := fun x hx => by
  obtain ⟨u, v, r⟩ := S.res
  obtain ⟨o3, e3, _, d3⟩ := S.txt
  obtain ⟨o4, e4, _, d4⟩ := S.tup
  rcases five_of hx with rfl | rfl | rfl | rfl | rfl
  · exact ⟨_, S.zip, fun v q => by cases q⟩
  · exact ⟨_, S.two, fun v q => by cases q⟩
  · exact ⟨_, r, fun v q => by cases q⟩
  · exact ⟨o3, e3, fun v q => by rw [d3] at q; cases q⟩
  · exact ⟨o4, e4, fun v q => by rw [d4] at q; cases q⟩
theorem turn_st {P : Program} {w : World} {K : PySem.W.Frag} {elts : List Expr} {kk : Nat} {tp : Pos} {z : Str} {tz : Tok} {b N : Addr} (hb : b < N) :
    Turn P w K (.Tuple elts kk tp) (ItST K z b) [N + 4, N + 2, N + 3, N, N + 1] (N + 4) (StST z tz b (N + 4) (N + 2) (N + 3) N (N + 1)) where
  mem := List.mem_cons_self ..
  obj := fun i h S => S.cells
  keep := fun i h h' S k => by
    obtain ⟨u, v, r⟩ := S.res
    exact ⟨k _ (by simp) _ S.zip, k _ (by simp) _ S.two, ⟨u, v, k _ (by simp) _ r⟩, iter_at S.txt fun o e => k _ (by simp) o e, S.tup.at fun o e => k _ (by simp) o e⟩
  item := by
    rintro X rfl rfl rfl hc i pins s σ H E I hf S ⟨c, ys, y, hz, hy, hi⟩
    have apart := zip_sep2 (N := N) (fp1 := []) (fp2 := [b]) (fun x hx => by simp at hx) (fun x hx => by simp at hx; rw [hx]; exact hb)
    obtain ⟨us, rv, tupb, _⟩ := I.tuple hy
    obtain ⟨uy, huy, ry⟩ := rv.get hi
    obtain ⟨u, v, r⟩ := S.res
    have nb : b ≠ N + 1 := ne_next hb
    have h1 : i < z.cps.size := by
      cases Nat.lt_or_ge i z.cps.size with
      | inl q => exact q
      | inr q =>
        rw [Array.getElem?_eq_none q] at hz
        cases hz
    have h2 : i < us.toArray.size := by
      have q := (List.getElem?_eq_some_iff.mp huy).1
      simpa using q
    refine wpAny_pyNext_zipD2_item apart (Draws.text (by rw [show X.A.in1.handled = X.A.handled from rfl]; exact I.ok.hd hc) N z tz) (Draws.tuple (by rw [show X.A.in1.handled = X.A.handled from rfl]; exact I.ok.hd hc) (N + 1) b nb us.toArray) S.zip S.two r S.txt ⟨S.tup, tupb⟩ h1 h2 fun x1 x2 h' tk y1 y2 b1 b2 d1 d2 b5 b6 kp => ?_
    obtain ⟨c', tc, hc', rfl⟩ := y1
    rw [hz] at hc'
    obtain rfl : c = c' := Option.some.inj hc'
    have ex2 : uy = x2 := Option.some.inj (huy.symm.trans (by simpa using y2))
    subst ex2
    have kp5 : ∀ x o, x ∉ [N + 4, N + 2, N + 3, N, N + 1] → s.heap.get? x = some o → h'.get? x = some o := fun x o nx e => kp x o (fun q => nx (by simp [q])) (fun q => nx (by simp [q])) (fun q => nx (by simp [q])) (fun q => nx (by simp [q])) e
    have lt4 : N + 4 < s.heap.objs.size := Heap.lt_size S.zip
    refine ⟨_, rfl, wpAny_letOwnedTupleGo_zip (s := { s with heap := h', toks := tk }) b1 fun h2' z2 sb => ?_⟩
    have pr : h2'.get? s.heap.objs.size = some { cls := .type "tuple", data := .seq #[.str ⟨#[c]⟩ tc, uy] } := (sb.2 _ (Nat.ne_of_gt lt4)).trans b5
    have new : ObjOk X.prog X.w (upd H s.heap.objs.size (.tup [.str ⟨#[c]⟩, y])) h2' s.heap.objs.size (.tup [.str ⟨#[c]⟩, y]) :=
      ⟨by show 2 ≤ sizeLine; decide, [.str ⟨#[c]⟩ tc, uy], .cons ⟨tc, rfl⟩ (.cons ry .nil), ⟨_, pr, rfl, _, rfl⟩⟩
    have J := I.turnedNew (t' := tk) (ch := [N + 4, N + 2, N + 3, N, N + 1]) (h' := h2') (fun x o nx e => (sb.2 x (fun q => nx (by simp [q]))).trans (kp5 x o nx e)) hf (Nat.le_refl _) new
    refine ⟨.ref s.heap.objs.size, _, J, rfl, ⟨_, c, y, rfl, I.hok.fresh (Nat.le_refl _), rfl, hz, fun l hl => by rw [I.tuple_inj hl hy]; exact hi⟩, ⟨z2, ?_, ⟨.str ⟨#[c]⟩ tc, uy, ?_⟩, ?_, ?_⟩, fun x hx => ?_⟩
    · exact (sb.2 _ apart.TIz).trans (kp _ _ apart.TIz apart.TITO apart.TIi1 apart.TIi2 S.two)
    · exact (sb.2 _ apart.TOz).trans b2
    · exact iter_at d1 fun o e => (sb.2 _ apart.zi1.symm).trans e
    · exact d2.1.at fun o e => (sb.2 _ apart.zi2.symm).trans e
    · obtain ⟨o, eo, _⟩ := S.cells x hx
      rw [upd_ne (Nat.ne_of_lt (Heap.lt_size eo))]
      exact (hf x hx).1
  done := by
    rintro X rfl rfl rfl hc i pins s σ H E I hf S ⟨ys, hy, l1, l2, hend⟩
    have apart := zip_sep2 (N := N) (fp1 := []) (fp2 := [b]) (fun x hx => by simp at hx) (fun x hx => by simp at hx; rw [hx]; exact hb)
    obtain ⟨us, rv, tupb, _⟩ := I.tuple hy
    obtain ⟨u, v, r⟩ := S.res
    have nb : b ≠ N + 1 := ne_next hb
    have el : us.toArray.size = ys.length := by rw [List.size_toArray, rv.length]
    refine wpAny_pyNext_zipD2_end apart (Draws.text (by rw [show X.A.in1.handled = X.A.handled from rfl]; exact I.ok.hd hc) N z tz) (Draws.tuple (by rw [show X.A.in1.handled = X.A.handled from rfl]; exact I.ok.hd hc) (N + 1) b nb us.toArray) S.zip S.two r S.txt ⟨S.tup, tupb⟩ l1 (by rw [el]; exact l2) (by rw [el]; exact hend) fun h' tk kp => ⟨rfl, ?_⟩
    exact I.turnedL (t' := tk) (ch := [N + 4, N + 2, N + 3, N, N + 1]) (fun x o nx e => kp x o (fun q => nx (by simp [q])) (fun q => nx (by simp [q])) (fun q => nx (by simp [q])) (fun q => nx (by simp [q])) e) hf
  self := fun A i s Q E S q => wpAny_pyIter_zip S.zip q
/-- zip(text, tuple) -/
def iZipST (K : PySem.W.Frag) (ta : TA) : TI := fun σ H R => ta σ H fun vs H1 => ∃ (z : Str) (b : Addr) (ys : List V), vs = [.str z, .ref b] ∧ SqT K H1 b ys ∧ R (ItST K z b) H1
theorem pi_zipST {X : Cx} {e e2 : Expr} {ta : TA} {p pos tp : Pos} {elts : List Expr} {kk : Nat} (hm : X.mg "zip" = none) (ha : PA X [e, e2] ta) (hg : Gl X "zip" := by rfl)
    (stars : starEach [e, e2] X.env = (false, eval e X.env) :: starEach [e2] X.env := by rfl) (plain : (backTo pos (starEach [e2] X.env)).any (·.1) = false := by rfl) :
    PI X (.Tuple elts kk tp) (.Call (.Name "zip" p) [e, e2] [] pos) (iZipST X.K ta) := by
  constructor
  intro pins s σ H R I h
  refine Call_ (ld_blt I hg hm PyProof.Rows.boot_zip (PyProof.Rows.callWith_type1 (thn (ha.run pos pins s σ H _ I h) ?_) stars plain))
  rintro us s1 ⟨vs, H1, J, r, z, b, ys, rfl, hy, q⟩
  match us, r with
  | [u1, u2], .cons r1 (.cons r2 .nil) =>
    obtain ⟨tz, rfl⟩ := r1
    obtain rfl : u2 = Value.ref b := r2
    obtain ⟨its, rv, tupb, _⟩ := J.tuple hy
    have hb : b < s1.heap.objs.size := by
      obtain ⟨o, e, _⟩ := id tupb
      exact Heap.lt_size e
    refine zip_begins2 (begins_text z tz) (begins_tuple b its.toArray) trivial tupb fun h' g0 g1 g2 g3 g4 _ kp => wpAny_pyIter_zip g0 ?_
    refine ⟨s1.heap.objs.size + 4, _, _, _, H1, rfl, J.kept (t' := s1.toks) kp, turn_st (tz := tz) hb, ⟨g0, g1, ⟨_, _, g2⟩, ⟨_, g3, rfl, rfl⟩, ⟨_, g4, rfl, rfl⟩⟩, fun x hx => ?_, q⟩
    have le : s1.heap.objs.size ≤ x := by
      rcases five_of hx with q | q | q | q | q
      · rw [q]; exact Nat.le_add_right ..
      · rw [q]; exact Nat.le_add_right ..
      · rw [q]; exact Nat.le_add_right ..
      · rw [q]; exact Nat.le_refl _
      · rw [q]; exact Nat.le_add_right ..
    exact J.fpOk le (J.hok.fresh le)
/-- a loop over such a zip, of as many signs as items -/
theorem for_zipST {K : PySem.W.Frag} {z : Str} {b : Addr} {ys : List V} {g : TG} {tb : TS} {D : Ends} {σ : L2.St} {H : Hp} (hl : z.cps.size = ys.length) (Pv : Nat → L2.St → Hp → Prop) (h0 : Pv 0 σ H) (hq : ∀ i σ H, Pv i σ H → SqT K H b ys)
    (hs : ∀ (i : Nat) (c : Nat) (y : V) (T : Addr) (σ : L2.St) (H : Hp), z.cps[i]? = some c → ys[i]? = some y → Pv i σ H → H T = none → g (.ref T) σ (upd H T (.tup [.str ⟨#[c]⟩, y])) fun σ2 H2 => tb { D with nx := Pv (i + 1), ct := Pv (i + 1), bk := D.nx } σ2 H2) (hd : ∀ σ H, Pv ys.length σ H → D.nx σ H) :
    ∃ Wd : Nat → Nat → L2.St → Hp → Prop, (∃ m, Wd 0 m σ H) ∧ ∀ i m σ H, Wd i m σ H →
      ((ItST K z b).stop i H ∧ D.nx σ H) ∨ ((ItST K z b).go i H ∧ ∃ N : L2.St → Hp → Prop, (∀ σ' H', N σ' H' → ∃ m', m' < m ∧ Wd (i + 1) m' σ' H') ∧ ∀ v H', (ItST K z b).yld i H v H' → g v σ H' fun σ2 H2 => tb { D with nx := N, ct := N, bk := D.nx } σ2 H2) := by
  refine ⟨fun i m σ H => m + i = ys.length ∧ Pv i σ H, ⟨ys.length, rfl, h0⟩, ?_⟩
  rintro i m σ H ⟨em, p⟩
  have q := hq i σ H p
  cases m with
  | zero =>
    have e : i = ys.length := by omega
    subst e
    exact .inl ⟨⟨ys, q, by omega, Nat.le_refl _, .inr rfl⟩, hd σ H p⟩
  | succ m =>
    have lt : i < ys.length := by omega
    have ltz : i < z.cps.size := by omega
    refine .inr ⟨⟨z.cps[i], ys, ys[i], Array.getElem?_eq_getElem ltz, q, List.getElem?_eq_getElem lt⟩, Pv (i + 1), fun σ' H' p' => ⟨m, Nat.lt_succ_self m, by omega, p'⟩, ?_⟩
    rintro v H' ⟨T, c, y, rfl, hT, rfl, hc, hy⟩
    exact hs i c y T σ H hc (hy ys q) p hT
end Rw
namespace Rw
open PySem PySem.Spec PyProof.Rows L2 Evl SX
section
variable {K : PySem.W.Frag} {σ : L2.St} {H : Hp} {t1 t2 te tl : TE} {ta : TA} {D : Ends} {tu tz : TS}
theorem empty_cat (y : Str) : Str.empty ++ y = y := by
  have e : Str.empty = S [] := by decide +kernel
  rw [e, ← S_tl y, S_cat, List.nil_append]
/-- f'{n}{y}' -/
theorem ev_js2 {n : Int} {y : Str} (h1 : Ev t1 σ H (.int n)) (h2 : Ev t2 σ H (.str y)) (hn : n.natAbs.log2 < 1920) (hy : y.length ≤ 1000) (hz : (Str.ofString (toString n)).length ≤ 1000) :
    Ev (fun σ H Q => tJs [tFmt t1, tFmt t2] Str.empty σ H fun out H1 => Q (.str out) H1) σ H (.str (Str.ofString (toString n) ++ y)) := fun H1 e Q q =>
  h1 H1 e _ fun H2 e2 => .inr ⟨n, rfl, hn, _, rfl, by rw [empty_cat]; exact sz_of (Nat.le_trans hz (by decide)), h2 H2 (e.trans e2) _ fun H3 e3 => .inl ⟨y, rfl, sz_of (Nat.le_trans hy (by decide)), _, rfl, by
    rw [empty_cat, ← S_tl (Str.ofString (toString n)), ← S_tl y, S_cat, S_len, List.length_append, ← S_len, ← S_len, S_tl, S_tl]
    exact sz_of (by omega), by
    rw [empty_cat]
    exact q H3 (e2.trans e3)⟩⟩
/-- a loop over zip(text, tuple), the names at i and j -/
theorem q_forZ {z : Str} {b : Addr} {ys : List V} {i j : Nat} (h : EvA ta σ H [.str z, .ref b]) (hy : SqT K H b ys) (hl : z.cps.size = ys.length) (Pv : Nat → L2.St → Hp → Prop) (h0 : ∀ H1, Ex H H1 → Pv 0 σ H1)
    (hq : ∀ n σ' H', Pv n σ' H' → SqT K H' b ys)
    (hs : ∀ (n : Nat) (c : Nat) (y : V) (T : Addr) σ' H', z.cps[n]? = some c → ys[n]? = some y → Pv n σ' H' → H' T = none → tu { D with nx := Pv (n + 1), ct := Pv (n + 1), bk := tz D } ((σ'.set i (some (.str ⟨#[c]⟩))).set j (some y)) (upd H' T (.tup [.str ⟨#[c]⟩, y])))
    (hd : ∀ σ' H', Pv ys.length σ' H' → tz D σ' H') : tSeq (tFor (iZipST K ta) (gTup K 2 (gCons (gName i) (gCons (gName j) gNil))) tu) tz D σ H :=
  h H (Ex.refl H) _ fun H1 e => ⟨z, b, ys, rfl, ex_t e hy, for_zipST hl Pv (h0 H1 e) hq (fun n c y T σ' H' hc hy' hp hT =>
    ⟨T, _, rfl, SqT.of upd_same, rfl, _, _, rfl, _, _, rfl, rfl, hs n c y T σ' H' hc hy' hp hT⟩) hd⟩
/-- sep.join(list) -/
theorem ev_joinL {to : TE} {a : Str} {zs : List Str} {l : Addr} (ho : Ev to σ H (.str a)) (he : Ev te σ H (.ref l)) (hl : SqL K H l (zs.map V.str)) (hz : (zs.map (·.length)).sum + zs.length * a.length ≤ 16777216) :
    Ev (tM1 (fun x xs H Q => ∃ a p, ∃ ys : List Str, x = .str a ∧ xs = [.ref p] ∧ (SqL K H p (ys.map V.str) ∨ SqT K H p (ys.map V.str)) ∧ (ys.map (·.length)).sum + ys.length * a.length ≤ 16777216 ∧ Q (.str (Txt.join a ys)) H) to te) σ H (.str (Txt.join a zs)) := fun H1 e Q q =>
  ho H1 e _ fun H2 e2 => ⟨⟨a, rfl⟩, he H2 (e.trans e2) _ fun H3 e3 => ⟨a, l, zs, rfl, rfl, .inl (ex_l ((e.trans e2).trans e3) hl), hz, q H3 (e2.trans e3)⟩⟩
theorem s_joinL_flat (l : List (List Nat)) : TL.joinL [] l = l.flatten := by
  induction l with
  | nil => rfl
  | cons a r ih =>
    cases r with
    | nil => simp [TL.joinL]
    | cons b r =>
      simp only [TL.joinL, List.flatten_cons] at ih ⊢
      rw [ih]
      simp
end
end Rw
namespace Rw
open PySem PySem.Spec PyProof.Rows L2 Evl SX
section
variable {K : PySem.W.Frag} {σ : L2.St} {H : Hp} {te tl ta tb : TE} {t : TT} {j : Nat} {vs : List Nat} {xs ys : List V}
/-- all items of a list display, each made another -/
theorem el_mapNL (h : EvL tl σ H xs) (hz : xs.length ≤ 40000) (hw : ∀ x, wipe ((wipe σ vs).set j (some x)) vs = wipe σ vs) (hl : xs.length = ys.length)
    (he : ∀ (i : Nat) (x y : V) H1, Ex H H1 → xs[i]? = some x → ys[i]? = some y → Ev te ((wipe σ vs).set j (some x)) H1 y) :
    EvL (tLc (iList K tl) (gName j) tYes te vs) σ H ys := by
  have g := el_lcNL (K := K) (t := tYes) (te := te) (fun _ => true) (fun i => ys.getD i .non) h hz hw (fun _ _ _ _ _ => et_yes) fun i x H1 e hx _ => by
    have hi : i < ys.length := by
      have q := (List.getElem?_eq_some_iff.mp hx).1
      omega
    have ey : ys.getD i .non = ys[i] := by rw [List.getD_eq_getElem?_getD, List.getElem?_eq_getElem hi]; rfl
    rw [ey]
    exact he i x _ H1 e hx (List.getElem?_eq_getElem hi)
  rw [given_map hl fun i y hy => by rw [List.getD_eq_getElem?_getD, hy]; rfl] at g
  exact g
/-- a comprehension over the signs of a text -/
theorem el_lcStr {z : Str} (f : Nat → Bool) (v : Nat → V) (h : Ev tl σ H (.str z)) (hz : z.cps.size ≤ 40000) (hw : ∀ x, wipe ((wipe σ vs).set j (some x)) vs = wipe σ vs)
    (ht : ∀ (i c : Nat) H1, Ex H H1 → z.cps[i]? = some c → EvT t ((wipe σ vs).set j (some (.str ⟨#[c]⟩))) H1 (f i)) (he : ∀ (i c : Nat) H1, Ex H H1 → z.cps[i]? = some c → f i = true → Ev te ((wipe σ vs).set j (some (.str ⟨#[c]⟩))) H1 (v i)) :
    EvL (tLc (iStr tl) (gName j) t te vs) σ H (given z.cps.size f v) := fun H0 e Q q => h H0 e _ fun H1 e1 => ⟨z, rfl, fun Dl hD =>
  lc_it walk_str (Cw H1 f v Dl) ⟨hD, Ex.new hD, upd_same⟩ (fun _ _ _ _ => trivial) (fun i x Ha Hb hi p y => by
    obtain ⟨rfl, c, hc, rfl⟩ := y
    exact ⟨hw _, cw_turn p (by omega) (ht i c H1 (e.trans e1) hc) (fun hf => he i c H1 (e.trans e1) hc hf)⟩)
    (fun Hz pz => q Dl Hz (fresh_back e1 pz.1) (e1.trans pz.2.1) pz.2.2)⟩
theorem given_none {n : Nat} {v : Nat → V} : given n (fun _ => false) v = [] := by
  unfold given
  rw [List.filter_eq_nil_iff.mpr (fun a _ => by decide)]
  rfl
/-- two new lists of no items -/
theorem ev_noneNe (ha : EvL ta σ H []) : Ev (tOp (rNeD K) ta (tLst tNil)) σ H (.bl false) :=
  ev_opLL ha (el_lst ea_nil (by decide)) fun p q H1 h1 h2 e => fun H2 e2 Q k => ⟨.list [], .list [], .lst (SqL.of (e2 _ _ h1)) .nil, .lst (SqL.of (e2 _ _ h2)) .nil, rfl, rfl, k H2 (Ex.refl H2)⟩
theorem ev_noneEq (ha : EvL ta σ H []) : Ev (tOp (rEqD K) ta (tLst tNil)) σ H (.bl true) :=
  ev_opLL ha (el_lst ea_nil (by decide)) fun p q H1 h1 h2 e => fun H2 e2 Q k => ⟨.list [], .list [], .lst (SqL.of (e2 _ _ h1)) .nil, .lst (SqL.of (e2 _ _ h2)) .nil, rfl, rfl, k H2 (Ex.refl H2)⟩
theorem eqv_three (a b d : Int) : PyData.eqv (.tuple [.int a, .int b, .int d]) (.tuple [.int a, .int b, .int d]) = true := by
  simp [PyData.eqv, PyData.eqvAll]
/-- two new tuples of the same three ints -/
theorem ev_tupNe {a b d : Int} (ha : EvU ta σ H [.int a, .int b, .int d]) (hb : EvU tb σ H [.int a, .int b, .int d]) : Ev (tOp (rNeD K) ta tb) σ H (.bl false) :=
  ev_opUU ha hb fun p q H1 h1 h2 e => fun H2 e2 Q k => ⟨.tuple [.int a, .int b, .int d], .tuple [.int a, .int b, .int d], .tup (SqT.of (e2 _ _ h1)) (.cons (.int a) (.cons (.int b) (.cons (.int d) .nil))), .tup (SqT.of (e2 _ _ h2)) (.cons (.int a) (.cons (.int b) (.cons (.int d) .nil))), rfl, rfl, by rw [eqv_three]; exact k H2 (Ex.refl H2)⟩
end
end Rw
namespace Rw
open PySem PySem.Spec PyProof.Rows L2 Evl
local macro_rules | `(tactic| walk_at "sq") => `(tactic| first | assumption | exact SqL.of (by assumption) | exact SqT.of (by assumption))
local macro_rules | `(tactic| walk_at "at") => `(tactic| first | exact atI_nat (j := 0) rfl | exact atI_nat (j := 1) rfl | exact atI_nat (j := 2) rfl | exact atI_nat (j := 3) rfl)
local macro_rules | `(tactic| walk_at "rv") => `(tactic| first
  | with_reducible exact rv_I0
  | ((with_reducible refine' rv_I ?k1); (case k1 => first | (show (0 : Int) < _; omega) | exact ⟨by omega, by omega⟩ | exact .inr ⟨by omega, by omega⟩ | exact .inl ⟨by omega, by omega⟩ | exact ⟨by decide, by decide, by decide⟩))
  | ((with_reducible refine' rv_eq ?k1); (case k1 => exact rfl))
  | ((with_reducible refine' rv_ne ?k1); (case k1 => exact rfl))
  | (refine' rv_ixL ?k1 ?k2; (case k1 => walk_at "sq"); (case k2 => walk_at "at"))
  | (refine' rv_ixT ?k1 ?k2; (case k1 => walk_at "sq"); (case k2 => walk_at "at")))
local macro_rules | `(tactic| walk_at "rc") => `(tactic| first | exact rc_int1 | exact rc_int1b | exact rc_abs)
local macro_rules | `(tactic| walk_at "ea") => `(tactic| first
  | with_reducible exact ea_nil
  | ((with_reducible refine' ea_cons ?k1 ?k2); (case k1 => walk_at "ev"); (case k2 => walk_at "ea")))
local macro_rules | `(tactic| walk_at "ev") => `(tactic| first
  | with_reducible exact ev_c
  | ((with_reducible refine' ev_var ?k1); (case k1 => exact rfl))
  | ((with_reducible refine' ev_op ?k1 ?k2 ?k3); (case k1 => walk_at "ev"); (case k2 => walk_at "ev"); (case k3 => walk_at "rv"))
  | ((with_reducible refine' et_chain ?k1 ?k2 ?k3 ?k4 ?k5); (case k1 => walk_at "ev"); (case k2 => walk_at "ev"); (case k3 => (intro _; walk_at "ev")); (case k4 => walk_at "rv"); (case k5 => (intro _; walk_at "rv")))
  | ((with_reducible refine' ev_cb ?k1 ?k2); (case k1 => walk_at "ea"); (case k2 => walk_at "rc")))
local macro_rules | `(tactic| walk_at "et") => `(tactic| first
  | ((with_reducible refine' et_test ?k1); (case k1 => walk_at "ev"))
  | ((with_reducible refine' et_B ?k1); (case k1 => walk_at "ev"))
  | ((with_reducible refine' et_and ?k1 ?k2); (case k1 => walk_at "et"); (case k2 => (intro _; walk_at "et")))
  | ((with_reducible refine' et_or ?k1 ?k2); (case k1 => walk_at "et"); (case k2 => (intro _; walk_at "et")))
  | ((with_reducible refine' et_not ?k1); (case k1 => walk_at "et")))
def topS (i : Nat) : Stmt := PySem.Challenge.pw_recurwright_k08_times_of_day_and_lengths.main.body.getD i (.Pass ⟨0, 0, 0, 0⟩)
abbrev sDice : Stmt := topS 28
abbrev sRoll : Stmt := topS 29
theorem scDice : FnScope ["cell"] ["cell"] (defScope sDice) := ⟨rfl, rfl, rfl, by decide +kernel, rfl, by decide +kernel, by decide +kernel⟩
theorem scRoll : FnScope ["dice", "many", "found"] ["dice", "many"] (defScope sRoll) := ⟨rfl, rfl, rfl, by decide +kernel, rfl, by decide +kernel, by decide +kernel⟩
/-- the text's own names of built-ins -/
structure Blt (mg : Str → Option Value) : Prop where
  int : mg "int" = none
  abs : mg "abs" = none
section
variable {P : Program} {w : World} {K : PySem.W.Frag} {mg : Str → Option Value} {base : Heap}
def spDice : Sp := fun vs H Q _ => ∃ n : Int, vs = [.int n] ∧ ∀ p a b c H', H p = none → Ex H H' → H' p = some (.lst [.int a, .int b, .int c]) → Q (.ref p) H'
theorem ok_dice {f : Addr} {fd : FuncData} (F : Fun K "_law_dice" "_law_dice" sDice f fd) (B : Blt mg) : FnOk P w K mg base (L2.CX P w) 1 f fd ["cell"] spDice := by
  refine F.okX scDice (fun vs H Q E h => ?_) (fun cdv A outer s H vs Q E hr h => ?_)
  · obtain ⟨n, rfl, _⟩ := h
    rfl
  · obtain ⟨n, rfl, q⟩ := h
    refine ⟨_, pss_cons (ps_if (pt_chain op_lt op_lt (pe_op op_sub pe_int pe_int) (pv 0) pe_int)
        (pss_one (ps_ret (pe_lst (pa_cons (pe_callB call_abs (by rfl) B.abs (by decide +kernel) (pa_cons (pv 0) pa_nil)) (pa_cons pe_int (pa_cons pe_int pa_nil)))))) pss_nil)
      (pss_one (ps_ret (pe_lst (pa_cons (pv 0) (pa_cons (pe_op op_add pe_int (pe_op op_mod (pe_callTy call_int1 (by rfl) B.int (by decide +kernel) (pa_cons (pv 0) pa_nil)) pe_int))
        (pa_cons (pe_callTy call_int1 (by rfl) B.int (by decide +kernel) (pa_cons (pe_cmpR op_ge (pv 0) (pe_op op_pow pe_int pe_int) (nomark _)) pa_nil)) pa_nil)))))), ?_⟩
    refine q_when (by walk_at "et") (fun hb H1 e1 => ?_) (fun hb H1 e1 => ?_)
    · exact s_retL (el_lst (by walk_at "ea") (by show 3 ≤ 100000; decide)) fun p H2 hp e2 h2 => q p _ _ _ H2 (fresh_back e1 hp) (e1.trans e2) h2
    · exact s_retL (el_lst (by walk_at "ea") (by show 3 ≤ 100000; decide)) fun p H2 hp e2 h2 => q p _ _ _ H2 (fresh_back e1 hp) (e1.trans e2) h2
def spRoll : Sp := fun vs H Q _ => ∃ (d : Addr) (a b c m : Int), vs = [.ref d, .int m] ∧ H d = some (.lst [.int a, .int b, .int c]) ∧ 0 < m ∧ m < 1000000 ∧
  ∀ (v a' b' c' : Int) H', 0 ≤ v → v < m → ExB d H H' → H' d = some (.lst [.int a', .int b', .int c']) → Q (.int v) H'
theorem ok_roll {f : Addr} {fd : FuncData} (F : Fun K "_law_roll" "_law_roll" sRoll f fd) (B : Blt mg) : FnOk P w K mg base (L2.CX P w) 1 f fd ["dice", "many"] spRoll := by
  refine F.okX scRoll (fun vs H Q E h => ?_) (fun cdv A outer s H vs Q E hr h => ?_)
  · obtain ⟨d, a, b, c, m, rfl, _⟩ := h
    rfl
  · obtain ⟨d, a, b, c, m, rfl, hd, h0, h1, q⟩ := h
    refine ⟨_, pss_cons (ps_if (PW.pt (pw_or (pt_cmpR op_eq (pe_ix ix_list (pv 0) pe_int (fun _ _ => rfl)) pe_int (nomark _)) (pw_or1 (PW.pt (pw_and (pt_cmpR op_eq (pe_ix ix_list (pv 0) pe_int (fun _ _ => rfl)) pe_int (nomark _)) (pw_and1 (pt_cmpR op_gt (pe_ix ix_list (pv 0) pe_int (fun _ _ => rfl)) pe_int (nomark _))))))))
        (pss_cons (ps_set (i := 2) scRoll.nd rfl (.inl rfl) (pe_op op_mod (pe_callTy call_int1 (by rfl) B.int (by decide +kernel) (pa_cons (pe_ix ix_list (pv 0) pe_int (fun _ _ => rfl)) pa_nil)) (pv 1)))
        (pss_cons (ps_asg (pe_op op_fdiv (pe_ix ix_list (pv 0) pe_int (fun _ _ => rfl)) (pv 1)) (pg_sub (pv 0) pe_int set_list))
        (pss_one (ps_ret (pv 2))))) pss_nil)
      (pss_cons (ps_asg pe_int (pg_sub (pv 0) pe_int set_list))
      (pss_cons (ps_asg (pe_op op_mod (pe_callTy call_int1 (by rfl) B.int (by decide +kernel) (pa_cons (pe_op op_add (pe_op op_add (pe_op op_mul (pe_ix ix_list (pv 0) pe_int (fun _ _ => rfl)) pe_int) (pe_op op_mul (pe_ix ix_list (pv 0) pe_int (fun _ _ => rfl)) pe_int)) pe_int) pa_nil)) pe_int) (pg_sub (pv 0) pe_int set_list))
      (pss_cons (ps_asg (pe_op op_add (pe_ix ix_list (pv 0) pe_int (fun _ _ => rfl)) pe_int) (pg_sub (pv 0) pe_int set_list))
      (pss_one (ps_ret (pe_op op_mod (pe_callTy call_int1 (by rfl) B.int (by decide +kernel) (pa_cons (pe_op op_add (pe_op op_fdiv (pe_ix ix_list (pv 0) pe_int (fun _ _ => rfl)) pe_int) (pe_ix ix_list (pv 0) pe_int (fun _ _ => rfl))) pa_nil)) (pv 1))))))), ?_⟩
    refine q_when (by walk_at "et") (fun hb H1 e1 => ?_) (fun hb H1 e1 => ?_)
    · have hd1 := e1 d _ hd
      refine q_asg (by walk_at "ev") fun H2 e2 => ?_
      have hd2 := e2 d _ hd1
      refine q_setL (j := 0) hd2 (by walk_at "ev") (by walk_at "ev") (by exact ev_c) (by show 0 < 3; decide) fun H3 e3 => ?_
      refine s_ret (by walk_at "ev") fun H4 e4 => ?_
      exact q _ _ _ _ H4 (Int.emod_nonneg _ (by omega)) (Int.emod_lt_of_pos _ h0) (((ExB.of ((e1.trans e2).trans e3)).upd).ex e4) (e4 d _ upd_same)
    · have hd1 := e1 d _ hd
      refine q_setL (j := 2) hd1 (by walk_at "ev") (by walk_at "ev") (by exact ev_c) (by show 2 < 3; decide) fun H2 e2 => ?_
      have hd2 : upd H2 d (.lst [.int a, .int b, .int 0]) d = some _ := upd_same
      refine q_setL (xs := [.int a, .int b, .int 0]) (j := 0) hd2 (by walk_at "ev") (by walk_at "ev") (by exact ev_c) (by show 0 < 3; decide) fun H3 e3 => ?_
      have b1 : ExB d H (upd H2 d (.lst [.int a, .int b, .int 0])) := (ExB.of (e1.trans e2)).upd
      generalize hz : (a * 48271 + b * 69621 + 11) % 2147483647 = z
      have hd3 : upd H3 d (.lst [.int z, .int b, .int 0]) d = some _ := upd_same
      refine q_setL (xs := [.int z, .int b, .int 0]) (j := 1) hd3 (by walk_at "ev") (by walk_at "ev") (by exact ev_c) (by show 1 < 3; decide) fun H4 e4 => ?_
      have b2 : ExB d H (upd H3 d (.lst [.int z, .int b, .int 0])) := (b1.ex e3).upd
      have hd4 : upd H4 d (.lst [.int z, .int (b + 1), .int 0]) d = some _ := upd_same
      have b3 : ExB d H (upd H4 d (.lst [.int z, .int (b + 1), .int 0])) := (b2.ex e4).upd
      refine s_ret (v := .int ((z / 7 + z) % m)) (by walk_at "ev") fun H5 e5 => ?_
      exact q _ _ _ _ H5 (Int.emod_nonneg _ (by omega)) (Int.emod_lt_of_pos _ h0) (b3.ex e5) (e5 d _ hd4)
end
abbrev sTold : Stmt := topS 31
theorem scTold : FnScope ["what"] ["what"] (defScope sTold) := ⟨rfl, rfl, rfl, by decide +kernel, rfl, by decide +kernel, by decide +kernel⟩
section
variable {P : Program} {w : World} {K : PySem.W.Frag} {mg : Str → Option Value} {base : Heap}
theorem ok_told {f : Addr} {fd : FuncData} {c : Nat → Addr} {k : Nat} (F : Fun K "_law_told" "_law_told" sTold f fd) (B : Exs K mg c) : FnOk P w K mg base (L2.CX P w) (k + 2) f fd ["what"] (spTold P w K mg base c k) := by
  refine F.okX scTold (fun vs H Q E h => ?_) (fun cdv A outer s H vs Q E hr h => ?_)
  · obtain ⟨f, c', q, params, body, scope, tb, rfl, _⟩ := h
    rfl
  · obtain ⟨f, c', q, params, body, scope, tb, rfl, hf, hc, L, hb, hl, ht⟩ := h
    refine ⟨_, pss_one (ps_try_many (tb := fun W D σ H => ∃ (f c' : Addr) (q : Str) (params : Arguments) (body : Expr) (scope : Scope) (tb : XK → Hp → VK → Prop), σ[0]? = some (some (.ref f)) ∧ H f = some (LamO f q params body scope c') ∧ H c' = some (LamX.CodeO c' q) ∧ Lam0 scope ∧
          (∀ (pm cv ctv : Value), bindArgs (PySem.W.kla_fn "<lambda>" q params body scope [] pm cv ctv) ⟨[], []⟩ = pure []) ∧ LamRun P w K mg base k q scope body f c' tb ∧ ∃ E' : XK, (∀ cls d σ' H', E' cls d H' → W cls d σ' H') ∧ tb E' H D.rt) rfl rfl takes_none5
        (fun W pn xe tk _ => ⟨fun pins s' σ H' D I h' => ?_⟩)
        (HdsOk.cons ⟨rfl, by decide, .inl (B.e 0 (by decide)).g⟩ (fun _ _ _ _ _ _ _ => pss_one (ps_ret pe_str)) (HdsOk.cons ⟨rfl, by decide, .inl (B.e 1 (by decide)).g⟩ (fun _ _ _ _ _ _ _ => pss_one (ps_ret pe_str)) (HdsOk.cons ⟨rfl, by decide, .inl (B.e 2 (by decide)).g⟩ (fun _ _ _ _ _ _ _ => pss_one (ps_ret pe_str)) (HdsOk.cons ⟨rfl, by decide, .inl (B.e 3 (by decide)).g⟩ (fun _ _ _ _ _ _ _ => pss_one (ps_ret pe_str)) (HdsOk.cons ⟨rfl, by decide, .inl (B.e 4 (by decide)).g⟩ (fun _ _ _ _ _ _ _ => pss_one (ps_ret pe_str)) (HdsOk.cons ⟨rfl, by decide, .inl (B.e 5 (by decide)).g⟩ (fun _ _ _ _ _ _ _ => pss_one (ps_ret pe_str)) (HdsOk.cons ⟨rfl, by decide, .inl (B.e 6 (by decide)).g⟩ (fun _ _ _ _ _ _ _ => pss_one (ps_ret pe_str)) (HdsOk.cons ⟨rfl, by decide, .inl (B.e 7 (by decide)).g⟩ (fun _ _ _ _ _ _ _ => pss_one (ps_ret pe_str)) (HdsOk.cons ⟨rfl, by decide, .inl (B.e 8 (by decide)).g⟩ (fun _ _ _ _ _ _ _ => pss_one (ps_ret pe_str)) (HdsOk.cons ⟨rfl, by decide, .inl (B.e 9 (by decide)).g⟩ (fun _ _ _ _ _ _ _ => pss_one (ps_ret pe_str)) (HdsOk.cons ⟨rfl, by decide, .inl (B.e 10 (by decide)).g⟩ (fun _ _ _ _ _ _ _ => pss_one (ps_ret pe_str)) (HdsOk.nil))))))))))))), ?_⟩
    · obtain ⟨f, c', q, params, body, scope, tb, h1, h2, h3, h4, h5, h6, E', hE, h7⟩ := h'
      exact (pss_one (ps_ret (pe_actO (E := E') (i := 0) (k := k) tk hE hr rfl (.inl rfl)))).run pins s' σ H' D I ⟨f, c', q, params, body, scope, tb, h1, h2, h3, h4, h5, h6, h7⟩
    · refine ⟨f, c', q, params, body, scope, tb, rfl, hf, hc, L, hb, hl, ETold c Q, fun cls d σ' H' hE => ?_, ht⟩
      obtain ⟨i, hi, rfl, q⟩ := hE
      exact ⟨decide (i = 0), B.m i 0 hi (by omega), fun hb _ _ => (by obtain rfl : i = 0 := of_decide_eq_true hb; exact q), fun hb0 => (by have n0 := of_decide_eq_false hb0; exact ⟨decide (i = 1), B.m i 1 hi (by omega), fun hb _ _ => (by obtain rfl : i = 1 := of_decide_eq_true hb; exact q), fun hb1 => (by have n1 := of_decide_eq_false hb1; exact ⟨decide (i = 2), B.m i 2 hi (by omega), fun hb _ _ => (by obtain rfl : i = 2 := of_decide_eq_true hb; exact q), fun hb2 => (by have n2 := of_decide_eq_false hb2; exact ⟨decide (i = 3), B.m i 3 hi (by omega), fun hb _ _ => (by obtain rfl : i = 3 := of_decide_eq_true hb; exact q), fun hb3 => (by have n3 := of_decide_eq_false hb3; exact ⟨decide (i = 4), B.m i 4 hi (by omega), fun hb _ _ => (by obtain rfl : i = 4 := of_decide_eq_true hb; exact q), fun hb4 => (by have n4 := of_decide_eq_false hb4; exact ⟨decide (i = 5), B.m i 5 hi (by omega), fun hb _ _ => (by obtain rfl : i = 5 := of_decide_eq_true hb; exact q), fun hb5 => (by have n5 := of_decide_eq_false hb5; exact ⟨decide (i = 6), B.m i 6 hi (by omega), fun hb _ _ => (by obtain rfl : i = 6 := of_decide_eq_true hb; exact q), fun hb6 => (by have n6 := of_decide_eq_false hb6; exact ⟨decide (i = 7), B.m i 7 hi (by omega), fun hb _ _ => (by obtain rfl : i = 7 := of_decide_eq_true hb; exact q), fun hb7 => (by have n7 := of_decide_eq_false hb7; exact ⟨decide (i = 8), B.m i 8 hi (by omega), fun hb _ _ => (by obtain rfl : i = 8 := of_decide_eq_true hb; exact q), fun hb8 => (by have n8 := of_decide_eq_false hb8; exact ⟨decide (i = 9), B.m i 9 hi (by omega), fun hb _ _ => (by obtain rfl : i = 9 := of_decide_eq_true hb; exact q), fun hb9 => (by have n9 := of_decide_eq_false hb9; exact ⟨decide (i = 10), B.m i 10 hi (by omega), fun hb _ _ => (by obtain rfl : i = 10 := of_decide_eq_true hb; exact q), fun hb10 => (by have n10 := of_decide_eq_false hb10; exact (by omega : False).elim)⟩)⟩)⟩)⟩)⟩)⟩)⟩)⟩)⟩)⟩)⟩
end
end Rw
namespace Rw
open PySem PySem.Spec PyProof.Rows L2 Evl
local macro_rules | `(tactic| walk_at "sq") => `(tactic| first | assumption | exact SqL.of (by assumption) | exact SqT.of (by assumption))
local macro_rules | `(tactic| walk_at "at") => `(tactic| first | exact atI_nat (j := 0) rfl | exact atI_nat (j := 1) rfl | exact atI_nat (j := 2) rfl | exact atI_nat (j := 3) rfl)
local macro_rules | `(tactic| walk_at "rv") => `(tactic| first
  | with_reducible exact rv_I0
  | ((with_reducible refine' rv_I ?k1); (case k1 => first | (show (0 : Int) < _; omega) | exact ⟨by omega, by omega⟩ | exact .inr ⟨by omega, by omega⟩ | exact .inl ⟨by omega, by omega⟩ | exact ⟨by decide, by decide, by decide⟩))
  | ((with_reducible refine' rv_eq ?k1); (case k1 => exact rfl))
  | ((with_reducible refine' rv_ne ?k1); (case k1 => exact rfl))
  | (refine' rv_ixL ?k1 ?k2; (case k1 => walk_at "sq"); (case k2 => walk_at "at"))
  | (refine' rv_ixT ?k1 ?k2; (case k1 => walk_at "sq"); (case k2 => walk_at "at")))
local macro_rules | `(tactic| walk_at "rc") => `(tactic| first | exact rc_int1 | exact rc_int1b | exact rc_abs)
local macro_rules | `(tactic| walk_at "ea") => `(tactic| first
  | with_reducible exact ea_nil
  | ((with_reducible refine' ea_cons ?k1 ?k2); (case k1 => walk_at "ev"); (case k2 => walk_at "ea")))
local macro_rules | `(tactic| walk_at "ev") => `(tactic| first
  | with_reducible exact ev_c
  | ((with_reducible refine' ev_var ?k1); (case k1 => exact rfl))
  | ((with_reducible refine' ev_op ?k1 ?k2 ?k3); (case k1 => walk_at "ev"); (case k2 => walk_at "ev"); (case k3 => walk_at "rv"))
  | ((with_reducible refine' et_chain ?k1 ?k2 ?k3 ?k4 ?k5); (case k1 => walk_at "ev"); (case k2 => walk_at "ev"); (case k3 => (intro _; walk_at "ev")); (case k4 => walk_at "rv"); (case k5 => (intro _; walk_at "rv")))
  | ((with_reducible refine' ev_cb ?k1 ?k2); (case k1 => walk_at "ea"); (case k2 => walk_at "rc")))
local macro_rules | `(tactic| walk_at "et") => `(tactic| first
  | ((with_reducible refine' et_test ?k1); (case k1 => walk_at "ev"))
  | ((with_reducible refine' et_B ?k1); (case k1 => walk_at "ev"))
  | ((with_reducible refine' et_and ?k1 ?k2); (case k1 => walk_at "et"); (case k2 => (intro _; walk_at "et")))
  | ((with_reducible refine' et_or ?k1 ?k2); (case k1 => walk_at "et"); (case k2 => (intro _; walk_at "et")))
  | ((with_reducible refine' et_not ?k1); (case k1 => walk_at "et")))

abbrev sRounds : Stmt := topS 30
theorem scRounds : FnScope ["script", "most", "cells", "cell"] ["script", "most"] (defScope sRounds) := ⟨rfl, rfl, rfl, by decide +kernel, rfl, by decide +kernel, by decide +kernel⟩
theorem cut_take1 (xs : List V) : cutV xs none (some 1) = xs.take 1 := by
  unfold cutV
  have e : HT.sIx xs.length xs.length (some 1) = min 1 xs.length := HT.sIx_nat xs.length xs.length 1
  rw [HT.sIx_none, e]
  cases xs with
  | nil => rfl
  | cons x r =>
    rw [show min 1 (x :: r).length = 1 by rw [List.length_cons]; omega]
    rfl
section
variable {P : Program} {w : World} {K : PySem.W.Frag} {mg : Str → Option Value} {base : Heap}
def spRounds (K : PySem.W.Frag) : Sp := fun vs H Q _ => ∃ (s : Addr) (ns : List Int), vs = [.ref s, .int 1] ∧ SqL K H s (ns.map V.int) ∧
  ∀ r d a b c H', H r = none → H d = none → r ≠ d → Ex H H' → H' r = some (.lst [.ref d]) → H' d = some (.lst [.int a, .int b, .int c]) → Q (.ref r) H'
theorem ok_rounds {f : Addr} {fd : FuncData} (F : Fun K "_law_rounds" "_law_rounds" sRounds f fd) (cD : Cal P w K mg base 1 "_law_dice" spDice []) : FnOk P w K mg base (L2.CX P w) 2 f fd ["script", "most"] (spRounds K) := by
  refine F.okX scRounds (fun vs H Q E h => ?_) (fun cdv A outer s H vs Q E hr h => ?_)
  · obtain ⟨s, ns, rfl, _⟩ := h
    rfl
  · obtain ⟨sc, ns, rfl, hS, q⟩ := h
    refine ⟨_, pss_cons (ps_set (i := 2) scRounds.nd rfl (.inl rfl) (pe_slice sl_list (pv 0) po_none (po_some (pv 1))))
      (pss_cons (ps_if (pt_cmpR (op_eqD hr.units) (pv 2) (pe_lst pa_nil) (nomark _)) (pss_one (ps_set (i := 2) scRounds.nd rfl (.inl rfl) (pe_lst (pa_cons pe_int pa_nil)))) pss_nil)
      (pss_one (ps_ret (pe_lc (own := [("cell", 3)]) (g := gName 3) (tt := tYes) rfl scRounds.nd (pi_list (pv 2)) (blkOk_by (own := [("cell", 3)]) (N := ["script", "most", "cells", "cell"]) (sc := defScope sRounds) (by decide +kernel)) (fun _ _ _ _ _ => pg_name (i := 3) scRounds.nd rfl (Or.inl rfl)) (fun _ _ _ _ _ => pts_nil) (fun _ _ _ _ _ => pe_k cD hr (by decide) passL (pa_cons (pv 3) pa_nil)))))), ?_⟩
    -- the comprehension, over a list of one item
    have fin : ∀ (l2 : Addr) (x : Int) (H1 : Hp), Ex H H1 → H1 l2 = some (.lst [.int x]) → tRet (tLc (iList K (tVar 2)) (gName 3) tYes (tCall spDice [] E0 (tCons (tVar 3) tNil)) [3]) { nx := fun _ H' => Q .non H', rt := Q } [some (.ref sc), some (.int 1), some (.ref l2), none] H1 := fun l2 x H1 e1 hl => by
      refine ⟨.ref l2, rfl, l2, rfl, ⟨_, SqL.of hl⟩, fun Dl hD => lc_list (K := K) (a := l2) (xs := [.int x]) (fun i H' => (i = 0 ∧ H' = upd H1 Dl (.lst [])) ∨ (i = 1 ∧ ∃ d a b c, H1 d = none ∧ Dl ≠ d ∧ Ex H1 H' ∧ H' Dl = some (.lst [.ref d]) ∧ H' d = some (.lst [.int a, .int b, .int c])))
        (.inl ⟨rfl, rfl⟩) (fun i H' _ hP => ?_) (fun i y H' hy hP => ?_) fun H' hP => ?_⟩
      · have nl : l2 ≠ Dl := ne_of_none hl hD
        rcases hP with ⟨_, rfl⟩ | ⟨_, d, a, b, c, _, _, e, _⟩
        · exact SqL.of (by rw [upd_ne nl]; exact hl)
        · exact SqL.of (e _ _ hl)
      · have hi : i = 0 := by
          cases i with
          | zero => rfl
          | succ i => simp at hy
        subst hi
        obtain rfl : V.int x = y := Option.some.inj hy
        rcases hP with ⟨_, rfl⟩ | ⟨h, _⟩
        · refine ⟨rfl, .int x, rfl, x, rfl, fun p a b c H2 hp e2 h2 => ?_⟩
          have hDl : H2 Dl = some (.lst []) := e2 _ _ upd_same
          have npD : Dl ≠ p := ne_of_none (H := upd H1 Dl (.lst [])) upd_same hp
          have hp1 : H1 p = none := by rw [upd_ne npD.symm] at hp; exact hp
          refine ⟨[], hDl, by decide, .inr ⟨rfl, p, a, b, c, hp1, npD, fun z o hz => ?_, upd_same, by rw [upd_ne npD.symm]; exact h2⟩⟩
          rw [upd_ne (ne_of_none hz hD)]
          exact e2 _ _ (by rw [upd_ne (ne_of_none hz hD)]; exact hz)
        · cases h
      · rcases hP with ⟨h, _⟩ | ⟨_, d, a, b, c, hd, ne, e, g1, g2⟩
        · cases h
        · exact q Dl d a b c H' (fresh_back e1 hD) (fresh_back e1 hd) ne (e1.trans e) g1 g2
    refine q_asgL (xs := (ns.map V.int).take 1) (by
        have h := el_sl (K := K) (σ := [some (.ref sc), some (.int 1), none, none]) (H := H) (ev_var (i := 0) rfl) eo_none (eo_some (ev_var (i := 1) rfl)) hS
        rw [cut_take1] at h
        exact h) fun l H1 hl e1 h1 => ?_
    cases ns with
    | nil =>
      have h1 : H1 l = some (.lst []) := h1
      refine q_when (b := true) (fun H2 e2 Q2 q2 => ⟨.ref l, rfl, by decide, fun l2 hl2 => ⟨.list [], .list [], .lst (SqL.of (by rw [upd_ne (ne_of_none (e2 _ _ h1) hl2)]; exact e2 _ _ h1)) .nil, .lst (SqL.of upd_same) .nil, rfl, rfl, true, rfl, q2 _ (Ex.new hl2)⟩⟩) (fun _ H2 e2 => ?_) (fun z => nomatch z)
      refine s_asgL (el_lst (by walk_at "ea") (by show 1 ≤ 100000; decide)) fun l2 H3 hl2 e3 h3 => fin l2 0 H3 ((e1.trans e2).trans e3) h3
    | cons n r =>
      have h1 : H1 l = some (.lst [.int n]) := h1
      refine q_when (b := false) (fun H2 e2 Q2 q2 => ⟨.ref l, rfl, by decide, fun l2 hl2 => ⟨.list [.int n], .list [], .lst (SqL.of (by rw [upd_ne (ne_of_none (e2 _ _ h1) hl2)]; exact e2 _ _ h1)) (.cons (.int n) .nil), .lst (SqL.of upd_same) .nil, rfl, rfl, false, rfl, q2 _ (Ex.new hl2)⟩⟩) (fun z => nomatch z) (fun _ H2 e2 => ?_)
      exact fin l n H2 (e1.trans e2) (e2 _ _ h1)
end
end Rw
namespace Rw
open PySem PySem.Spec PyProof.Rows L2 Evl
local macro_rules | `(tactic| walk_at "sq") => `(tactic| first | assumption | exact SqL.of (by assumption) | exact SqT.of (by assumption))
local macro_rules | `(tactic| walk_at "at") => `(tactic| first | exact atI_nat (j := 0) rfl | exact atI_nat (j := 1) rfl | exact atI_nat (j := 2) rfl | exact atI_nat (j := 3) rfl)
local macro_rules | `(tactic| walk_at "rv") => `(tactic| first
  | with_reducible exact rv_I0
  | ((with_reducible refine' rv_I ?k1); (case k1 => first | (show (0 : Int) < _; omega) | exact ⟨by omega, by omega⟩ | exact .inr ⟨by omega, by omega⟩ | exact .inl ⟨by omega, by omega⟩ | exact ⟨by decide, by decide, by decide⟩))
  | ((with_reducible refine' rv_eq ?k1); (case k1 => exact rfl))
  | ((with_reducible refine' rv_ne ?k1); (case k1 => exact rfl))
  | (refine' rv_ixL ?k1 ?k2; (case k1 => walk_at "sq"); (case k2 => walk_at "at"))
  | (refine' rv_ixT ?k1 ?k2; (case k1 => walk_at "sq"); (case k2 => walk_at "at")))
local macro_rules | `(tactic| walk_at "rc") => `(tactic| first | exact rc_int1 | exact rc_int1b | exact rc_abs)
local macro_rules | `(tactic| walk_at "ea") => `(tactic| first
  | with_reducible exact ea_nil
  | ((with_reducible refine' ea_cons ?k1 ?k2); (case k1 => walk_at "ev"); (case k2 => walk_at "ea")))
local macro_rules | `(tactic| walk_at "ev") => `(tactic| first
  | with_reducible exact ev_c
  | ((with_reducible refine' ev_var ?k1); (case k1 => exact rfl))
  | ((with_reducible refine' ev_op ?k1 ?k2 ?k3); (case k1 => walk_at "ev"); (case k2 => walk_at "ev"); (case k3 => walk_at "rv"))
  | ((with_reducible refine' et_chain ?k1 ?k2 ?k3 ?k4 ?k5); (case k1 => walk_at "ev"); (case k2 => walk_at "ev"); (case k3 => (intro _; walk_at "ev")); (case k4 => walk_at "rv"); (case k5 => (intro _; walk_at "rv")))
  | ((with_reducible refine' ev_cb ?k1 ?k2); (case k1 => walk_at "ea"); (case k2 => walk_at "rc")))
local macro_rules | `(tactic| walk_at "et") => `(tactic| first
  | ((with_reducible refine' et_test ?k1); (case k1 => walk_at "ev"))
  | ((with_reducible refine' et_B ?k1); (case k1 => walk_at "ev"))
  | ((with_reducible refine' et_and ?k1 ?k2); (case k1 => walk_at "et"); (case k2 => (intro _; walk_at "et")))
  | ((with_reducible refine' et_or ?k1 ?k2); (case k1 => walk_at "et"); (case k2 => (intro _; walk_at "et")))
  | ((with_reducible refine' et_not ?k1); (case k1 => walk_at "et")))
local macro_rules | `(tactic| walk_at "ff") => `(tactic| first | exact rfl | assumption)
local macro_rules | `(tactic| walk_at "ev") => `(tactic| first
  | with_reducible exact ev_c
  | ((with_reducible refine' ev_var ?k1); (case k1 => exact rfl))
  | ((with_reducible refine' ev_op ?k1 ?k2 ?k3); (case k1 => walk_at "ev"); (case k2 => walk_at "ev"); (case k3 => walk_at "rv"))
  | ((with_reducible refine' et_chain ?k1 ?k2 ?k3 ?k4 ?k5); (case k1 => walk_at "ev"); (case k2 => walk_at "ev"); (case k3 => (intro _; walk_at "ev")); (case k4 => walk_at "rv"); (case k5 => (intro _; walk_at "rv")))
  | ((with_reducible refine' ev_cb ?k1 ?k2); (case k1 => walk_at "ea"); (case k2 => walk_at "rc"))
  | ((with_reducible refine' ev_F ?k1 ?k2); (case k1 => walk_at "ea"); (case k2 => walk_at "ff"))
  | ((with_reducible refine' ev_two ?k1 ?k2 ?k3); (case k1 => walk_at "ev"); (case k2 => omega); (case k3 => omega)))
abbrev s_check_time : Stmt := topS 18
theorem sc_check_time : FnScope ["seconds"] ["seconds"] (defScope s_check_time) := ⟨rfl, rfl, rfl, by decide +kernel, rfl, by decide +kernel, by decide +kernel⟩
abbrev s_time_of : Stmt := topS 19
theorem sc_time_of : FnScope ["hours", "minutes", "seconds"] ["hours", "minutes", "seconds"] (defScope s_time_of) := ⟨rfl, rfl, rfl, by decide +kernel, rfl, by decide +kernel, by decide +kernel⟩
abbrev s_parts_of : Stmt := topS 20
theorem sc_parts_of : FnScope ["seconds", "time"] ["seconds"] (defScope s_parts_of) := ⟨rfl, rfl, rfl, by decide +kernel, rfl, by decide +kernel, by decide +kernel⟩
abbrev s_two : Stmt := topS 21
theorem sc_two : FnScope ["number"] ["number"] (defScope s_two) := ⟨rfl, rfl, rfl, by decide +kernel, rfl, by decide +kernel, by decide +kernel⟩
abbrev s_told_time : Stmt := topS 22
theorem sc_told_time : FnScope ["seconds", "part"] ["seconds"] (defScope s_told_time) := ⟨rfl, rfl, rfl, by decide +kernel, rfl, by decide +kernel, by decide +kernel⟩
abbrev s_read_time : Stmt := topS 23
theorem sc_read_time : FnScope ["text", "words", "word", "numbers"] ["text"] (defScope s_read_time) := ⟨rfl, rfl, rfl, by decide +kernel, rfl, by decide +kernel, by decide +kernel⟩
abbrev s_told_length : Stmt := topS 24
theorem sc_told_length : FnScope ["seconds", "words", "rest", "letter", "size"] ["seconds"] (defScope s_told_length) := ⟨rfl, rfl, rfl, by decide +kernel, rfl, by decide +kernel, by decide +kernel⟩
abbrev s_read_length : Stmt := topS 25
theorem sc_read_length : FnScope ["text", "seconds", "last", "left", "rest", "figures", "place"] ["text"] (defScope s_read_length) := ⟨rfl, rfl, rfl, by decide +kernel, rfl, by decide +kernel, by decide +kernel⟩
abbrev s_rounded : Stmt := topS 26
theorem sc_rounded : FnScope ["seconds", "step"] ["seconds", "step"] (defScope s_rounded) := ⟨rfl, rfl, rfl, by decide +kernel, rfl, by decide +kernel, by decide +kernel⟩

/-- what the top has left, as the defs read it -/
structure Txt (K : PySem.W.Frag) (mg : Str → Option Value) (base : Heap) (c : Nat → Addr) : Prop where
  ex : Exs K mg c
  int : mg "int" = none
  str : mg "str" = none
  abs : mg "abs" = none
  len : mg "len" = none
  any : mg "any" = none
  zip : mg "zip" = none
  day : ∃ t, mg "DAY" = some (.int 86400 t)
  fig : ∃ t, mg "FIGURES" = some (.str "0123456789" t)
  let_ : ∃ t, mg "LETTERS" = some (.str "dhms" t)
  siz : ∃ a, mg "SIZES" = some (.ref a) ∧ ∀ H, SqT K H a [.int 86400, .int 3600, .int 60, .int 1]
  dig : base.NoDigits
def mCheck (s : Int) : Rs := if (!(decide (0 ≤ s) && decide (s < 86400))) = true then .err 2 else .ok (.int s)
def fCheck : List V → Option Rs
  | [.int s] => some (mCheck s)
  | _ => none
def mTimeOf (h m s : Int) : Rs := if ((!(decide (0 ≤ h) && decide (h < 24))) || ((!(decide (0 ≤ m) && decide (m < 60))) || (!(decide (0 ≤ s) && decide (s < 60))))) = true then .err 2 else .ok (.int (h * 3600 + m * 60 + s))
def fTimeOf : List V → Option Rs
  | [.int h, .int m, .int s] => some (mTimeOf h m s)
  | _ => none
def mParts (s : Int) : Rs := if (!(decide (0 ≤ s) && decide (s < 86400))) = true then .err 2 else .tup [.int (s / 3600), .int (s / 60 % 60), .int (s % 60)]
def fParts : List V → Option Rs
  | [.int s] => some (mParts s)
  | _ => none
def fTwo : List V → Option Rs
  | [.int n] => if 0 ≤ n ∧ n < 100 then some (.ok (.str (SX.S (twoL n)))) else none
  | _ => none
section
variable {P : Program} {w : World} {K : PySem.W.Frag} {mg : Str → Option Value} {base : Heap} {c : Nat → Addr}
theorem pe_int_glob {X : Cx} {x : Str} {p : Pos} {n : Int} (h : ∃ t, X.mg x = some (.int n t)) (hg : Gl X x := by rfl) (hd : (x == ("__debug__" : Str)) = false := by decide) : PE X (.Name x p) (tC (.int n)) := by
  obtain ⟨t, e⟩ := h
  exact pe_glob hg e ⟨t, rfl⟩ hd
theorem pe_str_glob {X : Cx} {x : Str} {p : Pos} {z : Str} (h : ∃ t, X.mg x = some (.str z t)) (hg : Gl X x := by rfl) (hd : (x == ("__debug__" : Str)) = false := by decide) : PE X (.Name x p) (tC (.str z)) := by
  obtain ⟨t, e⟩ := h
  exact pe_glob hg e ⟨t, rfl⟩ hd
theorem ok_check_time {f : Addr} {fd : FuncData} (F : Fun K "check_time" "check_time" s_check_time f fd) (T : Txt K mg base c) : FnOk P w K mg base (L2.CX P w) 1 f fd ["seconds"] (spF c fCheck) := by
  refine F.okX sc_check_time (fun vs H Q E h => ?_) (fun cdv A outer s H vs Q E hr h => ?_)
  · obtain ⟨r, h, _⟩ := h
    match vs, h with
    | [.int n], _ => rfl
  · obtain ⟨r, h, o⟩ := h
    match vs, h with
    | [.int n], h =>
    obtain rfl : mCheck n = r := Option.some.inj h
    unfold mCheck at o
    refine ⟨_, pss_cons (ps_if (pt_not (pt_chain op_le op_lt pe_int (pv 0) (pe_int_glob T.day))) (pss_one (ps_raiseX (T.ex.e 2 (by decide)))) pss_nil) (pss_one (ps_ret (pv 0))), ?_⟩
    refine q_when (by walk_at "et") (fun hb H1 e1 => ?_) (fun hb H1 e1 => ?_)
    · rw [if_pos hb] at o
      exact o H1 e1
    · rw [if_neg (by rw [hb]; decide)] at o
      exact s_ret (by walk_at "ev") fun H2 e2 => o H2 (e1.trans e2)
theorem ok_time_of {f : Addr} {fd : FuncData} (F : L2.FunD K "time_of" "time_of" (defArgs s_time_of) (defBody s_time_of) (defScope s_time_of) [.int 0] [] f fd) (T : Txt K mg base c) : FnOk P w K mg base (L2.CX P w) 1 f fd ["hours", "minutes", "seconds"] (spF c fTimeOf) := by
  refine F.ok sc_time_of (fun vs H Q E h => ?_) (fun cdv A outer s H vs Q E hr h => ?_)
  · obtain ⟨r, h, _⟩ := h
    match vs, h with
    | [.int a, .int b, .int d], _ => rfl
  · obtain ⟨r, h, o⟩ := h
    match vs, h with
    | [.int a, .int b, .int d], h =>
    obtain rfl : mTimeOf a b d = r := Option.some.inj h
    unfold mTimeOf at o
    refine ⟨_, pss_cons (ps_if (PW.pt (pw_or (pt_not (pt_chain op_le op_lt pe_int (pv 0) pe_int)) (pw_or (pt_not (pt_chain op_le op_lt pe_int (pv 1) pe_int)) (pw_or1 (pt_not (pt_chain op_le op_lt pe_int (pv 2) pe_int)))))) (pss_one (ps_raiseX (T.ex.e 2 (by decide)))) pss_nil)
      (pss_one (ps_ret (pe_op op_add (pe_op op_add (pe_op op_mul (pv 0) pe_int) (pe_op op_mul (pv 1) pe_int)) (pv 2)))), ?_⟩
    refine q_when (by walk_at "et") (fun hb H1 e1 => ?_) (fun hb H1 e1 => ?_)
    · rw [if_pos hb] at o
      exact o H1 e1
    · rw [if_neg (by rw [hb]; decide)] at o
      exact s_ret (by walk_at "ev") fun H2 e2 => o H2 (e1.trans e2)
theorem ok_parts_of {f : Addr} {fd : FuncData} (F : Fun K "parts_of" "parts_of" s_parts_of f fd) (C : Cal P w K mg base 1 "check_time" (spF c fCheck) []) : FnOk P w K mg base (L2.CX P w) 2 f fd ["seconds"] (spF c fParts) := by
  refine F.okX sc_parts_of (fun vs H Q E h => ?_) (fun cdv A outer s H vs Q E hr h => ?_)
  · obtain ⟨r, h, _⟩ := h
    match vs, h with
    | [.int n], _ => rfl
  · obtain ⟨r, h, o⟩ := h
    match vs, h with
    | [.int n], h =>
    obtain rfl : mParts n = r := Option.some.inj h
    unfold mParts at o
    refine ⟨_, pss_cons (ps_set (i := 1) sc_parts_of.nd rfl (.inl rfl) (pe_k C hr (by decide) (passE (E := E)) (pa_cons (pv 0) pa_nil)))
      (pss_one (ps_ret (pe_tup (pa_cons (pe_op op_fdiv (pv 1) pe_int) (pa_cons (pe_op op_mod (pe_op op_fdiv (pv 1) pe_int) pe_int) (pa_cons (pe_op op_mod (pv 1) pe_int) pa_nil)))))), ?_⟩
    by_cases hc : (!(decide (0 ≤ n) && decide (n < 86400))) = true
    · rw [if_pos hc] at o
      exact er_F (by walk_at "ea") (show fCheck [.int n] = some (.err 2) by show some (mCheck n) = _; unfold mCheck; rw [if_pos hc]) o _
    · rw [if_neg hc] at o
      have hf : fCheck [.int n] = some (.ok (.int n)) := by show some (mCheck n) = _; unfold mCheck; rw [if_neg hc]
      refine q_asg (ev_F (by walk_at "ea") hf) fun H1 e1 => ?_
      exact s_retU (eu_tup (by walk_at "ea") (by show 3 ≤ 100000; decide)) fun p H2 hp e2 h2 => o p H2 (fresh_back e1 hp) (e1.trans e2) h2
theorem ok_two {f : Addr} {fd : FuncData} (F : Fun K "two" "two" s_two f fd) (T : Txt K mg base c) : FnOk P w K mg base (L2.CX P w) 1 f fd ["number"] (spF c fTwo) := by
  refine F.okX sc_two (fun vs H Q E h => ?_) (fun cdv A outer s H vs Q E hr h => ?_)
  · obtain ⟨r, h, _⟩ := h
    match vs, h with
    | [.int n], _ => rfl
  · obtain ⟨r, h, o⟩ := h
    match vs, h with
    | [.int n], h =>
    have h : (if 0 ≤ n ∧ n < 100 then some (.ok (.str (SX.S (twoL n)))) else none) = some r := h
    by_cases hn : 0 ≤ n ∧ n < 100
    · rw [if_pos hn] at h
      obtain rfl := Option.some.inj h
      refine ⟨_, pss_one (ps_ret (pe_two T.dig (pv 0))), ?_⟩
      exact s_ret (by obtain ⟨h0, h1⟩ := hn
                      walk_at "ev") fun H2 e2 => o H2 e2
    · rw [if_neg hn] at h
      cases h
end
end Rw
namespace Rw
open PySem PySem.Spec PyProof.Rows L2 Evl
local macro_rules | `(tactic| walk_at "sq") => `(tactic| first | assumption | exact SqL.of (by assumption) | exact SqT.of (by assumption))
local macro_rules | `(tactic| walk_at "at") => `(tactic| first | exact atI_nat (j := 0) rfl | exact atI_nat (j := 1) rfl | exact atI_nat (j := 2) rfl | exact atI_nat (j := 3) rfl)
local macro_rules | `(tactic| walk_at "rv") => `(tactic| first
  | with_reducible exact rv_I0
  | ((with_reducible refine' rv_I ?k1); (case k1 => first | (show (0 : Int) < _; omega) | exact ⟨by omega, by omega⟩ | exact .inr ⟨by omega, by omega⟩ | exact .inl ⟨by omega, by omega⟩ | exact ⟨by decide, by decide, by decide⟩))
  | ((with_reducible refine' rv_eq ?k1); (case k1 => exact rfl))
  | ((with_reducible refine' rv_ne ?k1); (case k1 => exact rfl))
  | (refine' rv_ixL ?k1 ?k2; (case k1 => walk_at "sq"); (case k2 => walk_at "at"))
  | (refine' rv_ixT ?k1 ?k2; (case k1 => walk_at "sq"); (case k2 => walk_at "at")))
local macro_rules | `(tactic| walk_at "rc") => `(tactic| first | exact rc_int1 | exact rc_int1b | exact rc_abs)
local macro_rules | `(tactic| walk_at "ea") => `(tactic| first
  | with_reducible exact ea_nil
  | ((with_reducible refine' ea_cons ?k1 ?k2); (case k1 => walk_at "ev"); (case k2 => walk_at "ea")))
local macro_rules | `(tactic| walk_at "ev") => `(tactic| first
  | with_reducible exact ev_c
  | ((with_reducible refine' ev_var ?k1); (case k1 => exact rfl))
  | ((with_reducible refine' ev_op ?k1 ?k2 ?k3); (case k1 => walk_at "ev"); (case k2 => walk_at "ev"); (case k3 => walk_at "rv"))
  | ((with_reducible refine' et_chain ?k1 ?k2 ?k3 ?k4 ?k5); (case k1 => walk_at "ev"); (case k2 => walk_at "ev"); (case k3 => (intro _; walk_at "ev")); (case k4 => walk_at "rv"); (case k5 => (intro _; walk_at "rv")))
  | ((with_reducible refine' ev_cb ?k1 ?k2); (case k1 => walk_at "ea"); (case k2 => walk_at "rc")))
local macro_rules | `(tactic| walk_at "et") => `(tactic| first
  | ((with_reducible refine' et_test ?k1); (case k1 => walk_at "ev"))
  | ((with_reducible refine' et_B ?k1); (case k1 => walk_at "ev"))
  | ((with_reducible refine' et_and ?k1 ?k2); (case k1 => walk_at "et"); (case k2 => (intro _; walk_at "et")))
  | ((with_reducible refine' et_or ?k1 ?k2); (case k1 => walk_at "et"); (case k2 => (intro _; walk_at "et")))
  | ((with_reducible refine' et_not ?k1); (case k1 => walk_at "et")))
local macro_rules | `(tactic| walk_at "ff") => `(tactic| first | exact rfl | assumption)
local macro_rules | `(tactic| walk_at "ev") => `(tactic| first
  | with_reducible exact ev_c
  | ((with_reducible refine' ev_var ?k1); (case k1 => exact rfl))
  | ((with_reducible refine' ev_op ?k1 ?k2 ?k3); (case k1 => walk_at "ev"); (case k2 => walk_at "ev"); (case k3 => walk_at "rv"))
  | ((with_reducible refine' et_chain ?k1 ?k2 ?k3 ?k4 ?k5); (case k1 => walk_at "ev"); (case k2 => walk_at "ev"); (case k3 => (intro _; walk_at "ev")); (case k4 => walk_at "rv"); (case k5 => (intro _; walk_at "rv")))
  | ((with_reducible refine' ev_cb ?k1 ?k2); (case k1 => walk_at "ea"); (case k2 => walk_at "rc"))
  | ((with_reducible refine' ev_F ?k1 ?k2); (case k1 => walk_at "ea"); (case k2 => walk_at "ff"))
  | ((with_reducible refine' ev_two ?k1 ?k2 ?k3); (case k1 => walk_at "ev"); (case k2 => omega); (case k3 => omega)))

def timeL (n : Int) : List Nat := twoL (n / 3600) ++ ([46] ++ (twoL (n / 60 % 60) ++ ([46] ++ twoL (n % 60))))
def mToldTime (n : Int) : Rs := if (!(decide (0 ≤ n) && decide (n < 86400))) = true then .err 2 else .ok (.str (SX.S (timeL n)))
def fToldTime : List V → Option Rs
  | [.int n] => some (mToldTime n)
  | _ => none
theorem dot_S : ("." : Str) = SX.S [46] := by decide +kernel
section
variable {P : Program} {w : World} {K : PySem.W.Frag} {mg : Str → Option Value} {base : Heap} {c : Nat → Addr}
theorem ok_told_time {f : Addr} {fd : FuncData} (F : Fun K "told_time" "told_time" s_told_time f fd) (C : Cal P w K mg base 2 "parts_of" (spF c fParts) []) (D : Cal P w K mg base 1 "two" (spF c fTwo) []) :
    FnOk P w K mg base (L2.CX P w) 3 f fd ["seconds"] (spF c fToldTime) := by
  refine F.okX sc_told_time (fun vs H Q E h => ?_) (fun cdv A outer s H vs Q E hr h => ?_)
  · obtain ⟨r, h, _⟩ := h
    match vs, h with
    | [.int n], _ => rfl
  · obtain ⟨r, h, o⟩ := h
    match vs, h with
    | [.int n], h =>
    obtain rfl : mToldTime n = r := Option.some.inj h
    unfold mToldTime at o
    refine ⟨_, pss_one (ps_ret (pe_join pe_str (pe_lc (own := [("part", 1)]) (g := gName 1) (tt := tYes) rfl sc_told_time.nd (pi_tup (pe_k C hr (by decide) (passE (E := E)) (pa_cons (pv 0) pa_nil)))
      (blkOk_by (own := [("part", 1)]) (N := ["seconds", "part"]) (sc := defScope s_told_time) (by decide +kernel)) (fun _ _ _ _ _ => pg_name (i := 1) sc_told_time.nd rfl (Or.inl rfl)) (fun _ _ _ _ _ => pts_nil) (fun _ _ _ _ _ => pe_k D hr (by decide) passL (pa_cons (pv 1) pa_nil))))), ?_⟩
    by_cases hc : (!(decide (0 ≤ n) && decide (n < 86400))) = true
    · rw [if_pos hc] at o
      have hf : fParts [.int n] = some (.err 2) := by
        show some (mParts n) = _
        unfold mParts
        rw [if_pos hc]
      exact ⟨⟨_, rfl⟩, er_F (by walk_at "ea") hf o _⟩
    · rw [if_neg hc] at o
      have hf : fParts [.int n] = some (.tup [.int (n / 3600), .int (n / 60 % 60), .int (n % 60)]) := by
        show some (mParts n) = _
        unfold mParts
        rw [if_neg hc]
      have hb : 0 ≤ n ∧ n < 86400 := by simpa using hc
      have ej : EvL (tLc (iTup K (tCall (spF c fParts) [] E (tCons (tVar 0) tNil))) (gName 1) tYes (tCall (spF c fTwo) [] E0 (tCons (tVar 1) tNil)) [1]) (start ["seconds", "part"] [.int n]) H
          (([twoL (n / 3600), twoL (n / 60 % 60), twoL (n % 60)].map SX.S).map V.str) := by
        refine el_mapNU (xs := [.int (n / 3600), .int (n / 60 % 60), .int (n % 60)]) (eu_F (by walk_at "ea") hf) (by show 3 ≤ 40000; decide) (fun x => rfl) rfl fun i x y H1 e1 hx hy => ?_
        have t2 : ∀ m : Int, 0 ≤ m → m < 100 → fTwo [.int m] = some (.ok (.str (SX.S (twoL m)))) := fun m h0 h1 => if_pos ⟨h0, h1⟩
        match i, hx, hy with
        | 0, hx, hy =>
          obtain rfl : V.int (n / 3600) = x := Option.some.inj hx
          obtain rfl : V.str (SX.S (twoL (n / 3600))) = y := Option.some.inj hy
          exact ev_F (vs := [.int (n / 3600)]) (by walk_at "ea") (t2 (n / 3600) (by omega) (by omega))
        | 1, hx, hy =>
          obtain rfl : V.int (n / 60 % 60) = x := Option.some.inj hx
          obtain rfl : V.str (SX.S (twoL (n / 60 % 60))) = y := Option.some.inj hy
          exact ev_F (vs := [.int (n / 60 % 60)]) (by walk_at "ea") (t2 (n / 60 % 60) (by omega) (by omega))
        | 2, hx, hy =>
          obtain rfl : V.int (n % 60) = x := Option.some.inj hx
          obtain rfl : V.str (SX.S (twoL (n % 60))) = y := Option.some.inj hy
          exact ev_F (vs := [.int (n % 60)]) (by walk_at "ea") (t2 (n % 60) (by omega) (by omega))
        | i + 3, hx, hy => simp at hx
      refine s_ret (ev_join (a := ".") ev_c ej (by show 2 + (2 + (2 + 0)) + 3 * ("." : Str).length ≤ 16777216; rw [dot_S]; decide)) fun H2 e2 => ?_
      have ej2 : Txt.join "." ([twoL (n / 3600), twoL (n / 60 % 60), twoL (n % 60)].map SX.S) = SX.S (timeL n) := by
        rw [dot_S, SX.join_S]
        rfl
      rw [ej2]
      exact o H2 e2
end
end Rw
namespace Rw
open PySem PySem.Spec PyProof.Rows L2 Evl
local macro_rules | `(tactic| walk_at "sq") => `(tactic| first | assumption | exact SqL.of (by assumption) | exact SqT.of (by assumption))
local macro_rules | `(tactic| walk_at "at") => `(tactic| first | exact atI_nat (j := 0) rfl | exact atI_nat (j := 1) rfl | exact atI_nat (j := 2) rfl | exact atI_nat (j := 3) rfl)
local macro_rules | `(tactic| walk_at "rv") => `(tactic| first
  | with_reducible exact rv_I0
  | ((with_reducible refine' rv_I ?k1); (case k1 => first | (show (0 : Int) < _; omega) | exact ⟨by omega, by omega⟩ | exact .inr ⟨by omega, by omega⟩ | exact .inl ⟨by omega, by omega⟩ | exact ⟨by decide, by decide, by decide⟩))
  | ((with_reducible refine' rv_eq ?k1); (case k1 => exact rfl))
  | ((with_reducible refine' rv_ne ?k1); (case k1 => exact rfl))
  | (refine' rv_ixL ?k1 ?k2; (case k1 => walk_at "sq"); (case k2 => walk_at "at"))
  | (refine' rv_ixT ?k1 ?k2; (case k1 => walk_at "sq"); (case k2 => walk_at "at")))
local macro_rules | `(tactic| walk_at "rc") => `(tactic| first | exact rc_int1 | exact rc_int1b | exact rc_abs)
local macro_rules | `(tactic| walk_at "ea") => `(tactic| first
  | with_reducible exact ea_nil
  | ((with_reducible refine' ea_cons ?k1 ?k2); (case k1 => walk_at "ev"); (case k2 => walk_at "ea")))
local macro_rules | `(tactic| walk_at "ev") => `(tactic| first
  | with_reducible exact ev_c
  | ((with_reducible refine' ev_var ?k1); (case k1 => exact rfl))
  | ((with_reducible refine' ev_op ?k1 ?k2 ?k3); (case k1 => walk_at "ev"); (case k2 => walk_at "ev"); (case k3 => walk_at "rv"))
  | ((with_reducible refine' et_chain ?k1 ?k2 ?k3 ?k4 ?k5); (case k1 => walk_at "ev"); (case k2 => walk_at "ev"); (case k3 => (intro _; walk_at "ev")); (case k4 => walk_at "rv"); (case k5 => (intro _; walk_at "rv")))
  | ((with_reducible refine' ev_cb ?k1 ?k2); (case k1 => walk_at "ea"); (case k2 => walk_at "rc")))
local macro_rules | `(tactic| walk_at "et") => `(tactic| first
  | ((with_reducible refine' et_test ?k1); (case k1 => walk_at "ev"))
  | ((with_reducible refine' et_B ?k1); (case k1 => walk_at "ev"))
  | ((with_reducible refine' et_and ?k1 ?k2); (case k1 => walk_at "et"); (case k2 => (intro _; walk_at "et")))
  | ((with_reducible refine' et_or ?k1 ?k2); (case k1 => walk_at "et"); (case k2 => (intro _; walk_at "et")))
  | ((with_reducible refine' et_not ?k1); (case k1 => walk_at "et")))
local macro_rules | `(tactic| walk_at "ff") => `(tactic| first | exact rfl | assumption)
local macro_rules | `(tactic| walk_at "ev") => `(tactic| first
  | with_reducible exact ev_c
  | ((with_reducible refine' ev_var ?k1); (case k1 => exact rfl))
  | ((with_reducible refine' ev_op ?k1 ?k2 ?k3); (case k1 => walk_at "ev"); (case k2 => walk_at "ev"); (case k3 => walk_at "rv"))
  | ((with_reducible refine' et_chain ?k1 ?k2 ?k3 ?k4 ?k5); (case k1 => walk_at "ev"); (case k2 => walk_at "ev"); (case k3 => (intro _; walk_at "ev")); (case k4 => walk_at "rv"); (case k5 => (intro _; walk_at "rv")))
  | ((with_reducible refine' ev_cb ?k1 ?k2); (case k1 => walk_at "ea"); (case k2 => walk_at "rc"))
  | ((with_reducible refine' ev_F ?k1 ?k2); (case k1 => walk_at "ea"); (case k2 => walk_at "ff"))
  | ((with_reducible refine' ev_two ?k1 ?k2 ?k3); (case k1 => walk_at "ev"); (case k2 => omega); (case k3 => omega)))
local macro_rules | `(tactic| walk_at "ev2") => `(tactic| first
  | ((with_reducible refine' ev_lenS ?k1 ?k2); (case k1 => walk_at "ev2"); (case k2 => (rw [SX.S_len]; omega)))
  | walk_at "ev")

/-! ### a time read -/
def badW (w : List Nat) : Bool := !decide (w.length = 2) || !(w.all isDig)
def dotW (l : List Nat) : List (List Nat) := TL.spl [46] 0 [] l
def numW (w : List Nat) : Int := (NumText.digitsVal w : Nat)
def mReadTime (l : List Nat) : Rs :=
  if ((!decide ((dotW l).length = 2 ∨ (dotW l).length = 3)) || (dotW l).any badW) = true then .err 7
  else mTimeOf (((dotW l).map numW ++ [0]).getD 0 0) (((dotW l).map numW ++ [0]).getD 1 0) (((dotW l).map numW ++ [0]).getD 2 0)
def fReadTime : List V → Option Rs
  | [.str z] => if z.length ≤ 1000 then some (mReadTime z.cps.toList) else none
  | _ => none
theorem dotW_len (l : List Nat) : (dotW l).length ≤ l.length + 1 := by
  have go : ∀ (l acc : List Nat) (k : Nat), (TL.spl [46] k acc l).length ≤ l.length + 1 := by
    intro l
    induction l with
    | nil =>
      intro acc k
      rw [TL.spl_nil]
      exact Nat.le_refl _
    | cons a r ih =>
      intro acc k
      cases k with
      | zero =>
        by_cases h : TL.pre [46] (a :: r) = true
        · rw [TL.spl_hit h, List.length_cons, List.length_cons]
          exact Nat.succ_le_succ (ih _ _)
        · rw [TL.spl_miss (by simpa using h), List.length_cons]
          exact Nat.le_succ_of_le (ih _ _)
      | succ k =>
        show (TL.spl [46] k acc r).length ≤ _
        rw [List.length_cons]
        exact Nat.le_succ_of_le (ih _ _)
  exact go l [] 0
theorem dotW_mem (l : List Nat) : ∀ w ∈ dotW l, w.length ≤ l.length := by
  have go : ∀ (l acc : List Nat) (k : Nat), ∀ w ∈ TL.spl [46] k acc l, w.length ≤ acc.length + l.length := by
    intro l
    induction l with
    | nil =>
      intro acc k w hw
      rw [TL.spl_nil, List.mem_singleton] at hw
      rw [hw]
      exact Nat.le_refl _
    | cons a r ih =>
      intro acc k w hw
      cases k with
      | zero =>
        by_cases h : TL.pre [46] (a :: r) = true
        · rw [TL.spl_hit h, List.mem_cons] at hw
          rw [List.length_cons]
          rcases hw with rfl | hw
          · omega
          · have q := ih _ _ w hw
            have z : ([] : List Nat).length = 0 := rfl
            omega
        · rw [TL.spl_miss (by simpa using h)] at hw
          have q := ih _ _ w hw
          rw [List.length_append] at q
          have z : ([a] : List Nat).length = 1 := rfl
          rw [List.length_cons]
          omega
      | succ k =>
        have hw : w ∈ TL.spl [46] k acc r := hw
        have q := ih _ _ w hw
        rw [List.length_cons]
        omega
  intro w hw
  have q := go l [] 0 w hw
  simpa using q
section
variable {P : Program} {w : World} {K : PySem.W.Frag} {mg : Str → Option Value} {base : Heap} {c : Nat → Addr}
theorem ok_read_time {f : Addr} {fd : FuncData} (F : Fun K "read_time" "read_time" s_read_time f fd) (T : Txt K mg base c) (C : Cal P w K mg base 1 "time_of" (spF c fTimeOf) []) :
    FnOk P w K mg base (L2.CX P w) 2 f fd ["text"] (spF c fReadTime) := by
  refine F.okX sc_read_time (fun vs H Q E h => ?_) (fun cdv A outer s H vs Q E hr h => ?_)
  · obtain ⟨r, h, _⟩ := h
    match vs, h with
    | [.str n], _ => rfl
  · obtain ⟨r, h, o⟩ := h
    match vs, h with
    | [.str z], h =>
    have h : (if z.length ≤ 1000 then some (mReadTime z.cps.toList) else none) = some r := h
    obtain ⟨l, rfl⟩ : ∃ l, z = SX.S l := ⟨z.cps.toList, (SX.S_tl z).symm⟩
    by_cases hz : (SX.S l).length ≤ 1000
    · rw [if_pos hz] at h
      rw [SX.S_len] at hz
      obtain rfl : mReadTime l = r := Option.some.inj h
      refine ⟨_, pss_cons (ps_set (i := 1) sc_read_time.nd rfl (.inl rfl) (pe_split (pv 0) pe_str))
        (pss_cons (ps_if (PW.pt (pw_or (pt_cmpR op_notIn_seq (pe_callB call_len_seq (by rfl) T.len (by decide +kernel) (pa_cons (pv 1) pa_nil)) (pe_tup (pa_cons pe_int (pa_cons pe_int pa_nil))) (by with_unfolding_all rfl))
            (pw_or1 (pt_val (pe_callB (cr_any rfl) (by rfl) T.any (by decide +kernel) (pa_cons (pe_lc (own := [("word", 2)]) (g := gName 2) (tt := tYes) rfl sc_read_time.nd (pi_list (pv 1)) (blkOk_by (own := [("word", 2)]) (N := ["text", "words", "word", "numbers"]) (sc := defScope s_read_time) (by decide +kernel))
              (fun _ _ _ _ _ => pg_name (i := 2) sc_read_time.nd rfl (Or.inl rfl)) (fun _ _ _ _ _ => pts_nil)
              (fun _ _ _ _ _ => pe_or (pe_cmpR op_ne (pe_callB call_len_str (by rfl) T.len (by decide +kernel) (pa_cons (pv 2) pa_nil)) pe_int (nomark _)) (pe_one (pe_cmpR op_ne (pe_m1 PySem.F.slot_str_strip PySem.F.type_str_strip mt_stripChars (pv 2) (pe_str_glob T.fig)) pe_str (nomark _))))) pa_nil))))))
            (pss_one (ps_raiseX (T.ex.e 7 (by decide)))) pss_nil)
        (pss_cons (ps_set (i := 3) sc_read_time.nd rfl (.inl rfl) (pe_op op_cat (pe_lc (own := [("word", 2)]) (g := gName 2) (tt := tYes) rfl sc_read_time.nd (pi_list (pv 1)) (blkOk_by (own := [("word", 2)]) (N := ["text", "words", "word", "numbers"]) (sc := defScope s_read_time) (by decide +kernel))
              (fun _ _ _ _ _ => pg_name (i := 2) sc_read_time.nd rfl (Or.inl rfl)) (fun _ _ _ _ _ => pts_nil) (fun _ _ _ _ _ => pe_callTy call_int_str (by rfl) T.int (by decide +kernel) (pa_cons (pv 2) pa_nil))) (pe_lst (pa_cons pe_int pa_nil))))
        (pss_one (ps_ret (pe_k C hr (by decide) (passE (E := E)) (pa_cons (pe_ix ix_list (pv 3) pe_int (fun _ _ => rfl)) (pa_cons (pe_ix ix_list (pv 3) pe_int (fun _ _ => rfl)) (pa_cons (pe_ix ix_list (pv 3) pe_int (fun _ _ => rfl)) pa_nil)))))))), ?_⟩
      have es : Txt.split (SX.S l) "." = (dotW l).map SX.S := by
        rw [dot_S]
        exact SX.split_S (by decide) (by decide)
      have wl : (dotW l).length ≤ 1001 := Nat.le_trans (dotW_len l) (by omega)
      refine q_asgL (el_split (a := SX.S l) (b := ".") (ev_var rfl) ev_c (by decide) (by rw [SX.S_len]; omega)) fun p H1 hp e1 h1 => ?_
      rw [es] at h1
      have g1 : SqL K H1 p (((dotW l).map SX.S).map V.str) := SqL.of h1
      have item : ∀ (i : Nat) (x : V), (((dotW l).map SX.S).map V.str)[i]? = some x → ∃ wd, (dotW l)[i]? = some wd ∧ x = .str (SX.S wd) ∧ wd.length ≤ 1000 := fun i x hx => by
        rw [List.getElem?_map, List.getElem?_map] at hx
        cases e : (dotW l)[i]? with
        | none =>
          rw [e] at hx
          cases hx
        | some wd =>
          rw [e] at hx
          exact ⟨wd, rfl, (Option.some.inj hx).symm, Nat.le_trans (dotW_mem l wd (List.mem_of_getElem? e)) hz⟩
      unfold mReadTime at o
      refine q_when (b := (!decide ((dotW l).length = 2 ∨ (dotW l).length = 3)) || (dotW l).any badW) ?_ (fun hb H2 e2 => ?_) (fun hb H2 e2 => ?_)
      · refine et_or (et_is (et_test (ev_niU (ev_lenL (ev_var rfl) g1) (eu_tup (by walk_at "ea") (by show 2 ≤ 100000; decide)) rfl rfl)) ?_) fun _ => et_is (et_B (ev_anyN (bs := (dotW l).map badW) ?_)) ?_
        · rw [List.length_map, List.length_map]
          show (!inV (.int ((dotW l).length : Nat)) [.int 2, .int 3]) = _
          refine congrArg not ?_
          unfold inV
          rw [Bool.eq_iff_iff]
          simp [eqV]
          omega
        · refine el_mapL (ev_var rfl) g1 (by rw [List.length_map, List.length_map]; omega) (fun x => rfl) (by rw [List.length_map, List.length_map, List.length_map, List.length_map]) fun i x y H2 e2 hx hy => ?_
          obtain ⟨wd, hw, rfl, hl⟩ := item i x hx
          rw [List.getElem?_map, List.getElem?_map, hw] at hy
          obtain rfl : V.bl (badW wd) = y := Option.some.inj hy
          refine ev_is (ev_orV (a := !decide (wd.length = 2)) (b := !(wd.all isDig)) ?_ fun _ => ?_) rfl
          · refine ev_is (ev_op (ev_lenS (z := SX.S wd) (ev_var rfl) (by rw [SX.S_len]; omega)) ev_c (rv_ne rfl)) ?_
            rw [SX.S_len]
            refine congrArg V.bl (congrArg not (decide_eq_decide.mpr ?_))
            constructor
            · intro z
              injection z with z
              exact Int.ofNat.inj z
            · intro z
              rw [z]
              rfl
          · refine ev_is (ev_op (ev_strip (a := SX.S wd) (ev_var rfl) ev_c (by rw [SX.S_len]; omega)) ev_c (rv_ne rfl)) ?_
            refine congrArg V.bl (congrArg not ?_)
            rw [Bool.eq_iff_iff, decide_eq_true_eq, ← strip_S]
            exact ⟨fun z => by injection z, fun z => by rw [z]⟩
        · rw [List.any_map]
          rfl
      · rw [if_pos hb] at o
        exact o H2 (e1.trans e2)
      · rw [if_neg (by rw [hb]; decide)] at o
        rw [Bool.or_eq_false_iff, Bool.not_eq_false', decide_eq_true_eq] at hb
        obtain ⟨hlen, hbad⟩ := hb
        have good : ∀ wd ∈ dotW l, wd.length = 2 ∧ wd.all isDig = true := fun wd hm => by
          have z := List.any_eq_false.mp hbad wd hm
          unfold badW at z
          simpa using z
        have g2 := ex_l e2 g1
        refine q_asgL (xs := ((dotW l).map numW ++ [0]).map V.int) ?_ fun p3 H3 hp3 e3 h3 => ?_
        · rw [List.map_append, List.map_map]
          refine el_cat (el_mapL (ev_var rfl) g2 (by rw [List.length_map, List.length_map]; omega) (fun x => rfl) (by rw [List.length_map, List.length_map, List.length_map]) fun i x y H4 e4 hx hy => ?_) (el_lst (vs := [.int 0]) (ea_cons ev_c ea_nil) (by show 1 ≤ 100000; decide)) (by rw [List.length_map]; show _ + 1 ≤ _; omega)
          obtain ⟨wd, hw, rfl, hl⟩ := item i x hx
          rw [List.getElem?_map, hw] at hy
          obtain rfl : V.int (numW wd) = y := Option.some.inj hy
          obtain ⟨g3, g4⟩ := good wd (List.mem_of_getElem? hw)
          exact ev_intS (z := SX.S wd) (ev_var rfl) (SX.int_S g4 (fun z => by rw [z] at g3; cases g3) (by omega)) (by rw [SX.S_len]; omega)
        · have g3 : SqL K H3 p3 (((dotW l).map numW ++ [0]).map V.int) := SqL.of h3
          have n3 : 2 < ((dotW l).map numW ++ [0]).length := by
            rw [List.length_append, List.length_map]
            show 2 < _ + 1
            omega
          refine s_retF (ea_cons (ev_op (ev_var rfl) ev_c (rv_ixL g3 (at_map (i := 0) (by omega)))) (ea_cons (ev_op (ev_var rfl) ev_c (rv_ixL g3 (at_map (i := 1) (by omega)))) (ea_cons (ev_op (ev_var rfl) ev_c (rv_ixL g3 (at_map (i := 2) (by omega)))) ea_nil))) rfl (o.mono ((e1.trans e2).trans e3)) rfl
    · rw [if_neg hz] at h
      cases h
end
end Rw
namespace Rw
open PySem PySem.Spec PyProof.Rows L2 Evl
local macro_rules | `(tactic| walk_at "sq") => `(tactic| first | assumption | exact SqL.of (by assumption) | exact SqT.of (by assumption))
local macro_rules | `(tactic| walk_at "at") => `(tactic| first | exact atI_nat (j := 0) rfl | exact atI_nat (j := 1) rfl | exact atI_nat (j := 2) rfl | exact atI_nat (j := 3) rfl)
local macro_rules | `(tactic| walk_at "rv") => `(tactic| first
  | with_reducible exact rv_I0
  | ((with_reducible refine' rv_I ?k1); (case k1 => first | (show (0 : Int) < _; omega) | exact ⟨by omega, by omega⟩ | exact .inr ⟨by omega, by omega⟩ | exact .inl ⟨by omega, by omega⟩ | exact ⟨by decide, by decide, by decide⟩))
  | ((with_reducible refine' rv_eq ?k1); (case k1 => exact rfl))
  | ((with_reducible refine' rv_ne ?k1); (case k1 => exact rfl))
  | (refine' rv_ixL ?k1 ?k2; (case k1 => walk_at "sq"); (case k2 => walk_at "at"))
  | (refine' rv_ixT ?k1 ?k2; (case k1 => walk_at "sq"); (case k2 => walk_at "at")))
local macro_rules | `(tactic| walk_at "rc") => `(tactic| first | exact rc_int1 | exact rc_int1b | exact rc_abs)
local macro_rules | `(tactic| walk_at "ea") => `(tactic| first
  | with_reducible exact ea_nil
  | ((with_reducible refine' ea_cons ?k1 ?k2); (case k1 => walk_at "ev"); (case k2 => walk_at "ea")))
local macro_rules | `(tactic| walk_at "ev") => `(tactic| first
  | with_reducible exact ev_c
  | ((with_reducible refine' ev_var ?k1); (case k1 => exact rfl))
  | ((with_reducible refine' ev_op ?k1 ?k2 ?k3); (case k1 => walk_at "ev"); (case k2 => walk_at "ev"); (case k3 => walk_at "rv"))
  | ((with_reducible refine' et_chain ?k1 ?k2 ?k3 ?k4 ?k5); (case k1 => walk_at "ev"); (case k2 => walk_at "ev"); (case k3 => (intro _; walk_at "ev")); (case k4 => walk_at "rv"); (case k5 => (intro _; walk_at "rv")))
  | ((with_reducible refine' ev_cb ?k1 ?k2); (case k1 => walk_at "ea"); (case k2 => walk_at "rc")))
local macro_rules | `(tactic| walk_at "et") => `(tactic| first
  | ((with_reducible refine' et_test ?k1); (case k1 => walk_at "ev"))
  | ((with_reducible refine' et_B ?k1); (case k1 => walk_at "ev"))
  | ((with_reducible refine' et_and ?k1 ?k2); (case k1 => walk_at "et"); (case k2 => (intro _; walk_at "et")))
  | ((with_reducible refine' et_or ?k1 ?k2); (case k1 => walk_at "et"); (case k2 => (intro _; walk_at "et")))
  | ((with_reducible refine' et_not ?k1); (case k1 => walk_at "et")))
local macro_rules | `(tactic| walk_at "ff") => `(tactic| first | exact rfl | assumption)
local macro_rules | `(tactic| walk_at "ev") => `(tactic| first
  | with_reducible exact ev_c
  | ((with_reducible refine' ev_var ?k1); (case k1 => exact rfl))
  | ((with_reducible refine' ev_op ?k1 ?k2 ?k3); (case k1 => walk_at "ev"); (case k2 => walk_at "ev"); (case k3 => walk_at "rv"))
  | ((with_reducible refine' et_chain ?k1 ?k2 ?k3 ?k4 ?k5); (case k1 => walk_at "ev"); (case k2 => walk_at "ev"); (case k3 => (intro _; walk_at "ev")); (case k4 => walk_at "rv"); (case k5 => (intro _; walk_at "rv")))
  | ((with_reducible refine' ev_cb ?k1 ?k2); (case k1 => walk_at "ea"); (case k2 => walk_at "rc"))
  | ((with_reducible refine' ev_F ?k1 ?k2); (case k1 => walk_at "ea"); (case k2 => walk_at "ff"))
  | ((with_reducible refine' ev_two ?k1 ?k2 ?k3); (case k1 => walk_at "ev"); (case k2 => omega); (case k3 => omega)))

/-! ### rounded -/
def mRounded (s t : Int) : Rs := if t < 1 then .err 2 else .ok (.int ((2 * s + t) / (2 * t) * t))
def fRounded : List V → Option Rs
  | [.int s, .int t] => if t < 100000 ∧ s.natAbs < 1000000 then some (mRounded s t) else none
  | _ => none
/-! ### a length told -/
def mToldLen (s : Int) : Rs := if s < 0 then .err 2 else .ok (.str (SX.S (tlText s.toNat)))
def fToldLen : List V → Option Rs
  | [.int s] => if s < 1000000 then some (mToldLen s) else none
  | _ => none
/-! ### a length read -/
def fReadLen : List V → Option Rs
  | [.str z] => if z.length ≤ 1000 then some (mReadLen z.cps.toList) else none
  | _ => none
theorem tlWords_cons (u : Nat × Nat) (l : List (Nat × Nat)) (s : Nat) : tlWords (u :: l) s = if u.2 ≤ s then (TL.numL (s / u.2) ++ [u.1]) :: tlWords l (s % u.2) else tlWords l s := by
  obtain ⟨a, z⟩ := u
  rfl
theorem tl_count (s : Nat) : (tlWords tlUnits s).length ≤ 4 := by
  rw [tlText_units]
  simp only [List.length_append]
  split <;> split <;> split <;> split <;> simp
theorem tl_len : ∀ (r : List (Nat × Nat)) (s : Nat), s < 1000000 → ∀ w ∈ tlWords r s, w.length ≤ 7
  | [], _, _, w, h => by cases h
  | u :: r, s, hs, w, h => by
    rw [tlWords_cons] at h
    have ln : (TL.numL (s / u.2)).length ≤ 6 := TL.numL_len (by decide) (by show s / u.2 < 1000000; exact Nat.lt_of_le_of_lt (Nat.div_le_self _ _) hs)
    split at h
    · rcases List.mem_cons.mp h with rfl | h
      · rw [List.length_append]
        show _ + 1 ≤ 7
        omega
      · exact tl_len r _ (Nat.lt_of_le_of_lt (Nat.mod_le _ _) hs) w h
    · exact tl_len r s hs w h
theorem sum_le {k : Nat} : ∀ (l : List Nat), (∀ x ∈ l, x ≤ k) → l.sum ≤ l.length * k
  | [], _ => Nat.zero_le _
  | a :: l, h => by
    have g := sum_le l fun x hx => h x (List.mem_cons_of_mem _ hx)
    have q := h a List.mem_cons_self
    rw [List.sum_cons, List.length_cons, Nat.succ_mul]
    omega
theorem tl_sum (s : Nat) (hs : s < 1000000) : (((tlWords tlUnits s).map SX.S).map (·.length)).sum + ((tlWords tlUnits s).map SX.S).length * ("" : Str).length ≤ 16777216 := by
  have g := sum_le (k := 7) (((tlWords tlUnits s).map SX.S).map (·.length)) fun x hx => by
    rw [List.map_map] at hx
    obtain ⟨w, hw, rfl⟩ := List.mem_map.mp hx
    show (SX.S w).length ≤ 7
    rw [SX.S_len]
    exact tl_len _ _ hs w hw
  have z : ("" : Str).length = 0 := by decide +kernel
  have n := tl_count s
  rw [z, Nat.mul_zero]
  rw [List.length_map, List.length_map] at g
  omega
theorem small_log (n : Int) (h : n.natAbs < 1000000) : n.natAbs.log2 < 1920 := Nat.lt_of_lt_of_le (PySem.Flt.log2_lt_of (k := 20) (by decide) (Nat.lt_of_lt_of_le h (by decide))) (by decide)

section
variable {P : Program} {w : World} {K : PySem.W.Frag} {mg : Str → Option Value} {base : Heap} {c : Nat → Addr}
theorem ok_rounded {f : Addr} {fd : FuncData} (F : Fun K "rounded" "rounded" s_rounded f fd) (T : Txt K mg base c) : FnOk P w K mg base (L2.CX P w) 1 f fd ["seconds", "step"] (spF c fRounded) := by
  refine F.okX sc_rounded (fun vs H Q E h => ?_) (fun cdv A outer s H vs Q E hr h => ?_)
  · obtain ⟨r, h, _⟩ := h
    match vs, h with
    | [.int m, .int n], _ => rfl
  · obtain ⟨r, h, o⟩ := h
    match vs, h with
    | [.int m, .int n], h =>
    have h : (if n < 100000 ∧ m.natAbs < 1000000 then some (mRounded m n) else none) = some r := h
    by_cases hn : n < 100000 ∧ m.natAbs < 1000000
    · rw [if_pos hn] at h
      obtain rfl : mRounded m n = r := Option.some.inj h
      obtain ⟨hn, hm⟩ := hn
      unfold mRounded at o
      refine ⟨_, pss_cons (ps_if (pt_cmpR op_lt (pv 1) pe_int (nomark _)) (pss_one (ps_raiseX (T.ex.e 2 (by decide)))) pss_nil)
        (pss_one (ps_ret (pe_op op_mul (pe_op op_fdiv (pe_op op_add (pe_op op_mul pe_int (pv 0)) (pv 1)) (pe_op op_mul pe_int (pv 1))) (pv 1)))), ?_⟩
      refine q_when (b := decide (n < 1)) (by walk_at "et") (fun hb H1 e1 => ?_) (fun hb H1 e1 => ?_)
      · rw [if_pos (of_decide_eq_true hb)] at o
        exact o H1 e1
      · have hb := of_decide_eq_false hb
        rw [if_neg hb] at o
        exact s_ret (by walk_at "ev") fun H2 e2 => o H2 (e1.trans e2)
    · rw [if_neg hn] at h
      cases h
theorem ok_told_length {f : Addr} {fd : FuncData} (F : Fun K "told_length" "told_length" s_told_length f fd) (T : Txt K mg base c) : FnOk P w K mg base (L2.CX P w) 1 f fd ["seconds"] (spF c fToldLen) := by
  refine F.okX sc_told_length (fun vs H Q E h => ?_) (fun cdv A outer s H vs Q E hr h => ?_)
  · obtain ⟨r, h, _⟩ := h
    match vs, h with
    | [.int m], _ => rfl
  · obtain ⟨r, h, o⟩ := h
    match vs, h with
    | [.int m], h =>
    have h : (if m < 1000000 then some (mToldLen m) else none) = some r := h
    by_cases hm : m < 1000000
    · rw [if_pos hm] at h
      obtain rfl : mToldLen m = r := Option.some.inj h
      unfold mToldLen at o
      obtain ⟨aS, gS, hS⟩ := T.siz
      refine ⟨_, pss_cons (ps_if (pt_cmpR op_lt (pv 0) pe_int (nomark _)) (pss_one (ps_raiseX (T.ex.e 2 (by decide)))) pss_nil)
        (pss_cons (ps_if (pt_cmpR op_eq (pv 0) pe_int (nomark _)) (pss_one (ps_ret pe_str)) pss_nil)
        (pss_cons (ps_set (i := 1) sc_told_length.nd rfl (.inl rfl) (pe_lst pa_nil))
        (pss_cons (ps_set (i := 2) sc_told_length.nd rfl (.inl rfl) (pv 0))
        (pss_cons (ps_for (passes_of rfl) rfl (pi_zipST T.zip (pa_cons (pe_str_glob T.let_) (pa_cons (pe_glob (v := .ref aS) rfl gS rfl) pa_nil)))
            (pg_tup rfl (pgs_cons (pg_name (i := 3) sc_told_length.nd rfl (.inl rfl)) (pgs_cons (pg_name (i := 4) sc_told_length.nd rfl (.inl rfl)) pgs_nil)))
            (pss_one (ps_if (pt_cmpR op_ge (pv 2) (pv 4) (nomark _))
              (pss_cons (ps_expr (pe_bm PySem.F.plainAttrs_list PySem.F.slot_list_append PySem.F.type_list_append mt_append (pv 1) (pa_cons (pe_joined (.cons (pe_fmt (pe_op op_fdiv (pv 2) (pv 4))) (.cons (pe_fmt (pv 3)) .nil))) pa_nil)))
              (pss_one (ps_set (i := 2) sc_told_length.nd rfl (.inl rfl) (pe_op op_mod (pv 2) (pv 4))))) pss_nil)))
        (pss_one (ps_ret (pe_join pe_str (pv 1)))))))), ?_⟩
      have hS := fun H => hS H
      refine q_when (b := decide (m < 0)) (by walk_at "et") (fun hb H1 e1 => ?_) (fun hb H1 e1 => ?_)
      · rw [if_pos (of_decide_eq_true hb)] at o
        exact o H1 e1
      have hb := of_decide_eq_false hb
      rw [if_neg hb] at o
      refine q_when (b := decide (V.int m = V.int 0)) (by walk_at "et") (fun hc H2 e2 => ?_) (fun hc H2 e2 => ?_)
      · have hc : V.int m = V.int 0 := of_decide_eq_true hc
        obtain rfl : m = 0 := by injection hc
        refine s_ret (v := .str "0s") ev_c fun H3 e3 => ?_
        exact o H3 ((e1.trans e2).trans e3)
      have hm0 : ¬ m = 0 := fun z => by
        rw [z] at hc
        simp at hc
      obtain ⟨s, rfl⟩ : ∃ s : Nat, m = (s : Int) := ⟨m.toNat, by omega⟩
      have hs6 : s < 1000000 := by omega
      rw [Int.toNat_natCast, show tlText s = (tlWords tlUnits s).flatten by unfold tlText; rw [if_neg (by omega)]] at o
      refine q_asgL (el_lst (vs := []) (by walk_at "ea") (by show 0 ≤ 100000; decide)) fun p H3 hp e3 h3 => ?_
      have hpH : H p = none := fresh_back (e1.trans e2) hp
      have e03 : Ex H H3 := (e1.trans e2).trans e3
      refine q_asg (v := .int (s : Int)) (ev_var rfl) fun H4 e4 => ?_
      refine q_forZ (z := "dhms") (b := aS) (ys := [.int 86400, .int 3600, .int 60, .int 1]) (ea_cons ev_c (ea_cons ev_c ea_nil)) (hS H4) (by decide +kernel)
        (fun i σ' H' => ∃ (ws : List (List Nat)) (r : Nat) (l4 l5 : Option V), σ' = [some (.int (s : Int)), some (.ref p), some (.int (r : Int)), l4, l5] ∧ Ex H H' ∧ H' p = some (.lst ((ws.map SX.S).map V.str)) ∧ ws ++ tlWords (tlUnits.drop i) r = tlWords tlUnits s ∧ r < 1000000)
        (fun H5 e5 => ⟨[], s, none, none, rfl, e03.trans (e4.trans e5), e5 _ _ (e4 _ _ h3), rfl, hs6⟩) (fun n σ' H' _ => hS H') (fun n cc y T' σ' H' hc hy hP hT => ?_) (fun σ' H' hP => ?_)
      · obtain ⟨ws, r, l4, l5, rfl, eH, hp', hw, hr6⟩ := hP
        obtain ⟨u, hu, rfl, rfl⟩ : ∃ u : Nat × Nat, tlUnits[n]? = some u ∧ cc = u.1 ∧ y = .int (u.2 : Nat) := by
          have hc : (#[100, 104, 109, 115] : Array Nat)[n]? = some cc := hc
          match n, hc, hy with
          | 0, hc, hy => exact ⟨_, rfl, (Option.some.inj hc).symm, (Option.some.inj hy).symm⟩
          | 1, hc, hy => exact ⟨_, rfl, (Option.some.inj hc).symm, (Option.some.inj hy).symm⟩
          | 2, hc, hy => exact ⟨_, rfl, (Option.some.inj hc).symm, (Option.some.inj hy).symm⟩
          | 3, hc, hy => exact ⟨_, rfl, (Option.some.inj hc).symm, (Option.some.inj hy).symm⟩
          | n + 4, hc, hy => simp at hy
        have hu0 : 0 < u.2 := by
          have hm := List.mem_of_getElem? hu
          exact (by decide : ∀ q ∈ tlUnits, 0 < q.2) u hm
        have hu1 : u.2 < 1000000 := by
          have hm := List.mem_of_getElem? hu
          exact (by decide : ∀ q ∈ tlUnits, q.2 < 1000000) u hm
        have hn4 : n < 4 := (List.getElem?_eq_some_iff.mp hu).1
        have hdrop : tlUnits.drop n = u :: tlUnits.drop (n + 1) := by
          rw [List.drop_eq_getElem_cons (by exact hn4)]
          rw [List.getElem?_eq_getElem (by exact hn4)] at hu
          rw [Option.some.inj hu]
        rw [hdrop] at hw
        have npT : p ≠ T' := ne_of_none hp' hT
        have eT : Ex H (upd H' T' (.tup [.str ⟨#[u.1]⟩, .int (u.2 : Nat)])) := eH.trans (Ex.new hT)
        have hpT : upd H' T' (.tup [.str ⟨#[u.1]⟩, .int (u.2 : Nat)]) p = some (.lst ((ws.map SX.S).map V.str)) := by rw [upd_ne npT]; exact hp'
        generalize upd H' T' (.tup [.str ⟨#[u.1]⟩, .int (u.2 : Nat)]) = HT at eT hpT
        rw [tlWords_cons] at hw
        refine s_when (b := decide ((r : Int) ≥ ((u.2 : Nat) : Int))) (by walk_at "et") (fun hb2 H5 e5 => ?_) (fun hb2 H5 e5 => ?_)
        · have hb2 : (r : Int) ≥ ((u.2 : Nat) : Int) := of_decide_eq_true hb2
          have hle : u.2 ≤ r := by omega
          rw [if_pos hle] at hw
          have wl : ws.length < 100000 := by
            have q := congrArg List.length hw
            rw [List.length_append] at q
            have q3 := tl_count s
            omega
          have ln : (TL.numL (r / u.2)).length ≤ 6 := TL.numL_len (by decide) (by show r / u.2 < 1000000; exact Nat.lt_of_le_of_lt (Nat.div_le_self _ _) hr6)
          have es : Str.ofString (toString ((r / u.2 : Nat) : Int)) ++ (⟨#[u.1]⟩ : Str) = SX.S (TL.numL (r / u.2) ++ [u.1]) := by
            rw [SX.num_S, show (⟨#[u.1]⟩ : Str) = SX.S [u.1] from rfl, SX.S_cat]
          refine q_app (e5 _ _ hpT) (ev_var rfl) (v := .str (SX.S (TL.numL (r / u.2) ++ [u.1]))) ?_ (by rw [List.length_map, List.length_map]; exact wl) fun H6 e6 => ?_
          · have ed : (r : Int) / ((u.2 : Nat) : Int) = ((r / u.2 : Nat) : Int) := rfl
            have g := ev_js2 (σ := [some (V.int (s : Int)), some (V.ref p), some (V.int (r : Int)), some (V.str ⟨#[u.1]⟩), some (V.int ((u.2 : Nat) : Int))]) (H := H5) (t1 := tOp _ (tVar 2) (tVar 4)) (t2 := tVar 3) (n := ((r / u.2 : Nat) : Int)) (y := ⟨#[u.1]⟩) (ev_op (ev_var rfl) (ev_var rfl) (rv_I (C := CDiv) (g := fun i j => .int (i / j)) (by show CDiv _ _; unfold CDiv; omega))) (ev_var rfl) ?_ (by show 1 ≤ 1000; decide) (by rw [SX.num_S, SX.S_len]; omega)
            · rw [es] at g
              exact g
            · exact small_log _ (by show r / u.2 < 1000000; exact Nat.lt_of_le_of_lt (Nat.div_le_self _ _) hr6)
          · refine s_asg (v := .int ((r % u.2 : Nat) : Int)) (ev_op (ev_var rfl) (ev_var rfl) (rv_I (C := fun _ j => 0 < j) (g := fun i j => .int (i % j)) (i := (r : Int)) (j := ((u.2 : Nat) : Int)) (by omega))) fun H7 e7 => ?_
            have hpn : H' T' = none := hT
            refine ⟨ws ++ [TL.numL (r / u.2) ++ [u.1]], r % u.2, _, _, rfl, ?_, ?_, ?_, ?_⟩
            · exact (Ex.mut ((eT.trans e5).trans e6) hpH).trans e7
            · rw [List.map_append, List.map_append]
              exact e7 _ _ upd_same
            · rw [List.append_assoc]
              exact hw
            · exact Nat.lt_of_le_of_lt (Nat.mod_le _ _) hr6
        · have hb2 := of_decide_eq_false hb2
          rw [if_neg (by omega)] at hw
          exact ⟨ws, r, _, _, rfl, eT.trans e5, e5 _ _ hpT, hw, hr6⟩
      · obtain ⟨ws, r, l4, l5, rfl, eH, hp', hw, hr6⟩ := hP
        have hw : ws = tlWords tlUnits s := by
          rw [← hw]
          exact (List.append_nil ws).symm
        refine s_ret (v := .str (Txt.join "" (ws.map SX.S))) (ev_joinL (l := p) (zs := ws.map SX.S) ev_c (ev_var rfl) (SqL.of hp') ?_) fun H5 e5 => ?_
        · rw [hw]
          exact tl_sum s hs6
        · have ej : Txt.join "" (ws.map SX.S) = SX.S ((tlWords tlUnits s).flatten) := by
            rw [show ("" : Str) = SX.S [] by decide +kernel, SX.join_S, s_joinL_flat, hw]
          rw [ej]
          exact o H5 (eH.trans e5)
    · rw [if_neg hm] at h
      cases h
end
end Rw
namespace Rw
open PySem PySem.Spec PyProof.Rows L2 Evl
local macro_rules | `(tactic| walk_at "sq") => `(tactic| first | assumption | exact SqL.of (by assumption) | exact SqT.of (by assumption))
local macro_rules | `(tactic| walk_at "at") => `(tactic| first | exact atI_nat (j := 0) rfl | exact atI_nat (j := 1) rfl | exact atI_nat (j := 2) rfl | exact atI_nat (j := 3) rfl)
local macro_rules | `(tactic| walk_at "rv") => `(tactic| first
  | with_reducible exact rv_I0
  | ((with_reducible refine' rv_I ?k1); (case k1 => first | (show (0 : Int) < _; omega) | exact ⟨by omega, by omega⟩ | exact .inr ⟨by omega, by omega⟩ | exact .inl ⟨by omega, by omega⟩ | exact ⟨by decide, by decide, by decide⟩))
  | ((with_reducible refine' rv_eq ?k1); (case k1 => exact rfl))
  | ((with_reducible refine' rv_ne ?k1); (case k1 => exact rfl))
  | (refine' rv_ixL ?k1 ?k2; (case k1 => walk_at "sq"); (case k2 => walk_at "at"))
  | (refine' rv_ixT ?k1 ?k2; (case k1 => walk_at "sq"); (case k2 => walk_at "at")))
local macro_rules | `(tactic| walk_at "rc") => `(tactic| first | exact rc_int1 | exact rc_int1b | exact rc_abs)
local macro_rules | `(tactic| walk_at "ea") => `(tactic| first
  | with_reducible exact ea_nil
  | ((with_reducible refine' ea_cons ?k1 ?k2); (case k1 => walk_at "ev"); (case k2 => walk_at "ea")))
local macro_rules | `(tactic| walk_at "ev") => `(tactic| first
  | with_reducible exact ev_c
  | ((with_reducible refine' ev_var ?k1); (case k1 => exact rfl))
  | ((with_reducible refine' ev_op ?k1 ?k2 ?k3); (case k1 => walk_at "ev"); (case k2 => walk_at "ev"); (case k3 => walk_at "rv"))
  | ((with_reducible refine' et_chain ?k1 ?k2 ?k3 ?k4 ?k5); (case k1 => walk_at "ev"); (case k2 => walk_at "ev"); (case k3 => (intro _; walk_at "ev")); (case k4 => walk_at "rv"); (case k5 => (intro _; walk_at "rv")))
  | ((with_reducible refine' ev_cb ?k1 ?k2); (case k1 => walk_at "ea"); (case k2 => walk_at "rc")))
local macro_rules | `(tactic| walk_at "et") => `(tactic| first
  | ((with_reducible refine' et_test ?k1); (case k1 => walk_at "ev"))
  | ((with_reducible refine' et_B ?k1); (case k1 => walk_at "ev"))
  | ((with_reducible refine' et_and ?k1 ?k2); (case k1 => walk_at "et"); (case k2 => (intro _; walk_at "et")))
  | ((with_reducible refine' et_or ?k1 ?k2); (case k1 => walk_at "et"); (case k2 => (intro _; walk_at "et")))
  | ((with_reducible refine' et_not ?k1); (case k1 => walk_at "et")))
local macro_rules | `(tactic| walk_at "ff") => `(tactic| first | exact rfl | assumption)
local macro_rules | `(tactic| walk_at "ev") => `(tactic| first
  | with_reducible exact ev_c
  | ((with_reducible refine' ev_var ?k1); (case k1 => exact rfl))
  | ((with_reducible refine' ev_op ?k1 ?k2 ?k3); (case k1 => walk_at "ev"); (case k2 => walk_at "ev"); (case k3 => walk_at "rv"))
  | ((with_reducible refine' et_chain ?k1 ?k2 ?k3 ?k4 ?k5); (case k1 => walk_at "ev"); (case k2 => walk_at "ev"); (case k3 => (intro _; walk_at "ev")); (case k4 => walk_at "rv"); (case k5 => (intro _; walk_at "rv")))
  | ((with_reducible refine' ev_cb ?k1 ?k2); (case k1 => walk_at "ea"); (case k2 => walk_at "rc"))
  | ((with_reducible refine' ev_F ?k1 ?k2); (case k1 => walk_at "ea"); (case k2 => walk_at "ff"))
  | ((with_reducible refine' ev_two ?k1 ?k2 ?k3); (case k1 => walk_at "ev"); (case k2 => omega); (case k3 => omega)))

section
variable {P : Program} {w : World} {K : PySem.W.Frag} {mg : Str → Option Value} {base : Heap} {c : Nat → Addr}
theorem nil_S : ("" : Str) = SX.S [] := by decide +kernel
theorem eq_S (l m : List Nat) : decide (V.str (SX.S l) = V.str (SX.S m)) = decide (l = m) := decide_eq_decide.mpr ⟨fun z => SX.S_inj (by injection z), fun z => by rw [z]⟩
theorem log_small {n k : Nat} (hk : 0 < k) (h : n < 2 ^ k) (h2 : k ≤ 1920) : ((n : Nat) : Int).natAbs.log2 < 1920 := Nat.lt_of_lt_of_le (PySem.Flt.log2_lt_of (k := k) hk h) h2
theorem val_lt (l : List Nat) (h : ∀ x ∈ l, isDig x = true) : NumText.digitsVal l < 10 ^ l.length := by
  have go : ∀ (l : List Nat) (acc k : Nat), acc < 10 ^ k → (∀ x ∈ l, isDig x = true) → l.foldl (fun acc c => acc * 10 + (c - 48)) acc < 10 ^ (k + l.length) := by
    intro l
    induction l with
    | nil => intro acc k h _; exact h
    | cons a r ih =>
      intro acc k h hd
      have ha := hd a List.mem_cons_self
      unfold isDig at ha
      rw [Bool.and_eq_true, decide_eq_true_eq, decide_eq_true_eq] at ha
      have g := ih (acc * 10 + (a - 48)) (k + 1) (by rw [Nat.pow_succ]; omega) fun x hx => hd x (List.mem_cons_of_mem _ hx)
      rw [List.length_cons, show k + (r.length + 1) = k + 1 + r.length by omega]
      exact g
  have g := go l 0 0 (by decide) h
  rw [Nat.zero_add] at g
  exact g
theorem at_size {p : Int} (h0 : 0 ≤ p) (h4 : p < 4) : atI [V.int 86400, .int 3600, .int 60, .int 1] p = some (.int (sizeAt p)) := by
  obtain ⟨n, rfl⟩ : ∃ n : Nat, p = (n : Int) := ⟨p.toNat, by omega⟩
  match n, h4 with
  | 0, _ => exact atI_nat rfl
  | 1, _ => exact atI_nat rfl
  | 2, _ => exact atI_nat rfl
  | 3, _ => exact atI_nat rfl
  | n + 4, h => omega
theorem ok_read_length {f : Addr} {fd : FuncData} (F : Fun K "read_length" "read_length" s_read_length f fd) (T : Txt K mg base c) : FnOk P w K mg base (L2.CX P w) 1 f fd ["text"] (spF c fReadLen) := by
  refine F.okX sc_read_length (fun vs H Q E h => ?_) (fun cdv A outer s H vs Q E hr h => ?_)
  · obtain ⟨r, h, _⟩ := h
    match vs, h with
    | [.str z], _ => rfl
  · obtain ⟨r, h, o⟩ := h
    match vs, h with
    | [.str z], h =>
    have h : (if z.length ≤ 1000 then some (mReadLen z.cps.toList) else none) = some r := h
    by_cases hz : z.length ≤ 1000
    · rw [if_pos hz] at h
      obtain rfl : mReadLen z.cps.toList = r := Option.some.inj h
      obtain ⟨aS, gS, hS⟩ := T.siz
      refine ⟨_, pss_cons (ps_if (pt_cmpR op_eq (pv 0) pe_str (nomark _)) (pss_one (ps_raiseX (T.ex.e 7 (by decide)))) pss_nil)
        (pss_cons (ps_set (i := 1) sc_read_length.nd rfl (.inl rfl) pe_int)
        (pss_cons (ps_set (i := 2) sc_read_length.nd rfl (.inl rfl) (pe_un un_neg pe_int))
        (pss_cons (ps_set (i := 3) sc_read_length.nd rfl (.inl rfl) (pv 0))
        (pss_cons (ps_while (passes_of rfl) (pt_cmpR op_ne (pv 3) pe_str (nomark _))
          (pss_cons (ps_set (i := 4) sc_read_length.nd rfl (.inl rfl) (pe_m1 PySem.F.slot_str_lstrip PySem.F.type_str_lstrip mt_lstripChars (pv 3) (pe_str_glob T.fig)))
          (pss_cons (ps_set (i := 5) sc_read_length.nd rfl (.inl rfl) (pe_slice sl_str (pv 3) po_none (po_some (pe_op op_sub (pe_callB call_len_str (by rfl) T.len (by decide +kernel) (pa_cons (pv 3) pa_nil)) (pe_callB call_len_str (by rfl) T.len (by decide +kernel) (pa_cons (pv 4) pa_nil))))))
          (pss_cons (ps_set (i := 6) sc_read_length.nd rfl (.inl rfl) (pe_m1 PySem.F.slot_str_find PySem.F.type_str_find mt_find (pe_str_glob T.let_) (pe_slice sl_str (pv 4) po_none (po_some pe_int))))
          (pss_cons (ps_if (PW.pt (pw_or (pt_cmpR op_eq (pv 4) pe_str (nomark _)) (pw_or (pt_cmpR op_le (pv 6) (pv 2) (nomark _)) (pw_or (pt_not (pt_chain op_lt op_lt pe_int (pe_callB call_len_str (by rfl) T.len (by decide +kernel) (pa_cons (pv 5) pa_nil)) pe_int))
              (pw_or1 (pt_cmpR op_ne (pv 5) (pe_callTy call_str_int (by rfl) T.str (by decide +kernel) (pa_cons (pe_callTy call_int_str (by rfl) T.int (by decide +kernel) (pa_cons (pv 5) pa_nil)) pa_nil)) (nomark _)))))))
              (pss_one (ps_raiseX (T.ex.e 7 (by decide)))) pss_nil)
          (pss_cons (ps_aug (i := 1) sc_read_length.nd rfl (.inl rfl) (pe_op op_mul (pe_callTy call_int_str (by rfl) T.int (by decide +kernel) (pa_cons (pv 5) pa_nil)) (pe_ix ix_tup (pe_glob (v := .ref aS) rfl gS rfl) (pv 6) (fun _ _ => rfl))) ip_add)
          (pss_cons (ps_set (i := 2) sc_read_length.nd rfl (.inl rfl) (pv 6))
          (pss_one (ps_set (i := 3) sc_read_length.nd rfl (.inl rfl) (pe_slice sl_str (pv 4) (po_some pe_int) po_none))))))))))
        (pss_one (ps_ret (pv 1))))))), ?_⟩
      obtain ⟨l, rfl⟩ : ∃ l, z = SX.S l := ⟨_, (SX.S_tl z).symm⟩
      rw [SX.S_len] at hz
      have o : Out c H Q E (mReadLen l) := o
      unfold mReadLen at o
      refine q_when (b := decide (V.str (SX.S l) = V.str "")) (by walk_at "et") (fun hb H1 e1 => ?_) (fun hb H1 e1 => ?_)
      · rw [nil_S, eq_S] at hb
        rw [if_pos (of_decide_eq_true hb)] at o
        exact o H1 e1
      rw [nil_S, eq_S] at hb
      rw [if_neg (of_decide_eq_false hb)] at o
      refine q_asg ev_c fun H2 e2 => ?_
      refine q_asg (v := .int (-1)) (ev_un (x := .int 1) ev_c ru_neg) fun H3 e3 => ?_
      refine q_asg (v := .str (SX.S l)) (ev_var rfl) fun H4 e4 => ?_
      refine q_while (fun m σ' H' => ∃ (l' : List Nat) (sec last : Int) (r4 r5 r6 : Option V) (k : Nat), -1 ≤ last ∧ σ' = [some (.str (SX.S l)), some (.int sec), some (.int last), some (.str (SX.S l')), r4, r5, r6] ∧ Ex H H' ∧ l'.length = m ∧ l'.length ≤ 1000 ∧ l'.length < k ∧ rlLoop k l' sec last = rlLoop (l.length + 1) l 0 (-1))
        l.length ⟨l, 0, -1, none, none, none, l.length + 1, by decide, rfl, ((e1.trans e2).trans e3).trans e4, rfl, hz, Nat.lt_succ_self _, rfl⟩ fun m σ' H' hW => ?_
      obtain ⟨l', sec, last, r4, r5, r6, k, hlast, rfl, eH, rfl, hl', hk, hr'⟩ := hW
      refine ⟨!decide (V.str (SX.S l') = V.str ""), by walk_at "et", fun hb H5 e5 => ?_, fun hb H5 e5 => ?_⟩
      · rw [nil_S, eq_S, Bool.not_eq_true', decide_eq_false_iff_not] at hb
        obtain ⟨k, rfl⟩ : ∃ j, k = j + 1 := ⟨k - 1, by omega⟩
        rw [rlLoop_succ, if_neg hb] at hr'
        refine ⟨_, fun σ2 H2 h => h, ?_⟩
        have e6 := eH.trans e5
        have eL := congrArg List.length (List.takeWhile_append_dropWhile (p := isDig) (l := l'))
        rw [List.length_append] at eL
        refine q_asg (v := .str (SX.S (l'.dropWhile isDig))) ?_ fun H6 e6' => ?_
        · have g := ev_lstrip (σ := [some (V.str (SX.S l)), some (V.int sec), some (V.int last), some (V.str (SX.S l')), r4, r5, r6]) (H := H5) (to := tVar 3) (te := tC (.str "0123456789")) (a := SX.S l') (b := "0123456789") (ev_var rfl) ev_c (by rw [SX.S_len]; omega)
          rw [lstrip_S] at g
          exact g
        refine q_asg (v := .str (SX.S (l'.takeWhile isDig))) (ev_is (ev_slS (z := SX.S l') (ev_var rfl) eo_none (eo_some (ev_op (ev_lenS (z := SX.S l') (ev_var rfl) (by rw [SX.S_len]; omega)) (ev_lenS (z := SX.S (l'.dropWhile isDig)) (ev_var rfl) (by rw [SX.S_len]; omega)) rv_I0)) (by rw [SX.S_len]; omega)) (by rw [SX.S_len, SX.S_len, cut_figs])) fun H7 e7 => ?_
        refine q_asg (v := .int (Txt.find "dhms" (SX.S ((l'.dropWhile isDig).take 1)))) (ev_is (ev_find (a := "dhms") ev_c (ev_slS (z := SX.S (l'.dropWhile isDig)) (ev_var rfl) eo_none (eo_some ev_c) (by rw [SX.S_len]; omega))) (by rw [cut_one])) fun H8 e8 => ?_
        have eH8 := ((e6.trans e6').trans e7).trans e8
        cases hd : l'.dropWhile isDig with
        | nil =>
          rw [hd] at hr'
          have hr' : Rs.err 7 = rlLoop (l.length + 1) l 0 (-1) := hr'
          rw [← hr'] at o
          refine q_when (b := true) (et_is (et_or (a := true) (b := true) (et_is (et_test (ev_op (ev_var rfl) ev_c (rv_eq rfl))) (by decide +kernel)) (fun z => nomatch z)) rfl) (fun _ H9 e9 => o H9 (eH8.trans e9)) (fun z => nomatch z)
        | cons x more =>
          rw [hd] at hr' eL
          dsimp only at hr'
          generalize hfg : l'.takeWhile isDig = fg at *
          have hfind : Txt.find "dhms" (SX.S ((x :: more).take 1)) = letAt x := find_let x
          rw [hfind]
          have hdig : ∀ y ∈ fg, isDig y = true := fun y hy => by
            rw [← hfg] at hy
            have q := List.all_eq_true.mp (List.all_takeWhile (p := isDig) (l := l')) y hy
            exact q
          have hml : more.length < l'.length := by
            rw [List.length_cons] at eL
            omega
          have rng : (!(decide (0 < ((SX.S fg).length : Int)) && decide (((SX.S fg).length : Int) < 7))) = false → 0 < fg.length ∧ fg.length < 7 := fun z => by
            rw [Bool.not_eq_false', Bool.and_eq_true, decide_eq_true_eq, decide_eq_true_eq, SX.S_len] at z
            omega
          have hint : fg ≠ [] → intText? (SX.S fg) = some ((NumText.digitsVal fg : Nat) : Int) := fun hne => SX.int_S (List.all_eq_true.mpr hdig) hne (by omega)
          refine q_when (b := false || (decide (letAt x ≤ last) || ((!(decide (0 < ((SX.S fg).length : Int)) && decide (((SX.S fg).length : Int) < 7))) || !decide (V.str (SX.S fg) = V.str (Str.ofString (toString ((NumText.digitsVal fg : Nat) : Int))))))) ?_ (fun hb2 H9 e9 => ?_) (fun hb2 H9 e9 => ?_)
          · refine et_or (et_is (et_test (ev_op (ev_var rfl) ev_c (rv_eq rfl))) ?_) fun _ => et_or (by walk_at "et") fun _ => et_or (et_not (et_test (et_chain ev_c (ev_lenS (z := SX.S fg) (ev_var rfl) (by rw [SX.S_len]; omega)) (fun _ => ev_c) rv_I0 (fun _ => rv_I0)))) fun hb3 => et_test (ev_op (ev_var rfl) (ev_strI (ev_intS (ev_var rfl) (hint ?_) ?_) ?_) (rv_ne rfl))
            · rw [nil_S, eq_S]
              exact decide_eq_false (List.cons_ne_nil _ _)
            · intro z
              rw [z] at hb3
              exact absurd hb3 (by decide)
            · rw [SX.S_len]
              obtain ⟨g1, g2⟩ := rng hb3
              omega
            · obtain ⟨g1, g2⟩ := rng hb3
              exact log_small (k := 30) (by decide) (Nat.lt_of_lt_of_le (val_lt fg hdig) (Nat.le_trans (Nat.pow_le_pow_right (n := 10) (by decide) (show fg.length ≤ 6 by omega)) (by decide))) (by decide)
          · rw [if_pos] at hr'
            · rw [← hr'] at o
              exact o H9 (eH8.trans e9)
            · rw [SX.num_S, eq_S, SX.S_len, Bool.false_or, Bool.or_eq_true, Bool.or_eq_true, decide_eq_true_eq, Bool.not_eq_true', Bool.not_eq_true', Bool.and_eq_false_iff, decide_eq_false_iff_not, decide_eq_false_iff_not, decide_eq_false_iff_not] at hb2
              rcases hb2 with g | g | g
              · exact .inl g
              · exact .inr (.inl fun z => by omega)
              · exact .inr (.inr g)
          · rw [SX.num_S, eq_S, SX.S_len, Bool.false_or, Bool.or_eq_false_iff, Bool.or_eq_false_iff, decide_eq_false_iff_not, Bool.not_eq_false', Bool.not_eq_false', Bool.and_eq_true, decide_eq_true_eq, decide_eq_true_eq, decide_eq_true_eq] at hb2
            obtain ⟨g1, ⟨g2, g3⟩, g4⟩ := hb2
            rw [if_neg (by
              rintro (z | z | z)
              · exact g1 z
              · exact z ⟨by omega, by omega⟩
              · exact z g4)] at hr'
            have hne : fg ≠ [] := fun z => by
              rw [z] at g2
              exact absurd g2 (by decide)
            have hmul : CMul ((NumText.digitsVal fg : Nat) : Int) (sizeAt (letAt x)) := by
              have v := val_lt fg hdig
              have v2 : NumText.digitsVal fg < 1000000 := Nat.lt_of_lt_of_le v (Nat.le_trans (Nat.pow_le_pow_right (n := 10) (by decide) (show fg.length ≤ 6 by omega)) (by decide))
              exact .inl ⟨by omega, by omega⟩
            refine q_aug (a := sec) rfl (ev_op (y := .int (sizeAt (letAt x))) (ev_intS (z := SX.S fg) (ev_var rfl) (hint hne) (by rw [SX.S_len]; omega)) (ev_op ev_c (ev_var rfl) (rv_ixT (hS _) (at_size (by omega) (letAt_lt x)))) (rv_I hmul)) fun H10 e10 => ?_
            refine q_asg (v := .int (letAt x)) (ev_var rfl) fun H11 e11 => ?_
            refine s_asg (v := .str (SX.S more)) (ev_is (ev_slS (z := SX.S (x :: more)) (ev_var rfl) (eo_some ev_c) eo_none (by rw [SX.S_len, List.length_cons]; omega)) (by rw [cut_rest]; rfl)) fun H12 e12 => ?_
            exact ⟨more.length, hml, more, _, letAt x, _, _, _, k, by omega, rfl, (((eH8.trans e9).trans e10).trans e11).trans e12, rfl, by omega, by omega, hr'⟩
      · rw [nil_S, eq_S, Bool.not_eq_false', decide_eq_true_eq] at hb
        subst hb
        obtain ⟨k, rfl⟩ : ∃ j, k = j + 1 := ⟨k - 1, by omega⟩
        rw [rl_end] at hr'
        rw [← hr'] at o
        exact s_ret (v := .int sec) (ev_var rfl) fun H6 e6 => o H6 ((eH.trans e5).trans e6)
    · rw [if_neg hz] at h
      cases h
end
end Rw
namespace Rw
open PySem PySem.Spec PyProof.Rows L2 Evl SX
/-! ### k08: the mathematics -/
theorem two_len (n : Int) : (twoL n).length = 2 := rfl
theorem two_dig {n : Int} (h0 : 0 ≤ n) (h1 : n < 100) : (twoL n).all isDig = true := by
  unfold twoL isDig
  simp only [List.all_cons, List.all_nil, Bool.and_true, Bool.and_eq_true, decide_eq_true_eq]
  omega
theorem two_free {n : Int} : 46 ∉ twoL n := by
  unfold twoL
  simp only [List.mem_cons, List.not_mem_nil, or_false]
  omega
theorem two_val {n : Int} (h0 : 0 ≤ n) (h1 : n < 100) : numW (twoL n) = n := by
  unfold numW twoL NumText.digitsVal
  simp only [List.foldl_cons, List.foldl_nil]
  omega
theorem two_good {n : Int} (h0 : 0 ≤ n) (h1 : n < 100) : badW (twoL n) = false := by
  unfold badW
  rw [two_dig h0 h1, two_len]
  rfl
theorem dot_two (a b : Int) : dotW (twoL a ++ ([46] ++ twoL b)) = [twoL a, twoL b] :=
  SX.spl_join (c := 46) (sep := []) (parts := [twoL a, twoL b]) (by simp) (fun p hp => by
    rcases List.mem_cons.mp hp with rfl | hp
    · exact two_free
    · rw [List.mem_singleton.mp hp]; exact two_free)
theorem dot_three (a b d : Int) : dotW (twoL a ++ ([46] ++ (twoL b ++ ([46] ++ twoL d)))) = [twoL a, twoL b, twoL d] :=
  SX.spl_join (c := 46) (sep := []) (parts := [twoL a, twoL b, twoL d]) (by simp) (fun p hp => by
    rcases List.mem_cons.mp hp with rfl | hp
    · exact two_free
    · rcases List.mem_cons.mp hp with rfl | hp
      · exact two_free
      · rw [List.mem_singleton.mp hp]; exact two_free)
theorem time_ok {h m s : Int} (h0 : 0 ≤ h) (h1 : h < 24) (m0 : 0 ≤ m) (m1 : m < 60) (s0 : 0 ≤ s) (s1 : s < 60) : mTimeOf h m s = .ok (.int (h * 3600 + m * 60 + s)) := by
  unfold mTimeOf
  rw [decide_eq_true h0, decide_eq_true h1, decide_eq_true m0, decide_eq_true m1, decide_eq_true s0, decide_eq_true s1]
  rfl
theorem read_two {h m : Int} (h0 : 0 ≤ h) (h1 : h < 24) (m0 : 0 ≤ m) (m1 : m < 60) : mReadTime (twoL h ++ ([46] ++ twoL m)) = .ok (.int (h * 3600 + m * 60)) := by
  unfold mReadTime
  rw [dot_two, if_neg]
  · show mTimeOf (numW (twoL h)) (numW (twoL m)) 0 = _
    rw [two_val h0 (by omega), two_val m0 (by omega), time_ok h0 h1 m0 m1 (by decide) (by decide), Int.add_zero]
  · rw [List.any_cons, List.any_cons, two_good h0 (by omega), two_good m0 (by omega)]
    simp
theorem read_three {h m s : Int} (h0 : 0 ≤ h) (h1 : h < 24) (m0 : 0 ≤ m) (m1 : m < 60) (s0 : 0 ≤ s) (s1 : s < 60) : mReadTime (twoL h ++ ([46] ++ (twoL m ++ ([46] ++ twoL s)))) = .ok (.int (h * 3600 + m * 60 + s)) := by
  unfold mReadTime
  rw [dot_three, if_neg]
  · show mTimeOf (numW (twoL h)) (numW (twoL m)) (numW (twoL s)) = _
    rw [two_val h0 (by omega), two_val m0 (by omega), two_val s0 (by omega), time_ok h0 h1 m0 m1 s0 s1]
  · rw [List.any_cons, List.any_cons, List.any_cons, two_good h0 (by omega), two_good m0 (by omega), two_good s0 (by omega)]
    simp
theorem cut_five (h m s : Int) : cutS (S (twoL h ++ ([46] ++ (twoL m ++ ([46] ++ twoL s))))) none (some 5) = S (twoL h ++ ([46] ++ twoL m)) := rfl
theorem hms {h m s t : Int} (h0 : 0 ≤ h) (h1 : h < 24) (m0 : 0 ≤ m) (m1 : m < 60) (s0 : 0 ≤ s) (s1 : s < 60) (e : h * 3600 + m * 60 + s = t) : 0 ≤ t ∧ t < 86400 ∧ t / 3600 = h ∧ t / 60 % 60 = m ∧ t % 60 = s := by omega
/-- what is put on steps -/
theorem put_facts {t st : Int} (h1 : 1 ≤ st) : ∃ p, (2 * t + st) / (2 * st) * st = p ∧ p % st = 0 ∧ 2 * t - st < 2 * p ∧ 2 * p ≤ 2 * t + st := by
  refine ⟨_, rfl, Int.mul_emod_left _ _, ?_, ?_⟩
  · have a := Int.emod_add_mul_ediv (2 * t + st) (2 * st)
    have b := Int.emod_lt_of_pos (2 * t + st) (show (0 : Int) < 2 * st by omega)
    generalize (2 * t + st) / (2 * st) = q at *
    have c : 2 * st * q = 2 * (q * st) := by rw [Int.mul_assoc, Int.mul_comm st q]
    omega
  · have a := Int.emod_add_mul_ediv (2 * t + st) (2 * st)
    have b := Int.emod_nonneg (2 * t + st) (show (2 * st : Int) ≠ 0 by omega)
    generalize (2 * t + st) / (2 * st) = q at *
    have c : 2 * st * q = 2 * (q * st) := by rw [Int.mul_assoc, Int.mul_comm st q]
    omega
theorem text_cps (l : List Nat) : (S l).cps.toList = l := rfl
theorem tl_size {s : Nat} (hs : s < 1000000) : (tlText s).length ≤ 1000 := by
  unfold tlText
  split
  · decide
  · have g := sum_le (k := 7) ((tlWords tlUnits s).map List.length) fun x hx => by
      obtain ⟨w, hw, rfl⟩ := List.mem_map.mp hx
      exact tl_len _ _ hs w hw
    have n := tl_count s
    rw [List.length_map] at g
    rw [List.length_flatten]
    omega
theorem d_split {s : Nat} (h : 86400 ≤ s) : ∃ more, Txt.split (S (tlText s)) "d" = S (TL.numL (s / 86400)) :: more := by
  obtain ⟨r, e⟩ := text_days h
  rw [e, show ("d" : Str) = S [100] by decide +kernel, SX.split_S (by decide) (by decide)]
  have q := TL.spl_part1 (s := 100) (S := []) (p := TL.numL (s / 86400)) (rest := r) (acc := []) (TL.numL_free (.inr (by decide)))
  rw [show (TL.numL (s / 86400) ++ ([100] ++ r)) = (TL.numL (s / 86400) ++ (100 :: [] ++ r)) from rfl, q]
  exact ⟨_, rfl⟩
theorem head_cut {s : Nat} (h : 0 < s) : cutS (S (tlText s)) none (some 1) ≠ "0" := by
  rw [cut_one, show ("0" : Str) = S [48] by decide +kernel]
  intro z
  have z := SX.S_inj z
  have g := text_head h
  cases e : tlText s with
  | nil =>
    rw [e] at z
    cases z
  | cons a r =>
    rw [e] at z g
    have z : [a] = [48] := z
    injection z with z
    exact g (by rw [z]; rfl)
end Rw
namespace Rw
open PySem PySem.Spec PyProof.Rows L2 Evl SX
theorem f_parts {t : Int} (h0 : 0 ≤ t) (h1 : t < 86400) : fParts [.int t] = some (.tup [.int (t / 3600), .int (t / 60 % 60), .int (t % 60)]) := by
  show some (mParts t) = _
  unfold mParts
  rw [decide_eq_true h0, decide_eq_true h1]
  rfl
theorem f_check {t : Int} (h0 : 0 ≤ t) (h1 : t < 86400) : fCheck [.int t] = some (.ok (.int t)) := by
  show some (mCheck t) = _
  unfold mCheck
  rw [decide_eq_true h0, decide_eq_true h1]
  rfl
theorem f_toldTime {t : Int} (h0 : 0 ≤ t) (h1 : t < 86400) : fToldTime [.int t] = some (.ok (.str (S (timeL t)))) := by
  show some (mToldTime t) = _
  unfold mToldTime
  rw [decide_eq_true h0, decide_eq_true h1]
  rfl
theorem f_readTime {l : List Nat} {r : Rs} (hl : l.length ≤ 1000) (h : mReadTime l = r) : fReadTime [.str (S l)] = some r := by
  show (if (S l).length ≤ 1000 then some (mReadTime (S l).cps.toList) else none) = _
  rw [if_pos (by rw [S_len]; exact hl), text_cps, h]
theorem f_readLen {l : List Nat} {r : Rs} (hl : l.length ≤ 1000) (h : mReadLen l = r) : fReadLen [.str (S l)] = some r := by
  show (if (S l).length ≤ 1000 then some (mReadLen (S l).cps.toList) else none) = _
  rw [if_pos (by rw [S_len]; exact hl), text_cps, h]
theorem f_toldLen {s : Nat} (h : s < 1000000) : fToldLen [.int (s : Int)] = some (.ok (.str (S (tlText s)))) := by
  show (if ((s : Nat) : Int) < 1000000 then some (mToldLen s) else none) = _
  rw [if_pos (by omega)]
  unfold mToldLen
  rw [if_neg (by omega), Int.toNat_natCast]
theorem f_rounded {t st : Int} (h1 : 1 ≤ st) (h2 : st < 100000) (h3 : t.natAbs < 1000000) : fRounded [.int t, .int st] = some (.ok (.int ((2 * t + st) / (2 * st) * st))) := by
  show (if st < 100000 ∧ t.natAbs < 1000000 then some (mRounded t st) else none) = _
  rw [if_pos ⟨h2, h3⟩]
  unfold mRounded
  rw [if_neg (by omega)]
section
variable {σ : L2.St} {H : Hp}
theorem rv_times {a : Str} {b : Bool} : RV (fun x y H Q => ∃ (a : Str) (b : Bool), x = .str a ∧ y = .int (if b = true then 1 else 0) ∧ Q (.str (if b = true then a else Str.empty)) H) (.str a) (.int (if b = true then 1 else 0)) H (.str (if b = true then a else Str.empty)) := fun H1 _ _ q => ⟨a, b, rfl, rfl, q H1 (Ex.refl H1)⟩
theorem rv_adds {a b : Str} (h : a.length + b.length ≤ 100000) : RV (fun x y H Q => ∃ i j, x = .str i ∧ y = .str j ∧ i.length + j.length ≤ sizeLine ∧ Q (.str (i ++ j)) H) (.str a) (.str b) H (.str (a ++ b)) := fun H1 _ _ q => ⟨a, b, rfl, rfl, sz_of h, q H1 (Ex.refl H1)⟩
theorem pad_text {n : Int} (h0 : 0 ≤ n) (h1 : n < 100) : (if decide (n < 10) = true then ("0" : Str) else Str.empty) ++ Str.ofString (toString n) = S (twoL n) := by
  rw [← two_text n h0 h1]
  have e : ("0" : Str) = ⟨#[48]⟩ := by decide +kernel
  cases h : decide (n < 10) with
  | true => rw [if_pos rfl, if_pos rfl, e]
  | false => rw [if_neg Bool.false_ne_true, if_neg Bool.false_ne_true, empty_cat]
theorem str_len {n : Int} (h0 : 0 ≤ n) (h1 : n < 100) : (Str.ofString (toString n)).length ≤ 2 := by
  obtain ⟨k, rfl⟩ : ∃ k : Nat, n = (k : Int) := ⟨n.toNat, by omega⟩
  rw [SX.num_S, SX.S_len]
  exact TL.numL_len (by decide) (by show k < 100; omega)
theorem ev_zeros {i : Nat} {n : Int} (hs : σ[i]? = some (some (.int n))) (h0 : 0 ≤ n) (h1 : n < 100) :
    Ev (tOp (fun x y H Q => ∃ i j, x = V.str i ∧ y = V.str j ∧ i.length + j.length ≤ sizeLine ∧ Q (.str (i ++ j)) H) (tOp (fun x y H Q => ∃ (a : Str) (b : Bool), x = .str a ∧ y = .int (if b = true then 1 else 0) ∧ Q (.str (if b = true then a else Str.empty)) H) (tC (.str "0"))
      (tCB (fun xs H Q => (∃ i, xs = [V.int i] ∧ Q (V.int i) H) ∨ ∃ k, xs = [V.bl k] ∧ Q (V.int (if k = true then 1 else 0)) H) (tCons (tOp (rI0 fun i j => .bl (decide (i < j))) (tVar i) (tC (.int 10))) tNil)))
      (tCB (fun xs H Q => ∃ i, xs = [.int i] ∧ i.natAbs.log2 < 1920 ∧ Q (.str (toString i)) H) (tCons (tVar i) tNil))) σ H (.str (S (twoL n))) := by
  refine ev_is (ev_op (x := .str (if decide (n < 10) = true then ("0" : Str) else Str.empty)) (y := .str (Str.ofString (toString n))) (ev_op (y := .int (if decide (n < 10) = true then 1 else 0)) ev_c (ev_cb (vs := [.bl (decide (n < 10))]) (ea_cons (ev_op (ev_var hs) ev_c rv_I0) ea_nil) rc_int1b) rv_times) (ev_strI (n := n) (ev_var hs) (small_log n (by omega))) (rv_adds ?_)) (by rw [pad_text h0 h1])
  have g := str_len h0 h1
  have g2 : (if decide (n < 10) = true then ("0" : Str) else Str.empty).length ≤ 1 := by split <;> decide +kernel
  omega
theorem rv_inSign {c : Nat} {z : Str} : RV (fun x y H Q => ∃ (c : Nat) (z : Str), x = .str ⟨#[c]⟩ ∧ y = .str z ∧ Q (.bl (decide (c ∈ z.cps.toList))) H) (.str ⟨#[c]⟩) (.str z) H (.bl (decide (c ∈ z.cps.toList))) := fun H1 _ _ q => ⟨c, z, rfl, rfl, q H1 (Ex.refl H1)⟩
theorem rv_niSign {c : Nat} {z : Str} : RV (fun x y H Q => ∃ (c : Nat) (z : Str), x = .str ⟨#[c]⟩ ∧ y = .str z ∧ Q (.bl (!decide (c ∈ z.cps.toList))) H) (.str ⟨#[c]⟩) (.str z) H (.bl (!decide (c ∈ z.cps.toList))) := fun H1 _ _ q => ⟨c, z, rfl, rfl, q H1 (Ex.refl H1)⟩
/-- a test of values known to be alike -/
theorem et_same {te tb : TE} {x y : V} (ha : Ev te σ H x) (hb : Ev tb σ H y) (e : x = y) (hs : scal x y = true) : EvT (tTest (tOp rNe te tb)) σ H false := by
  subst e
  exact et_is (et_test (ev_op ha hb (rv_ne hs))) (by simp)
theorem el_noneStr {tl te : TE} {t : TT} {j : Nat} {vs : List Nat} {z : Str} (h : Ev tl σ H (.str z)) (hz : z.cps.size ≤ 40000) (hw : ∀ x, wipe ((wipe σ vs).set j (some x)) vs = wipe σ vs)
    (ht : ∀ (c : Nat) H1, Ex H H1 → c ∈ z.cps.toList → EvT t ((wipe σ vs).set j (some (.str ⟨#[c]⟩))) H1 false) : EvL (tLc (iStr tl) (gName j) t te vs) σ H [] := by
  have g := el_lcStr (te := te) (fun _ => false) (fun _ => .non) h hz hw (fun i c H1 e hc => ht c H1 e (by
    rw [← Array.getElem?_toList] at hc
    exact List.mem_of_getElem? hc)) fun i c H1 e hc z => nomatch z
  rw [given_none] at g
  exact g
theorem el_noneL {K : PySem.W.Frag} {tl te : TE} {t : TT} {j : Nat} {vs : List Nat} {a : Addr} {xs : List V} (h : Ev tl σ H (.ref a)) (hx : SqL K H a xs) (hz : xs.length ≤ 40000) (hw : ∀ x, wipe ((wipe σ vs).set j (some x)) vs = wipe σ vs)
    (ht : ∀ (x : V) H1, Ex H H1 → x ∈ xs → EvT t ((wipe σ vs).set j (some x)) H1 false) : EvL (tLc (iList K tl) (gName j) t te vs) σ H [] := by
  have g := el_lcL (te := te) (fun _ => false) (fun _ => .non) h hx hz hw (fun i x H1 e hc => ht x H1 e (List.mem_of_getElem? hc)) fun i x H1 e hc z => nomatch z
  rw [given_none] at g
  exact g
theorem sign_ok {s c : Nat} (h : c ∈ tlText s) : (!decide (c ∈ (("0123456789dhms" : Str)).cps.toList)) = false := by
  have e : (("0123456789dhms" : Str)).cps.toList = [48, 49, 50, 51, 52, 53, 54, 55, 56, 57, 100, 104, 109, 115] := by decide +kernel
  have g := text_ok s c h
  unfold okSign isDig at g
  rw [e, Bool.not_eq_false', decide_eq_true_eq]
  rw [Bool.or_eq_true, Bool.and_eq_true, decide_eq_true_eq, decide_eq_true_eq, decide_eq_true_eq] at g
  rcases g with g | g
  · simp only [List.mem_cons, List.not_mem_nil, or_false]
    omega
  · simp only [List.mem_cons, List.not_mem_nil, or_false] at g ⊢
    omega
theorem rv_inD {z : Str} : RV (fun x y H Q => ∃ (c : Nat) (z : Str), x = .str ⟨#[c]⟩ ∧ y = .str z ∧ Q (.bl (decide (c ∈ z.cps.toList))) H) (.str "d") (.str z) H (.bl (decide (100 ∈ z.cps.toList))) := by
  rw [show ("d" : Str) = ⟨#[100]⟩ by decide +kernel]
  exact rv_inSign
theorem rv_inLs {z : Str} : RV (fun x y H Q => ∃ (c : Nat) (z : Str), x = .str ⟨#[c]⟩ ∧ y = .str z ∧ Q (.bl (decide (c ∈ z.cps.toList))) H) (.str "s") (.str z) H (.bl (decide (115 ∈ z.cps.toList))) := by
  rw [show ("s" : Str) = ⟨#[115]⟩ by decide +kernel]
  exact rv_inSign
end
end Rw
namespace Rw
open PySem PySem.Spec PyProof.Rows L2 Evl
local macro_rules | `(tactic| walk_at "sq") => `(tactic| first | assumption | exact SqL.of (by assumption) | exact SqT.of (by assumption))
local macro_rules | `(tactic| walk_at "at") => `(tactic| first | exact atI_nat (j := 0) rfl | exact atI_nat (j := 1) rfl | exact atI_nat (j := 2) rfl | exact atI_nat (j := 3) rfl)
local macro_rules | `(tactic| walk_at "rv") => `(tactic| first
  | with_reducible exact rv_I0
  | ((with_reducible refine' rv_I ?k1); (case k1 => first | (show (0 : Int) < _; omega) | exact ⟨by omega, by omega⟩ | exact .inr ⟨by omega, by omega⟩ | exact .inl ⟨by omega, by omega⟩ | exact ⟨by decide, by decide, by decide⟩))
  | ((with_reducible refine' rv_eq ?k1); (case k1 => exact rfl))
  | ((with_reducible refine' rv_ne ?k1); (case k1 => exact rfl))
  | (refine' rv_ixL ?k1 ?k2; (case k1 => walk_at "sq"); (case k2 => walk_at "at"))
  | (refine' rv_ixT ?k1 ?k2; (case k1 => walk_at "sq"); (case k2 => walk_at "at")))
local macro_rules | `(tactic| walk_at "rc") => `(tactic| first | exact rc_int1 | exact rc_int1b | exact rc_abs)
local macro_rules | `(tactic| walk_at "ea") => `(tactic| first
  | with_reducible exact ea_nil
  | ((with_reducible refine' ea_cons ?k1 ?k2); (case k1 => walk_at "ev"); (case k2 => walk_at "ea")))
local macro_rules | `(tactic| walk_at "ev") => `(tactic| first
  | with_reducible exact ev_c
  | ((with_reducible refine' ev_var ?k1); (case k1 => exact rfl))
  | ((with_reducible refine' ev_op ?k1 ?k2 ?k3); (case k1 => walk_at "ev"); (case k2 => walk_at "ev"); (case k3 => walk_at "rv"))
  | ((with_reducible refine' et_chain ?k1 ?k2 ?k3 ?k4 ?k5); (case k1 => walk_at "ev"); (case k2 => walk_at "ev"); (case k3 => (intro _; walk_at "ev")); (case k4 => walk_at "rv"); (case k5 => (intro _; walk_at "rv")))
  | ((with_reducible refine' ev_cb ?k1 ?k2); (case k1 => walk_at "ea"); (case k2 => walk_at "rc")))
local macro_rules | `(tactic| walk_at "et") => `(tactic| first
  | ((with_reducible refine' et_test ?k1); (case k1 => walk_at "ev"))
  | ((with_reducible refine' et_B ?k1); (case k1 => walk_at "ev"))
  | ((with_reducible refine' et_and ?k1 ?k2); (case k1 => walk_at "et"); (case k2 => (intro _; walk_at "et")))
  | ((with_reducible refine' et_or ?k1 ?k2); (case k1 => walk_at "et"); (case k2 => (intro _; walk_at "et")))
  | ((with_reducible refine' et_not ?k1); (case k1 => walk_at "et")))
local macro_rules | `(tactic| walk_at "ff") => `(tactic| first | exact rfl | assumption)
local macro_rules | `(tactic| walk_at "ev") => `(tactic| first
  | with_reducible exact ev_c
  | ((with_reducible refine' ev_var ?k1); (case k1 => exact rfl))
  | ((with_reducible refine' ev_op ?k1 ?k2 ?k3); (case k1 => walk_at "ev"); (case k2 => walk_at "ev"); (case k3 => walk_at "rv"))
  | ((with_reducible refine' et_chain ?k1 ?k2 ?k3 ?k4 ?k5); (case k1 => walk_at "ev"); (case k2 => walk_at "ev"); (case k3 => (intro _; walk_at "ev")); (case k4 => walk_at "rv"); (case k5 => (intro _; walk_at "rv")))
  | ((with_reducible refine' ev_cb ?k1 ?k2); (case k1 => walk_at "ea"); (case k2 => walk_at "rc"))
  | ((with_reducible refine' ev_F ?k1 ?k2); (case k1 => walk_at "ea"); (case k2 => walk_at "ff"))
  | ((with_reducible refine' ev_two ?k1 ?k2 ?k3); (case k1 => walk_at "ev"); (case k2 => omega); (case k3 => omega)))

/-! ### the law: its text -/
abbrev sLaw : Stmt := topS 32
def lawN : List Str := ["script", "dice", "hours", "minutes", "seconds", "time", "text", "length", "days", "step", "put", "wrong", "one", "sign", "pair"]
theorem scLaw : FnScope lawN ["script"] (defScope sLaw) := ⟨rfl, rfl, rfl, by decide +kernel, rfl, by decide +kernel, by decide +kernel⟩
/-- one item of the list of what is refused -/
structure Lm where
  params : Arguments
  body : Expr
  scope : Scope
  p1 : Pos
  kind : Str
  k1 : Nat
  p2 : Pos
  k2 : Nat
  p3 : Pos
def Lm.ex (l : Lm) : Expr := .Tuple [.Lambda l.params l.body l.scope l.p1, .Constant (.str l.kind) l.k1 l.p2] l.k2 l.p3
def lmOf : Expr → List Lm
  | .Tuple [.Lambda ps b sc p1, .Constant (.str z) k1 p2] k2 p3 => [⟨ps, b, sc, p1, z, k1, p2, k2, p3⟩]
  | _ => []
def wrongE : List Expr := match defBody sLaw with
  | _ :: .Assign _ (.List es _) _ :: _ => es
  | _ => []
def lms : List Lm := wrongE.flatMap lmOf
theorem lms_len : lms.length = 18 := by decide +kernel
theorem wrong_is : wrongE = lms.map Lm.ex := rfl
section
variable {X : Cx}
theorem ix_tupK {K : PySem.W.Frag} (h : X.K = K := by rfl) : IxR X (rIxT K) := by
  subst h
  exact ix_tup
/-- text * 1, text * 0 -/
theorem op_times : OpR X (binaryOp .Mult) (fun x y H Q => ∃ (a : Str) (b : Bool), x = .str a ∧ y = .int (if b = true then 1 else 0) ∧ Q (.str (if b = true then a else Str.empty)) H) := by
  intro pins s σ H x y v u Q I rx ry h
  obtain ⟨a, b, rfl, rfl, q⟩ := h
  obtain ⟨t, rfl⟩ := rx
  obtain ⟨t2, rfl⟩ := ry
  cases b with
  | true => exact PySem.P.mul_str (n := 1) (by decide) (fun _ z => by cases z) (fun _ z => by cases z) (by rw [if_neg (by decide), if_pos (by rfl)]; exact ⟨.str a, H, I, ⟨_, rfl⟩, q⟩)
  | false => exact PySem.P.mul_str_none (n := 0) (by decide) (by decide) ⟨.str Str.empty, H, I.tok _, ⟨_, rfl⟩, q⟩
end
def tItems (T : List (Addr × Str)) (q : Str) : List Lm → TA
  | [] => tNil
  | l :: r => tCons (tTup (tCons (tLamO T q l.params l.body l.scope) (tCons (tC (.str l.kind)) tNil))) (tItems T q r)
section
variable {X : Cx}
theorem pa_items {T : List (Addr × Str)} {c P : Addr} (TB : LamX.TabB X.base X.mg c P) (hcode : X.env.code = .ref c) (hm : (P, X.env.qual ++ "<lambda>") ∈ T) (hu : ∀ p ∈ T, p.1 = P → p.2 = X.env.qual ++ "<lambda>") :
    ∀ ls : List Lm, (∀ l ∈ ls, Lam0 l.scope ∧ defaultsOf l.params X.env = ([], [])) → PA X (ls.map Lm.ex) (tItems T (X.env.qual ++ "<lambda>") ls)
  | [], _ => pa_nil
  | l :: r, h => pa_cons (pe_tup (pa_cons (pe_lamO (h l List.mem_cons_self).1 TB hcode hm hu (h l List.mem_cons_self).2) (pa_cons pe_str pa_nil))) (pa_items TB hcode hm hu r fun l hl => h l (List.mem_cons_of_mem _ hl))
end
/-- what the law needs of the defs -/
structure LawT (P : Program) (w : World) (K : PySem.W.Frag) (mg : Str → Option Value) (base : Heap) (c : Nat → Addr) : Prop where
  txt : Txt K mg base c
  rounds : Cal P w K mg base 2 "_law_rounds" (spRounds K) []
  roll : Cal P w K mg base 1 "_law_roll" spRoll []
  told : Cal P w K mg base 4 "_law_told" (spTold P w K mg base c 2) []
  check : Cal P w K mg base 1 "check_time" (spF c fCheck) []
  timeOf : Cal P w K mg base 1 "time_of" (spF c fTimeOf) []
  timeOf2 : Cal P w K mg base 1 "time_of" (spF c fTimeOf) [.int 0]
  parts : Cal P w K mg base 2 "parts_of" (spF c fParts) []
  toldTime : Cal P w K mg base 3 "told_time" (spF c fToldTime) []
  readTime : Cal P w K mg base 2 "read_time" (spF c fReadTime) []
  toldLen : Cal P w K mg base 1 "told_length" (spF c fToldLen) []
  readLen : Cal P w K mg base 1 "read_length" (spF c fReadLen) []
  rounded : Cal P w K mg base 1 "rounded" (spF c fRounded) []
  two : Cal P w K mg base 1 "two" (spF c fTwo) []
/-! ### what is refused -/
def Item (q : Str) (H : Hp) (l : Lm) (x : V) : Prop := ∃ t f c', x = .ref t ∧ H t = some (.tup [.ref f, .str l.kind]) ∧ H f = some (LamO f q l.params l.body l.scope c') ∧ H c' = some (LamX.CodeO c' q)
theorem Item.ext {q : Str} {H H' : Hp} {l : Lm} {x : V} (h : Item q H l x) (e : LamX.ExtN H H') : Item q H' l x := by
  obtain ⟨t, f, c', rfl, h1, h2, h3⟩ := h
  exact ⟨t, f, c', rfl, e _ _ h1 (fun ps z => by cases z), e _ _ h2 (fun ps => LamO_ne ps), e _ _ h3 (fun ps => LamX.codeO_ne ps)⟩
def ItemsAt (q : Str) (H : Hp) : List Lm → List V → Prop
  | [], xs => xs = []
  | l :: r, xs => ∃ x ys, xs = x :: ys ∧ Item q H l x ∧ ItemsAt q H r ys
theorem ItemsAt.ext {q : Str} {H H' : Hp} : ∀ {ls : List Lm} {xs : List V}, ItemsAt q H ls xs → LamX.ExtN H H' → ItemsAt q H' ls xs
  | [], _, h, _ => h
  | l :: r, _, h, e => by
    obtain ⟨x, ys, rfl, h1, h2⟩ := h
    exact ⟨x, ys, rfl, h1.ext e, ItemsAt.ext h2 e⟩
theorem ItemsAt.mem {q : Str} {H : Hp} : ∀ {ls : List Lm} {xs : List V} {x : V}, ItemsAt q H ls xs → x ∈ xs → ∃ l, l ∈ ls ∧ Item q H l x
  | [], _, x, h, hx => by
    subst h
    cases hx
  | l :: r, _, x, h, hx => by
    obtain ⟨y, ys, rfl, h1, h2⟩ := h
    rcases List.mem_cons.mp hx with rfl | hx
    · exact ⟨l, List.mem_cons_self, h1⟩
    · obtain ⟨l', hl, hi⟩ := ItemsAt.mem h2 hx
      exact ⟨l', List.mem_cons_of_mem _ hl, hi⟩
theorem ItemsAt.len {q : Str} {H : Hp} : ∀ {ls : List Lm} {xs : List V}, ItemsAt q H ls xs → xs.length = ls.length
  | [], _, h => by
    subst h
    rfl
  | l :: r, _, h => by
    obtain ⟨y, ys, rfl, h1, h2⟩ := h
    rw [List.length_cons, List.length_cons, ItemsAt.len h2]
theorem rd_items {T : List (Addr × Str)} {q : Str} {σ : L2.St} : ∀ (ls : List Lm) (H : Hp) (Q : List V → Hp → Prop), LamX.Tabs T H → (∀ xs H', LamX.ExtN H H' → LamX.Tabs T H' → ItemsAt q H' ls xs → Q xs H') → tItems T q ls σ H Q
  | [], H, Q, hT, k => k [] H (LamX.ExtN.refl H) hT rfl
  | l :: r, H, Q, hT, k => ⟨hT, fun f c' H1 hf e1 hT1 hl hc => ⟨by show 2 ≤ sizeLine; decide, fun p hp => by
      have e2 : Ex H1 (upd H1 p (.tup [.ref f, .str l.kind])) := Ex.new hp
      refine rd_items r _ _ (hT1.ext fun b o e => e2 b o e) fun xs H' e3 hT3 hi => ?_
      have e13 : LamX.ExtN H1 H' := (LamX.ExtN.of fun b o e => e2 b o e).trans e3
      refine k _ H' (e1.trans e13) hT3 ⟨.ref p, xs, rfl, ?_, hi⟩
      exact ⟨p, f, c', rfl, e3 _ _ upd_same (fun ps z => by cases z), e13 _ _ hl (fun ps => LamO_ne ps), e13 _ _ hc (fun ps => LamX.codeO_ne ps)⟩⟩⟩
section
variable {P : Program} {w : World} {K : PySem.W.Frag} {mg : Str → Option Value} {base : Heap} {c : Nat → Addr}
def LamGood (P : Program) (w : World) (K : PySem.W.Frag) (mg : Str → Option Value) (base : Heap) (c : Nat → Addr) (k : Nat) (l : Lm) : Prop :=
  Lam0 l.scope ∧ (∀ (q : Str) (pm cv ctv : Value), bindArgs (PySem.W.kla_fn "<lambda>" q l.params l.body l.scope [] pm cv ctv) ⟨[], []⟩ = pure []) ∧
    ∀ (q : Str) (f c' : Addr), ∃ tb, LamRun P w K mg base k q l.scope l.body f c' tb ∧ ∀ (H : Hp) (Q : VK), (∀ H1, Ex H H1 → Q (.str l.kind) H1) → tb (ETold c Q) H Q
theorem good_of {l : Lm} {k i : Nat} {f : List V → Option Rs} {dvs vs : List V} {ta : TA} (h0 : lam0B l.scope = true) (hb : ∀ (q : Str) (pm cv ctv : Value), bindArgs (PySem.W.kla_fn "<lambda>" q l.params l.body l.scope [] pm cv ctv) ⟨[], []⟩ = pure [])
    (hk : l.kind = kindName i) (hi : i < 11) (hd : ∀ (q : Str) (f' c' : Addr) (A : Around) (outer : List Env) (s : Shared) (H : Hp) (E : XK), Room k (A.deeper (lamEnv0 q l.scope s.heap.objs.size f' c')) → PE (lamCx0 P w K mg base A outer s H E q l.scope f' c') l.body (tCall (spF c f) dvs E ta))
    (hv : ∀ H, EvA ta [] H vs) (hf : f (vs ++ dvs) = some (.err i)) : LamGood P w K mg base c k l := by
  refine ⟨lam0_by h0, hb, fun q f' c' => ⟨fun E H Q => tCall (spF c f) dvs E ta [] H Q, fun A outer s H E hr => ⟨fun pins s1 σ H1 Q I h => ?_⟩, fun H Q hQ => er_F (hv H) hf (fun H1 e1 => ⟨i, hi, rfl, by rw [← hk]; exact hQ H1 e1⟩) _⟩⟩
  have hl : σ.length = 0 := I.len
  obtain rfl : σ = [] := List.eq_nil_of_length_eq_zero hl
  exact (hd q f' c' A outer s H E hr).run pins s1 [] H1 Q I h
theorem ev_told {l : Lm} {σ : L2.St} {H : Hp} {f c' : Addr} {q : Str} {ta : TE} (g : LamGood P w K mg base c 2 l) (ha : Ev ta σ H (.ref f)) (hf : H f = some (LamO f q l.params l.body l.scope c')) (hc : H c' = some (LamX.CodeO c' q)) :
    Ev (tCall (spTold P w K mg base c 2) [] E0 (tCons ta tNil)) σ H (.str l.kind) := fun H1 e1 Q k => by
  have hv : EvA (tCons ta tNil) σ H [.ref f] := ea_cons ha ea_nil
  refine hv H1 e1 _ fun H2 e2 => ?_
  obtain ⟨tb, h1, h2⟩ := g.2.2 q f c'
  exact ⟨f, c', q, l.params, l.body, l.scope, tb, rfl, (e1.trans e2) _ _ hf, (e1.trans e2) _ _ hc, g.1, g.2.1 q, h1, h2 H2 Q fun H3 e3 => k H3 (e2.trans e3)⟩
def lm (i : Nat) : Lm := lms.getD i ⟨⟨[], [], none, [], [], none, []⟩, .Name "" ⟨0, 0, 0, 0⟩, ⟨.function, [], false, false, []⟩, ⟨0, 0, 0, 0⟩, "", 0, ⟨0, 0, 0, 0⟩, 0, ⟨0, 0, 0, 0⟩⟩
theorem lms_is : lms = [lm 0, lm 1, lm 2, lm 3, lm 4, lm 5, lm 6, lm 7, lm 8, lm 9, lm 10, lm 11, lm 12, lm 13, lm 14, lm 15, lm 16, lm 17] := rfl
theorem lms_def : ∀ l ∈ lms, ∀ env : Env, defaultsOf l.params env = ([], []) := by
  rw [lms_is]
  intro l hl env
  simp only [List.mem_cons, List.not_mem_nil, or_false] at hl
  rcases hl with rfl | rfl | rfl | rfl | rfl | rfl | rfl | rfl | rfl | rfl | rfl | rfl | rfl | rfl | rfl | rfl | rfl | rfl <;> rfl
theorem pa_wrong {X : Cx} {T : List (Addr × Str)} {cc PT : Addr} (TB : LamX.TabB X.base X.mg cc PT) (hcode : X.env.code = .ref cc) (hm : (PT, X.env.qual ++ "<lambda>") ∈ T) (hu : ∀ p ∈ T, p.1 = PT → p.2 = X.env.qual ++ "<lambda>") (h : ∀ l ∈ lms, Lam0 l.scope) :
    PA X wrongE (tItems T (X.env.qual ++ "<lambda>") lms) := by
  rw [wrong_is]
  exact pa_items TB hcode hm hu lms fun l hl => ⟨h l hl, lms_def l hl _⟩
theorem good0 (L : LawT P w K mg base c) : LamGood P w K mg base c 2 (lm 0) :=
  good_of (i := 2) (by decide +kernel) (fun _ _ _ _ => rfl) rfl (by decide) (fun q f' c' A outer s H E hr => pe_k L.check hr (by decide) (passE (E := E)) (pa_cons pe_int pa_nil)) (fun H => by walk_at "ea") (by decide +kernel)
theorem good1 (L : LawT P w K mg base c) : LamGood P w K mg base c 2 (lm 1) :=
  good_of (i := 2) (by decide +kernel) (fun _ _ _ _ => rfl) rfl (by decide) (fun q f' c' A outer s H E hr => pe_k L.check hr (by decide) (passE (E := E)) (pa_cons (pe_op op_sub pe_int pe_int) pa_nil)) (fun H => by walk_at "ea") (by decide +kernel)
theorem good2 (L : LawT P w K mg base c) : LamGood P w K mg base c 2 (lm 2) :=
  good_of (i := 2) (by decide +kernel) (fun _ _ _ _ => rfl) rfl (by decide) (fun q f' c' A outer s H E hr => pe_k L.timeOf2 hr (by decide) (passE (E := E)) (pa_cons pe_int (pa_cons pe_int pa_nil))) (fun H => by walk_at "ea") (by decide +kernel)
theorem good3 (L : LawT P w K mg base c) : LamGood P w K mg base c 2 (lm 3) :=
  good_of (i := 2) (by decide +kernel) (fun _ _ _ _ => rfl) rfl (by decide) (fun q f' c' A outer s H E hr => pe_k L.timeOf2 hr (by decide) (passE (E := E)) (pa_cons pe_int (pa_cons pe_int pa_nil))) (fun H => by walk_at "ea") (by decide +kernel)
theorem good4 (L : LawT P w K mg base c) : LamGood P w K mg base c 2 (lm 4) :=
  good_of (i := 2) (by decide +kernel) (fun _ _ _ _ => rfl) rfl (by decide) (fun q f' c' A outer s H E hr => pe_k L.timeOf hr (by decide) (passE (E := E)) (pa_cons pe_int (pa_cons pe_int (pa_cons pe_int pa_nil)))) (fun H => by walk_at "ea") (by decide +kernel)
theorem good5 (L : LawT P w K mg base c) : LamGood P w K mg base c 2 (lm 5) :=
  good_of (i := 2) (by decide +kernel) (fun _ _ _ _ => rfl) rfl (by decide) (fun q f' c' A outer s H E hr => pe_k L.parts hr (by decide) (passE (E := E)) (pa_cons pe_int pa_nil)) (fun H => by walk_at "ea") (by decide +kernel)
theorem good6 (L : LawT P w K mg base c) : LamGood P w K mg base c 2 (lm 6) :=
  good_of (i := 2) (by decide +kernel) (fun _ _ _ _ => rfl) rfl (by decide) (fun q f' c' A outer s H E hr => pe_k L.toldLen hr (by decide) (passE (E := E)) (pa_cons (pe_op op_sub pe_int pe_int) pa_nil)) (fun H => by walk_at "ea") (by decide +kernel)
theorem good7 (L : LawT P w K mg base c) : LamGood P w K mg base c 2 (lm 7) :=
  good_of (i := 2) (by decide +kernel) (fun _ _ _ _ => rfl) rfl (by decide) (fun q f' c' A outer s H E hr => pe_k L.rounded hr (by decide) (passE (E := E)) (pa_cons pe_int (pa_cons pe_int pa_nil))) (fun H => by walk_at "ea") (by decide +kernel)
theorem good8 (L : LawT P w K mg base c) : LamGood P w K mg base c 2 (lm 8) :=
  good_of (i := 7) (by decide +kernel) (fun _ _ _ _ => rfl) rfl (by decide) (fun q f' c' A outer s H E hr => pe_k L.readTime hr (by decide) (passE (E := E)) (pa_cons pe_str pa_nil)) (fun H => by walk_at "ea") (by decide +kernel)
theorem good9 (L : LawT P w K mg base c) : LamGood P w K mg base c 2 (lm 9) :=
  good_of (i := 7) (by decide +kernel) (fun _ _ _ _ => rfl) rfl (by decide) (fun q f' c' A outer s H E hr => pe_k L.readTime hr (by decide) (passE (E := E)) (pa_cons pe_str pa_nil)) (fun H => by walk_at "ea") (by decide +kernel)
theorem good10 (L : LawT P w K mg base c) : LamGood P w K mg base c 2 (lm 10) :=
  good_of (i := 7) (by decide +kernel) (fun _ _ _ _ => rfl) rfl (by decide) (fun q f' c' A outer s H E hr => pe_k L.readTime hr (by decide) (passE (E := E)) (pa_cons pe_str pa_nil)) (fun H => by walk_at "ea") (by decide +kernel)
theorem good11 (L : LawT P w K mg base c) : LamGood P w K mg base c 2 (lm 11) :=
  good_of (i := 2) (by decide +kernel) (fun _ _ _ _ => rfl) rfl (by decide) (fun q f' c' A outer s H E hr => pe_k L.readTime hr (by decide) (passE (E := E)) (pa_cons pe_str pa_nil)) (fun H => by walk_at "ea") (by decide +kernel)
theorem good12 (L : LawT P w K mg base c) : LamGood P w K mg base c 2 (lm 12) :=
  good_of (i := 7) (by decide +kernel) (fun _ _ _ _ => rfl) rfl (by decide) (fun q f' c' A outer s H E hr => pe_k L.readLen hr (by decide) (passE (E := E)) (pa_cons pe_str pa_nil)) (fun H => by walk_at "ea") (by decide +kernel)
theorem good13 (L : LawT P w K mg base c) : LamGood P w K mg base c 2 (lm 13) :=
  good_of (i := 7) (by decide +kernel) (fun _ _ _ _ => rfl) rfl (by decide) (fun q f' c' A outer s H E hr => pe_k L.readLen hr (by decide) (passE (E := E)) (pa_cons pe_str pa_nil)) (fun H => by walk_at "ea") (by decide +kernel)
theorem good14 (L : LawT P w K mg base c) : LamGood P w K mg base c 2 (lm 14) :=
  good_of (i := 7) (by decide +kernel) (fun _ _ _ _ => rfl) rfl (by decide) (fun q f' c' A outer s H E hr => pe_k L.readLen hr (by decide) (passE (E := E)) (pa_cons pe_str pa_nil)) (fun H => by walk_at "ea") (by decide +kernel)
theorem good15 (L : LawT P w K mg base c) : LamGood P w K mg base c 2 (lm 15) :=
  good_of (i := 7) (by decide +kernel) (fun _ _ _ _ => rfl) rfl (by decide) (fun q f' c' A outer s H E hr => pe_k L.readLen hr (by decide) (passE (E := E)) (pa_cons pe_str pa_nil)) (fun H => by walk_at "ea") (by decide +kernel)
theorem good16 (L : LawT P w K mg base c) : LamGood P w K mg base c 2 (lm 16) :=
  good_of (i := 7) (by decide +kernel) (fun _ _ _ _ => rfl) rfl (by decide) (fun q f' c' A outer s H E hr => pe_k L.readLen hr (by decide) (passE (E := E)) (pa_cons pe_str pa_nil)) (fun H => by walk_at "ea") (by decide +kernel)
theorem good17 (L : LawT P w K mg base c) : LamGood P w K mg base c 2 (lm 17) :=
  good_of (i := 7) (by decide +kernel) (fun _ _ _ _ => rfl) rfl (by decide) (fun q f' c' A outer s H E hr => pe_k L.readLen hr (by decide) (passE (E := E)) (pa_cons pe_str pa_nil)) (fun H => by walk_at "ea") (by decide +kernel)
theorem good_all (L : LawT P w K mg base c) : ∀ l ∈ lms, LamGood P w K mg base c 2 l := by
  rw [lms_is]
  intro l hl
  simp only [List.mem_cons, List.not_mem_nil, or_false] at hl
  rcases hl with rfl | rfl | rfl | rfl | rfl | rfl | rfl | rfl | rfl | rfl | rfl | rfl | rfl | rfl | rfl | rfl | rfl | rfl
  · exact good0 L
  · exact good1 L
  · exact good2 L
  · exact good3 L
  · exact good4 L
  · exact good5 L
  · exact good6 L
  · exact good7 L
  · exact good8 L
  · exact good9 L
  · exact good10 L
  · exact good11 L
  · exact good12 L
  · exact good13 L
  · exact good14 L
  · exact good15 L
  · exact good16 L
  · exact good17 L
theorem wrong_any : ∃ ls : List Lm, ls.length = 18 ∧ (∀ {X : Cx} {T : List (Addr × Str)} {cc PT : Addr} (TB : LamX.TabB X.base X.mg cc PT) (hcode : X.env.code = .ref cc) (hm : (PT, X.env.qual ++ "<lambda>") ∈ T) (hu : ∀ p ∈ T, p.1 = PT → p.2 = X.env.qual ++ "<lambda>") (h : ∀ l ∈ ls, Lam0 l.scope),
    PA X wrongE (tItems T (X.env.qual ++ "<lambda>") ls)) ∧ ∀ {P : Program} {w : World} {K : PySem.W.Frag} {mg : Str → Option Value} {base : Heap} {c : Nat → Addr}, LawT P w K mg base c → ∀ l ∈ ls, LamGood P w K mg base c 2 l :=
  ⟨lms, lms_len, fun TB h1 h2 h3 h4 => pa_wrong TB h1 h2 h3 h4, fun L => good_all L⟩
end
end Rw
namespace Rw
open PySem PySem.Spec PyProof.Rows L2 Evl
local macro_rules | `(tactic| walk_at "sq") => `(tactic| first | assumption | exact SqL.of (by assumption) | exact SqT.of (by assumption))
local macro_rules | `(tactic| walk_at "at") => `(tactic| first | exact atI_nat (j := 0) rfl | exact atI_nat (j := 1) rfl | exact atI_nat (j := 2) rfl | exact atI_nat (j := 3) rfl)
local macro_rules | `(tactic| walk_at "rv") => `(tactic| first
  | with_reducible exact rv_I0
  | ((with_reducible refine' rv_I ?k1); (case k1 => first | (show (0 : Int) < _; omega) | exact ⟨by omega, by omega⟩ | exact .inr ⟨by omega, by omega⟩ | exact .inl ⟨by omega, by omega⟩ | exact ⟨by decide, by decide, by decide⟩))
  | ((with_reducible refine' rv_eq ?k1); (case k1 => exact rfl))
  | ((with_reducible refine' rv_ne ?k1); (case k1 => exact rfl))
  | (refine' rv_ixL ?k1 ?k2; (case k1 => walk_at "sq"); (case k2 => walk_at "at"))
  | (refine' rv_ixT ?k1 ?k2; (case k1 => walk_at "sq"); (case k2 => walk_at "at")))
local macro_rules | `(tactic| walk_at "rc") => `(tactic| first | exact rc_int1 | exact rc_int1b | exact rc_abs)
local macro_rules | `(tactic| walk_at "ea") => `(tactic| first
  | with_reducible exact ea_nil
  | ((with_reducible refine' ea_cons ?k1 ?k2); (case k1 => walk_at "ev"); (case k2 => walk_at "ea")))
local macro_rules | `(tactic| walk_at "ev") => `(tactic| first
  | with_reducible exact ev_c
  | ((with_reducible refine' ev_var ?k1); (case k1 => exact rfl))
  | ((with_reducible refine' ev_op ?k1 ?k2 ?k3); (case k1 => walk_at "ev"); (case k2 => walk_at "ev"); (case k3 => walk_at "rv"))
  | ((with_reducible refine' et_chain ?k1 ?k2 ?k3 ?k4 ?k5); (case k1 => walk_at "ev"); (case k2 => walk_at "ev"); (case k3 => (intro _; walk_at "ev")); (case k4 => walk_at "rv"); (case k5 => (intro _; walk_at "rv")))
  | ((with_reducible refine' ev_cb ?k1 ?k2); (case k1 => walk_at "ea"); (case k2 => walk_at "rc")))
local macro_rules | `(tactic| walk_at "et") => `(tactic| first
  | ((with_reducible refine' et_test ?k1); (case k1 => walk_at "ev"))
  | ((with_reducible refine' et_B ?k1); (case k1 => walk_at "ev"))
  | ((with_reducible refine' et_and ?k1 ?k2); (case k1 => walk_at "et"); (case k2 => (intro _; walk_at "et")))
  | ((with_reducible refine' et_or ?k1 ?k2); (case k1 => walk_at "et"); (case k2 => (intro _; walk_at "et")))
  | ((with_reducible refine' et_not ?k1); (case k1 => walk_at "et")))
local macro_rules | `(tactic| walk_at "ff") => `(tactic| first | exact rfl | assumption)
local macro_rules | `(tactic| walk_at "ev") => `(tactic| first
  | with_reducible exact ev_c
  | ((with_reducible refine' ev_var ?k1); (case k1 => exact rfl))
  | ((with_reducible refine' ev_op ?k1 ?k2 ?k3); (case k1 => walk_at "ev"); (case k2 => walk_at "ev"); (case k3 => walk_at "rv"))
  | ((with_reducible refine' et_chain ?k1 ?k2 ?k3 ?k4 ?k5); (case k1 => walk_at "ev"); (case k2 => walk_at "ev"); (case k3 => (intro _; walk_at "ev")); (case k4 => walk_at "rv"); (case k5 => (intro _; walk_at "rv")))
  | ((with_reducible refine' ev_cb ?k1 ?k2); (case k1 => walk_at "ea"); (case k2 => walk_at "rc"))
  | ((with_reducible refine' ev_F ?k1 ?k2); (case k1 => walk_at "ea"); (case k2 => walk_at "ff"))
  | ((with_reducible refine' ev_two ?k1 ?k2 ?k3); (case k1 => walk_at "ev"); (case k2 => omega); (case k3 => omega)))

section
variable {P : Program} {w : World} {K : PySem.W.Frag} {mg : Str → Option Value} {base : Heap} {c : Nat → Addr}
def Kept (d r PT : Addr) (H : Hp) : Prop := (∃ a b c, H d = some (.lst [.int a, .int b, .int c])) ∧ H r = some (.lst [.ref d]) ∧ H PT = some (.tbl #[])
theorem Kept.ex {d r PT : Addr} {H H' : Hp} (k : Kept d r PT H) (e : Ex H H') : Kept d r PT H' := by
  obtain ⟨⟨a, b, c, h⟩, h2, h3⟩ := k
  exact ⟨⟨a, b, c, e _ _ h⟩, e _ _ h2, e _ _ h3⟩
theorem rd_roll {d r PT : Addr} {H : Hp} {σ : L2.St} {i : Nat} {m : Int} {Q : VK} (k : Kept d r PT H) (hne : r ≠ d) (hσ : σ[i]? = some (some (.ref d))) (hm : 0 < m ∧ m < 1000000) (cont : ∀ v H', 0 ≤ v → v < m → Kept d r PT H' → Q (.int v) H') :
    tCall spRoll [] E0 (tCons (tVar i) (tCons (tC (.int m)) tNil)) σ H Q := by
  obtain ⟨⟨a, b, c, h⟩, h2, h3⟩ := k
  have hP : PT ≠ d := fun z => by
    rw [z, h] at h3
    cases h3
  have hv : EvA (tCons (tVar i) (tCons (tC (.int m)) tNil)) σ H [.ref d, .int m] := ea_cons (ev_var hσ) (ea_cons ev_c ea_nil)
  refine hv H (Ex.refl H) _ fun H1 e1 => ⟨d, a, b, c, m, rfl, e1 _ _ h, hm.1, hm.2, fun v a' b' c' H' v0 v1 eB hd => cont v H' v0 v1 ⟨⟨_, _, _, hd⟩, eB _ _ hne (e1 _ _ h2), eB _ _ hP (e1 _ _ h3)⟩⟩
/-- the loop over the one cell of the script -/
theorem q_rounds {K : PySem.W.Frag} {a : Addr} {ns : List Int} {σ : L2.St} {H : Hp} {ta : TA} {D : Ends} {tu tz : TS} {j : Nat} (hv : EvA ta σ H [.ref a, .int 1]) (hS : SqL K H a (ns.map V.int)) (Pv : Addr → Addr → L2.St → Hp → Prop)
    (h0 : ∀ r d x y z H2, r ≠ d → Ex H H2 → H2 r = some (.lst [.ref d]) → H2 d = some (.lst [.int x, .int y, .int z]) → Pv r d σ H2) (hl : ∀ r d σ' H', Pv r d σ' H' → H' r = some (.lst [.ref d]))
    (hs : ∀ r d σ' H', Pv r d σ' H' → tu { D with nx := Pv r d, ct := Pv r d, bk := tz D } (σ'.set j (some (.ref d))) H') (hd : ∀ r d σ' H', Pv r d σ' H' → tz D σ' H') :
    tSeq (tFor (iList K (tCall (spRounds K) [] E0 ta)) (gName j) tu) tz D σ H :=
  hv H (Ex.refl H) _ fun H1 e1 => ⟨a, ns, rfl, ex_l e1 hS, fun r d x y z H2 hr hd0 hne e2 h2 h3 => ⟨r, rfl, ⟨_, SqL.of h2⟩, for_list (xs := [.ref d]) (fun _ => Pv r d) (h0 r d x y z H2 hne (e1.trans e2) h2 h3) (fun i σ' H' _ p => SqL.of (hl r d σ' H' p))
    (fun i v σ' H' hi p => by
      obtain rfl : v = .ref d := by
        cases i with
        | zero => exact (Option.some.inj hi).symm
        | succ i => simp at hi
      exact hs r d σ' H' p) (fun σ' H' p => hd r d σ' H' p)⟩⟩
def spLaw (K : PySem.W.Frag) (PT : Addr) : Sp := fun vs H Q _ => ∃ (a : Addr) (ns : List Int), vs = [.ref a] ∧ SqL K H a (ns.map V.int) ∧ H PT = some (.tbl #[]) ∧ ∀ H', Q (.bl true) H'
theorem ok_law {f cc PT : Addr} {oc : Value} {od an : Option Addr} {osl : Array (Option Value)} {kV doc pm ct : Value} (lk : K.lookup f = some ⟨oc, od, .func (PySem.W.fnOf "law" "law" (defArgs sLaw) (defBody sLaw) (defScope sLaw) .none kV doc pm an (.ref cc) ct), osl⟩) (hcd : PySem.W.codeIn K (.ref cc) "law" = true) (TB : LamX.TabB base mg cc PT) (L : LawT P w K mg base c) :
    FnOk P w K mg base (L2.CX P w) 5 f (PySem.W.fnOf "law" "law" (defArgs sLaw) (defBody sLaw) (defScope sLaw) .none kV doc pm an (.ref cc) ct) ["script"] (spLaw K PT) := by
  refine fn_of lk hcd scLaw (fun vs H Q E h => ?_) (fun A outer s H vs Q E hr h => ?_)
  · obtain ⟨a, ns, rfl, _⟩ := h
    rfl
  · obtain ⟨a, ns, rfl, hS, hT, q⟩ := h
    have T := L.txt
    obtain ⟨ls, ls18, paw, goods⟩ := wrong_any
    refine ⟨_, pss_cons (ps_for (passes_of rfl) rfl (pi_list (pe_k L.rounds hr (by decide) passL (pa_cons (pv 0) (pa_cons pe_int pa_nil)))) (pg_name (i := 1) scLaw.nd rfl (.inl rfl)) (pss_cons (ps_par3 (i := 2) (j := 3) (l := 4) rfl scLaw.nd rfl rfl rfl (by decide) (by decide) (by decide) rfl rfl rfl (pa_cons (pe_k L.roll hr (by decide) passL (pa_cons (pv 1) (pa_cons pe_int pa_nil))) (pa_cons (pe_k L.roll hr (by decide) passL (pa_cons (pv 1) (pa_cons pe_int pa_nil))) (pa_cons (pe_k L.roll hr (by decide) passL (pa_cons (pv 1) (pa_cons pe_int pa_nil))) pa_nil))) rfl) (pss_cons (ps_set (i := 5) scLaw.nd rfl (.inl rfl) (pe_k L.timeOf hr (by decide) passL (pa_cons (pv 2) (pa_cons (pv 3) (pa_cons (pv 4) pa_nil))))) (pss_cons (ps_if (PW.pt (pw_or (pt_cmpR op_ne (pv 5) (pe_op op_add (pe_op op_add (pe_op op_mul (pv 2) pe_int) (pe_op op_mul (pv 3) pe_int)) (pv 4)) (nomark _)) (pw_or (pt_cmpR (op_neD hr.units) (pe_k L.parts hr (by decide) passL (pa_cons (pv 5) pa_nil)) (pe_tup (pa_cons (pv 2) (pa_cons (pv 3) (pa_cons (pv 4) pa_nil)))) (nomark _)) (pw_or1 (pt_cmpR op_ne (pe_k L.check hr (by decide) passL (pa_cons (pv 5) pa_nil)) (pv 5) (nomark _)))))) (pss_one (ps_ret pe_bl)) pss_nil) (pss_cons (ps_set (i := 6) scLaw.nd rfl (.inl rfl) (pe_k L.toldTime hr (by decide) passL (pa_cons (pv 5) pa_nil))) (pss_cons (ps_if (PW.pt (pw_or (pt_cmpR op_ne (pv 6) (pe_join pe_str (pe_lc (own := [("one", 12)]) (g := gName 12) (tt := tYes) rfl scLaw.nd (pi_list (pe_lst (pa_cons (pv 2) (pa_cons (pv 3) (pa_cons (pv 4) pa_nil))))) (blkOk_by (own := [("one", 12)]) (N := lawN) (sc := defScope sLaw) (by decide +kernel)) (fun _ _ _ _ _ => pg_name (i := 12) scLaw.nd rfl (Or.inl rfl)) (fun _ _ _ _ _ => pts_nil) (fun _ _ _ _ _ => (pe_op op_add_str (pe_op op_times pe_str (pe_callTy call_int1 (by rfl) T.int (by decide +kernel) (pa_cons (pe_cmpR op_lt (pv 12) pe_int (nomark _)) pa_nil))) (pe_callTy call_str_int (by rfl) T.str (by decide +kernel) (pa_cons (pv 12) pa_nil)))))) (nomark _)) (pw_or (pt_cmpR op_ne (pe_k L.readTime hr (by decide) passL (pa_cons (pv 6) pa_nil)) (pv 5) (nomark _)) (pw_or1 (pt_cmpR op_ne (pe_k L.readTime hr (by decide) passL (pa_cons (pe_slice sl_str (pv 6) po_none (po_some pe_int)) pa_nil)) (pe_op op_sub (pv 5) (pv 4)) (nomark _)))))) (pss_one (ps_ret pe_bl)) pss_nil) (pss_cons (ps_set (i := 7) scLaw.nd rfl (.inl rfl) (pe_k L.roll hr (by decide) passL (pa_cons (pv 1) (pa_cons pe_int pa_nil)))) (pss_cons (ps_set (i := 6) scLaw.nd rfl (.inl rfl) (pe_k L.toldLen hr (by decide) passL (pa_cons (pv 7) pa_nil))) (pss_cons (ps_if (PW.pt (pw_or (pt_cmpR op_ne (pe_k L.readLen hr (by decide) passL (pa_cons (pv 6) pa_nil)) (pv 7) (nomark _)) (pw_or (pt_cmpR (op_neD hr.units) (pe_lc (own := [("sign", 13)]) (g := gName 13) (tt := _) rfl scLaw.nd (pi_str (pv 6)) (blkOk_by (own := [("sign", 13)]) (N := lawN) (sc := defScope sLaw) (by decide +kernel)) (fun _ _ _ _ _ => pg_name (i := 13) scLaw.nd rfl (Or.inl rfl)) (fun _ _ _ _ _ => pts_one (pt_cmpR op_notIn_sign (pv 13) pe_str (by rfl))) (fun _ _ _ _ _ => (pv 13))) (pe_lst pa_nil) (nomark _)) (pw_or1 (PW.pt (pw_and (pt_cmpR op_gt (pv 7) pe_int (nomark _)) (pw_and1 (pt_cmpR op_eq (pe_slice sl_str (pv 6) po_none (po_some pe_int)) pe_str (nomark _))))))))) (pss_one (ps_ret pe_bl)) pss_nil) (pss_cons (ps_set (i := 8) scLaw.nd rfl (.inl rfl) (pe_op op_fdiv (pv 7) pe_int)) (pss_cons (ps_if (PW.pt (pw_or (pt_cmpR op_ne (pe_cmpR op_in_sign pe_str (pv 6) (by rfl)) (pe_cmpR op_gt (pv 8) pe_int (nomark _)) (nomark _)) (pw_or (PW.pt (pw_and (pt_cmpR op_gt (pv 8) pe_int (nomark _)) (pw_and1 (pt_cmpR op_ne (pe_ix ix_list (pe_m1 PySem.F.slot_str_split PySem.F.type_str_split mt_split (pv 6) pe_str) pe_int (fun _ _ => rfl)) (pe_callTy call_str_int (by rfl) T.str (by decide +kernel) (pa_cons (pv 8) pa_nil)) (nomark _))))) (pw_or1 (pt_cmpR op_ne (pe_cmpR op_in_sign pe_str (pv 6) (by rfl)) (pe_or (pe_cmpR op_gt (pe_op op_mod (pv 7) pe_int) pe_int (nomark _)) (pe_one (pe_cmpR op_eq (pv 7) pe_int (nomark _)))) (nomark _)))))) (pss_one (ps_ret pe_bl)) pss_nil) (pss_cons (ps_set (i := 9) scLaw.nd rfl (.inl rfl) (pe_op op_add pe_int (pe_k L.roll hr (by decide) passL (pa_cons (pv 1) (pa_cons pe_int pa_nil))))) (pss_cons (ps_set (i := 10) scLaw.nd rfl (.inl rfl) (pe_k L.rounded hr (by decide) passL (pa_cons (pv 5) (pa_cons (pv 9) pa_nil)))) (pss_cons (ps_if (pt_cmpR op_ne (pe_op op_mod (pv 10) (pv 9)) pe_int (nomark _)) (pss_one (ps_ret pe_bl)) pss_nil) (pss_cons (ps_if (pt_cmpR op_gt (pe_op op_mul (pe_callB call_abs (by rfl) T.abs (by decide +kernel) (pa_cons (pe_op op_sub (pv 10) (pv 5)) pa_nil)) pe_int) (pv 9) (nomark _)) (pss_one (ps_ret pe_bl)) pss_nil) (pss_one (ps_if (PW.pt (pw_and (pt_cmpR op_eq (pe_op op_sub (pv 5) (pv 10)) (pe_op op_fdiv (pv 9) pe_int) (nomark _)) (pw_and (pt_cmpR op_eq (pe_op op_mod (pv 9) pe_int) pe_int (nomark _)) (pw_and (pt_cmpR op_gt (pv 9) pe_int (nomark _)) (pw_and1 (pt_cmpR op_lt (pv 10) (pv 5) (nomark _))))))) (pss_one (ps_ret pe_bl)) pss_nil))))))))))))))))) (pss_cons (ps_set (i := 11) scLaw.nd rfl (.inl rfl) (pe_lst (paw (T := [(PT, _)]) TB rfl (List.mem_singleton.mpr rfl) (fun p hp _ => (by rw [List.mem_singleton.mp hp])) (fun l hl => (goods L l hl).1)))) (pss_one (ps_ret (pe_and (pe_cmpR (op_eqD hr.units) (pe_lc (own := [("pair", 14)]) (g := gName 14) (tt := _) rfl scLaw.nd (pi_list (pv 11)) (blkOk_by (own := [("pair", 14)]) (N := lawN) (sc := defScope sLaw) (by decide +kernel)) (fun _ _ _ _ _ => pg_name (i := 14) scLaw.nd rfl (Or.inl rfl)) (fun _ _ _ _ _ => pts_one (pt_cmpR op_ne (pe_k L.told hr (by decide) passL (pa_cons (pe_ix (ix_tupK (K := K)) (pv 14) pe_int (fun _ _ => rfl)) pa_nil)) (pe_ix (ix_tupK (K := K)) (pv 14) pe_int (fun _ _ => rfl)) (nomark _))) (fun _ _ _ _ _ => (pv 14))) (pe_lst pa_nil) (nomark _)) (pe_and (pe_cmpR op_eq (pe_k L.two hr (by decide) passL (pa_cons pe_int pa_nil)) pe_str (nomark _)) (pe_and (pe_cmpR op_eq (pe_k L.two hr (by decide) passL (pa_cons pe_int pa_nil)) pe_str (nomark _)) (pe_one (pe_cmpR op_eq (pe_k L.toldLen hr (by decide) passL (pa_cons pe_int pa_nil)) pe_str (nomark _))))))))), ?_⟩
    refine q_rounds (a := a) (ns := ns) (ea_cons (ev_var rfl) (ea_cons ev_c ea_nil)) hS (fun r d σ' H' => r ≠ d ∧ Kept d r PT H' ∧ ∃ l1 l2 l3 l4 l5 l6 l7 l8 l9 l10 l11 l12 l13 l14, σ' = [some (.ref a), l1, l2, l3, l4, l5, l6, l7, l8, l9, l10, l11, l12, l13, l14])
      (fun r d x y z H2 hne e2 h2 h3 => ⟨hne, ⟨⟨_, _, _, h3⟩, h2, e2 _ _ hT⟩, _, _, _, _, _, _, _, _, _, _, _, _, _, _, rfl⟩) (fun r d σ' H' hP => hP.2.1.2.1) (fun r d σ' H' hP => ?_) (fun r d σ' H' hP => ?_)
    · obtain ⟨hne, k, l1, l2, l3, l4, l5, l6, l7, l8, l9, l10, l11, l12, l13, l14, rfl⟩ := hP
      refine rd_roll k hne rfl (by decide) fun h H3 h0 h1 k3 => rd_roll k3 hne rfl (by decide) fun m H4 m0 m1 k4 => rd_roll k4 hne rfl (by decide) fun s H5 s0 s1 k5 => ⟨_, _, _, rfl, ?_⟩
      obtain ⟨t, et⟩ : ∃ t, h * 3600 + m * 60 + s = t := ⟨_, rfl⟩
      obtain ⟨t0, t1, th, tm, ts⟩ := hms h0 h1 m0 m1 s0 s1 et
      refine q_asg (v := .int t) (ev_F (ea_cons (ev_var rfl) (ea_cons (ev_var rfl) (ea_cons (ev_var rfl) ea_nil))) (by show some (mTimeOf h m s) = _; rw [time_ok h0 h1 m0 m1 s0 s1, et])) fun H6 e6 => ?_
      refine q_when (b := false) ?_ (fun z => nomatch z) fun _ H7 e7 => ?_
      · exact et_is (et_or (a := false) (b := false) (et_same (x := .int t) (y := .int (h * 3600 + m * 60 + s)) (ev_var rfl) (by walk_at "ev") (by rw [et]) rfl)
          fun _ => et_or (a := false) (b := false) (et_test (ev_tupNe (a := h) (b := m) (d := s) (eu_F (ea_cons (ev_var rfl) ea_nil) (by rw [← th, ← tm, ← ts]; exact f_parts t0 t1)) (eu_tup (by walk_at "ea") (by show 3 ≤ 100000; decide))))
          fun _ => et_same (x := .int t) (y := .int t) (ev_F (ea_cons (ev_var rfl) ea_nil) (f_check t0 t1)) (ev_var rfl) rfl rfl) rfl
      have k7 := (k5.ex e6).ex e7
      have eT : timeL t = twoL h ++ ([46] ++ (twoL m ++ ([46] ++ twoL s))) := by unfold timeL; rw [th, tm, ts]
      refine q_asg (v := .str (SX.S (timeL t))) (ev_F (ea_cons (ev_var rfl) ea_nil) (f_toldTime t0 t1)) fun H8 e8 => ?_
      refine q_when (b := false) ?_ (fun z => nomatch z) fun _ H9 e9 => ?_
      · refine et_is (et_or (a := false) (b := false) (et_same (x := .str (SX.S (timeL t))) (y := .str (Txt.join "." ([twoL h, twoL m, twoL s].map SX.S))) (ev_var rfl) (ev_join ev_c ?_ ?_) ?_ rfl)
          fun _ => et_or (a := false) (b := false) (et_same (x := .int t) (y := .int t) (ev_F (ea_cons (ev_var rfl) ea_nil) (f_readTime ?_ ?_)) (ev_var rfl) rfl rfl)
          fun _ => et_same (x := .int (h * 3600 + m * 60)) (y := .int (t - s)) (ev_F (vs := [.str (SX.S (twoL h ++ ([46] ++ twoL m)))]) (ea_cons (ev_is (ev_slS (z := SX.S (timeL t)) (ev_var rfl) eo_none (eo_some ev_c) ?_) ?_) ea_nil) (f_readTime ?_ (read_two h0 h1 m0 m1))) (by walk_at "ev") ?_ rfl) rfl
        · refine el_mapNL (xs := [.int h, .int m, .int s]) (el_lst (by walk_at "ea") (by show 3 ≤ 100000; decide)) (by show 3 ≤ 40000; decide) (fun x => rfl) rfl fun i x y HH ee hx hy => ?_
          obtain ⟨n, n0, n1, rfl, rfl⟩ : ∃ n : Int, 0 ≤ n ∧ n < 100 ∧ x = .int n ∧ y = .str (SX.S (twoL n)) := by
            match i, hx, hy with
            | 0, hx, hy => exact ⟨h, h0, by omega, (Option.some.inj hx).symm, (Option.some.inj hy).symm⟩
            | 1, hx, hy => exact ⟨m, m0, by omega, (Option.some.inj hx).symm, (Option.some.inj hy).symm⟩
            | 2, hx, hy => exact ⟨s, s0, by omega, (Option.some.inj hx).symm, (Option.some.inj hy).symm⟩
            | i + 3, hx, hy => simp at hx
          exact ev_zeros (n := n) (i := 12) rfl n0 n1
        · show 2 + (2 + (2 + 0)) + 3 * ("." : Str).length ≤ 16777216
          rw [dot_S]
          decide
        · rw [dot_S, SX.join_S, eT]
          rfl
        · rw [eT]
          show 8 ≤ 1000
          decide
        · rw [eT, read_three h0 h1 m0 m1 s0 s1, et]
        · rw [eT]
          show 8 ≤ 100000
          decide
        · rw [eT, cut_five]
        · show 5 ≤ 1000
          decide
        · rw [← et]
          exact congrArg V.int (by omega)
      have k9 := (k7.ex e8).ex e9
      refine rd_roll k9 hne rfl (by decide) fun n H10 n0 n1 k10 => ?_
      obtain ⟨n, rfl⟩ : ∃ k : Nat, n = (k : Int) := ⟨n.toNat, by omega⟩
      have n6 : n < 1000000 := by omega
      refine q_asg (v := .str (SX.S (tlText n))) (ev_F (ea_cons (ev_var rfl) ea_nil) (f_toldLen n6)) fun H11 e11 => ?_
      refine q_when (b := false) ?_ (fun z => nomatch z) fun _ H12 e12 => ?_
      · exact et_is (et_or (a := false) (b := false) (et_same (x := .int (n : Int)) (y := .int (n : Int)) (ev_F (ea_cons (ev_var rfl) ea_nil) (f_readLen (tl_size n6) (read_told n n6))) (ev_var rfl) rfl rfl)
          fun _ => et_or (a := false) (b := false) (et_test (ev_noneNe (el_noneStr (z := SX.S (tlText n)) (ev_var rfl) (by show (tlText n).length ≤ 40000; have := tl_size n6; omega) (fun x => rfl) fun cc HH ee hcc => et_is (et_test (ev_op (ev_var rfl) ev_c rv_niSign)) (sign_ok (s := n) hcc))))
          fun _ => et_is (et_and (a := decide ((0 : Int) < (n : Int))) (b := false) (by walk_at "et") fun hpos => et_is (et_test (ev_op (x := .str (cutS (SX.S (tlText n)) none (some 1))) (ev_slS (z := SX.S (tlText n)) (ev_var rfl) eo_none (eo_some ev_c) (by rw [SX.S_len]; have := tl_size n6; omega)) ev_c (rv_eq rfl)))
            (decide_eq_false fun z => head_cut (s := n) (by have := of_decide_eq_true hpos; omega) (by injection z))) (Bool.and_false _)) rfl
      refine q_asg (v := .int ((n / 86400 : Nat) : Int)) (ev_is (ev_op (x := .int (n : Int)) (y := .int 86400) (z := .int ((n : Int) / 86400)) (ev_var rfl) ev_c (rv_I (C := CDiv) (by show CDiv _ _; unfold CDiv; omega))) rfl) fun H13 e13 => ?_
      refine q_when (b := false) ?_ (fun z => nomatch z) fun _ H14 e14 => ?_
      · refine et_is (et_or (a := false) (b := false) (et_same (x := .bl (decide (100 ∈ tlText n))) (y := .bl (decide ((0 : Int) < ((n / 86400 : Nat) : Int)))) (ev_op ev_c (ev_var rfl) rv_inD) (by walk_at "ev") ?_ rfl)
          fun _ => et_or (a := false) (b := false) (et_is (et_and (a := decide ((0 : Int) < ((n / 86400 : Nat) : Int))) (b := false) (by walk_at "et") fun hpos => ?_) (Bool.and_false _))
          fun _ => et_same (x := .bl (decide (115 ∈ tlText n))) (y := .bl (decide ((0 : Int) < (n : Int) % 60) || decide (V.int (n : Int) = V.int 0))) (ev_op ev_c (ev_var rfl) rv_inLs) (ev_orV (by walk_at "ev") fun _ => by walk_at "ev") ?_ rfl) rfl
        · rw [d_in]
          exact congrArg V.bl (decide_eq_decide.mpr (by omega))
        · have hd : 86400 ≤ n := by have := of_decide_eq_true hpos; omega
          obtain ⟨more, es⟩ := d_split hd
          refine et_same (x := .str (SX.S (TL.numL (n / 86400)))) (y := .str (SX.S (TL.numL (n / 86400)))) (ev_opL1 (el_split (a := SX.S (tlText n)) (b := "d") (ev_var rfl) ev_c (by decide) (by rw [SX.S_len]; have := tl_size n6; omega)) (fun H1 e => ev_c) (fun p H1 hp e => rv_ixL (SqL.of hp) ?_)) (ev_is (ev_strI (n := ((n / 86400 : Nat) : Int)) (ev_var rfl) (small_log _ (by omega))) (by rw [SX.num_S])) rfl rfl
          rw [es]
          exact atI_nat (j := 0) rfl
        · rw [s_in]
          refine congrArg V.bl ?_
          have ea : decide (0 < n % 60) = decide ((0 : Int) < (n : Int) % 60) := decide_eq_decide.mpr (by omega)
          have eb : decide (n = 0) = decide (V.int (n : Int) = V.int 0) := decide_eq_decide.mpr ⟨fun z => by rw [z]; rfl, fun z => by injection z with z; omega⟩
          rw [ea, eb]
      have k14 := (((k10.ex e11).ex e12).ex e13).ex e14
      refine rd_roll k14 hne rfl (by decide) fun st0 H15 st0a st0b k15 => ?_
      refine ⟨1, st0, rfl, rfl, ?_⟩
      obtain ⟨st, est⟩ : ∃ st, 1 + st0 = st := ⟨_, rfl⟩
      obtain ⟨p, ep, p1, p2, p3⟩ := put_facts (t := t) (st := st) (by omega)
      subst est
      refine q_asg (v := .int p) (ev_F (ea_cons (ev_var rfl) (ea_cons (ev_var rfl) ea_nil)) (by rw [← ep]; exact f_rounded (by omega) (by omega) (by omega))) fun H16 e16 => ?_
      refine q_when (b := false) (et_same (x := .int (p % (1 + st0))) (y := .int 0) (ev_op (ev_var rfl) (ev_var rfl) (rv_I (C := fun _ j => 0 < j) (g := fun i j => .int (i % j)) (i := p) (j := 1 + st0) (by omega))) ev_c (by rw [p1]) rfl) (fun z => nomatch z) fun _ H17 e17 => ?_
      refine q_when (b := false) (et_is (by walk_at "et") ?_) (fun z => nomatch z) fun _ H18 e18 => ?_
      · refine decide_eq_false ?_
        split <;> omega
      refine s_when (b := false) (et_is (by walk_at "et") ?_) (fun z => nomatch z) fun _ H19 e19 => ?_
      · rw [Bool.and_eq_false_iff, Bool.and_eq_false_iff, Bool.and_eq_false_iff]
        by_cases z : V.int (t - p) = V.int ((1 + st0) / 2)
        · by_cases z2 : V.int ((1 + st0) % 2) = V.int 0
          · injection z with z
            injection z2 with z2
            exact .inr (.inr (.inr (decide_eq_false (by omega))))
          · exact .inr (.inl (decide_eq_false z2))
        · exact .inl (decide_eq_false z)
      exact ⟨hne, (((k15.ex e16).ex e17).ex e18).ex e19, _, _, _, _, _, _, _, _, _, _, _, _, _, _, rfl⟩
    · obtain ⟨hne, k, l1, l2, l3, l4, l5, l6, l7, l8, l9, l10, l11, l12, l13, l14, rfl⟩ := hP
      refine rd_items ls H' _ (fun p hp => (by rw [List.mem_singleton.mp hp]; exact LamX.TabS.nil k.2.2)) fun xs H2 e2 hT2 hi => ⟨?_, fun p hp => ?_⟩
      · rw [hi.len, ls18]
        decide
      have hl : SqL K (upd H2 p (.lst xs)) p xs := SqL.of upd_same
      have hi3 := hi.ext (H' := upd H2 p (.lst xs)) (.of fun b o e => (Ex.new hp) b o e)
      refine s_ret (v := .bl true) (ev_is (ev_andV (a := true) (b := true) (ev_noneEq (el_noneL (ev_var rfl) hl (by rw [hi.len, ls18]; decide) (fun x => rfl) fun x HH ee hx => ?_))
        fun _ => ev_andV (a := true) (b := true) (ev_is (ev_op (ev_F (z := .str (SX.S (twoL 7))) (ea_cons ev_c ea_nil) (by decide +kernel)) ev_c (rv_eq rfl)) (by decide +kernel))
        fun _ => ev_andV (a := true) (b := true) (ev_is (ev_op (ev_F (z := .str (SX.S (twoL 12))) (ea_cons ev_c ea_nil) (by decide +kernel)) ev_c (rv_eq rfl)) (by decide +kernel))
        fun _ => ev_is (ev_op (ev_F (z := .str (SX.S [48, 115])) (ea_cons ev_c ea_nil) (by decide +kernel)) ev_c (rv_eq rfl)) (by decide +kernel)) rfl) fun H9 e9 => q H9
      obtain ⟨l, hl2, tt, ff, c', rfl, i1, i2, i3⟩ := hi3.mem hx
      have i1 := ee _ _ i1
      exact et_same (x := .str l.kind) (y := .str l.kind) (ev_told (goods L l hl2) (ev_op (ev_var rfl) ev_c (rv_ixT (SqT.of i1) (atI_nat (j := 0) rfl))) (ee _ _ i2) (ee _ _ i3)) (ev_op (ev_var rfl) ev_c (rv_ixT (SqT.of i1) (atI_nat (j := 1) rfl))) rfl rfl
end
end Rw
namespace Rw
open PySem PySem.Spec PyProof.Rows L2 Evl

/-- an error of the class at S is what «except S» names, and none of the classes before it -/
def exRow (K : PySem.W.Frag) (C : Addr) (before : List Addr) : Bool := decide (PySem.W.exmOne K (.ref C) (.ref C) = some true) && before.all fun b => decide (PySem.W.exmOne K (.ref C) (.ref b) = some false)
def cOf (l : List Addr) (i : Nat) : Addr := l.getD i 0
theorem exRow_self {K : PySem.W.Frag} {C : Addr} {l : List Addr} (h : exRow K C l = true) : PySem.W.exmOne K (.ref C) (.ref C) = some true := by
  unfold exRow at h
  exact of_decide_eq_true (Bool.and_eq_true_iff.mp h).1
theorem exRow_mem {K : PySem.W.Frag} {C b : Addr} {l : List Addr} (h : exRow K C l = true) (hb : b ∈ l) : PySem.W.exmOne K (.ref C) (.ref b) = some false := by
  unfold exRow at h
  exact of_decide_eq_true (List.all_eq_true.mp (Bool.and_eq_true_iff.mp h).2 b hb)
section
variable {P : Program} {w : World} {K : PySem.W.Frag} {mg : Str → Option Value} {base : Heap}
theorem cal_of {x : Str} {k : Nat} {sp : Sp} {st : Stmt} {f : Addr} {fd : FuncData} {ps : List Str} (F : Fun K x x st f fd) (hm : mg x = some (.ref f)) (ok : FnOk P w K mg base (L2.CX P w) k f fd ps sp) (b : Binds K fd ps []) : Cal P w K mg base k x sp [] :=
  ⟨f, fd, ps, [], hm, F.kp, ok, b, .nil⟩
end
theorem nodig {K : PySem.W.Frag} {base : Heap} (X : K.In base) (nd : PySem.W.nsOkIn K cStatics = true) (nm : PySem.W.nsIn K cStatics "sys.int_max_str_digits" = some none) : base.NoDigits :=
  ⟨_, .of_isNs (PySem.W.isNs_of_in X nd), PySem.W.nsMap_none_of_in X nd nm⟩
theorem all_mk {P : Program} {w : World} {K : PySem.W.Frag} {h : Heap} {mg : Str → Option Value} {C0 C1 C2 C3 C4 C5 C6 C7 C8 C9 C10 f0 f1 f2 f3 f4 f5 f6 f7 f8 f9 f10 f11 fT fL fa : Addr} (X : K.In h) (G : h.Ns mainGlobals mg) (hfa : mg "law" = some (.ref fa)) (own : LamX.OwnTab K fa h)
    {od0 an0 : Option Addr} {sl0 : Array (Option Value)} {oc0 kV0 dc0 pm0 cd0 ct0 : Value}
    {od1 an1 : Option Addr} {sl1 : Array (Option Value)} {oc1 kV1 dc1 pm1 cd1 ct1 : Value}
    {od2 an2 : Option Addr} {sl2 : Array (Option Value)} {oc2 kV2 dc2 pm2 cd2 ct2 : Value}
    {od3 an3 : Option Addr} {sl3 : Array (Option Value)} {oc3 kV3 dc3 pm3 cd3 ct3 : Value}
    {od4 an4 : Option Addr} {sl4 : Array (Option Value)} {oc4 kV4 dc4 pm4 cd4 ct4 : Value}
    {od5 an5 : Option Addr} {sl5 : Array (Option Value)} {oc5 kV5 dc5 pm5 cd5 ct5 : Value}
    {od6 an6 : Option Addr} {sl6 : Array (Option Value)} {oc6 kV6 dc6 pm6 cd6 ct6 : Value}
    {od7 an7 : Option Addr} {sl7 : Array (Option Value)} {oc7 kV7 dc7 pm7 cd7 ct7 : Value}
    {od8 an8 : Option Addr} {sl8 : Array (Option Value)} {oc8 kV8 dc8 pm8 cd8 ct8 : Value}
    {od9 an9 : Option Addr} {sl9 : Array (Option Value)} {oc9 kV9 dc9 pm9 cd9 ct9 : Value}
    {od10 an10 : Option Addr} {sl10 : Array (Option Value)} {oc10 kV10 dc10 pm10 cd10 ct10 : Value}
    {od11 an11 : Option Addr} {sl11 : Array (Option Value)} {oc11 kV11 dc11 pm11 cd11 ct11 : Value}
    {odT anT : Option Addr} {slT : Array (Option Value)} {ocT kVT dcT pmT cdT ctT : Value} {TT : Addr} {oT : Obj} {tkT : Tok} {nT : Nat}
    {odL anL : Option Addr} {slL : Array (Option Value)} {ocL kVL dcL pmL ctL : Value} {cc PT : Addr} {eC : Value} {dC : Option Addr} {vC : Array Value} {sC : Array (Option Value)}
    {tD tF tL : Tok} {aS : Addr} {oS : Obj} {tS1 tS2 tS3 tS4 : Tok} {nS : Nat}
    (e0 : PySem.W.nsIn K mainGlobals "BadCalendar" = some (some (.ref C0)))
    (ex0 : PySem.W.excIn K C0 [.type "ValueError", .type "Exception", .type "BaseException", .type "object"] "ValueError.__new__" = true)
    (ek0 : PySem.W.keepIn K (.ref C0) = true)
    (eb0 : PySem.W.subIn K (.ref C0) (.type "BaseException") = some true)
    (et0 : PySem.W.typeIn K (.ref C0) = some (.type "type"))
    (e1 : PySem.W.nsIn K mainGlobals "BadDay" = some (some (.ref C1)))
    (ex1 : PySem.W.excIn K C1 [.type "ValueError", .type "Exception", .type "BaseException", .type "object"] "ValueError.__new__" = true)
    (ek1 : PySem.W.keepIn K (.ref C1) = true)
    (eb1 : PySem.W.subIn K (.ref C1) (.type "BaseException") = some true)
    (et1 : PySem.W.typeIn K (.ref C1) = some (.type "type"))
    (e2 : PySem.W.nsIn K mainGlobals "BadTime" = some (some (.ref C2)))
    (ex2 : PySem.W.excIn K C2 [.type "ValueError", .type "Exception", .type "BaseException", .type "object"] "ValueError.__new__" = true)
    (ek2 : PySem.W.keepIn K (.ref C2) = true)
    (eb2 : PySem.W.subIn K (.ref C2) (.type "BaseException") = some true)
    (et2 : PySem.W.typeIn K (.ref C2) = some (.type "type"))
    (e3 : PySem.W.nsIn K mainGlobals "BadRule" = some (some (.ref C3)))
    (ex3 : PySem.W.excIn K C3 [.type "ValueError", .type "Exception", .type "BaseException", .type "object"] "ValueError.__new__" = true)
    (ek3 : PySem.W.keepIn K (.ref C3) = true)
    (eb3 : PySem.W.subIn K (.ref C3) (.type "BaseException") = some true)
    (et3 : PySem.W.typeIn K (.ref C3) = some (.type "type"))
    (e4 : PySem.W.nsIn K mainGlobals "BadZone" = some (some (.ref C4)))
    (ex4 : PySem.W.excIn K C4 [.type "ValueError", .type "Exception", .type "BaseException", .type "object"] "ValueError.__new__" = true)
    (ek4 : PySem.W.keepIn K (.ref C4) = true)
    (eb4 : PySem.W.subIn K (.ref C4) (.type "BaseException") = some true)
    (et4 : PySem.W.typeIn K (.ref C4) = some (.type "type"))
    (e5 : PySem.W.nsIn K mainGlobals "BadSize" = some (some (.ref C5)))
    (ex5 : PySem.W.excIn K C5 [.type "ValueError", .type "Exception", .type "BaseException", .type "object"] "ValueError.__new__" = true)
    (ek5 : PySem.W.keepIn K (.ref C5) = true)
    (eb5 : PySem.W.subIn K (.ref C5) (.type "BaseException") = some true)
    (et5 : PySem.W.typeIn K (.ref C5) = some (.type "type"))
    (e6 : PySem.W.nsIn K mainGlobals "BadPaper" = some (some (.ref C6)))
    (ex6 : PySem.W.excIn K C6 [.type "ValueError", .type "Exception", .type "BaseException", .type "object"] "ValueError.__new__" = true)
    (ek6 : PySem.W.keepIn K (.ref C6) = true)
    (eb6 : PySem.W.subIn K (.ref C6) (.type "BaseException") = some true)
    (et6 : PySem.W.typeIn K (.ref C6) = some (.type "type"))
    (e7 : PySem.W.nsIn K mainGlobals "BadText" = some (some (.ref C7)))
    (ex7 : PySem.W.excIn K C7 [.type "ValueError", .type "Exception", .type "BaseException", .type "object"] "ValueError.__new__" = true)
    (ek7 : PySem.W.keepIn K (.ref C7) = true)
    (eb7 : PySem.W.subIn K (.ref C7) (.type "BaseException") = some true)
    (et7 : PySem.W.typeIn K (.ref C7) = some (.type "type"))
    (e8 : PySem.W.nsIn K mainGlobals "BadStore" = some (some (.ref C8)))
    (ex8 : PySem.W.excIn K C8 [.type "ValueError", .type "Exception", .type "BaseException", .type "object"] "ValueError.__new__" = true)
    (ek8 : PySem.W.keepIn K (.ref C8) = true)
    (eb8 : PySem.W.subIn K (.ref C8) (.type "BaseException") = some true)
    (et8 : PySem.W.typeIn K (.ref C8) = some (.type "type"))
    (e9 : PySem.W.nsIn K mainGlobals "NoDay" = some (some (.ref C9)))
    (ex9 : PySem.W.excIn K C9 [.type "ValueError", .type "Exception", .type "BaseException", .type "object"] "ValueError.__new__" = true)
    (ek9 : PySem.W.keepIn K (.ref C9) = true)
    (eb9 : PySem.W.subIn K (.ref C9) (.type "BaseException") = some true)
    (et9 : PySem.W.typeIn K (.ref C9) = some (.type "type"))
    (e10 : PySem.W.nsIn K mainGlobals "NoSuch" = some (some (.ref C10)))
    (ex10 : PySem.W.excIn K C10 [.type "ValueError", .type "Exception", .type "BaseException", .type "object"] "ValueError.__new__" = true)
    (ek10 : PySem.W.keepIn K (.ref C10) = true)
    (eb10 : PySem.W.subIn K (.ref C10) (.type "BaseException") = some true)
    (et10 : PySem.W.typeIn K (.ref C10) = some (.type "type"))
    (em0 : exRow K C0 [] = true)
    (em1 : exRow K C1 [C0] = true)
    (em2 : exRow K C2 [C0, C1] = true)
    (em3 : exRow K C3 [C0, C1, C2] = true)
    (em4 : exRow K C4 [C0, C1, C2, C3] = true)
    (em5 : exRow K C5 [C0, C1, C2, C3, C4] = true)
    (em6 : exRow K C6 [C0, C1, C2, C3, C4, C5] = true)
    (em7 : exRow K C7 [C0, C1, C2, C3, C4, C5, C6] = true)
    (em8 : exRow K C8 [C0, C1, C2, C3, C4, C5, C6, C7] = true)
    (em9 : exRow K C9 [C0, C1, C2, C3, C4, C5, C6, C7, C8] = true)
    (em10 : exRow K C10 [C0, C1, C2, C3, C4, C5, C6, C7, C8, C9] = true)
    (a0 : PySem.W.nsIn K mainGlobals "check_time" = some (some (.ref f0)))
    (l0 : K.lookup f0 = some ⟨oc0, od0, .func (PySem.W.fnOf "check_time" "check_time" (defArgs s_check_time) (defBody s_check_time) (defScope s_check_time) .none kV0 dc0 pm0 an0 cd0 ct0), sl0⟩)
    (c0 : PySem.W.codeIn K cd0 "check_time" = true)
    (k0 : PySem.W.keepIn K (.ref f0) = true)
    (a1 : PySem.W.nsIn K mainGlobals "parts_of" = some (some (.ref f1)))
    (l1 : K.lookup f1 = some ⟨oc1, od1, .func (PySem.W.fnOf "parts_of" "parts_of" (defArgs s_parts_of) (defBody s_parts_of) (defScope s_parts_of) .none kV1 dc1 pm1 an1 cd1 ct1), sl1⟩)
    (c1 : PySem.W.codeIn K cd1 "parts_of" = true)
    (k1 : PySem.W.keepIn K (.ref f1) = true)
    (a2 : PySem.W.nsIn K mainGlobals "two" = some (some (.ref f2)))
    (l2 : K.lookup f2 = some ⟨oc2, od2, .func (PySem.W.fnOf "two" "two" (defArgs s_two) (defBody s_two) (defScope s_two) .none kV2 dc2 pm2 an2 cd2 ct2), sl2⟩)
    (c2 : PySem.W.codeIn K cd2 "two" = true)
    (k2 : PySem.W.keepIn K (.ref f2) = true)
    (a3 : PySem.W.nsIn K mainGlobals "told_time" = some (some (.ref f3)))
    (l3 : K.lookup f3 = some ⟨oc3, od3, .func (PySem.W.fnOf "told_time" "told_time" (defArgs s_told_time) (defBody s_told_time) (defScope s_told_time) .none kV3 dc3 pm3 an3 cd3 ct3), sl3⟩)
    (c3 : PySem.W.codeIn K cd3 "told_time" = true)
    (k3 : PySem.W.keepIn K (.ref f3) = true)
    (a4 : PySem.W.nsIn K mainGlobals "read_time" = some (some (.ref f4)))
    (l4 : K.lookup f4 = some ⟨oc4, od4, .func (PySem.W.fnOf "read_time" "read_time" (defArgs s_read_time) (defBody s_read_time) (defScope s_read_time) .none kV4 dc4 pm4 an4 cd4 ct4), sl4⟩)
    (c4 : PySem.W.codeIn K cd4 "read_time" = true)
    (k4 : PySem.W.keepIn K (.ref f4) = true)
    (a5 : PySem.W.nsIn K mainGlobals "told_length" = some (some (.ref f5)))
    (l5 : K.lookup f5 = some ⟨oc5, od5, .func (PySem.W.fnOf "told_length" "told_length" (defArgs s_told_length) (defBody s_told_length) (defScope s_told_length) .none kV5 dc5 pm5 an5 cd5 ct5), sl5⟩)
    (c5 : PySem.W.codeIn K cd5 "told_length" = true)
    (k5 : PySem.W.keepIn K (.ref f5) = true)
    (a6 : PySem.W.nsIn K mainGlobals "read_length" = some (some (.ref f6)))
    (l6 : K.lookup f6 = some ⟨oc6, od6, .func (PySem.W.fnOf "read_length" "read_length" (defArgs s_read_length) (defBody s_read_length) (defScope s_read_length) .none kV6 dc6 pm6 an6 cd6 ct6), sl6⟩)
    (c6 : PySem.W.codeIn K cd6 "read_length" = true)
    (k6 : PySem.W.keepIn K (.ref f6) = true)
    (a7 : PySem.W.nsIn K mainGlobals "rounded" = some (some (.ref f7)))
    (l7 : K.lookup f7 = some ⟨oc7, od7, .func (PySem.W.fnOf "rounded" "rounded" (defArgs s_rounded) (defBody s_rounded) (defScope s_rounded) .none kV7 dc7 pm7 an7 cd7 ct7), sl7⟩)
    (c7 : PySem.W.codeIn K cd7 "rounded" = true)
    (k7 : PySem.W.keepIn K (.ref f7) = true)
    (a8 : PySem.W.nsIn K mainGlobals "_law_dice" = some (some (.ref f8)))
    (l8 : K.lookup f8 = some ⟨oc8, od8, .func (PySem.W.fnOf "_law_dice" "_law_dice" (defArgs sDice) (defBody sDice) (defScope sDice) .none kV8 dc8 pm8 an8 cd8 ct8), sl8⟩)
    (c8 : PySem.W.codeIn K cd8 "_law_dice" = true)
    (k8 : PySem.W.keepIn K (.ref f8) = true)
    (a9 : PySem.W.nsIn K mainGlobals "_law_roll" = some (some (.ref f9)))
    (l9 : K.lookup f9 = some ⟨oc9, od9, .func (PySem.W.fnOf "_law_roll" "_law_roll" (defArgs sRoll) (defBody sRoll) (defScope sRoll) .none kV9 dc9 pm9 an9 cd9 ct9), sl9⟩)
    (c9 : PySem.W.codeIn K cd9 "_law_roll" = true)
    (k9 : PySem.W.keepIn K (.ref f9) = true)
    (a10 : PySem.W.nsIn K mainGlobals "_law_rounds" = some (some (.ref f10)))
    (l10 : K.lookup f10 = some ⟨oc10, od10, .func (PySem.W.fnOf "_law_rounds" "_law_rounds" (defArgs sRounds) (defBody sRounds) (defScope sRounds) .none kV10 dc10 pm10 an10 cd10 ct10), sl10⟩)
    (c10 : PySem.W.codeIn K cd10 "_law_rounds" = true)
    (k10 : PySem.W.keepIn K (.ref f10) = true)
    (a11 : PySem.W.nsIn K mainGlobals "_law_told" = some (some (.ref f11)))
    (l11 : K.lookup f11 = some ⟨oc11, od11, .func (PySem.W.fnOf "_law_told" "_law_told" (defArgs sTold) (defBody sTold) (defScope sTold) .none kV11 dc11 pm11 an11 cd11 ct11), sl11⟩)
    (c11 : PySem.W.codeIn K cd11 "_law_told" = true)
    (k11 : PySem.W.keepIn K (.ref f11) = true)
    (aT : PySem.W.nsIn K mainGlobals "time_of" = some (some (.ref fT)))
    (lT : K.lookup fT = some ⟨ocT, odT, .func (PySem.W.fnOf "time_of" "time_of" (defArgs s_time_of) (defBody s_time_of) (defScope s_time_of) (.ref TT) kVT dcT pmT anT cdT ctT), slT⟩)
    (cT : PySem.W.codeIn K cdT "time_of" = true)
    (kT : PySem.W.keepIn K (.ref fT) = true)
    (lTT : K.lookup TT = some oT)
    (dTT : oT.data = .seq #[.int 0 tkT] nT)
    (aL : PySem.W.nsIn K mainGlobals "law" = some (some (.ref fL)))
    (lL : K.lookup fL = some ⟨ocL, odL, .func (PySem.W.fnOf "law" "law" (defArgs sLaw) (defBody sLaw) (defScope sLaw) .none kVL dcL pmL anL (.ref cc) ctL), slL⟩)
    (cL : PySem.W.codeIn K (.ref cc) "law" = true)
    (lC : K.lookup cc = some ⟨eC, dC, .fields vC, sC⟩)
    (vP : vC[11]? = some (.ref PT))
    (nP : K.lookup PT = none)
    (hC : PySem.W.codeHdIn K cc PT = true)
    (gD : PySem.W.nsIn K mainGlobals "DAY" = some (some (.int 86400 tD)))
    (gF : PySem.W.nsIn K mainGlobals "FIGURES" = some (some (.str "0123456789" tF)))
    (gL : PySem.W.nsIn K mainGlobals "LETTERS" = some (some (.str "dhms" tL)))
    (gS : PySem.W.nsIn K mainGlobals "SIZES" = some (some (.ref aS)))
    (lS : K.lookup aS = some oS)
    (dS : oS.data = .seq #[.int 86400 tS1, .int 3600 tS2, .int 60 tS3, .int 1 tS4] nS)
    (cS : oS.cls = .type "tuple")
    (n_int : PySem.W.nsIn K mainGlobals "int" = some none)
    (n_str : PySem.W.nsIn K mainGlobals "str" = some none)
    (n_abs : PySem.W.nsIn K mainGlobals "abs" = some none)
    (n_len : PySem.W.nsIn K mainGlobals "len" = some none)
    (n_any : PySem.W.nsIn K mainGlobals "any" = some none)
    (n_zip : PySem.W.nsIn K mainGlobals "zip" = some none)
    (nd : PySem.W.nsOkIn K cStatics = true)
    (nm : PySem.W.nsIn K cStatics "sys.int_max_str_digits" = some none) :
    ∃ (fd : FuncData) (cs : List (Addr × Addr)) (sp : Sp), (∀ p ∈ cs, h.get? p.2 = some { cls := .none, data := .fields #[] }) ∧ (∀ p ∈ cs, K.lookup p.2 = none) ∧ (∀ p ∈ cs, PySem.W.CodeHd h p.1 p.2) ∧ (∀ (s : Shared) (u : Value), BindsTo s fd ⟨[u], []⟩ [("script", u)]) ∧
    (∀ (H : Hp) (a : Addr) (ns : List Int), ns.length ≤ 63 → (∀ z ∈ ns, Builtin.Int.intBits z ≤ 1048576) → (∀ p ∈ cs, H p.2 = some (.tbl #[])) → SqL K H a (ns.map V.int) → sp [.ref a] H (fun v _ => v = .bl true) fun _ _ _ => False) ∧
    ∀ base : Heap, K.In base → base.Ns mainGlobals mg → (∀ p ∈ cs, LamX.TabB base mg p.1 p.2) → FnOk P w K mg base (L2.CX P w) 5 fa fd ["script"] sp := by
  have e := hfa.symm.trans (PySem.W.mg_of X G aL)
  cases e
  have tab : h.get? PT = some { cls := .none, data := .fields #[] } := own cc PT _ _ _ _ _ _ lL rfl rfl lC vP
  refine ⟨PySem.W.fnOf "law" "law" (defArgs sLaw) (defBody sLaw) (defScope sLaw) .none kVL dcL pmL anL (.ref cc) ctL, [(cc, PT)], spLaw K PT, fun p hp => (by rw [List.mem_singleton.mp hp]; exact tab), fun p hp => (by rw [List.mem_singleton.mp hp]; exact nP), fun p hp => (by rw [List.mem_singleton.mp hp]; exact PySem.W.codeHd_of_K X hC), fun s u => .of_eq (by rfl), fun H a ns _ _ hT hS => ⟨a, ns, rfl, hS, hT _ (List.mem_singleton.mpr rfl), fun _ => rfl⟩, fun base KB GB TB => ?_⟩
  have g : ∀ {x : Str} {v : Value}, PySem.W.nsIn K mainGlobals x = some (some v) → mg x = some v := fun e => PySem.W.mg_of X G e
  have g0 : ∀ {x : Str}, PySem.W.nsIn K mainGlobals x = some none → mg x = none := fun e => PySem.W.mg_none_of X G e
  have EX : Exs K mg (cOf [C0, C1, C2, C3, C4, C5, C6, C7, C8, C9, C10]) := by
    constructor
    · intro i hi
      match i, hi with
      | 0, _ => exact ⟨g e0, ex0, ek0, eb0, et0⟩
      | 1, _ => exact ⟨g e1, ex1, ek1, eb1, et1⟩
      | 2, _ => exact ⟨g e2, ex2, ek2, eb2, et2⟩
      | 3, _ => exact ⟨g e3, ex3, ek3, eb3, et3⟩
      | 4, _ => exact ⟨g e4, ex4, ek4, eb4, et4⟩
      | 5, _ => exact ⟨g e5, ex5, ek5, eb5, et5⟩
      | 6, _ => exact ⟨g e6, ex6, ek6, eb6, et6⟩
      | 7, _ => exact ⟨g e7, ex7, ek7, eb7, et7⟩
      | 8, _ => exact ⟨g e8, ex8, ek8, eb8, et8⟩
      | 9, _ => exact ⟨g e9, ex9, ek9, eb9, et9⟩
      | 10, _ => exact ⟨g e10, ex10, ek10, eb10, et10⟩
      | i + 11, hi => exact absurd hi (by omega)
    · intro i j hi hj
      match i, hi with
      | 0, _ =>
        match j, hj with
        | 0, _ => exact exRow_self em0
        | j + 1, hj => exact absurd hj (by omega)
      | 1, _ =>
        match j, hj with
        | 0, _ => exact exRow_mem (b := C0) em1 (by simp)
        | 1, _ => exact exRow_self em1
        | j + 2, hj => exact absurd hj (by omega)
      | 2, _ =>
        match j, hj with
        | 0, _ => exact exRow_mem (b := C0) em2 (by simp)
        | 1, _ => exact exRow_mem (b := C1) em2 (by simp)
        | 2, _ => exact exRow_self em2
        | j + 3, hj => exact absurd hj (by omega)
      | 3, _ =>
        match j, hj with
        | 0, _ => exact exRow_mem (b := C0) em3 (by simp)
        | 1, _ => exact exRow_mem (b := C1) em3 (by simp)
        | 2, _ => exact exRow_mem (b := C2) em3 (by simp)
        | 3, _ => exact exRow_self em3
        | j + 4, hj => exact absurd hj (by omega)
      | 4, _ =>
        match j, hj with
        | 0, _ => exact exRow_mem (b := C0) em4 (by simp)
        | 1, _ => exact exRow_mem (b := C1) em4 (by simp)
        | 2, _ => exact exRow_mem (b := C2) em4 (by simp)
        | 3, _ => exact exRow_mem (b := C3) em4 (by simp)
        | 4, _ => exact exRow_self em4
        | j + 5, hj => exact absurd hj (by omega)
      | 5, _ =>
        match j, hj with
        | 0, _ => exact exRow_mem (b := C0) em5 (by simp)
        | 1, _ => exact exRow_mem (b := C1) em5 (by simp)
        | 2, _ => exact exRow_mem (b := C2) em5 (by simp)
        | 3, _ => exact exRow_mem (b := C3) em5 (by simp)
        | 4, _ => exact exRow_mem (b := C4) em5 (by simp)
        | 5, _ => exact exRow_self em5
        | j + 6, hj => exact absurd hj (by omega)
      | 6, _ =>
        match j, hj with
        | 0, _ => exact exRow_mem (b := C0) em6 (by simp)
        | 1, _ => exact exRow_mem (b := C1) em6 (by simp)
        | 2, _ => exact exRow_mem (b := C2) em6 (by simp)
        | 3, _ => exact exRow_mem (b := C3) em6 (by simp)
        | 4, _ => exact exRow_mem (b := C4) em6 (by simp)
        | 5, _ => exact exRow_mem (b := C5) em6 (by simp)
        | 6, _ => exact exRow_self em6
        | j + 7, hj => exact absurd hj (by omega)
      | 7, _ =>
        match j, hj with
        | 0, _ => exact exRow_mem (b := C0) em7 (by simp)
        | 1, _ => exact exRow_mem (b := C1) em7 (by simp)
        | 2, _ => exact exRow_mem (b := C2) em7 (by simp)
        | 3, _ => exact exRow_mem (b := C3) em7 (by simp)
        | 4, _ => exact exRow_mem (b := C4) em7 (by simp)
        | 5, _ => exact exRow_mem (b := C5) em7 (by simp)
        | 6, _ => exact exRow_mem (b := C6) em7 (by simp)
        | 7, _ => exact exRow_self em7
        | j + 8, hj => exact absurd hj (by omega)
      | 8, _ =>
        match j, hj with
        | 0, _ => exact exRow_mem (b := C0) em8 (by simp)
        | 1, _ => exact exRow_mem (b := C1) em8 (by simp)
        | 2, _ => exact exRow_mem (b := C2) em8 (by simp)
        | 3, _ => exact exRow_mem (b := C3) em8 (by simp)
        | 4, _ => exact exRow_mem (b := C4) em8 (by simp)
        | 5, _ => exact exRow_mem (b := C5) em8 (by simp)
        | 6, _ => exact exRow_mem (b := C6) em8 (by simp)
        | 7, _ => exact exRow_mem (b := C7) em8 (by simp)
        | 8, _ => exact exRow_self em8
        | j + 9, hj => exact absurd hj (by omega)
      | 9, _ =>
        match j, hj with
        | 0, _ => exact exRow_mem (b := C0) em9 (by simp)
        | 1, _ => exact exRow_mem (b := C1) em9 (by simp)
        | 2, _ => exact exRow_mem (b := C2) em9 (by simp)
        | 3, _ => exact exRow_mem (b := C3) em9 (by simp)
        | 4, _ => exact exRow_mem (b := C4) em9 (by simp)
        | 5, _ => exact exRow_mem (b := C5) em9 (by simp)
        | 6, _ => exact exRow_mem (b := C6) em9 (by simp)
        | 7, _ => exact exRow_mem (b := C7) em9 (by simp)
        | 8, _ => exact exRow_mem (b := C8) em9 (by simp)
        | 9, _ => exact exRow_self em9
        | j + 10, hj => exact absurd hj (by omega)
      | 10, _ =>
        match j, hj with
        | 0, _ => exact exRow_mem (b := C0) em10 (by simp)
        | 1, _ => exact exRow_mem (b := C1) em10 (by simp)
        | 2, _ => exact exRow_mem (b := C2) em10 (by simp)
        | 3, _ => exact exRow_mem (b := C3) em10 (by simp)
        | 4, _ => exact exRow_mem (b := C4) em10 (by simp)
        | 5, _ => exact exRow_mem (b := C5) em10 (by simp)
        | 6, _ => exact exRow_mem (b := C6) em10 (by simp)
        | 7, _ => exact exRow_mem (b := C7) em10 (by simp)
        | 8, _ => exact exRow_mem (b := C8) em10 (by simp)
        | 9, _ => exact exRow_mem (b := C9) em10 (by simp)
        | 10, _ => exact exRow_self em10
        | j + 11, hj => exact absurd hj (by omega)
      | i + 11, hi => exact absurd hi (by omega)
  have TX : Txt K mg base (cOf [C0, C1, C2, C3, C4, C5, C6, C7, C8, C9, C10]) := ⟨EX, g0 n_int, g0 n_str, g0 n_abs, g0 n_len, g0 n_any, g0 n_zip, ⟨_, g gD⟩, ⟨_, g gF⟩, ⟨_, g gL⟩,
    ⟨aS, g gS, fun H => .inr ⟨oS, _, _, lS, cS, dS, by show 4 ≤ sizeLine; decide, .cons ⟨_, rfl⟩ (.cons ⟨_, rfl⟩ (.cons ⟨_, rfl⟩ (.cons ⟨_, rfl⟩ .nil)))⟩⟩, nodig KB nd nm⟩
  have BL : Blt mg := ⟨g0 n_int, g0 n_abs⟩
  have F0 := fun_mk (x := "check_time") (qual := "check_time") (st := s_check_time) l0 c0 k0
  have b0 := F0.binds (ps := ["seconds"]) fun _ _ _ _ _ _ us hl => match us, hl with | [_], _ => rfl
  have F1 := fun_mk (x := "parts_of") (qual := "parts_of") (st := s_parts_of) l1 c1 k1
  have b1 := F1.binds (ps := ["seconds"]) fun _ _ _ _ _ _ us hl => match us, hl with | [_], _ => rfl
  have F2 := fun_mk (x := "two") (qual := "two") (st := s_two) l2 c2 k2
  have b2 := F2.binds (ps := ["number"]) fun _ _ _ _ _ _ us hl => match us, hl with | [_], _ => rfl
  have F3 := fun_mk (x := "told_time") (qual := "told_time") (st := s_told_time) l3 c3 k3
  have b3 := F3.binds (ps := ["seconds"]) fun _ _ _ _ _ _ us hl => match us, hl with | [_], _ => rfl
  have F4 := fun_mk (x := "read_time") (qual := "read_time") (st := s_read_time) l4 c4 k4
  have b4 := F4.binds (ps := ["text"]) fun _ _ _ _ _ _ us hl => match us, hl with | [_], _ => rfl
  have F5 := fun_mk (x := "told_length") (qual := "told_length") (st := s_told_length) l5 c5 k5
  have b5 := F5.binds (ps := ["seconds"]) fun _ _ _ _ _ _ us hl => match us, hl with | [_], _ => rfl
  have F6 := fun_mk (x := "read_length") (qual := "read_length") (st := s_read_length) l6 c6 k6
  have b6 := F6.binds (ps := ["text"]) fun _ _ _ _ _ _ us hl => match us, hl with | [_], _ => rfl
  have F7 := fun_mk (x := "rounded") (qual := "rounded") (st := s_rounded) l7 c7 k7
  have b7 := F7.binds (ps := ["seconds", "step"]) fun _ _ _ _ _ _ us hl => match us, hl with | [_, _], _ => rfl
  have F8 := fun_mk (x := "_law_dice") (qual := "_law_dice") (st := sDice) l8 c8 k8
  have b8 := F8.binds (ps := ["cell"]) fun _ _ _ _ _ _ us hl => match us, hl with | [_], _ => rfl
  have F9 := fun_mk (x := "_law_roll") (qual := "_law_roll") (st := sRoll) l9 c9 k9
  have b9 := F9.binds (ps := ["dice", "many"]) fun _ _ _ _ _ _ us hl => match us, hl with | [_, _], _ => rfl
  have F10 := fun_mk (x := "_law_rounds") (qual := "_law_rounds") (st := sRounds) l10 c10 k10
  have b10 := F10.binds (ps := ["script", "most"]) fun _ _ _ _ _ _ us hl => match us, hl with | [_, _], _ => rfl
  have F11 := fun_mk (x := "_law_told") (qual := "_law_told") (st := sTold) l11 c11 k11
  have b11 := F11.binds (ps := ["what"]) fun _ _ _ _ _ _ us hl => match us, hl with | [_], _ => rfl
  have FT : L2.FunD K "time_of" "time_of" (defArgs s_time_of) (defBody s_time_of) (defScope s_time_of) [.int 0] [] fT _ := ⟨⟨_, _, _, _, _, _, _, _, _, _, rfl, lT, cT, .inr ⟨by simp, TT, oT, [.int 0 tkT], nT, rfl, lTT, dTT, .cons ⟨_, rfl⟩ .nil⟩, .inl rfl⟩, kT⟩
  obtain ⟨ds3, v3, bT3⟩ := FT.binds1 (ps := ["hours", "minutes", "seconds"]) 3 1 (by simp) rfl fun T kV doc pm an cdv ct us its hu hi => match us, its, hu, hi with | [_, _, _], [_], _, _ => ⟨_, rfl, rfl⟩
  obtain ⟨ds2, v2, bT2⟩ := FT.binds1 (ps := ["hours", "minutes", "seconds"]) 2 0 (by simp) rfl fun T kV doc pm an cdv ct us its hu hi => match us, its, hu, hi with | [_, _], [_], _, _ => ⟨_, rfl, rfl⟩
  have oT := ok_time_of (P := P) (w := w) (mg := mg) (base := base) FT TX
  have K_check := cal_of F0 (g a0) (ok_check_time (P := P) (w := w) F0 TX) b0
  have K_timeOf : Cal P w K mg base 1 "time_of" (spF _ fTimeOf) [] := ⟨fT, _, _, ds3, g aT, kT, oT, bT3, v3⟩
  have K_timeOf2 : Cal P w K mg base 1 "time_of" (spF _ fTimeOf) [.int 0] := ⟨fT, _, _, ds2, g aT, kT, oT, bT2, v2⟩
  have K_parts := cal_of F1 (g a1) (ok_parts_of F1 K_check) b1
  have K_two := cal_of F2 (g a2) (ok_two (P := P) (w := w) (mg := mg) (c := cOf [C0, C1, C2, C3, C4, C5, C6, C7, C8, C9, C10]) F2 TX) b2
  have K_toldTime := cal_of F3 (g a3) (ok_told_time F3 K_parts K_two) b3
  have K_readTime := cal_of F4 (g a4) (ok_read_time F4 TX K_timeOf) b4
  have K_toldLen := cal_of F5 (g a5) (ok_told_length (P := P) (w := w) F5 TX) b5
  have K_readLen := cal_of F6 (g a6) (ok_read_length (P := P) (w := w) F6 TX) b6
  have K_rounded := cal_of F7 (g a7) (ok_rounded (P := P) (w := w) F7 TX) b7
  have K_dice := cal_of F8 (g a8) (ok_dice (P := P) (w := w) (base := base) F8 BL) b8
  have K_roll := cal_of F9 (g a9) (ok_roll (P := P) (w := w) (base := base) F9 BL) b9
  have K_rounds := cal_of F10 (g a10) (ok_rounds F10 K_dice) b10
  have K_told := cal_of F11 (g a11) (ok_told (P := P) (w := w) (base := base) (k := 2) F11 EX) b11
  exact ok_law lL cL (TB _ (List.mem_singleton.mpr rfl)) ⟨TX, K_rounds, K_roll, K_told, K_check, K_timeOf, K_timeOf2, K_parts, K_toldTime, K_readTime, K_toldLen, K_readLen, K_rounded, K_two⟩
end Rw
open PySem PySem.W PyProof.Rows
set_option maxRecDepth 100000 in
set_option maxHeartbeats 0 in
theorem PySem.Challenge.cw_recurwright_k08_times_of_day_and_lengths_holds : PySem.Challenge.rw_recurwright_k08_times_of_day_and_lengths.Holds := by
  w_on; o_law; k_head; (case hw => w_witness2)
  k_fill
  refine LamX.walk_ofOwn (l := PySem.Challenge.rw_recurwright_k08_times_of_day_and_lengths) (n := 63) (k := 5) (x := "script") (CX := fun w => L2.CX PySem.Challenge.pw_recurwright_k08_times_of_day_and_lengths w) rfl (by decide) rfl ⟨rfl, by decide, by decide⟩ (by decide +kernel) (fun w h Y => PySem.W.km_in_of Y) ?F ?C
  case F =>
    intro w mg fa h Y KX G hmg own
    refine' Rw.all_mk KX G hmg own ?e0 ?ex0 ?ek0 ?eb0 ?et0 ?e1 ?ex1 ?ek1 ?eb1 ?et1 ?e2 ?ex2 ?ek2 ?eb2 ?et2 ?e3 ?ex3 ?ek3 ?eb3 ?et3 ?e4 ?ex4 ?ek4 ?eb4 ?et4 ?e5 ?ex5 ?ek5 ?eb5 ?et5 ?e6 ?ex6 ?ek6 ?eb6 ?et6 ?e7 ?ex7 ?ek7 ?eb7 ?et7 ?e8 ?ex8 ?ek8 ?eb8 ?et8 ?e9 ?ex9 ?ek9 ?eb9 ?et9 ?e10 ?ex10 ?ek10 ?eb10 ?et10 ?em0 ?em1 ?em2 ?em3 ?em4 ?em5 ?em6 ?em7 ?em8 ?em9 ?em10 ?a0 ?l0 ?c0 ?k0 ?a1 ?l1 ?c1 ?k1 ?a2 ?l2 ?c2 ?k2 ?a3 ?l3 ?c3 ?k3 ?a4 ?l4 ?c4 ?k4 ?a5 ?l5 ?c5 ?k5 ?a6 ?l6 ?c6 ?k6 ?a7 ?l7 ?c7 ?k7 ?a8 ?l8 ?c8 ?k8 ?a9 ?l9 ?c9 ?k9 ?a10 ?l10 ?c10 ?k10 ?a11 ?l11 ?c11 ?k11 ?aT ?lT ?cT ?kT ?lTT ?dTT ?aL ?lL ?cL ?lC ?vP ?nP ?hC ?gD ?gF ?gL ?gS ?lS ?dS ?cS ?n_int ?n_str ?n_abs ?n_len ?n_any ?n_zip ?nd ?nm
    (case e0 => k_is)
    (case ex0 => k_exc)
    (case ek0 => k_is)
    (case eb0 => k_is)
    (case et0 => k_is)
    (case e1 => k_is)
    (case ex1 => k_exc)
    (case ek1 => k_is)
    (case eb1 => k_is)
    (case et1 => k_is)
    (case e2 => k_is)
    (case ex2 => k_exc)
    (case ek2 => k_is)
    (case eb2 => k_is)
    (case et2 => k_is)
    (case e3 => k_is)
    (case ex3 => k_exc)
    (case ek3 => k_is)
    (case eb3 => k_is)
    (case et3 => k_is)
    (case e4 => k_is)
    (case ex4 => k_exc)
    (case ek4 => k_is)
    (case eb4 => k_is)
    (case et4 => k_is)
    (case e5 => k_is)
    (case ex5 => k_exc)
    (case ek5 => k_is)
    (case eb5 => k_is)
    (case et5 => k_is)
    (case e6 => k_is)
    (case ex6 => k_exc)
    (case ek6 => k_is)
    (case eb6 => k_is)
    (case et6 => k_is)
    (case e7 => k_is)
    (case ex7 => k_exc)
    (case ek7 => k_is)
    (case eb7 => k_is)
    (case et7 => k_is)
    (case e8 => k_is)
    (case ex8 => k_exc)
    (case ek8 => k_is)
    (case eb8 => k_is)
    (case et8 => k_is)
    (case e9 => k_is)
    (case ex9 => k_exc)
    (case ek9 => k_is)
    (case eb9 => k_is)
    (case et9 => k_is)
    (case e10 => k_is)
    (case ex10 => k_exc)
    (case ek10 => k_is)
    (case eb10 => k_is)
    (case et10 => k_is)
    (case em0 => kernel_rfl)
    (case em1 => kernel_rfl)
    (case em2 => kernel_rfl)
    (case em3 => kernel_rfl)
    (case em4 => kernel_rfl)
    (case em5 => kernel_rfl)
    (case em6 => kernel_rfl)
    (case em7 => kernel_rfl)
    (case em8 => kernel_rfl)
    (case em9 => kernel_rfl)
    (case em10 => kernel_rfl)
    (case a0 => k_is)
    (case l0 => k_is)
    (case c0 => k_is)
    (case k0 => k_is)
    (case a1 => k_is)
    (case l1 => k_is)
    (case c1 => k_is)
    (case k1 => k_is)
    (case a2 => k_is)
    (case l2 => k_is)
    (case c2 => k_is)
    (case k2 => k_is)
    (case a3 => k_is)
    (case l3 => k_is)
    (case c3 => k_is)
    (case k3 => k_is)
    (case a4 => k_is)
    (case l4 => k_is)
    (case c4 => k_is)
    (case k4 => k_is)
    (case a5 => k_is)
    (case l5 => k_is)
    (case c5 => k_is)
    (case k5 => k_is)
    (case a6 => k_is)
    (case l6 => k_is)
    (case c6 => k_is)
    (case k6 => k_is)
    (case a7 => k_is)
    (case l7 => k_is)
    (case c7 => k_is)
    (case k7 => k_is)
    (case a8 => k_is)
    (case l8 => k_is)
    (case c8 => k_is)
    (case k8 => k_is)
    (case a9 => k_is)
    (case l9 => k_is)
    (case c9 => k_is)
    (case k9 => k_is)
    (case a10 => k_is)
    (case l10 => k_is)
    (case c10 => k_is)
    (case k10 => k_is)
    (case a11 => k_is)
    (case l11 => k_is)
    (case c11 => k_is)
    (case k11 => k_is)
    (case aT => k_is)
    (case lT => k_is)
    (case cT => k_is)
    (case kT => k_is)
    (case lTT => k_is)
    (case dTT => exact rfl)
    (case aL => k_is)
    (case lL => k_is)
    (case cL => k_is)
    (case lC => k_is)
    (case vP => exact rfl)
    (case nP => kernel_rfl)
    (case hC => kernel_rfl)
    (case gD => k_is)
    (case gF => k_is)
    (case gL => k_is)
    (case gS => k_is)
    (case lS => k_is)
    (case dS => exact rfl)
    (case cS => exact rfl)
    (case n_int => k_is)
    (case n_str => k_is)
    (case n_abs => k_is)
    (case n_len => k_is)
    (case n_any => k_is)
    (case n_zip => k_is)
    (case nd => kernel_rfl)
    (case nm => k_is)
  case C =>
    intro w H s e s' z
    unfold L2.CX at z
    simp at z
