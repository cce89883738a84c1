import PyProof.Rows.All
import Wide.All
import OpenK.AllK
import Wide.FinOn
import PySem.Challenge.RW_recurwright_k16_terms_of_business
import HandS.EndOwn
import HandS.WordsExc
import HandS.Defaults
import PyProof.WalksMore
import PyProof.SumWalkG
import PyProof.MinMaxWalk
import PyProof.Rows.StrCut
import HandS.Codes
import HandS.StrMore
import PyProof.FString3
import PyProof.FString
import PyProof.Rows.StrIntSpec
import HandS.FStr
import KE.KLam
import HandS.Base
import HandS.Call
import HandS.List
import HandS.Comp
import HandS.Ends
import HandS.Text
import HandS.Exc
import HandS.ExcOwn
import HandS.TryOnly
import HandS.TryMany
import HandS.Lambda
import HandS.Iter
import HandS.Words
import HandS.Evl
import HandS.Flow
import KE.GoesMore
import KE.GoesZip
import KE.GoesEnum
import HandS.Walk
import HandS.Steps
import KE.DataEq
import HandS.Dict
import HandS.DictComp
import PyProof.EnumMake
import PyProof.EnumFor
import PyProof.Draws
import PyProof.AssignAttr
import HandS.Sort
import KE.DatumOrd
import HandS.SortKw
import HandS.Deep
import HandS.Small
import HandS.Style
import HandS.More
import PyProof.Rows.SortShell
set_option Elab.async false
set_option linter.all false
set_option maxRecDepth 100000
set_option maxHeartbeats 4100000
namespace Rw
open PySem PySem.Spec PyProof.Rows L2 Evl
/-- a lambda of no captured names, as a tracked object -/
def LamO (f : Addr) (q : Str) (params : Arguments) (body : Expr) (scope : Scope) (c' : Addr) : HO :=
  .ext fun h => ∃ pm ctv, h.get? f = some (PySem.W.kla_obj "<lambda>" q params body scope [] pm c' ctv)
theorem LamO_ne {f : Addr} {q : Str} {params : Arguments} {body : Expr} {scope : Scope} {c' : Addr} (ps : Array Value) : LamO f q params body scope c' ≠ .tbl ps := fun z => by
  unfold LamO at z
  cases z
/-- the names of a lambda without parameters that captures nothing -/
structure Lam0 (scope : Scope) : Prop where
  kind : scope.kind = .function
  co : scope.isCoroutine = false
  gen : scope.isGenerator = false
  own : ∀ y ∈ scope.names, y.2 ≠ .local ∧ y.2 ≠ .cell ∧ y.2 ≠ .free
def lam0B (scope : Scope) : Bool := decide (scope.kind = .function) && !scope.isCoroutine && !scope.isGenerator && scope.names.all fun y => !decide (y.2 = .local) && !decide (y.2 = .cell) && !decide (y.2 = .free)
theorem lam0_by {scope : Scope} (h : lam0B scope = true) : Lam0 scope := by
  unfold lam0B at h
  simp only [Bool.and_eq_true, Bool.not_eq_true', decide_eq_true_eq, decide_eq_false_iff_not, List.all_eq_true] at h
  obtain ⟨⟨⟨h1, h2⟩, h3⟩, h4⟩ := h
  exact ⟨h1, h2, h3, fun y hy => ⟨(h4 y hy).1.1, (h4 y hy).1.2, (h4 y hy).2⟩⟩
theorem Lam0.clo {scope : Scope} (L : Lam0 scope) (cells : List (Str × Addr)) : cloFrom cells scope.names [] = [] := by
  have go : ∀ (names : List (Str × NameKind)) (acc : List (Str × Addr)), (∀ y ∈ names, y.2 ≠ .free) → cloFrom cells names acc = acc := by
    intro names
    induction names with
    | nil => intro acc _; rfl
    | cons a r ih =>
      obtain ⟨n, k⟩ := a
      intro acc h
      unfold cloFrom
      have hk : ¬ ((k == NameKind.free) = true) := fun e => h (n, k) List.mem_cons_self (by simpa using e)
      rw [if_neg hk]
      exact ih acc fun y hy => h y (List.mem_cons_of_mem _ hy)
  exact go scope.names [] fun y hy => (L.own y hy).2.2
abbrev lamEnv0 (q : Str) (scope : Scope) (L f c' : Addr) : Env := PySem.W.envX q scope L f (.ref c') []
def lamCx0 (P : Program) (w : World) (K : PySem.W.Frag) (mg : Str → Option Value) (base : Heap) (A : Around) (outer : List Env) (s : Shared) (H : Hp) (E : XK) (q : Str) (scope : Scope) (f c' : Addr) : Cx where
  prog := P
  w := w
  K := K
  mg := mg
  base := base
  A := A.deeper (lamEnv0 q scope s.heap.objs.size f c')
  N := []
  s_0 := s
  H_0 := H
  env := lamEnv0 q scope s.heap.objs.size f c'
  outer := outer
  stack := lamEnv0 q scope s.heap.objs.size f c' :: outer
  ex := []
  fn := fun _ => false
  calm := true
  pn := []
  xe := fun e s' => wpAny (model P w) (A.deeper (lamEnv0 q scope s.heap.objs.size f c')) (leaving (lamEnv0 q scope s.heap.objs.size f c') e) (fun _ s'' => L2.CX P w outer H s E e s'') (fun e' s'' => L2.CX P w outer H s E e' s'') s'
section
variable {P : Program} {w : World} {K : PySem.W.Frag} {mg : Str → Option Value} {base : Heap}
theorem lam_start0 {A : Around} {outer : List Env} {E : XK} {q : Str} {scope : Scope} {f c' : Addr} {hN : Heap} {tk : Nat} {s1 : Shared} {HZ : Hp} (LS : Lam0 scope) (env0 : Env0 P w K mg base A outer s1 HZ) (calm : A.handled = none)
    (newNs : hN.Ns s1.heap.objs.size fun y => ([] : List (Str × Value)).reverse.lookup y) (stays : ∀ b o, s1.heap.get? b = some o → hN.get? b = some o) :
    Inv (lamCx0 P w K mg base A outer s1 HZ E q scope f c') [] [] HZ { s1 with heap := hN, toks := tk } := by
  have noEx : ∀ b : Addr, b ∉ (lamCx0 P w K mg base A outer s1 HZ E q scope f c').ex := fun b z => absurd (show b ∈ ([] : List Addr) from z) (by simp)
  have plainN : ∀ {y : Str} {k : NameKind}, scope.names.lookup y = some k → k ≠ .local ∧ k ≠ .cell ∧ k ≠ .free := fun {y k} hl => LS.own _ (PySem.mem_of_lookup hl)
  refine ⟨⟨env0.mod, LS.kind, rfl, rfl, Nat.le_refl _, fun y z c e1 e2 => ?_, fun y isy => ?_, fun y c z _ => ?_, fun _ => calm, Around.frames_deeper env0.frames, .inr ⟨rfl, rfl⟩, fun b z => absurd z (noEx b), env0.bs, env0.bsz, fun b _ _ => noEx b,
      fun b z => absurd z (noEx b), env0.funs, env0.frf⟩,
    rfl, env0.bare, Un.kept stays, ⟨_, newNs, fun i y v e1 e2 e3 => ?_⟩, fun y c e => ?_, env0.hok.fresh (Nat.le_refl _), fun y c e => ?_, fun q hq => absurd (show q ∈ ([] : List (Addr × Obj)) ++ [] from hq) (by simp), env0.hok.kept stays, rfl⟩
  · have z : List.lookup y ([] : List (Str × Addr)) = some c := e1
    cases z
  · have isy : scope.names.lookup y = some .cell ∨ scope.names.lookup y = some .free := isy
    rcases isy with isy | isy
    · exact absurd rfl (plainN isy).2.1
    · exact absurd rfl (plainN isy).2.2
  · have z : false = true := z
    cases z
  · have e1 : ([] : List Str)[i]? = some y := e1
    simp at e1
  · have z : List.lookup y ([] : List (Str × Addr)) = some c := e
    cases z
  · have z : List.lookup y ([] : List (Str × Addr)) = some c := e
    cases z
end
section
variable {X : Cx} {pins : List (Addr × Obj)} {σ : L2.St} {H : Hp} {s : Shared}
/-- what the body of a lambda at f is worth: E what it raises; read where it runs -/
def LamRun (P : Program) (w : World) (K : PySem.W.Frag) (mg : Str → Option Value) (base : Heap) (k : Nat) (q : Str) (scope : Scope) (body : Expr) (f c' : Addr) (tb : XK → Hp → VK → Prop) : Prop :=
  ∀ (A : Around) (outer : List Env) (s : Shared) (H : Hp) (E : XK), Room k (A.deeper (lamEnv0 q scope s.heap.objs.size f c')) →
    PE (lamCx0 P w K mg base A outer s H E q scope f c') body (fun _ H1 Q1 => tb E H1 Q1)
/-- x() where x holds such a lambda -/
theorem pe_actO {W : WX} {E : XK} {k i : Nat} {a : Str} {p1 p2 : Pos} (takes : Takes X W) (hW : ∀ cls d σ' Hv, E cls d Hv → W cls d σ' Hv) (room : Room (k + 1) X.A)
    (hN : X.N[i]? = some a) (hv : Vis X.env.scope a) (hd : (a == ("__debug__" : Str)) = false := by decide) (hcd : (a == ("__classdict__" : Str)) = false := by decide) :
    PE X (.Call (.Name a p1) [] [] p2) (fun σ H Q => ∃ (f c' : Addr) (q : Str) (params : Arguments) (body : Expr) (scope : Scope) (tb : XK → Hp → VK → Prop), σ[i]? = some (some (.ref f)) ∧ H f = some (LamO f q params body scope c') ∧ H c' = some (LamX.CodeO c' q) ∧ Lam0 scope ∧
      (∀ (pm cv ctv : Value), bindArgs (PySem.W.kla_fn "<lambda>" q params body scope [] pm cv ctv) ⟨[], []⟩ = pure []) ∧ LamRun X.prog X.w X.K X.mg X.base k q scope body f c' tb ∧ tb E H Q) := by
  refine ⟨fun pz tz uz Hz Q Iz h => ?_⟩
  obtain ⟨f, c', q, params, body, scope, tb, hs, isf, isc, L, binds, runs, ht⟩ := h
  refine wpAny_Call_Name_kw (thn ((pe_var (pos := p1) (i := i) hN hv hd hcd).run pz tz uz Hz (fun v H1 => v = .ref f ∧ H1 = Hz) Iz ⟨.ref f, hs, rfl, rfl⟩) fun u sv ⟨v, H1, J1, rel, ends⟩ => ?_)
  obtain ⟨eqv, eqH⟩ := ends
  subst eqv
  rw [eqH] at J1
  obtain rfl : u = Value.ref f := rel
  obtain ⟨⟨pm, ctv, objf⟩, _, _⟩ := J1.hok f _ isf
  refine PySem.W.callWith_F0 ⟨_, _, _, _, objf⟩ ?_
  obtain ⟨⟨oc, vs, t, objc, datac, qualc⟩, _, _⟩ := J1.hok c' _ isc
  have ran : codeAny (model X.prog X.w) X.A (.call (.ref f) ⟨[], []⟩) (CR (L2.CX X.prog X.w) X.stack X.prog X.w Hz sv Q E) sv := by
    refine PySem.W.kla_callFunE room.depth objf rfl L.co L.gen rfl ⟨c', oc, vs, t, rfl, objc, datac, qualc⟩ ?_
    rw [binds]
    refine wpAny_pure (wpAny_newFunctionEnv (fun y hy => (L.own y hy).2.1) (fun y hy => absurd hy (by simp)) (fun hN newNs steps => ⟨J1.nolimit.fresh _ steps, ?_⟩) L.kind)
    show codeAny _ _ (.expr body (lamEnv0 q scope sv.heap.objs.size f c')) _ _
    have stays : ∀ b o, sv.heap.get? b = some o → hN.get? b = some o := fun b o e => steps.extBut b o (Nat.ne_of_lt (Heap.lt_size e)) (Heap.get?_push_of_some _ e)
    have J : Inv (lamCx0 X.prog X.w X.K X.mg X.base X.A X.stack sv Hz E q scope f c') [] [] Hz { sv with heap := hN, toks := sv.toks + ([] : List (Str × Value)).length } :=
      lam_start0 L J1.env0 room.hd newNs stays
    refine PySem.W.kla_codeExpr (wpAny_mono ((runs _ _ sv Hz E (room.deeper _)).run [] _ _ Hz Q J ht) (fun v s' got => ?_) fun e s' got => got)
    obtain ⟨wv, Hv, Jv, rv, q⟩ := got
    exact ⟨wv, Hv, Jv.os, Jv.bare, Jv.base, Jv.hok, rv, q⟩
  have out : Passes (L2.CX X.prog X.w) X E := passes_call takes hW
  refine wpAny_call (codeAny_mono ran fun r s' got => ?_)
  cases r with
  | error e => exact out pz uz Hz sv e s' J1 got
  | ok fl =>
    cases fl with
    | ret u => exact J1.after got
    | next => exact False.elim got
    | brk => exact False.elim got
    | cont => exact False.elim got
/-- lambda: body -/
def tLamO (T : List (Addr × Str)) (q : Str) (params : Arguments) (body : Expr) (scope : Scope) : TE := fun _ H Q => LamX.Tabs T H ∧
  ∀ f cc H1, H f = none → LamX.ExtN H H1 → LamX.Tabs T H1 → H1 f = some (LamO f q params body scope cc) → H1 cc = some (LamX.CodeO cc q) → Q (.ref f) H1
theorem pe_lamO {T : List (Addr × Str)} {c P : Addr} {params : Arguments} {body : Expr} {scope : Scope} {pos : Pos} (L : Lam0 scope) (TB : LamX.TabB X.base X.mg c P) (codeX : X.env.code = .ref c)
    (inT : (P, X.env.qual ++ "<lambda>") ∈ T) (oneT : ∀ p ∈ T, p.1 = P → p.2 = X.env.qual ++ "<lambda>") (nodef : defaultsOf params X.env = ([], [])) :
    PE X (.Lambda params body scope pos) (tLamO T (X.env.qual ++ "<lambda>") params body scope) := by
  refine ⟨fun pins s σ H Q I h => ?_⟩
  obtain ⟨tabs0, h⟩ := h
  obtain ⟨trs, atP, okP, allP⟩ := tabs0 _ inT
  have hclo : cloFrom X.env.cells scope.names [] = [] := L.clo _
  have frees : ∀ y ∈ scope.names, y.2 = .free → ∃ c, X.env.cells.lookup y.1 = some c := fun y hy e => absurd e (L.own y hy).2.2
  refine PySem.W.kla_eval nodef ?_
  have bltP : s.heap.BuiltinsAt X.mg P := TB.bm.keeps I.bk
  have heapP : s.heap.get? P = some { cls := .none, data := .fields trs } := I.hok P _ atP
  cases among : codeAmong pos trs.toList with
  | none =>
    refine PySem.W.kla_makeFunction (mg := X.mg) (c := c) (P := P) (ps := trs) (closure_ok frees) I.ok.glob (I.mod.glob.keeps I.bk) codeX (TB.code.keeps I.bk) heapP okP among TB.gP bltP fun cc tv hp tt kept ge0 lt0 rec0 tab0 => ?_
    rw [hclo]
    obtain ⟨c2, co, fs, t, f2, coAt, coData, coQual⟩ := rec0
    cases f2
    have ge1 : s.heap.objs.size ≤ hp.objs.size := Nat.le_trans ge0 (Nat.le_of_lt lt0)
    have newC : H cc = none := I.hok.fresh ge0
    have J1 := LamX.inv_table (t' := tt) (more := #[rawInt pos.line, rawInt pos.col, .ref cc]) (h' := hp) I atP kept tab0 ge0 ⟨co, fs, t, coAt, coData, coQual⟩
    have extH : LamX.ExtN H (upd (upd H P (.tbl (trs ++ #[rawInt pos.line, rawInt pos.col, .ref cc]))) cc (LamX.CodeO cc (X.env.qual ++ "<lambda>"))) := fun b o e n => by
      rw [upd_ne (ne_of_none e newC), upd_ne (fun z => n trs (Option.some.inj (e.symm.trans (by rw [z]; exact atP))))]
      exact e
    have snocL : (trs ++ #[rawInt pos.line, rawInt pos.col, .ref cc]).toList = trs.toList ++ [rawInt pos.line, rawInt pos.col, .ref cc] := by simp
    have tabs1 : LamX.Tabs T (upd (upd H P (.tbl (trs ++ #[rawInt pos.line, rawInt pos.col, .ref cc]))) cc (LamX.CodeO cc (X.env.qual ++ "<lambda>"))) := fun p hp => by
      by_cases isP : p.1 = P
      · rw [oneT p hp isP, isP]
        refine ⟨_, by rw [upd_ne (ne_of_none atP newC), upd_same], by rw [snocL]; exact PySem.TriplesOk_snoc _ _ _ _ okP, fun pp cd find => ?_⟩
        rw [snocL] at find
        rcases LamX.among_app _ okP find with z | z
        · obtain ⟨c9, f1, f2⟩ := allP pp cd z
          exact ⟨c9, f1, extH _ _ f2 LamX.codeO_ne⟩
        · exact ⟨cc, z, upd_same⟩
      · obtain ⟨trs', t1, t2, t3⟩ := tabs0 p hp
        refine ⟨trs', by rw [upd_ne (ne_of_none t1 newC), upd_ne isP]; exact t1, t2, fun pp cd find => ?_⟩
        obtain ⟨c9, f1, f2⟩ := t3 pp cd find
        exact ⟨c9, f1, extH _ _ f2 LamX.codeO_ne⟩
    -- the function object
    have objF : (hp.push (PySem.W.kla_obj "<lambda>" (X.env.qual ++ "<lambda>") params body scope [] ((X.mg "__name__").getD .none) cc tv)).get? hp.objs.size = some (PySem.W.kla_obj "<lambda>" (X.env.qual ++ "<lambda>") params body scope [] ((X.mg "__name__").getD .none) cc tv) := Heap.get?_push_size _ rfl
    generalize eqH1 : (upd (upd H P (.tbl (trs ++ #[rawInt pos.line, rawInt pos.col, .ref cc]))) cc (LamX.CodeO cc (X.env.qual ++ "<lambda>"))) = H1 at J1 extH tabs1
    have newF : H1 hp.objs.size = none := J1.hok.fresh (Nat.le_refl _)
    have J2 := Inv.laid (a := hp.objs.size) (o := LamO hp.objs.size (X.env.qual ++ "<lambda>") params body scope cc) (t' := tt) (h' := hp.push (PySem.W.kla_obj "<lambda>" (X.env.qual ++ "<lambda>") params body scope [] ((X.mg "__name__").getD .none) cc tv)) J1 (fun b u e => Heap.get?_push_of_some _ e) (Nat.le_refl _)
      ⟨⟨_, _, objF⟩, ⟨_, objF⟩, fun h1 h2 ⟨pm, ct, e⟩ st => ⟨pm, ct, st _ e⟩⟩
    have extH2 : LamX.ExtN H (upd H1 hp.objs.size (LamO hp.objs.size (X.env.qual ++ "<lambda>") params body scope cc)) := fun b o e n => by
      rw [upd_ne (ne_of_none (extH b o e n) newF)]
      exact extH b o e n
    have atC : H1 cc = some (LamX.CodeO cc (X.env.qual ++ "<lambda>")) := by rw [← eqH1]; exact upd_same
    refine ⟨.ref hp.objs.size, _, J2, rfl, h hp.objs.size cc _ (I.hok.fresh ge1) extH2 (tabs1.ext fun b o e => by rw [upd_ne (ne_of_none e newF)]; exact e) upd_same ?_⟩
    rw [upd_ne (ne_of_none atC newF)]
    exact atC
  | some cd =>
    obtain ⟨cc, e, oldC⟩ := allP pos cd among
    subst e
    refine PySem.W.kla_makeFunctionHit (mg := X.mg) (c := c) (P := P) (ps := trs) (closure_ok frees) I.ok.glob (I.mod.glob.keeps I.bk) codeX (TB.code.keeps I.bk) heapP okP among bltP fun tv hp tt kept ge1 => ?_
    rw [hclo]
    have objF : (hp.push (PySem.W.kla_obj "<lambda>" (X.env.qual ++ "<lambda>") params body scope [] ((X.mg "__name__").getD .none) cc tv)).get? hp.objs.size = some (PySem.W.kla_obj "<lambda>" (X.env.qual ++ "<lambda>") params body scope [] ((X.mg "__name__").getD .none) cc tv) := Heap.get?_push_size _ rfl
    have newF : H hp.objs.size = none := I.hok.fresh ge1
    have J2 := Inv.laid (a := hp.objs.size) (o := LamO hp.objs.size (X.env.qual ++ "<lambda>") params body scope cc) (t' := tt) (h' := hp.push (PySem.W.kla_obj "<lambda>" (X.env.qual ++ "<lambda>") params body scope [] ((X.mg "__name__").getD .none) cc tv)) I (fun b u e => Heap.get?_push_of_some _ (kept b u e)) ge1
      ⟨⟨_, _, objF⟩, ⟨_, objF⟩, fun h1 h2 ⟨pm, ct, e⟩ st => ⟨pm, ct, st _ e⟩⟩
    have extH2 : ∀ b o, H b = some o → upd H hp.objs.size (LamO hp.objs.size (X.env.qual ++ "<lambda>") params body scope cc) b = some o := fun b o e => by
      rw [upd_ne (ne_of_none e newF)]
      exact e
    exact ⟨.ref hp.objs.size, _, J2, rfl, h hp.objs.size cc _ newF (LamX.ExtN.of extH2) (tabs0.ext extH2) upd_same (extH2 _ _ oldC)⟩
end

/-- a def whose name the module has, and what it promises; it may raise -/
def Cal (P : Program) (w : World) (K : PySem.W.Frag) (mg : Str → Option Value) (base : Heap) (k : Nat) (x : Str) (sp : Sp) (dvs : List V) : Prop :=
  ∃ (f : Addr) (d : FuncData) (names : List Str) (dv : List Value), mg x = some (.ref f) ∧ PySem.W.keepIn K (.ref f) = true ∧ FnOk P w K mg base (L2.CX P w) k f d names sp ∧ Binds K d names dv ∧ Vals dvs dv
section
variable {X : Cx} {k j : Nat} {x : Str} {sp : Sp} {dvs : List V} {E : XK} {p pos : Pos} {e : Expr} {es : List Expr} {t : TA}
theorem pe_k (c : Cal X.prog X.w X.K X.mg X.base k x sp dvs) (room : Room j X.A) (le : k ≤ j) (out : Passes (L2.CX X.prog X.w) X E) (args : PA X (e :: es) t) (gl : Gl X x := by rfl)
    (plain : (x == ("__debug__" : Str)) = false := by decide) (stars : starEach (e :: es) X.env = (false, eval e X.env) :: starEach es X.env := by rfl) (nostar : (backTo pos (starEach es X.env)).any (·.1) = false := by rfl) :
    PE X (.Call (.Name x p) (e :: es) [] pos) (tCall sp dvs E t) :=
  let ⟨_, _, _, _, at_, kp, F, b, d⟩ := c
  pe_call F (room.mono le) gl at_ kp b d out args plain stars nostar
theorem pe_k0 (c : Cal X.prog X.w X.K X.mg X.base k x sp dvs) (room : Room j X.A) (le : k ≤ j) (out : Passes (L2.CX X.prog X.w) X E) (gl : Gl X x := by rfl)
    (plain : (x == ("__debug__" : Str)) = false := by decide) : PE X (.Call (.Name x p) [] [] pos) (tCall sp dvs E tNil) :=
  let ⟨_, _, _, _, at_, kp, F, b, d⟩ := c
  pe_call0 F (room.mono le) gl at_ kp b d out plain
/-- what a def lets out is taken by its caller, a def likewise -/
theorem passE {X : Cx} {E : XK} {E1 : Value → Shared → Prop} (hs : X.stack = X.env :: X.outer := by rfl) (hf : X.env.frame = some X.env.locals := by rfl) (hex : X.ex = [] := by rfl)
    (hx : X.xe = fun e s' => wpAny (model X.prog X.w) X.A (leaving X.env e) (fun _ s'' => L2.CX X.prog X.w X.outer X.H_0 X.s_0 E e s'') E1 s' := by rfl) : Passes (L2.CX X.prog X.w) X E :=
  passes_call (takes_of hs hf hex hx) fun _ _ _ _ h => h
end
/-! ### the classes of errors -/
structure Exc1 (K : PySem.W.Frag) (mg : Str → Option Value) (x : Str) (C : Addr) : Prop where
  g : mg x = some (.ref C)
  x : PySem.W.excIn K C [.type "ValueError", .type "Exception", .type "BaseException", .type "object"] "ValueError.__new__" = true
  k : PySem.W.keepIn K (.ref C) = true
  b : PySem.W.subIn K (.ref C) (.type "BaseException") = some true
  t : PySem.W.typeIn K (.ref C) = some (.type "type")
def excName : Nat → Str
  | 0 => "BadCalendar"
  | 1 => "BadDay"
  | 2 => "BadTime"
  | 3 => "BadRule"
  | 4 => "BadZone"
  | 5 => "BadSize"
  | 6 => "BadPaper"
  | 7 => "BadText"
  | 8 => "BadStore"
  | 9 => "NoDay"
  | 10 => "NoSuch"
  | _ => ""
def kindName : Nat → Str
  | 0 => "calendar"
  | 1 => "day"
  | 2 => "time"
  | 3 => "rule"
  | 4 => "zone"
  | 5 => "size"
  | 6 => "paper"
  | 7 => "text"
  | 8 => "store"
  | 9 => "no day"
  | 10 => "no such"
  | _ => ""
structure Exs (K : PySem.W.Frag) (mg : Str → Option Value) (c : Nat → Addr) : Prop where
  e : ∀ i, i < 11 → Exc1 K mg (excName i) (c i)
  m : ∀ i j, i < 11 → j ≤ i → PySem.W.exmOne K (.ref (c i)) (.ref (c j)) = some (decide (i = j))
/-- told of an error: its kind -/
def ETold (c : Nat → Addr) (Q : VK) : XK := fun cls _ H => ∃ i, i < 11 ∧ cls = .ref (c i) ∧ Q (.str (kindName i)) H
def spTold (P : Program) (w : World) (K : PySem.W.Frag) (mg : Str → Option Value) (base : Heap) (c : Nat → Addr) (k : Nat) : Sp := fun vs H Q _ =>
  ∃ (f c' : Addr) (q : Str) (params : Arguments) (body : Expr) (scope : Scope) (tb : XK → Hp → VK → Prop), vs = [.ref f] ∧ H f = some (LamO f q params body scope c') ∧ H c' = some (LamX.CodeO c' q) ∧ Lam0 scope ∧
    (∀ (pm cv ctv : Value), bindArgs (PySem.W.kla_fn "<lambda>" q params body scope [] pm cv ctv) ⟨[], []⟩ = pure []) ∧ LamRun P w K mg base k q scope body f c' tb ∧ tb (ETold c Q) H Q
section
variable {X : Cx}
/-- raise X('..') -/
theorem ps_raiseX {C : Addr} {x m : Str} {j : Nat} {p p2 pos pos2 : Pos} {E : XK} {E1 : Value → Shared → Prop} (T : Exc1 X.K X.mg x C) (hc : X.calm = true := by rfl) (hg : Gl X x := by rfl) (hs : X.stack = X.env :: X.outer := by rfl) (hf : X.env.frame = some X.env.locals := by rfl) (hex : X.ex = [] := by rfl)
    (hx : X.xe = fun e s' => wpAny (model X.prog X.w) X.A (leaving X.env e) (fun _ s'' => L2.CX X.prog X.w X.outer X.H_0 X.s_0 E e s'') E1 s' := by rfl) (hdb : (x == ("__debug__" : Str)) = false := by decide) :
    PS X (.Raise (some (.Call (.Name x p) [.Constant (.str m) j p2] [] pos)) none pos2) (fun _ _ H => E (.ref C) none H) :=
  ps_raise hc (takes_of hs hf hex hx) (pmk_own PySem.F.excBase_ValueError T.x T.g T.k (raises_own T.b T.t) hg hdb)
end
/-! ### evaluation -/
theorem et_chain {σ : L2.St} {H : Hp} {ta tb tc : TE} {x y z : V} {r r' : R2} {b b' : Bool} (ha : Ev ta σ H x) (hb : Ev tb σ H y) (hc : b = true → Ev tc σ H z) (hr : RV r x y H (.bl b)) (hr' : b = true → RV r' y z H (.bl b')) : Ev (tChain r r' ta tb tc) σ H (.bl (b && b')) := fun H1 e Q q =>
  ha H1 e _ fun H2 e2 => hb H2 (e.trans e2) _ fun H3 e3 => hr H3 ((e.trans e2).trans e3) _ fun H4 e4 => ⟨b, rfl, by
    cases b with
    | true =>
      rw [if_pos rfl]
      exact hc rfl H4 (((e.trans e2).trans e3).trans e4) _ fun H5 e5 => hr' rfl H5 ((((e.trans e2).trans e3).trans e4).trans e5) Q fun H6 e6 => q H6 (((((e2).trans e3).trans e4).trans e5).trans e6)
    | false =>
      rw [if_neg Bool.false_ne_true]
      exact q H4 ((e2.trans e3).trans e4)⟩
theorem rc_int1 {H : Hp} {i : Int} : RC (fun xs H Q => (∃ i, xs = [V.int i] ∧ Q (V.int i) H) ∨ ∃ k, xs = [V.bl k] ∧ Q (V.int (if k = true then 1 else 0)) H) [.int i] H (.int i) := fun H1 _ _ q => .inl ⟨i, rfl, q H1 (Ex.refl H1)⟩
theorem rc_int1b {H : Hp} {k : Bool} : RC (fun xs H Q => (∃ i, xs = [V.int i] ∧ Q (V.int i) H) ∨ ∃ k, xs = [V.bl k] ∧ Q (V.int (if k = true then 1 else 0)) H) [.bl k] H (.int (if k = true then 1 else 0)) := fun H1 _ _ q => .inr ⟨k, rfl, q H1 (Ex.refl H1)⟩
theorem rc_abs {H : Hp} {i : Int} : RC (fun xs H Q => ∃ i, xs = [V.int i] ∧ Q (V.int (if i < 0 then -i else i)) H) [.int i] H (.int (if i < 0 then -i else i)) := fun H1 _ _ q => ⟨i, rfl, q H1 (Ex.refl H1)⟩
def ExB (d : Addr) (H H' : Hp) : Prop := ∀ x o, x ≠ d → H x = some o → H' x = some o
theorem ExB.of {d : Addr} {H H' : Hp} (e : Ex H H') : ExB d H H' := fun x o _ h => e x o h
theorem ExB.upd {d : Addr} {H H' : Hp} {o : HO} (e : ExB d H H') : ExB d H (upd H' d o) := fun x u n h => by rw [upd_ne n]; exact e x u n h
theorem ExB.trans {d : Addr} {H H1 H2 : Hp} (a : ExB d H H1) (b : ExB d H1 H2) : ExB d H H2 := fun x o n h => b x o n (a x o n h)
theorem ExB.ex {d : Addr} {H H1 H2 : Hp} (a : ExB d H H1) (b : Ex H1 H2) : ExB d H H2 := fun x o n h => b x o (a x o n h)
end Rw
namespace Rw
open PySem PySem.Spec PyProof.Rows L2 Evl
/-! ### what a def gives: a value, a new list, a new tuple, or an error -/
inductive Rs where
  | ok (v : V)
  | lst (xs : List V)
  | tup (xs : List V)
  | err (i : Nat)
  deriving DecidableEq
def Out (c : Nat → Addr) (H : Hp) (Q : VK) (E : XK) : Rs → Prop
  | .ok v => ∀ H', Ex H H' → Q v H'
  | .lst xs => ∀ p H', H p = none → Ex H H' → H' p = some (.lst xs) → Q (.ref p) H'
  | .tup xs => ∀ p H', H p = none → Ex H H' → H' p = some (.tup xs) → Q (.ref p) H'
  | .err i => ∀ H', Ex H H' → E (.ref (c i)) none H'
theorem Out.mono {c : Nat → Addr} {H H1 : Hp} {Q : VK} {E : XK} {r : Rs} (e : Ex H H1) (o : Out c H Q E r) : Out c H1 Q E r := by
  cases r with
  | ok v => exact fun H' e' => o H' (e.trans e')
  | lst xs => exact fun p H' hp e' h => o p H' (fresh_back e hp) (e.trans e') h
  | tup xs => exact fun p H' hp e' h => o p H' (fresh_back e hp) (e.trans e') h
  | err i => exact fun H' e' => o H' (e.trans e')
def spF (c : Nat → Addr) (f : List V → Option Rs) : Sp := fun vs H Q E => ∃ r, f vs = some r ∧ Out c H Q E r
section
variable {c : Nat → Addr} {f : List V → Option Rs} {σ : L2.St} {H : Hp} {vs dvs : List V} {ta : TA} {E : XK} {z : V} {xs : List V}
theorem ev_F (h : EvA ta σ H vs) (hf : f (vs ++ dvs) = some (.ok z)) : Ev (tCall (spF c f) dvs E ta) σ H z := fun H1 e Q q =>
  h H1 e _ fun H2 e2 => ⟨_, hf, fun H3 e3 => q H3 (e2.trans e3)⟩
theorem el_F (h : EvA ta σ H vs) (hf : f (vs ++ dvs) = some (.lst xs)) : EvL (tCall (spF c f) dvs E ta) σ H xs := fun H1 e Q q =>
  h H1 e _ fun H2 e2 => ⟨_, hf, fun p H3 hp e3 h3 => q p H3 (fresh_back e2 hp) (e2.trans e3) h3⟩
theorem eu_F (h : EvA ta σ H vs) (hf : f (vs ++ dvs) = some (.tup xs)) : EvU (tCall (spF c f) dvs E ta) σ H xs := fun H1 e Q q =>
  h H1 e _ fun H2 e2 => ⟨_, hf, fun p H3 hp e3 h3 => q p H3 (fresh_back e2 hp) (e2.trans e3) h3⟩
/-- a call that raises: whatever is wanted of its value -/
theorem er_F {i : Nat} (h : EvA ta σ H vs) (hf : f (vs ++ dvs) = some (.err i)) (k : ∀ H1, Ex H H1 → E (.ref (c i)) none H1) (Q : VK) : tCall (spF c f) dvs E ta σ H Q :=
  h H (Ex.refl H) _ fun H2 e2 => ⟨_, hf, fun H3 e3 => k H3 (e2.trans e3)⟩
end
/-! ### two figures -/
def twoL (n : Int) : List Nat := [48 + n.toNat / 10, 48 + n.toNat % 10]
theorem two_text (n : Int) (h0 : 0 ≤ n) (h1 : n < 100) : (if decide (n < 10) = true then (⟨#[48]⟩ : Str) ++ Str.ofString (toString n) else Str.ofString (toString n)) = SX.S (twoL n) := by
  have all : ∀ m : Fin 100, (if decide (((m.val : Nat) : Int) < 10) = true then (⟨#[48]⟩ : Str) ++ Str.ofString (toString ((m.val : Nat) : Int)) else Str.ofString (toString ((m.val : Nat) : Int))) = SX.S (twoL ((m.val : Nat) : Int)) := by decide +kernel
  have e := all ⟨n.toNat, by omega⟩
  have en : ((n.toNat : Nat) : Int) = n := Int.toNat_of_nonneg h0
  rw [show ((⟨n.toNat, by omega⟩ : Fin 100).val) = n.toNat from rfl, en] at e
  exact e
section
variable {X : Cx}
/-- f'{e:02d}' -/
def tTwo (te : TE) : TE := fun σ H Q => te σ H fun x H1 => ∃ n : Int, x = .int n ∧ 0 ≤ n ∧ n < 100 ∧ Q (.str (SX.S (twoL n))) H1
theorem pe_two {e : Expr} {te : TE} {k : Nat} {p1 p2 pos p3 : Pos} (hD : X.base.NoDigits) (he : PE X e te) : PE X (.JoinedStr [.FormattedValue e (-1) (some (.JoinedStr [.Constant (.str "02d") k p1] p2)) pos] p3) (tTwo te) := by
  refine pe_joined1 ⟨fun pins s σ H Q I h => ?_⟩
  refine wpAny_FormattedValue_spec (thn (he.run pins s σ H _ I h) ?_)
  rintro v s1 ⟨x, H1, I1, r1, n, rfl, h0, h1, q⟩
  obtain ⟨t, rfl⟩ := r1
  have hs : PE X (.JoinedStr [.Constant (.str "02d") k p1] p2) (tC (.str "02d")) := pe_joined1 pe_str
  refine thn (hs.run pins s1 σ H1 (fun v H' => v = .str "02d" ∧ H' = H1) I1 ⟨rfl, rfl⟩) ?_
  rintro r s2 ⟨y, H2, I2, r2, rfl, rfl⟩
  obtain ⟨t2, rfl⟩ := r2
  refine ⟨_, t2, rfl, ?_⟩
  refine formatField_int_specOf (hD.keeps I2.bk) (by have : n.natAbs < 100 := by omega
                                                     exact lt_digitLimit_of_lt (by omega)) (by decide +kernel) (fun W hW F => ?_) (by decide)
  have e := F.pad2 (by decide +kernel) (hW.trans (by decide +kernel)) h0 h1
  rw [two_text n h0 h1] at e
  exact ⟨.str _, H2, I2.tok _, ⟨_, rfl⟩, by rw [e]; exact q⟩
end
theorem ev_two {te : TE} {σ : L2.St} {H : Hp} {n : Int} (h : Ev te σ H (.int n)) (h0 : 0 ≤ n) (h1 : n < 100) : Ev (tTwo te) σ H (.str (SX.S (twoL n))) := fun H1 e Q q =>
  h H1 e _ fun H2 e2 => ⟨n, rfl, h0, h1, q H2 e2⟩
/-! ### comprehensions that keep all -/
theorem given_all (n : Nat) (v : Nat → V) : given n (fun _ => true) v = (List.range n).map v := by
  unfold given
  rw [List.filter_eq_self.mpr fun _ _ => rfl]
theorem given_map {xs ys : List V} {v : Nat → V} (hl : xs.length = ys.length) (h : ∀ i y, ys[i]? = some y → v i = y) : given xs.length (fun _ => true) v = ys := by
  rw [given_all]
  refine List.ext_getElem? fun i => ?_
  rw [List.getElem?_map, hl]
  by_cases hi : i < ys.length
  · rw [List.getElem?_range hi, List.getElem?_eq_getElem hi]
    show some (v i) = some ys[i]
    rw [h i _ (List.getElem?_eq_getElem hi)]
  · rw [List.getElem?_eq_none (by rw [List.length_range]; omega), List.getElem?_eq_none (by omega)]
    rfl
theorem et_yes {σ : L2.St} {H : Hp} : EvT tYes σ H true := fun H1 _ _ q => q H1 (Ex.refl H1)
section
variable {K : PySem.W.Frag} {σ : L2.St} {H : Hp} {te tl : TE} {t : TT} {j : Nat} {vs : List Nat} {xs ys : List V}
/-- a comprehension over a new tuple -/
theorem el_lcNU (f : Nat → Bool) (v : Nat → V) (h : EvU tl σ H xs) (hz : xs.length ≤ 40000) (hw : ∀ x, wipe ((wipe σ vs).set j (some x)) vs = wipe σ vs)
    (tested : ∀ (i : Nat) (x : V) H1, Ex H H1 → xs[i]? = some x → EvT t ((wipe σ vs).set j (some x)) H1 (f i)) (he : ∀ (i : Nat) (x : V) H1, Ex H H1 → xs[i]? = some x → f i = true → Ev te ((wipe σ vs).set j (some x)) H1 (v i)) :
    EvL (tLc (iTup K tl) (gName j) t te vs) σ H (given xs.length f v) := fun H0 e Q q => h H0 e _ fun a H1 _ e1 hx => ⟨a, rfl, ⟨xs, st_of hx⟩, fun Dl hD =>
  lc_tup (xs := xs) (Cw H1 f v Dl) ⟨hD, Ex.new hD, upd_same⟩ (fun i H' _ p => st_of (p.2.1 a _ hx)) (fun i x H' hi p => ⟨hw x, cw_turn p (Nat.lt_of_lt_of_le (List.getElem?_eq_some_iff.mp hi).1 (Nat.le_trans hz (by decide))) (tested i x H1 (e.trans e1) hi) (fun hf => he i x H1 (e.trans e1) hi hf)⟩)
    (fun Hz pz => q Dl Hz (fresh_back e1 pz.1) (e1.trans pz.2.1) pz.2.2)⟩
/-- all items of a new tuple, each made another -/
theorem el_mapNU (h : EvU tl σ H xs) (hz : xs.length ≤ 40000) (hw : ∀ x, wipe ((wipe σ vs).set j (some x)) vs = wipe σ vs) (hl : xs.length = ys.length)
    (he : ∀ (i : Nat) (x y : V) H1, Ex H H1 → xs[i]? = some x → ys[i]? = some y → Ev te ((wipe σ vs).set j (some x)) H1 y) :
    EvL (tLc (iTup K tl) (gName j) tYes te vs) σ H ys := by
  have g := el_lcNU (K := K) (t := tYes) (te := te) (fun _ => true) (fun i => ys.getD i .non) h hz hw (fun _ _ _ _ _ => et_yes) fun i x H1 e hx _ => by
    have hi : i < ys.length := by
      have q := (List.getElem?_eq_some_iff.mp hx).1
      omega
    have ey : ys.getD i .non = ys[i] := by rw [List.getD_eq_getElem?_getD, List.getElem?_eq_getElem hi]; rfl
    rw [ey]
    exact he i x _ H1 e hx (List.getElem?_eq_getElem hi)
  rw [given_map hl fun i y hy => by rw [List.getD_eq_getElem?_getD, hy]; rfl] at g
  exact g
/-- all items of a list, each made another -/
theorem el_mapL {a : Addr} (h : Ev tl σ H (.ref a)) (hx : SqL K H a xs) (hz : xs.length ≤ 40000) (hw : ∀ x, wipe ((wipe σ vs).set j (some x)) vs = wipe σ vs) (hl : xs.length = ys.length)
    (he : ∀ (i : Nat) (x y : V) H1, Ex H H1 → xs[i]? = some x → ys[i]? = some y → Ev te ((wipe σ vs).set j (some x)) H1 y) :
    EvL (tLc (iList K tl) (gName j) tYes te vs) σ H ys := by
  have g := el_lcL (K := K) (t := tYes) (te := te) (fun _ => true) (fun i => ys.getD i .non) h hx hz hw (fun _ _ _ _ _ => et_yes) fun i x H1 e hx _ => by
    have hi : i < ys.length := by
      have q := (List.getElem?_eq_some_iff.mp hx).1
      omega
    have ey : ys.getD i .non = ys[i] := by rw [List.getD_eq_getElem?_getD, List.getElem?_eq_getElem hi]; rfl
    rw [ey]
    exact he i x _ H1 e hx (List.getElem?_eq_getElem hi)
  rw [given_map hl fun i y hy => by rw [List.getD_eq_getElem?_getD, hy]; rfl] at g
  exact g
/-- sep.join(new list) -/
theorem ev_join {to : TE} {a : Str} {zs : List Str} (ho : Ev to σ H (.str a)) (he : EvL te σ H (zs.map V.str)) (hz : (zs.map (·.length)).sum + zs.length * a.length ≤ 16777216) :
    Ev (tM1 (fun x xs H Q => ∃ a p, ∃ ys : List Str, x = .str a ∧ xs = [.ref p] ∧ (SqL K H p (ys.map V.str) ∨ SqT K H p (ys.map V.str)) ∧ (ys.map (·.length)).sum + ys.length * a.length ≤ 16777216 ∧ Q (.str (Txt.join a ys)) H) to te) σ H (.str (Txt.join a zs)) := fun H1 e Q q =>
  ho H1 e _ fun H2 e2 => ⟨⟨a, rfl⟩, he H2 (e.trans e2) _ fun p H3 _ e3 h3 => ⟨a, p, zs, rfl, rfl, .inl (sq_of h3), hz, q H3 (e2.trans e3)⟩⟩
end
end Rw
namespace Rw
open PySem PySem.Spec PyProof.Rows L2 Evl SX
/-! ### texts of figures -/
def isDig (c : Nat) : Bool := decide (48 ≤ c) && decide (c ≤ 57)
theorem figs_cps : (("0123456789" : Str)).cps = #[48, 49, 50, 51, 52, 53, 54, 55, 56, 57] := by decide +kernel
theorem figs_has (c : Nat) : (("0123456789" : Str)).cps.contains c = isDig c := by
  rw [figs_cps]
  unfold isDig
  rw [Bool.eq_iff_iff]
  simp only [Array.contains_eq_mem, Bool.and_eq_true, decide_eq_true_eq]
  simp only [List.mem_toArray, List.mem_cons, List.not_mem_nil, or_false]
  omega
theorem extract_S (l : List Nat) (i j : Nat) : PySem.Builtin.Str.strSub (S l) i j = S ((l.drop i).take (j - i)) := by
  unfold PySem.Builtin.Str.strSub
  refine TL.ext_tl ?_
  show ((S l).cps.extract i j).toList = (l.drop i).take (j - i)
  rw [Array.toList_extract, List.extract_eq_take_drop]
theorem drop_takeWhile (p : Nat → Bool) (l : List Nat) : l.drop (l.takeWhile p).length = l.dropWhile p := by
  induction l with
  | nil => rfl
  | cons a r ih =>
    rw [List.takeWhile_cons, List.dropWhile_cons]
    cases h : p a with
    | true => simpa using ih
    | false => rfl
theorem lstrip_S (l : List Nat) : Txt.lstripChars (S l) "0123456789" = S (l.dropWhile isDig) := by
  unfold Txt.lstripChars
  rw [PyProof.Rows.stripBy_eq, show (("0123456789" : Str)).cps.contains = isDig from funext figs_has]
  unfold stripLo stripHi
  rw [if_pos rfl, if_neg (by decide), extract_S]
  show S ((l.drop (l.takeWhile isDig).length).take ((S l).length - (l.takeWhile isDig).length)) = _
  rw [S_len, drop_takeWhile, List.take_of_length_le]
  have e := congrArg List.length (List.takeWhile_append_dropWhile (p := isDig) (l := l))
  rw [List.length_append] at e
  omega
theorem cut_figs (l : List Nat) : cutS (S l) none (some ((l.length : Int) - ((l.dropWhile isDig).length : Int))) = S (l.takeWhile isDig) := by
  have e := congrArg List.length (List.takeWhile_append_dropWhile (p := isDig) (l := l))
  rw [List.length_append] at e
  have ez : (l.length : Int) - ((l.dropWhile isDig).length : Int) = (((l.takeWhile isDig).length : Nat) : Int) := by omega
  rw [ez]
  unfold cutS
  rw [HT.sIx_none, HT.sIx_nat, S_len, List.drop_zero]
  have em : min (l.takeWhile isDig).length l.length = (l.takeWhile isDig).length := by omega
  rw [em, Nat.sub_zero]
  show S (l.take (l.takeWhile isDig).length) = _
  have t : l.take (l.takeWhile isDig).length = l.takeWhile isDig := by
    conv => lhs; rw [← List.takeWhile_append_dropWhile (p := isDig) (l := l)]
    have hp : ∀ (m : List Nat), (m.takeWhile isDig ++ m.dropWhile isDig).takeWhile isDig = m.takeWhile isDig := fun m => by rw [List.takeWhile_append_dropWhile]
    rw [hp, List.take_left]
  rw [t]
theorem cut_one (l : List Nat) : cutS (S l) none (some 1) = S (l.take 1) := by
  unfold cutS
  rw [HT.sIx_none, show HT.sIx (S l).length (S l).length (some 1) = min 1 (S l).length from HT.sIx_nat _ _ 1, S_len, List.drop_zero, Nat.sub_zero]
  show S (l.take (min 1 l.length)) = _
  cases l with
  | nil => rfl
  | cons a r =>
    rw [show min 1 (a :: r).length = 1 by rw [List.length_cons]; omega]
theorem cut_rest (l : List Nat) : cutS (S l) (some 1) none = S (l.drop 1) := by
  unfold cutS
  rw [HT.sIx_none, show HT.sIx (S l).length 0 (some 1) = min 1 (S l).length from HT.sIx_nat _ _ 1, S_len]
  show S ((l.drop (min 1 l.length)).take (l.length - min 1 l.length)) = _
  cases l with
  | nil => rfl
  | cons a r =>
    rw [show min 1 (a :: r).length = 1 by rw [List.length_cons]; omega, List.take_of_length_le (by rw [List.length_drop]; omega)]
/-! ### letters -/
def letAt (c : Nat) : Int := if c = 100 then 0 else if c = 104 then 1 else if c = 109 then 2 else if c = 115 then 3 else -1
theorem dhms_S : ("dhms" : Str) = S [100, 104, 109, 115] := by decide +kernel
theorem find_let (c : Nat) : Txt.find "dhms" (S [c]) = letAt c := by
  by_cases h : c = 100 ∨ c = 104 ∨ c = 109 ∨ c = 115
  · rcases h with rfl | rfl | rfl | rfl <;> decide +kernel
  · have hn : c ∉ [100, 104, 109, 115] := by
      intro hm
      simp only [List.mem_cons, List.not_mem_nil, or_false] at hm
      exact h hm
    have e := in_one [100, 104, 109, 115] c
    rw [decide_eq_false hn, Bool.not_eq_false', List.isEmpty_iff] at e
    unfold Txt.find
    rw [dhms_S, e]
    unfold letAt
    rw [if_neg (by omega), if_neg (by omega), if_neg (by omega), if_neg (by omega)]
theorem letAt_lt (c : Nat) : letAt c < 4 := by
  unfold letAt
  split
  · decide
  · split
    · decide
    · split
      · decide
      · split <;> decide
def sizeAt (p : Int) : Int := [86400, 3600, 60, 1].getD p.toNat 0
/-! ### a length read -/
/-- what the loop makes of what is left, seconds so far, and the last letter -/
def rlLoop : Nat → List Nat → Int → Int → Rs
  | 0, _, _, _ => .err 7
  | k + 1, l, sec, last =>
    if l = [] then .ok (.int sec) else
    match l.dropWhile isDig with
    | [] => .err 7
    | x :: more =>
      if letAt x ≤ last ∨ ¬ (0 < (l.takeWhile isDig).length ∧ (l.takeWhile isDig).length < 7) ∨ ¬ (l.takeWhile isDig = TL.numL (NumText.digitsVal (l.takeWhile isDig))) then .err 7
      else rlLoop k more (sec + (NumText.digitsVal (l.takeWhile isDig) : Nat) * sizeAt (letAt x)) (letAt x)
theorem rlLoop_succ (k : Nat) (l : List Nat) (sec last : Int) : rlLoop (k + 1) l sec last = if l = [] then .ok (.int sec) else
    match l.dropWhile isDig with
    | [] => .err 7
    | x :: more =>
      if letAt x ≤ last ∨ ¬ (0 < (l.takeWhile isDig).length ∧ (l.takeWhile isDig).length < 7) ∨ ¬ (l.takeWhile isDig = TL.numL (NumText.digitsVal (l.takeWhile isDig))) then .err 7
      else rlLoop k more (sec + (NumText.digitsVal (l.takeWhile isDig) : Nat) * sizeAt (letAt x)) (letAt x) := rfl
def mReadLen (l : List Nat) : Rs := if l = [] then .err 7 else rlLoop (l.length + 1) l 0 (-1)
theorem isDig_letter {x : Nat} (h : 57 < x) : isDig x = false := by
  unfold isDig
  rw [decide_eq_false (show ¬ x ≤ 57 by omega), Bool.and_false]
theorem numL_dig (n : Nat) : ∀ c ∈ TL.numL n, isDig c = true := fun c hc => by
  have h := TL.numL_digits n c hc
  unfold isDig
  rw [decide_eq_true h.1, decide_eq_true h.2]
  rfl
theorem tw_app {a r : List Nat} {x : Nat} (ha : ∀ c ∈ a, isDig c = true) (hx : isDig x = false) : (a ++ x :: r).takeWhile isDig = a ∧ (a ++ x :: r).dropWhile isDig = x :: r := by
  induction a with
  | nil =>
    rw [List.nil_append, List.takeWhile_cons, List.dropWhile_cons, hx]
    exact ⟨rfl, rfl⟩
  | cons b a ih =>
    have hb := ha b List.mem_cons_self
    obtain ⟨h1, h2⟩ := ih fun c hc => ha c (List.mem_cons_of_mem _ hc)
    rw [List.cons_append, List.takeWhile_cons, List.dropWhile_cons, hb]
    exact ⟨by rw [if_pos rfl, h1], by rw [if_pos rfl, h2]⟩
/-- one piece of a told length -/
theorem rl_piece {k n x : Nat} {more : List Nat} {sec last : Int} (hn : n < 1000000) (hx : 57 < x) (hl : last < letAt x) :
    rlLoop (k + 1) (TL.numL n ++ x :: more) sec last = rlLoop k more (sec + (n : Int) * sizeAt (letAt x)) (letAt x) := by
  obtain ⟨h1, h2⟩ := tw_app (a := TL.numL n) (r := more) (numL_dig n) (isDig_letter hx)
  have hne : ¬ (TL.numL n ++ x :: more = []) := by simp
  have l1 : 0 < (TL.numL n).length := List.length_pos_iff.mpr (TL.numL_ne n)
  have l2 : (TL.numL n).length ≤ 6 := TL.numL_len (by decide) (by show n < 1000000; exact hn)
  rw [rlLoop_succ, if_neg hne, h2, h1, TL.numL_val]
  dsimp only
  rw [if_neg]
  rintro (h | h | h)
  · omega
  · exact h ⟨l1, by omega⟩
  · exact h rfl
theorem rl_end {k : Nat} {sec last : Int} : rlLoop (k + 1) [] sec last = .ok (.int sec) := by
  rw [rlLoop_succ, if_pos rfl]
end Rw
namespace Rw
open PySem PySem.Spec PyProof.Rows L2 Evl SX
/-! ### a length told -/
def tlWords : List (Nat × Nat) → Nat → List (List Nat)
  | [], _ => []
  | (c, z) :: r, s => if z ≤ s then (TL.numL (s / z) ++ [c]) :: tlWords r (s % z) else tlWords r s
def tlUnits : List (Nat × Nat) := [(100, 86400), (104, 3600), (109, 60), (115, 1)]
def tlText (s : Nat) : List Nat := if s = 0 then [48, 115] else (tlWords tlUnits s).flatten
def tlVal : List (Nat × Nat) → Nat → Nat
  | [], _ => 0
  | (_, z) :: r, s => if z ≤ s then s / z * z + tlVal r (s % z) else tlVal r s
theorem tlVal_all (s : Nat) : tlVal tlUnits s = s := by
  unfold tlUnits
  simp only [tlVal]
  split <;> split <;> split <;> split <;> omega
theorem rl_words : ∀ (r : List (Nat × Nat)) (s k : Nat) (sec last : Int), (∀ p ∈ r, 57 < p.1 ∧ sizeAt (letAt p.1) = (p.2 : Int)) → r.Pairwise (fun a b => letAt a.1 < letAt b.1) → (∀ p ∈ r, last < letAt p.1) → s < 1000000 →
    (tlWords r s).length < k → rlLoop k (tlWords r s).flatten sec last = .ok (.int (sec + (tlVal r s : Nat)))
  | [], s, k, sec, last, _, _, _, _, hk => by
    obtain ⟨k, rfl⟩ : ∃ j, k = j + 1 := ⟨k - 1, by have : 0 < k := hk; omega⟩
    show rlLoop (k + 1) [] sec last = _
    rw [rl_end]
    simp [tlVal]
  | (c, z) :: r, s, k, sec, last, hp, hs, hl, hn, hk => by
    obtain ⟨h57, hz⟩ := hp (c, z) List.mem_cons_self
    rw [List.pairwise_cons] at hs
    unfold tlWords tlVal
    unfold tlWords at hk
    by_cases q : z ≤ s
    · rw [if_pos q] at hk
      rw [if_pos q, if_pos q]
      obtain ⟨k, rfl⟩ : ∃ j, k = j + 1 := ⟨k - 1, by rw [List.length_cons] at hk; omega⟩
      have e : (((TL.numL (s / z) ++ [c]) :: tlWords r (s % z)) : List (List Nat)).flatten = TL.numL (s / z) ++ c :: (tlWords r (s % z)).flatten := by simp
      rw [e, rl_piece (Nat.lt_of_le_of_lt (Nat.div_le_self _ _) hn) h57 (hl (c, z) List.mem_cons_self)]
      rw [rl_words r (s % z) k _ _ (fun p h => hp p (List.mem_cons_of_mem _ h)) hs.2 (fun p h => hs.1 p h) (Nat.lt_of_le_of_lt (Nat.mod_le _ _) hn) (by rw [List.length_cons] at hk; omega), hz]
      rw [Int.natCast_add, Int.natCast_mul, Int.add_assoc]
    · rw [if_neg q] at hk
      rw [if_neg q, if_neg q]
      exact rl_words r s k sec last (fun p h => hp p (List.mem_cons_of_mem _ h)) hs.2 (fun p h => hl p (List.mem_cons_of_mem _ h)) hn hk
theorem words_len : ∀ (r : List (Nat × Nat)) (s : Nat), (tlWords r s).length ≤ (tlWords r s).flatten.length
  | [], _ => Nat.le_refl _
  | (c, z) :: r, s => by
    unfold tlWords
    split
    · have h := words_len r (s % z)
      rw [List.length_cons, List.flatten_cons, List.length_append, List.length_append]
      show _ ≤ _ + 1 + _
      omega
    · exact words_len r s
/-- told and read -/
theorem read_told (s : Nat) (h : s < 1000000) : mReadLen (tlText s) = .ok (.int (s : Int)) := by
  unfold tlText
  by_cases h0 : s = 0
  · subst h0
    rw [if_pos rfl]
    decide +kernel
  · rw [if_neg h0]
    have go : ∀ k, (tlWords tlUnits s).length < k → rlLoop k (tlWords tlUnits s).flatten 0 (-1) = .ok (.int (s : Int)) := fun k hk => by
      rw [rl_words tlUnits s k 0 (-1) (by decide) (by decide) (by decide) h hk, tlVal_all, Int.zero_add]
    unfold mReadLen
    have hne : ¬ ((tlWords tlUnits s).flatten = []) := fun e => by
      have g := go 5 (by
        have : (tlWords tlUnits s).length ≤ 0 := by
          have w := words_len tlUnits s
          rw [e] at w
          exact w
        omega)
      rw [e, rl_end] at g
      have z : (0 : Int) = (s : Int) := by
        injection g with g
        injection g with g
      omega
    rw [if_neg hne]
    exact go _ (Nat.lt_succ_of_le (words_len tlUnits s))
/-! ### what stands in a told length -/
theorem tlText_units (s : Nat) : (tlWords tlUnits s) = (if 86400 ≤ s then [TL.numL (s / 86400) ++ [100]] else []) ++ ((if 3600 ≤ s % 86400 then [TL.numL (s % 86400 / 3600) ++ [104]] else []) ++
    ((if 60 ≤ s % 3600 then [TL.numL (s % 3600 / 60) ++ [109]] else []) ++ (if 1 ≤ s % 60 then [TL.numL (s % 60) ++ [115]] else []))) := by
  unfold tlUnits
  simp only [tlWords]
  have m1 : s % 86400 % 3600 = s % 3600 := by omega
  have m2 : s % 3600 % 60 = s % 60 := by omega
  have step3 : ∀ t, (if 1 ≤ t then [TL.numL (t / 1) ++ [115]] else []) = (if 1 ≤ t then [TL.numL t ++ [115]] else []) := fun t => by rw [Nat.div_one]
  have f3 : ∀ t, t < 60 → (if 60 ≤ t then (TL.numL (t / 60) ++ [109]) :: (if 1 ≤ t % 60 then [TL.numL (t % 60 / 1) ++ [115]] else []) else (if 1 ≤ t then [TL.numL (t / 1) ++ [115]] else [])) = (if 60 ≤ t then [TL.numL (t / 60) ++ [109]] else []) ++ (if 1 ≤ t % 60 then [TL.numL (t % 60) ++ [115]] else []) := fun t ht => by
    rw [if_neg (show ¬ 60 ≤ t by omega), if_neg (show ¬ 60 ≤ t by omega), step3, show t % 60 = t by omega]
    rfl
  have g3 : ∀ t, (if 60 ≤ t then (TL.numL (t / 60) ++ [109]) :: (if 1 ≤ t % 60 then [TL.numL (t % 60 / 1) ++ [115]] else []) else (if 1 ≤ t then [TL.numL (t / 1) ++ [115]] else [])) = (if 60 ≤ t then [TL.numL (t / 60) ++ [109]] else []) ++ (if 1 ≤ t % 60 then [TL.numL (t % 60) ++ [115]] else []) := fun t => by
    by_cases h : 60 ≤ t
    · rw [if_pos h, if_pos h, step3]
      rfl
    · exact f3 t (by omega)
  have g2 : ∀ t, (if 3600 ≤ t then (TL.numL (t / 3600) ++ [104]) :: (if 60 ≤ t % 3600 then (TL.numL (t % 3600 / 60) ++ [109]) :: (if 1 ≤ t % 3600 % 60 then [TL.numL (t % 3600 % 60 / 1) ++ [115]] else []) else (if 1 ≤ t % 3600 then [TL.numL (t % 3600 / 1) ++ [115]] else []))
      else (if 60 ≤ t then (TL.numL (t / 60) ++ [109]) :: (if 1 ≤ t % 60 then [TL.numL (t % 60 / 1) ++ [115]] else []) else (if 1 ≤ t then [TL.numL (t / 1) ++ [115]] else []))) =
      (if 3600 ≤ t then [TL.numL (t / 3600) ++ [104]] else []) ++ ((if 60 ≤ t % 3600 then [TL.numL (t % 3600 / 60) ++ [109]] else []) ++ (if 1 ≤ t % 60 then [TL.numL (t % 60) ++ [115]] else [])) := fun t => by
    by_cases h : 3600 ≤ t
    · rw [if_pos h, if_pos h, g3 (t % 3600), show t % 3600 % 60 = t % 60 by omega]
      rfl
    · rw [if_neg h, if_neg h, g3 t, show t % 3600 = t by omega]
      rfl
  by_cases h : 86400 ≤ s
  · rw [if_pos h, if_pos h, g2 (s % 86400), m1, show s % 86400 % 60 = s % 60 by omega]
    rfl
  · rw [if_neg h, if_neg h, g2 s, show s % 86400 = s by omega]
    rfl
theorem numL_head {n : Nat} (h : 0 < n) : (TL.numL n).head? ≠ some 48 := by
  induction n using Nat.strongRecOn with
  | ind n ih =>
    by_cases q : n < 10
    · rw [TL.numL_lt q]
      intro e
      have e : 48 + n = 48 := Option.some.inj e
      omega
    · rw [TL.numL_step (by omega)]
      cases hz : TL.numL (n / 10) with
      | nil => exact absurd hz (TL.numL_ne _)
      | cons a r =>
        have g := ih (n / 10) (by omega) (by omega)
        rw [hz] at g
        exact g
theorem mem_opt {x c n : Nat} {p : Prop} [Decidable p] (hx : 57 < x) : x ∈ (if p then [TL.numL n ++ [c]] else []).flatten ↔ p ∧ x = c := by
  by_cases h : p
  · rw [if_pos h]
    have f : x ∉ TL.numL n := TL.numL_free (.inr hx)
    simp [f, h]
  · rw [if_neg h]
    simp [h]
theorem let_mem {x s : Nat} (hx : 57 < x) : x ∈ (tlWords tlUnits s).flatten ↔ (86400 ≤ s ∧ x = 100) ∨ (3600 ≤ s % 86400 ∧ x = 104) ∨ (60 ≤ s % 3600 ∧ x = 109) ∨ (1 ≤ s % 60 ∧ x = 115) := by
  rw [tlText_units, List.flatten_append, List.flatten_append, List.flatten_append, List.mem_append, List.mem_append, List.mem_append, mem_opt hx, mem_opt hx, mem_opt hx, mem_opt hx]
theorem d_in (s : Nat) : decide (100 ∈ tlText s) = decide (86400 ≤ s) := by
  unfold tlText
  by_cases h : s = 0
  · subst h
    decide
  · rw [if_neg h]
    refine decide_eq_decide.mpr ?_
    rw [let_mem (by decide)]
    omega
theorem s_in (s : Nat) : decide (115 ∈ tlText s) = (decide (0 < s % 60) || decide (s = 0)) := by
  unfold tlText
  by_cases h : s = 0
  · subst h
    decide
  · rw [if_neg h, decide_eq_false h, Bool.or_false]
    refine decide_eq_decide.mpr ?_
    rw [let_mem (by decide)]
    omega
def okSign (c : Nat) : Bool := isDig c || decide (c ∈ [100, 104, 109, 115])
theorem words_ok : ∀ (r : List (Nat × Nat)) (s : Nat), (∀ p ∈ r, okSign p.1 = true) → ∀ c ∈ (tlWords r s).flatten, okSign c = true
  | [], _, _, c, h => by cases h
  | (a, z) :: r, s, hp, c, h => by
    unfold tlWords at h
    split at h
    · rw [List.flatten_cons, List.mem_append, List.mem_append, List.mem_singleton] at h
      rcases h with (h | rfl) | h
      · unfold okSign
        rw [numL_dig _ c h]
        rfl
      · exact hp (c, z) List.mem_cons_self
      · exact words_ok r _ (fun p h => hp p (List.mem_cons_of_mem _ h)) c h
    · exact words_ok r s (fun p h => hp p (List.mem_cons_of_mem _ h)) c h
theorem text_ok (s : Nat) : ∀ c ∈ tlText s, okSign c = true := by
  unfold tlText
  split
  · decide
  · exact words_ok tlUnits s (by decide)
theorem words_head : ∀ (r : List (Nat × Nat)) (s : Nat), (∀ p ∈ r, 0 < p.2) → (tlWords r s).flatten.head? ≠ some 48
  | [], _, _ => by
    show ([] : List Nat).head? ≠ some 48
    decide
  | (a, z) :: r, s, hp => by
    have hz : 0 < z := hp (a, z) List.mem_cons_self
    unfold tlWords
    split
    · rename_i q
      rw [List.flatten_cons, List.append_assoc]
      have g := numL_head (n := s / z) (Nat.div_pos q hz)
      cases e : TL.numL (s / z) with
      | nil => exact absurd e (TL.numL_ne _)
      | cons b m =>
        rw [e] at g
        exact g
    · exact words_head r s fun p h => hp p (List.mem_cons_of_mem _ h)
theorem text_head {s : Nat} (h : 0 < s) : (tlText s).head? ≠ some 48 := by
  unfold tlText
  rw [if_neg (by omega)]
  exact words_head tlUnits s (by decide)
theorem text_days {s : Nat} (h : 86400 ≤ s) : ∃ more, tlText s = TL.numL (s / 86400) ++ ([100] ++ more) := by
  unfold tlText
  rw [if_neg (by omega), tlText_units, if_pos h]
  exact ⟨_, by rw [List.flatten_append, List.flatten_singleton, List.append_assoc]⟩
theorem words_short : ∀ (r : List (Nat × Nat)) (s : Nat), s < 1000000 → (tlWords r s).flatten.length ≤ 7 * r.length
  | [], _, _ => Nat.zero_le _
  | (a, z) :: r, s, h => by
    unfold tlWords
    split
    · have g := words_short r (s % z) (Nat.lt_of_le_of_lt (Nat.mod_le _ _) h)
      have l := TL.numL_len (n := s / z) (k := 6) (by decide) (by show s / z < 1000000; exact Nat.lt_of_le_of_lt (Nat.div_le_self _ _) h)
      have er : ((a, z) :: r).length = r.length + 1 := rfl
      have e1 : ([a] : List Nat).length = 1 := rfl
      rw [List.flatten_cons, List.length_append, List.length_append, er, e1]
      omega
    · have g := words_short r s h
      have er : ((a, z) :: r).length = r.length + 1 := rfl
      omega
theorem text_short {s : Nat} (h : s < 1000000) : (tlText s).length ≤ 28 := by
  unfold tlText
  split
  · decide
  · exact words_short tlUnits s h
end Rw
namespace Rw
open PySem PySem.Spec PyProof.Rows L2 Evl SX
/-! ### texts and new lists, evaluated -/
section
variable {K : PySem.W.Frag} {σ : L2.St} {H : Hp} {to te ta tb : TE} {a b z : Str} {xs ys : List V}
theorem ev_m1 {r : V → List V → Hp → VK → Prop} {x y v : V} (ho : Ev to σ H (.str a)) (he : Ev te σ H y) (hr : ∀ H1 (Q : VK), Q v H1 → r (.str a) [y] H1 Q) : Ev (tM1 r to te) σ H v := fun H1 e Q q =>
  ho H1 e _ fun H2 e2 => ⟨⟨a, rfl⟩, he H2 (e.trans e2) _ fun H3 e3 => hr H3 Q (q H3 (e2.trans e3))⟩
theorem ev_lstrip (ho : Ev to σ H (.str a)) (he : Ev te σ H (.str b)) (hz : a.length ≤ 100000) : Ev (tM1 (fun x xs H Q => ∃ a b, x = .str a ∧ xs = [.str b] ∧ a.length ≤ sizeLine ∧ Q (.str (Txt.lstripChars a b)) H) to te) σ H (.str (Txt.lstripChars a b)) :=
  ev_m1 (x := .str a) ho he fun H1 Q q => ⟨a, b, rfl, rfl, sz_of hz, q⟩
theorem ev_strip (ho : Ev to σ H (.str a)) (he : Ev te σ H (.str b)) (hz : a.length ≤ 100000) : Ev (tM1 (fun x xs H Q => ∃ a b, x = .str a ∧ xs = [.str b] ∧ a.length ≤ sizeLine ∧ Q (.str (Txt.stripChars a b)) H) to te) σ H (.str (Txt.stripChars a b)) :=
  ev_m1 (x := .str a) ho he fun H1 Q q => ⟨a, b, rfl, rfl, sz_of hz, q⟩
theorem ev_find (ho : Ev to σ H (.str a)) (he : Ev te σ H (.str b)) : Ev (tM1 (fun x xs H Q => ∃ a b, x = .str a ∧ xs = [.str b] ∧ Q (.int (Txt.find a b)) H) to te) σ H (.int (Txt.find a b)) :=
  ev_m1 (x := .str a) ho he fun H1 Q q => ⟨a, b, rfl, rfl, q⟩
theorem ev_lenS (h : Ev ta σ H (.str z)) (hz : z.length ≤ 100000) : Ev (tCB (fun xs H Q => ∃ z, xs = [.str z] ∧ z.length ≤ sizeLine ∧ Q (.int z.length) H) (tCons ta tNil)) σ H (.int (z.length : Nat)) := fun H1 e Q q =>
  h H1 e _ fun H2 e2 => ⟨z, rfl, sz_of hz, q H2 e2⟩
theorem ev_lenL {p : Addr} (h : Ev ta σ H (.ref p)) (hs : SqL K H p xs) : Ev (tCB (fun xs H Q => ∃ p ys, xs = [.ref p] ∧ (SqL K H p ys ∨ SqT K H p ys) ∧ Q (.int ys.length) H) (tCons ta tNil)) σ H (.int (xs.length : Nat)) := fun H1 e Q q =>
  h H1 e _ fun H2 e2 => ⟨p, xs, rfl, .inl (ex_l (e.trans e2) hs), q H2 e2⟩
theorem ev_slS {tl th : TO} {lo hi : Option Int} (h : Ev te σ H (.str z)) (h1 : EvO tl σ H lo) (h2 : EvO th σ H hi) (hz : z.length ≤ 100000) : Ev (tSl rSlS te tl th) σ H (.str (cutS z lo hi)) := fun H1 e Q q =>
  h H1 e _ fun H2 e2 => h1 H2 (e.trans e2) _ fun H3 e3 => h2 H3 ((e.trans e2).trans e3) _ fun H4 e4 => ⟨z, rfl, sz_of hz, q H4 ((e2.trans e3).trans e4)⟩
theorem ev_intS {n : Int} (h : Ev ta σ H (.str z)) (hn : intText? z = some n) (hz : z.length ≤ 640) : Ev (tCB (fun xs H Q => ∃ a n, xs = [.str a] ∧ PySem.intText? a = some n ∧ a.length ≤ 640 ∧ Q (.int n) H) (tCons ta tNil)) σ H (.int n) := fun H1 e Q q =>
  h H1 e _ fun H2 e2 => ⟨z, n, rfl, hn, hz, q H2 e2⟩
theorem ev_strI {n : Int} (h : Ev ta σ H (.int n)) (hn : n.natAbs.log2 < 1920) : Ev (tCB (fun xs H Q => ∃ i, xs = [.int i] ∧ i.natAbs.log2 < 1920 ∧ Q (.str (toString i)) H) (tCons ta tNil)) σ H (.str (toString n)) := fun H1 e Q q =>
  h H1 e _ fun H2 e2 => ⟨n, rfl, hn, q H2 e2⟩
theorem ev_anyN {bs : List Bool} (h : EvL te σ H (bs.map V.bl)) : Ev (tCB (rAny K) (tCons te tNil)) σ H (.bl (bs.any id)) := fun H1 e Q q =>
  h H1 e _ fun p H2 _ e2 h2 => ⟨p, bs, rfl, sq_of h2, q H2 e2⟩
theorem el_cat (ha : EvL ta σ H xs) (hb : EvL tb σ H ys) (hz : xs.length + ys.length ≤ 100000) : EvL (tOp rCat ta tb) σ H (xs ++ ys) := fun H1 e Q q =>
  ha H1 e _ fun p H2 hp e2 h2 => hb H2 (e.trans e2) _ fun p2 H3 hp2 e3 h3 => ⟨p, p2, xs, ys, rfl, rfl, e3 p _ h2, h3, sz_of hz, fun l hl => q l _ (fresh_back (e2.trans e3) hl) ((e2.trans e3).trans (Ex.new hl)) upd_same⟩
theorem el_split (ho : Ev to σ H (.str a)) (he : Ev te σ H (.str b)) (hb : (b.length == 0) = false) (hz : a.length ≤ 90000) :
    EvL (tM1 (fun x xs H Q => ∃ a b, x = .str a ∧ xs = [.str b] ∧ (b.length == 0) = false ∧ a.length + 2 ≤ sizeLine ∧ rNewStrs (Txt.split a b) H Q) to te) σ H ((Txt.split a b).map V.str) := fun H1 e Q q =>
  ho H1 e _ fun H2 e2 => ⟨⟨a, rfl⟩, he H2 (e.trans e2) _ fun H3 e3 => ⟨a, b, rfl, rfl, hb, sz_of (by omega), fun p hp => q p _ (fresh_back (e2.trans e3) hp) ((e2.trans e3).trans (Ex.new hp)) upd_same⟩⟩
theorem et_val {b : Bool} (h : Ev te σ H (.bl b)) : EvT (tB te) σ H b := et_B h
end
/-! ### words of figures -/
theorem tw_last {p : Nat → Bool} {x : Nat} (hx : p x = false) : ∀ a : List Nat, ((a ++ [x]).takeWhile p).length ≤ a.length
  | [] => by
    rw [List.nil_append, List.takeWhile_cons, hx]
    exact Nat.le_refl _
  | b :: a => by
    rw [List.cons_append, List.takeWhile_cons]
    split
    · have h := tw_last hx a
      rw [List.length_cons, List.length_cons]
      omega
    · exact Nat.zero_le _
theorem strip_S (l : List Nat) : (Txt.stripChars (S l) "0123456789" = "") ↔ l.all isDig = true := by
  have he : ("" : Str) = S [] := by decide +kernel
  rw [he]
  unfold Txt.stripChars
  rw [PyProof.Rows.stripBy_eq, show (("0123456789" : Str)).cps.contains = isDig from funext figs_has]
  unfold stripLo stripHi
  rw [if_pos rfl, if_pos rfl, extract_S]
  show S ((l.drop (l.takeWhile isDig).length).take ((S l).length - ((l.drop (l.takeWhile isDig).length).reverse.takeWhile isDig).length - (l.takeWhile isDig).length)) = S [] ↔ _
  rw [S_len, drop_takeWhile]
  have e := congrArg List.length (List.takeWhile_append_dropWhile (p := isDig) (l := l))
  rw [List.length_append] at e
  cases hd : l.dropWhile isDig with
  | nil =>
    rw [List.take_nil]
    refine ⟨fun _ => ?_, fun _ => rfl⟩
    have t := List.takeWhile_append_dropWhile (p := isDig) (l := l)
    rw [hd, List.append_nil] at t
    rw [← t]
    exact List.all_takeWhile
  | cons x r =>
    have hx : isDig x = false := by
      have q := List.head_dropWhile_not (p := isDig) (l := l) (by rw [hd]; exact List.cons_ne_nil _ _)
      simpa [hd] using q
    have lt := tw_last (p := isDig) hx r.reverse
    rw [List.length_reverse] at lt
    rw [hd, List.length_cons] at e
    rw [List.reverse_cons]
    refine ⟨fun q => ?_, fun q => ?_⟩
    · exfalso
      obtain ⟨m, hm⟩ : ∃ m, l.length - ((r.reverse ++ [x]).takeWhile isDig).length - (l.takeWhile isDig).length = m + 1 := ⟨l.length - ((r.reverse ++ [x]).takeWhile isDig).length - (l.takeWhile isDig).length - 1, by omega⟩
      rw [hm, List.take_succ_cons] at q
      exact List.cons_ne_nil _ _ (S_inj q)
    · exfalso
      have hm : x ∈ l := by
        rw [← List.takeWhile_append_dropWhile (p := isDig) (l := l), hd]
        exact List.mem_append_right _ List.mem_cons_self
      have z := List.all_eq_true.mp q x hm
      rw [hx] at z
      cases z
/-- return f(..): what f gives -/
theorem s_retF {c : Nat → Addr} {f : List V → Option Rs} {σ : L2.St} {H : Hp} {vs dvs : List V} {ta : TA} {E : XK} {Q : VK} {D : Ends} {r : Rs} (h : EvA ta σ H vs) (hf : f (vs ++ dvs) = some r) (o : Out c H Q E r) (hD : D.rt = Q) : tRet (tCall (spF c f) dvs E ta) D σ H := by
  subst hD
  exact h H (Ex.refl H) _ fun H2 e2 => ⟨r, hf, o.mono e2⟩
theorem at_map {ns : List Int} {i : Nat} (h : i < ns.length) : atI (ns.map V.int) (i : Int) = some (.int (ns.getD i 0)) :=
  atI_nat (by rw [List.getElem?_map, List.getElem?_eq_getElem h, List.getD_eq_getElem?_getD, List.getElem?_eq_getElem h]; rfl)
end Rw
namespace Rw
open PySem PySem.Spec PyProof.Rows L2
/-- a text's signs beside a tuple's items: new pairs -/
def ItST (K : PySem.W.Frag) (z : Str) (b : Addr) : It where
  go := fun i H => ∃ (c : Nat) (ys : List V) (y : V), z.cps[i]? = some c ∧ SqT K H b ys ∧ ys[i]? = some y
  yld := fun i H v H' => ∃ (T : Addr) (c : Nat) (y : V), v = .ref T ∧ H T = none ∧ H' = upd H T (.tup [.str ⟨#[c]⟩, y]) ∧ z.cps[i]? = some c ∧ ∀ ys, SqT K H b ys → ys[i]? = some y
  stop := fun i H => ∃ ys : List V, SqT K H b ys ∧ i ≤ z.cps.size ∧ i ≤ ys.length ∧ (i = z.cps.size ∨ i = ys.length)
/-- where such a zip stands: its five cells -/
structure StST (z : Str) (tz : Tok) (b a0 a1 a2 a3 a4 : Addr) (i : Nat) (h : Heap) : Prop where
  zip : IsZip h a0 a1 a2 .none
  two : IsTupOf2 h a1 (.ref a3) (.ref a4)
  res : ∃ u v, IsTupOf2 h a2 u v
  txt : h.IsStrIter a3 (strIterType z) z tz i
  tup : h.IsTupleIter a4 b i
theorem ne_next {b N : Nat} (h : b < N) : b ≠ N + 1 := by omega
theorem iter_at {h h' : Heap} {a : Addr} {T : String} {z : Str} {t : Tok} {i : Nat} (x : h.IsStrIter a T z t i) (k : ∀ o, h.get? a = some o → h'.get? a = some o) : h'.IsStrIter a T z t i := by
  obtain ⟨o, e, c, d⟩ := x
  exact ⟨o, k o e, c, d⟩
theorem five_of {a0 a1 a2 a3 a4 x : Addr} (h : x ∈ [a0, a1, a2, a3, a4]) : x = a0 ∨ x = a1 ∨ x = a2 ∨ x = a3 ∨ x = a4 := by simpa using h
theorem StST.cells {z : Str} {tz : Tok} {b a0 a1 a2 a3 a4 : Addr} {i : Nat} {h : Heap} (S : StST z tz b a0 a1 a2 a3 a4 i h) : ∀ x ∈ [a0, a1, a2, a3, a4], ∃ o, h.get? x = some o ∧ ∀ v, o.data ≠ .cell v := fun x hx => by
  obtain ⟨u, v, r⟩ := S.res
  obtain ⟨o3, e3, _, d3⟩ := S.txt
  obtain ⟨o4, e4, _, d4⟩ := S.tup
  rcases five_of hx with rfl | rfl | rfl | rfl | rfl
  · exact ⟨_, S.zip, fun v q => by cases q⟩
  · exact ⟨_, S.two, fun v q => by cases q⟩
  · exact ⟨_, r, fun v q => by cases q⟩
  · exact ⟨o3, e3, fun v q => by rw [d3] at q; cases q⟩
  · exact ⟨o4, e4, fun v q => by rw [d4] at q; cases q⟩
theorem turn_st {P : Program} {w : World} {K : PySem.W.Frag} {elts : List Expr} {kk : Nat} {tp : Pos} {z : Str} {tz : Tok} {b N : Addr} (hb : b < N) :
    Turn P w K (.Tuple elts kk tp) (ItST K z b) [N + 4, N + 2, N + 3, N, N + 1] (N + 4) (StST z tz b (N + 4) (N + 2) (N + 3) N (N + 1)) where
  mem := List.mem_cons_self ..
  obj := fun i h S => S.cells
  keep := fun i h h' S k => by
    obtain ⟨u, v, r⟩ := S.res
    exact ⟨k _ (by simp) _ S.zip, k _ (by simp) _ S.two, ⟨u, v, k _ (by simp) _ r⟩, iter_at S.txt fun o e => k _ (by simp) o e, S.tup.at fun o e => k _ (by simp) o e⟩
  item := by
    rintro X rfl rfl rfl hc i pins s σ H E I hf S ⟨c, ys, y, hz, hy, hi⟩
    have apart := zip_sep2 (N := N) (fp1 := []) (fp2 := [b]) (fun x hx => by simp at hx) (fun x hx => by simp at hx; rw [hx]; exact hb)
    obtain ⟨us, rv, tupb, _⟩ := I.tuple hy
    obtain ⟨uy, huy, ry⟩ := rv.get hi
    obtain ⟨u, v, r⟩ := S.res
    have nb : b ≠ N + 1 := ne_next hb
    have h1 : i < z.cps.size := by
      cases Nat.lt_or_ge i z.cps.size with
      | inl q => exact q
      | inr q =>
        rw [Array.getElem?_eq_none q] at hz
        cases hz
    have h2 : i < us.toArray.size := by
      have q := (List.getElem?_eq_some_iff.mp huy).1
      simpa using q
    refine wpAny_pyNext_zipD2_item apart (Draws.text (by rw [show X.A.in1.handled = X.A.handled from rfl]; exact I.ok.hd hc) N z tz) (Draws.tuple (by rw [show X.A.in1.handled = X.A.handled from rfl]; exact I.ok.hd hc) (N + 1) b nb us.toArray) S.zip S.two r S.txt ⟨S.tup, tupb⟩ h1 h2 fun x1 x2 h' tk y1 y2 b1 b2 d1 d2 b5 b6 kp => ?_
    obtain ⟨c', tc, hc', rfl⟩ := y1
    rw [hz] at hc'
    obtain rfl : c = c' := Option.some.inj hc'
    have ex2 : uy = x2 := Option.some.inj (huy.symm.trans (by simpa using y2))
    subst ex2
    have kp5 : ∀ x o, x ∉ [N + 4, N + 2, N + 3, N, N + 1] → s.heap.get? x = some o → h'.get? x = some o := fun x o nx e => kp x o (fun q => nx (by simp [q])) (fun q => nx (by simp [q])) (fun q => nx (by simp [q])) (fun q => nx (by simp [q])) e
    have lt4 : N + 4 < s.heap.objs.size := Heap.lt_size S.zip
    refine ⟨_, rfl, wpAny_letOwnedTupleGo_zip (s := { s with heap := h', toks := tk }) b1 fun h2' z2 sb => ?_⟩
    have pr : h2'.get? s.heap.objs.size = some { cls := .type "tuple", data := .seq #[.str ⟨#[c]⟩ tc, uy] } := (sb.2 _ (Nat.ne_of_gt lt4)).trans b5
    have new : ObjOk X.prog X.w (upd H s.heap.objs.size (.tup [.str ⟨#[c]⟩, y])) h2' s.heap.objs.size (.tup [.str ⟨#[c]⟩, y]) :=
      ⟨by show 2 ≤ sizeLine; decide, [.str ⟨#[c]⟩ tc, uy], .cons ⟨tc, rfl⟩ (.cons ry .nil), ⟨_, pr, rfl, _, rfl⟩⟩
    have J := I.turnedNew (t' := tk) (ch := [N + 4, N + 2, N + 3, N, N + 1]) (h' := h2') (fun x o nx e => (sb.2 x (fun q => nx (by simp [q]))).trans (kp5 x o nx e)) hf (Nat.le_refl _) new
    refine ⟨.ref s.heap.objs.size, _, J, rfl, ⟨_, c, y, rfl, I.hok.fresh (Nat.le_refl _), rfl, hz, fun l hl => by rw [I.tuple_inj hl hy]; exact hi⟩, ⟨z2, ?_, ⟨.str ⟨#[c]⟩ tc, uy, ?_⟩, ?_, ?_⟩, fun x hx => ?_⟩
    · exact (sb.2 _ apart.TIz).trans (kp _ _ apart.TIz apart.TITO apart.TIi1 apart.TIi2 S.two)
    · exact (sb.2 _ apart.TOz).trans b2
    · exact iter_at d1 fun o e => (sb.2 _ apart.zi1.symm).trans e
    · exact d2.1.at fun o e => (sb.2 _ apart.zi2.symm).trans e
    · obtain ⟨o, eo, _⟩ := S.cells x hx
      rw [upd_ne (Nat.ne_of_lt (Heap.lt_size eo))]
      exact (hf x hx).1
  done := by
    rintro X rfl rfl rfl hc i pins s σ H E I hf S ⟨ys, hy, l1, l2, hend⟩
    have apart := zip_sep2 (N := N) (fp1 := []) (fp2 := [b]) (fun x hx => by simp at hx) (fun x hx => by simp at hx; rw [hx]; exact hb)
    obtain ⟨us, rv, tupb, _⟩ := I.tuple hy
    obtain ⟨u, v, r⟩ := S.res
    have nb : b ≠ N + 1 := ne_next hb
    have el : us.toArray.size = ys.length := by rw [List.size_toArray, rv.length]
    refine wpAny_pyNext_zipD2_end apart (Draws.text (by rw [show X.A.in1.handled = X.A.handled from rfl]; exact I.ok.hd hc) N z tz) (Draws.tuple (by rw [show X.A.in1.handled = X.A.handled from rfl]; exact I.ok.hd hc) (N + 1) b nb us.toArray) S.zip S.two r S.txt ⟨S.tup, tupb⟩ l1 (by rw [el]; exact l2) (by rw [el]; exact hend) fun h' tk kp => ⟨rfl, ?_⟩
    exact I.turnedL (t' := tk) (ch := [N + 4, N + 2, N + 3, N, N + 1]) (fun x o nx e => kp x o (fun q => nx (by simp [q])) (fun q => nx (by simp [q])) (fun q => nx (by simp [q])) (fun q => nx (by simp [q])) e) hf
  self := fun A i s Q E S q => wpAny_pyIter_zip S.zip q
/-- zip(text, tuple) -/
def iZipST (K : PySem.W.Frag) (ta : TA) : TI := fun σ H R => ta σ H fun vs H1 => ∃ (z : Str) (b : Addr) (ys : List V), vs = [.str z, .ref b] ∧ SqT K H1 b ys ∧ R (ItST K z b) H1
theorem pi_zipST {X : Cx} {e e2 : Expr} {ta : TA} {p pos tp : Pos} {elts : List Expr} {kk : Nat} (hm : X.mg "zip" = none) (ha : PA X [e, e2] ta) (hg : Gl X "zip" := by rfl)
    (stars : starEach [e, e2] X.env = (false, eval e X.env) :: starEach [e2] X.env := by rfl) (plain : (backTo pos (starEach [e2] X.env)).any (·.1) = false := by rfl) :
    PI X (.Tuple elts kk tp) (.Call (.Name "zip" p) [e, e2] [] pos) (iZipST X.K ta) := by
  constructor
  intro pins s σ H R I h
  refine Call_ (ld_blt I hg hm PyProof.Rows.boot_zip (PyProof.Rows.callWith_type1 (thn (ha.run pos pins s σ H _ I h) ?_) stars plain))
  rintro us s1 ⟨vs, H1, J, r, z, b, ys, rfl, hy, q⟩
  match us, r with
  | [u1, u2], .cons r1 (.cons r2 .nil) =>
    obtain ⟨tz, rfl⟩ := r1
    obtain rfl : u2 = Value.ref b := r2
    obtain ⟨its, rv, tupb, _⟩ := J.tuple hy
    have hb : b < s1.heap.objs.size := by
      obtain ⟨o, e, _⟩ := id tupb
      exact Heap.lt_size e
    refine zip_begins2 (begins_text z tz) (begins_tuple b its.toArray) trivial tupb fun h' g0 g1 g2 g3 g4 _ kp => wpAny_pyIter_zip g0 ?_
    refine ⟨s1.heap.objs.size + 4, _, _, _, H1, rfl, J.kept (t' := s1.toks) kp, turn_st (tz := tz) hb, ⟨g0, g1, ⟨_, _, g2⟩, ⟨_, g3, rfl, rfl⟩, ⟨_, g4, rfl, rfl⟩⟩, fun x hx => ?_, q⟩
    have le : s1.heap.objs.size ≤ x := by
      rcases five_of hx with q | q | q | q | q
      · rw [q]; exact Nat.le_add_right ..
      · rw [q]; exact Nat.le_add_right ..
      · rw [q]; exact Nat.le_add_right ..
      · rw [q]; exact Nat.le_refl _
      · rw [q]; exact Nat.le_add_right ..
    exact J.fpOk le (J.hok.fresh le)
/-- a loop over such a zip, of as many signs as items -/
theorem for_zipST {K : PySem.W.Frag} {z : Str} {b : Addr} {ys : List V} {g : TG} {tb : TS} {D : Ends} {σ : L2.St} {H : Hp} (hl : z.cps.size = ys.length) (Pv : Nat → L2.St → Hp → Prop) (h0 : Pv 0 σ H) (hq : ∀ i σ H, Pv i σ H → SqT K H b ys)
    (hs : ∀ (i : Nat) (c : Nat) (y : V) (T : Addr) (σ : L2.St) (H : Hp), z.cps[i]? = some c → ys[i]? = some y → Pv i σ H → H T = none → g (.ref T) σ (upd H T (.tup [.str ⟨#[c]⟩, y])) fun σ2 H2 => tb { D with nx := Pv (i + 1), ct := Pv (i + 1), bk := D.nx } σ2 H2) (hd : ∀ σ H, Pv ys.length σ H → D.nx σ H) :
    ∃ Wd : Nat → Nat → L2.St → Hp → Prop, (∃ m, Wd 0 m σ H) ∧ ∀ i m σ H, Wd i m σ H →
      ((ItST K z b).stop i H ∧ D.nx σ H) ∨ ((ItST K z b).go i H ∧ ∃ N : L2.St → Hp → Prop, (∀ σ' H', N σ' H' → ∃ m', m' < m ∧ Wd (i + 1) m' σ' H') ∧ ∀ v H', (ItST K z b).yld i H v H' → g v σ H' fun σ2 H2 => tb { D with nx := N, ct := N, bk := D.nx } σ2 H2) := by
  refine ⟨fun i m σ H => m + i = ys.length ∧ Pv i σ H, ⟨ys.length, rfl, h0⟩, ?_⟩
  rintro i m σ H ⟨em, p⟩
  have q := hq i σ H p
  cases m with
  | zero =>
    have e : i = ys.length := by omega
    subst e
    exact .inl ⟨⟨ys, q, by omega, Nat.le_refl _, .inr rfl⟩, hd σ H p⟩
  | succ m =>
    have lt : i < ys.length := by omega
    have ltz : i < z.cps.size := by omega
    refine .inr ⟨⟨z.cps[i], ys, ys[i], Array.getElem?_eq_getElem ltz, q, List.getElem?_eq_getElem lt⟩, Pv (i + 1), fun σ' H' p' => ⟨m, Nat.lt_succ_self m, by omega, p'⟩, ?_⟩
    rintro v H' ⟨T, c, y, rfl, hT, rfl, hc, hy⟩
    exact hs i c y T σ H hc (hy ys q) p hT
end Rw
namespace Rw
open PySem PySem.Spec PyProof.Rows L2 Evl SX
section
variable {K : PySem.W.Frag} {σ : L2.St} {H : Hp} {t1 t2 te tl : TE} {ta : TA} {D : Ends} {tu tz : TS}
theorem empty_cat (y : Str) : Str.empty ++ y = y := by
  have e : Str.empty = S [] := by decide +kernel
  rw [e, ← S_tl y, S_cat, List.nil_append]
/-- f'{n}{y}' -/
theorem ev_js2 {n : Int} {y : Str} (h1 : Ev t1 σ H (.int n)) (h2 : Ev t2 σ H (.str y)) (hn : n.natAbs.log2 < 1920) (hy : y.length ≤ 1000) (hz : (Str.ofString (toString n)).length ≤ 1000) :
    Ev (fun σ H Q => tJs [tFmt t1, tFmt t2] Str.empty σ H fun out H1 => Q (.str out) H1) σ H (.str (Str.ofString (toString n) ++ y)) := fun H1 e Q q =>
  h1 H1 e _ fun H2 e2 => .inr ⟨n, rfl, hn, _, rfl, by rw [empty_cat]; exact sz_of (Nat.le_trans hz (by decide)), h2 H2 (e.trans e2) _ fun H3 e3 => .inl ⟨y, rfl, sz_of (Nat.le_trans hy (by decide)), _, rfl, by
    rw [empty_cat, ← S_tl (Str.ofString (toString n)), ← S_tl y, S_cat, S_len, List.length_append, ← S_len, ← S_len, S_tl, S_tl]
    exact sz_of (by omega), by
    rw [empty_cat]
    exact q H3 (e2.trans e3)⟩⟩
/-- a loop over zip(text, tuple), the names at i and j -/
theorem q_forZ {z : Str} {b : Addr} {ys : List V} {i j : Nat} (h : EvA ta σ H [.str z, .ref b]) (hy : SqT K H b ys) (hl : z.cps.size = ys.length) (Pv : Nat → L2.St → Hp → Prop) (h0 : ∀ H1, Ex H H1 → Pv 0 σ H1)
    (hq : ∀ n σ' H', Pv n σ' H' → SqT K H' b ys)
    (hs : ∀ (n : Nat) (c : Nat) (y : V) (T : Addr) σ' H', z.cps[n]? = some c → ys[n]? = some y → Pv n σ' H' → H' T = none → tu { D with nx := Pv (n + 1), ct := Pv (n + 1), bk := tz D } ((σ'.set i (some (.str ⟨#[c]⟩))).set j (some y)) (upd H' T (.tup [.str ⟨#[c]⟩, y])))
    (hd : ∀ σ' H', Pv ys.length σ' H' → tz D σ' H') : tSeq (tFor (iZipST K ta) (gTup K 2 (gCons (gName i) (gCons (gName j) gNil))) tu) tz D σ H :=
  h H (Ex.refl H) _ fun H1 e => ⟨z, b, ys, rfl, ex_t e hy, for_zipST hl Pv (h0 H1 e) hq (fun n c y T σ' H' hc hy' hp hT =>
    ⟨T, _, rfl, SqT.of upd_same, rfl, _, _, rfl, _, _, rfl, rfl, hs n c y T σ' H' hc hy' hp hT⟩) hd⟩
/-- sep.join(list) -/
theorem ev_joinL {to : TE} {a : Str} {zs : List Str} {l : Addr} (ho : Ev to σ H (.str a)) (he : Ev te σ H (.ref l)) (hl : SqL K H l (zs.map V.str)) (hz : (zs.map (·.length)).sum + zs.length * a.length ≤ 16777216) :
    Ev (tM1 (fun x xs H Q => ∃ a p, ∃ ys : List Str, x = .str a ∧ xs = [.ref p] ∧ (SqL K H p (ys.map V.str) ∨ SqT K H p (ys.map V.str)) ∧ (ys.map (·.length)).sum + ys.length * a.length ≤ 16777216 ∧ Q (.str (Txt.join a ys)) H) to te) σ H (.str (Txt.join a zs)) := fun H1 e Q q =>
  ho H1 e _ fun H2 e2 => ⟨⟨a, rfl⟩, he H2 (e.trans e2) _ fun H3 e3 => ⟨a, l, zs, rfl, rfl, .inl (ex_l ((e.trans e2).trans e3) hl), hz, q H3 (e2.trans e3)⟩⟩
theorem s_joinL_flat (l : List (List Nat)) : TL.joinL [] l = l.flatten := by
  induction l with
  | nil => rfl
  | cons a r ih =>
    cases r with
    | nil => simp [TL.joinL]
    | cons b r =>
      simp only [TL.joinL, List.flatten_cons] at ih ⊢
      rw [ih]
      simp
end
end Rw
namespace Rw
open PySem PySem.Spec PyProof.Rows L2 Evl SX
section
variable {K : PySem.W.Frag} {σ : L2.St} {H : Hp} {te tl ta tb : TE} {t : TT} {j : Nat} {vs : List Nat} {xs ys : List V}
/-- all items of a list display, each made another -/
theorem el_mapNL (h : EvL tl σ H xs) (hz : xs.length ≤ 40000) (hw : ∀ x, wipe ((wipe σ vs).set j (some x)) vs = wipe σ vs) (hl : xs.length = ys.length)
    (he : ∀ (i : Nat) (x y : V) H1, Ex H H1 → xs[i]? = some x → ys[i]? = some y → Ev te ((wipe σ vs).set j (some x)) H1 y) :
    EvL (tLc (iList K tl) (gName j) tYes te vs) σ H ys := by
  have g := el_lcNL (K := K) (t := tYes) (te := te) (fun _ => true) (fun i => ys.getD i .non) h hz hw (fun _ _ _ _ _ => et_yes) fun i x H1 e hx _ => by
    have hi : i < ys.length := by
      have q := (List.getElem?_eq_some_iff.mp hx).1
      omega
    have ey : ys.getD i .non = ys[i] := by rw [List.getD_eq_getElem?_getD, List.getElem?_eq_getElem hi]; rfl
    rw [ey]
    exact he i x _ H1 e hx (List.getElem?_eq_getElem hi)
  rw [given_map hl fun i y hy => by rw [List.getD_eq_getElem?_getD, hy]; rfl] at g
  exact g
/-- a comprehension over the signs of a text -/
theorem el_lcStr {z : Str} (f : Nat → Bool) (v : Nat → V) (h : Ev tl σ H (.str z)) (hz : z.cps.size ≤ 40000) (hw : ∀ x, wipe ((wipe σ vs).set j (some x)) vs = wipe σ vs)
    (ht : ∀ (i c : Nat) H1, Ex H H1 → z.cps[i]? = some c → EvT t ((wipe σ vs).set j (some (.str ⟨#[c]⟩))) H1 (f i)) (he : ∀ (i c : Nat) H1, Ex H H1 → z.cps[i]? = some c → f i = true → Ev te ((wipe σ vs).set j (some (.str ⟨#[c]⟩))) H1 (v i)) :
    EvL (tLc (iStr tl) (gName j) t te vs) σ H (given z.cps.size f v) := fun H0 e Q q => h H0 e _ fun H1 e1 => ⟨z, rfl, fun Dl hD =>
  lc_it walk_str (Cw H1 f v Dl) ⟨hD, Ex.new hD, upd_same⟩ (fun _ _ _ _ => trivial) (fun i x Ha Hb hi p y => by
    obtain ⟨rfl, c, hc, rfl⟩ := y
    exact ⟨hw _, cw_turn p (by omega) (ht i c H1 (e.trans e1) hc) (fun hf => he i c H1 (e.trans e1) hc hf)⟩)
    (fun Hz pz => q Dl Hz (fresh_back e1 pz.1) (e1.trans pz.2.1) pz.2.2)⟩
theorem given_none {n : Nat} {v : Nat → V} : given n (fun _ => false) v = [] := by
  unfold given
  rw [List.filter_eq_nil_iff.mpr (fun a _ => by decide)]
  rfl
/-- two new lists of no items -/
theorem ev_noneNe (ha : EvL ta σ H []) : Ev (tOp (rNeD K) ta (tLst tNil)) σ H (.bl false) :=
  ev_opLL ha (el_lst ea_nil (by decide)) fun p q H1 h1 h2 e => fun H2 e2 Q k => ⟨.list [], .list [], .lst (SqL.of (e2 _ _ h1)) .nil, .lst (SqL.of (e2 _ _ h2)) .nil, rfl, rfl, k H2 (Ex.refl H2)⟩
theorem ev_noneEq (ha : EvL ta σ H []) : Ev (tOp (rEqD K) ta (tLst tNil)) σ H (.bl true) :=
  ev_opLL ha (el_lst ea_nil (by decide)) fun p q H1 h1 h2 e => fun H2 e2 Q k => ⟨.list [], .list [], .lst (SqL.of (e2 _ _ h1)) .nil, .lst (SqL.of (e2 _ _ h2)) .nil, rfl, rfl, k H2 (Ex.refl H2)⟩
theorem eqv_three (a b d : Int) : PyData.eqv (.tuple [.int a, .int b, .int d]) (.tuple [.int a, .int b, .int d]) = true := by
  simp [PyData.eqv, PyData.eqvAll]
/-- two new tuples of the same three ints -/
theorem ev_tupNe {a b d : Int} (ha : EvU ta σ H [.int a, .int b, .int d]) (hb : EvU tb σ H [.int a, .int b, .int d]) : Ev (tOp (rNeD K) ta tb) σ H (.bl false) :=
  ev_opUU ha hb fun p q H1 h1 h2 e => fun H2 e2 Q k => ⟨.tuple [.int a, .int b, .int d], .tuple [.int a, .int b, .int d], .tup (SqT.of (e2 _ _ h1)) (.cons (.int a) (.cons (.int b) (.cons (.int d) .nil))), .tup (SqT.of (e2 _ _ h2)) (.cons (.int a) (.cons (.int b) (.cons (.int d) .nil))), rfl, rfl, by rw [eqv_three]; exact k H2 (Ex.refl H2)⟩
end
end Rw
namespace Rw
open PySem PySem.Spec PyProof.Rows L2 Evl
/-! ### sum and min of a tuple of ints -/
section
variable {P : Program} {w : World} {A : Around} {E : Value → Shared → Prop} {s : Shared} {t : Addr} {items : Array Value} {ns : List Int}
theorem ints_at {items : Array Value} {ns : List Int} (hi : IntsAre items.toList ns) {i : Nat} {v : Value} (h : items[i]? = some v) : ∃ k, v = .int (ns.getD i 0) k := by
  have go : ∀ (us : List Value) (ns : List Int), IntsAre us ns → ∀ (i : Nat) (v : Value), us[i]? = some v → ∃ k, v = Value.int (ns.getD i 0) k := by
    intro us ns h
    induction h with
    | nil => intro i v e; simp at e
    | cons n t h ih =>
      intro i v e
      cases i with
      | zero => exact ⟨t, (Option.some.inj e).symm⟩
      | succ i => exact ih i v e
  exact go _ _ hi i v (by rw [Array.getElem?_toList]; exact h)
theorem iter_tup {Q : Value → Shared → Prop} (hl : s.heap.IsTuple t items)
    (h : ∀ sv : Shared, sv = { s with heap := s.heap.push { cls := .type "tuple_iterator", data := .fields #[.ref t, .int 0 0] } } → (sv.heap.IsTupleIter s.heap.objs.size t 0 ∧ sv.heap.IsTuple t items) → (∀ b ∈ [s.heap.objs.size, t], b < sv.heap.objs.size) → t ≠ s.heap.objs.size → Q (.ref s.heap.objs.size) sv) :
    wpAny (model P w) A (pyIter (.ref t)) Q E s := by
  have lt : t < s.heap.objs.size := let ⟨_, e, _⟩ := hl; Heap.lt_size e
  have there : (s.heap.push { cls := .type "tuple_iterator", data := .fields #[.ref t, .int 0 0] }).IsTuple t items := let ⟨o, e, k, n, d⟩ := hl; ⟨o, Heap.get?_push_of_some _ e, k, n, d⟩
  refine wpAny_pyIter_tuple hl (h _ rfl ⟨⟨_, Heap.get?_push_size _ rfl, rfl, rfl⟩, there⟩ (fun b hb => ?_) (Nat.ne_of_lt lt))
  have e : (s.heap.push { cls := .type "tuple_iterator", data := .fields #[.ref t, .int 0 0] }).objs.size = s.heap.objs.size + 1 := Heap.size_push _ _
  show b < (s.heap.push _).objs.size
  rw [e]
  simp only [List.mem_cons, List.not_mem_nil, or_false] at hb
  have lt' : (t : Nat) < s.heap.objs.size := lt
  rcases hb with z | z
  · rw [z]; exact Nat.lt_succ_self _
  · rw [z]; exact Nat.lt_succ_of_lt lt'
theorem kept_old {h' : Heap} {o1 : Obj} (hk : ∀ b o, b ∉ [s.heap.objs.size] → (s.heap.push o1).get? b = some o → h'.get? b = some o) : ∀ b o, s.heap.get? b = some o → h'.get? b = some o := fun b o e =>
  hk b o (fun z => by
    rw [List.mem_singleton] at z
    have q := Heap.lt_size e
    rw [z] at q
    exact absurd q (Nat.lt_irrefl _)) (Heap.get?_push_of_some _ e)
theorem sum_getD (ns : List Int) : preSum (fun i => ns.getD i 0) ns.length = ns.sum := by
  have go : ∀ j, j ≤ ns.length → preSum (fun i => ns.getD i 0) j = (ns.take j).sum := by
    intro j
    induction j with
    | zero => intro _; rfl
    | succ j ih =>
      intro h
      have hj : j < ns.length := by omega
      rw [preSum, ih (by omega), List.take_succ_eq_append_getElem hj, List.sum_append, List.getD_eq_getElem?_getD, List.getElem?_eq_getElem hj]
      simp
  rw [go _ (Nat.le_refl _), List.take_length]
theorem sum_tup {Q : Value → Shared → Prop} (hh : A.handled = none) (hl : s.heap.IsTuple t items) (hi : IntsAre items.toList ns) (hn : items.size = ns.length)
    (h : ∀ h' tk k, (∀ b o, s.heap.get? b = some o → h'.get? b = some o) → Q (.int ns.sum k) { s with heap := h', toks := tk }) : wpAny (model P w) A (call (.builtin "sum") [.ref t]) Q E s := by
  refine call_sum_walkG (iter_tup hl fun sv e st hfp hne => ?_)
  subst e
  refine ⟨_, _, _, _, _, _, fun i => ns.getD i 0, rfl, Walks.tuple (A := A.in1) hh _ t hne items, st, hfp, fun i v e => ints_at hi e, fun h' tk k hk => ?_⟩
  have g := h h' tk k (kept_old hk)
  rw [hn, sum_getD]
  exact g
theorem min_tup {Q : Value → Shared → Prop} (hh : A.handled = none) (hl : s.heap.IsTuple t items) (hi : IntsAre items.toList ns) (hn : items.size = ns.length) (hne0 : 0 < ns.length)
    (h : ∀ h' tk M k, (∀ b o, s.heap.get? b = some o → h'.get? b = some o) → M ∈ ns → (∀ a, a ∈ ns → M ≤ a) → Q (.int M k) { s with heap := h', toks := tk }) : wpAny (model P w) A (call (.builtin "min") [.ref t]) Q E s := by
  refine call_min_walk (iter_tup hl fun sv e st hfp hne => ?_)
  subst e
  refine ⟨_, _, _, _, _, _, _, rfl, Walks.tuple (A := A.in1) hh _ t hne items, st, hfp, by omega, CmpOf.ints_lt (fun i => ns.getD i 0) (fun i v e => ints_at hi e), fun v h' tk hP hk => ?_⟩
  obtain ⟨k, rfl⟩ := ints_at hi hP
  obtain ⟨h1, h2⟩ := argBest_lt (fun i => ns.getD i 0) (items.size - 1)
  refine h h' tk _ k (kept_old hk) ?_ fun a ha => ?_
  · have hlt : argBest (fun i j => decide (ns.getD i 0 < ns.getD j 0)) (items.size - 1) < ns.length := by omega
    rw [List.getD_eq_getElem?_getD, List.getElem?_eq_getElem hlt]
    exact List.getElem_mem hlt
  · obtain ⟨j, hj, rfl⟩ := List.getElem_of_mem ha
    have g := h2 j (by omega)
    have e : ns[j] = ns.getD j 0 := by rw [List.getD_eq_getElem?_getD, List.getElem?_eq_getElem hj]; rfl
    rw [e]
    exact g
end
section
variable {X : Cx}
def rSumT (K : PySem.W.Frag) : List V → Hp → VK → Prop := fun vs H Q => ∃ (a : Addr) (ns : List Int), vs = [V.ref a] ∧ SqT K H a (ns.map V.int) ∧ Q (.int ns.sum) H
def rMinT (K : PySem.W.Frag) : List V → Hp → VK → Prop := fun vs H Q => ∃ (a : Addr) (ns : List Int), vs = [V.ref a] ∧ SqT K H a (ns.map V.int) ∧ 0 < ns.length ∧ ∀ m, m ∈ ns → (∀ y, y ∈ ns → m ≤ y) → Q (.int m) H
theorem cr_sumT (hc : X.calm = true) : CallR X (.builtin "sum") (rSumT X.K) := by
  intro pins s σ H vs us Q I r h
  obtain ⟨a, ns, rfl, hs, q⟩ := h
  obtain ⟨its, rv, hl, _⟩ := I.tuple hs
  rw [Vals.ref1 r]
  exact sum_tup (I.ok.hd hc) hl rv.ints (by rw [List.size_toArray, ← rv.length, List.length_map]) fun h' tk k hk => ⟨.int _, H, I.kept hk, ⟨_, rfl⟩, q⟩
theorem cr_minT (hc : X.calm = true) : CallR X (.builtin "min") (rMinT X.K) := by
  intro pins s σ H vs us Q I r h
  obtain ⟨a, ns, rfl, hs, h0, q⟩ := h
  obtain ⟨its, rv, hl, _⟩ := I.tuple hs
  rw [Vals.ref1 r]
  exact min_tup (I.ok.hd hc) hl rv.ints (by rw [List.size_toArray, ← rv.length, List.length_map]) h0 fun h' tk M k hk h1 h2 => ⟨.int _, H, I.kept hk, ⟨_, rfl⟩, q M h1 h2⟩
end
end Rw
/-! The mathematics of calendars: years by a cycle, months, days' numbers. Nothing of a program in it. -/
namespace Cy
structure Ca where
  months : List Int
  lm : Int
  cycle : Int
  ly : List Int
  week : Int
  fw : Int
structure Ca.Ok (c : Ca) : Prop where
  some : c.months ≠ []
  pos : ∀ m ∈ c.months, 1 ≤ m
  lm0 : 0 ≤ c.lm
  lm1 : c.lm < (c.months.length : Int)
  cy : 1 ≤ c.cycle
  ly : ∀ y ∈ c.ly, 0 ≤ y ∧ y < c.cycle
  wk : 1 ≤ c.week
  fw0 : 0 ≤ c.fw
  fw1 : c.fw < c.week
namespace Ca
variable (c : Ca)
def long (y : Int) : Bool := decide (y % c.cycle ∈ c.ly)
def plain : Int := c.months.sum
def yearDays (y : Int) : Int := if c.long y = true then c.plain + 1 else c.plain
def startN : Nat → Int
  | 0 => 0
  | n + 1 => startN n + c.yearDays (n : Int)
def cyc : Int := c.startN c.cycle.toNat
def firstOf (y : Int) : Int := y / c.cycle * c.cyc + c.startN (y % c.cycle).toNat
def weekday (n : Int) : Int := (n + c.fw) % c.week
def md (y : Int) (m : Nat) : Int := if (m : Int) = c.lm ∧ c.long y = true then c.months.getD m 0 + 1 else c.months.getD m 0
/-- days of a year ahead of its month m -/
def ahead (y : Int) : Nat → Int
  | 0 => 0
  | m + 1 => ahead y m + c.md y m
variable {c}
theorem sum_pos : ∀ (l : List Int), (∀ m ∈ l, 1 ≤ m) → (l.length : Int) ≤ l.sum
  | [], _ => by simp
  | a :: l, h => by
    have g := sum_pos l fun m hm => h m (List.mem_cons_of_mem _ hm)
    have q := h a List.mem_cons_self
    rw [List.sum_cons, List.length_cons]
    omega
theorem plain_pos (k : c.Ok) : 1 ≤ c.plain := by
  have g := sum_pos c.months k.pos
  have n := List.length_pos_iff.mpr k.some
  unfold plain
  omega
theorem days_pos (k : c.Ok) (y : Int) : 1 ≤ c.yearDays y := by
  have g := plain_pos k
  unfold yearDays
  split <;> omega
theorem long_mod (y : Int) : c.long (y % c.cycle) = c.long y := by
  unfold long
  rw [Int.emod_emod_of_dvd y (Int.dvd_refl _)]
theorem long_add (y t : Int) : c.long (y + t * c.cycle) = c.long y := by
  unfold long
  rw [Int.add_mul_emod_self_right]
theorem days_mod (y : Int) : c.yearDays (y % c.cycle) = c.yearDays y := by
  unfold yearDays
  rw [long_mod]
theorem first_add (y t : Int) (k : c.Ok) : c.firstOf (y + t * c.cycle) = c.firstOf y + t * c.cyc := by
  unfold firstOf
  have h := k.cy
  rw [Int.add_mul_ediv_right _ _ (by omega), Int.add_mul_emod_self_right, Int.add_mul]
  omega
theorem first_succ (k : c.Ok) (y : Int) : c.firstOf (y + 1) = c.firstOf y + c.yearDays y := by
  have h := k.cy
  have r0 := Int.emod_nonneg y (show c.cycle ≠ 0 by omega)
  have r1 := Int.emod_lt_of_pos y (show 0 < c.cycle by omega)
  have e := Int.emod_add_mul_ediv y c.cycle
  have dm := days_mod (c := c) y
  unfold firstOf
  generalize hr : y % c.cycle = r at *
  generalize hq : y / c.cycle = q at *
  have hy : y = r + q * c.cycle := by rw [Int.mul_comm q]; omega
  by_cases l : r + 1 < c.cycle
  · have e1 : (y + 1) % c.cycle = r + 1 := by
      rw [hy, show r + q * c.cycle + 1 = (r + 1) + q * c.cycle by omega, Int.add_mul_emod_self_right, Int.emod_eq_of_lt (by omega) l]
    have e2 : (y + 1) / c.cycle = q := by
      rw [hy, show r + q * c.cycle + 1 = (r + 1) + q * c.cycle by omega, Int.add_mul_ediv_right _ _ (by omega), Int.ediv_eq_zero_of_lt (by omega) l]
      omega
    rw [e1, e2, show (r + 1).toNat = r.toNat + 1 by omega]
    show _ + (c.startN r.toNat + c.yearDays ((r.toNat : Nat) : Int)) = _
    rw [Int.toNat_of_nonneg r0, dm]
    omega
  · have er : r + 1 = c.cycle := by omega
    have e1 : (y + 1) % c.cycle = 0 := by
      rw [hy, show r + q * c.cycle + 1 = (r + 1) + q * c.cycle by omega, Int.add_mul_emod_self_right, er, Int.emod_self]
    have e2 : (y + 1) / c.cycle = q + 1 := by
      rw [hy, show r + q * c.cycle + 1 = (r + 1) + q * c.cycle by omega, Int.add_mul_ediv_right _ _ (by omega), er, Int.ediv_self (by omega)]
      omega
    rw [e1, e2, Int.add_mul]
    have ec : c.cyc = c.startN r.toNat + c.yearDays y := by
      unfold cyc
      rw [← er, show (r + 1).toNat = r.toNat + 1 by omega]
      show c.startN r.toNat + c.yearDays ((r.toNat : Nat) : Int) = _
      rw [Int.toNat_of_nonneg r0, dm]
    show q * c.cyc + 1 * c.cyc + 0 = _
    omega
theorem first_le (k : c.Ok) (y : Int) : ∀ n : Nat, c.firstOf y + (n : Int) ≤ c.firstOf (y + (n : Int))
  | 0 => by simp
  | n + 1 => by
    have g := first_le k y n
    have s := first_succ k (y + (n : Int))
    have d := days_pos k (y + (n : Int))
    rw [show y + ((n + 1 : Nat) : Int) = y + (n : Int) + 1 by omega]
    omega
theorem first_lt (k : c.Ok) {y z : Int} (h : y < z) : c.firstOf y < c.firstOf z := by
  have g := first_le k y (z - y).toNat
  rw [Int.toNat_of_nonneg (by omega), show y + (z - y) = z by omega] at g
  omega
/-- the one year of a day -/
theorem year_one (k : c.Ok) {n y z : Int} (h1 : c.firstOf y ≤ n) (h2 : n < c.firstOf (y + 1)) (g1 : c.firstOf z ≤ n) (g2 : n < c.firstOf (z + 1)) : y = z := by
  rcases Int.lt_trichotomy y z with h | h | h
  · have q : c.firstOf (y + 1) ≤ c.firstOf z := by
      rcases Int.lt_or_eq_of_le (show y + 1 ≤ z by omega) with e | e
      · exact Int.le_of_lt (first_lt k e)
      · rw [e]; exact Int.le_refl _
    omega
  · exact h
  · have q : c.firstOf (z + 1) ≤ c.firstOf y := by
      rcases Int.lt_or_eq_of_le (show z + 1 ≤ y by omega) with e | e
      · exact Int.le_of_lt (first_lt k e)
      · rw [e]; exact Int.le_refl _
    omega
theorem first_zero (k : c.Ok) : c.firstOf 0 = 0 := by
  unfold firstOf
  rw [Int.zero_ediv, Int.zero_emod, Int.zero_mul]
  rfl
theorem cyc_pos (k : c.Ok) : 1 ≤ c.cyc := by
  have h := k.cy
  have g := first_lt k (show (0 : Int) < 0 + 1 * c.cycle by omega)
  rw [first_add 0 1 k, first_zero k] at g
  omega
theorem first_small (k : c.Ok) {n : Nat} (h : (n : Int) < c.cycle) : c.firstOf (n : Int) = c.startN n := by
  unfold firstOf
  rw [Int.ediv_eq_zero_of_lt (by omega) h, Int.emod_eq_of_lt (by omega) h, Int.zero_mul, Int.zero_add, Int.toNat_natCast]
theorem start_first (k : c.Ok) {n : Nat} (h : (n : Int) ≤ c.cycle) : c.startN n = c.firstOf (n : Int) := by
  rcases Int.lt_or_eq_of_le h with e | e
  · exact (first_small k e).symm
  · have g := first_add 0 1 k
    rw [first_zero k, Int.zero_add, Int.one_mul, Int.zero_add, Int.one_mul] at g
    rw [e, g]
    unfold cyc
    rw [← e, Int.toNat_natCast]
/-- the year of a day, as the cycle's table tells it: p, how many of the table's starts are below the rest and one -/
theorem year_by (k : c.Ok) {n : Int} {p : Nat} (h1 : ∀ i : Nat, i < p → c.startN i < n % c.cyc + 1) (h2 : ∀ i : Nat, p ≤ i → (i : Int) ≤ c.cycle → n % c.cyc + 1 ≤ c.startN i) :
    c.firstOf (n / c.cyc * c.cycle + p - 1) ≤ n ∧ n < c.firstOf (n / c.cyc * c.cycle + p - 1 + 1) := by
  have cp := cyc_pos k
  have r0 := Int.emod_nonneg n (show c.cyc ≠ 0 by omega)
  have r1 := Int.emod_lt_of_pos n (show 0 < c.cyc by omega)
  have e := Int.emod_add_mul_ediv n c.cyc
  have p0 : 0 < p := by
    rcases Nat.eq_zero_or_pos p with z | z
    · have g := h2 0 (by omega) (by have := k.cy; omega)
      have : c.startN 0 = 0 := rfl
      omega
    · exact z
  have p1 : (p : Int) ≤ c.cycle := by
    rcases Int.lt_or_le c.cycle (p : Int) with z | z
    · have g := h1 c.cycle.toNat (by have := k.cy; omega)
      have : c.startN c.cycle.toNat = c.cyc := rfl
      omega
    · exact z
  have a1 := h1 (p - 1) (by omega)
  have a2 := h2 p (Nat.le_refl _) p1
  have b1 := start_first k (n := p - 1) (by omega)
  have b2 := start_first k (n := p) p1
  have f1 := first_add ((p - 1 : Nat) : Int) (n / c.cyc) k
  have f2 := first_add (p : Int) (n / c.cyc) k
  rw [show n / c.cyc * c.cycle + (p : Int) - 1 = ((p - 1 : Nat) : Int) + n / c.cyc * c.cycle by omega, f1, show ((p - 1 : Nat) : Int) + n / c.cyc * c.cycle + 1 = (p : Int) + n / c.cyc * c.cycle by omega, f2]
  rw [Int.mul_comm] at e
  omega
/-! ### months -/
theorem ahead_sum (y : Int) : ∀ m : Nat, m ≤ c.months.length → c.ahead y m = (c.months.take m).sum + if c.lm < (m : Int) ∧ 0 ≤ c.lm ∧ c.long y = true then 1 else 0
  | 0, _ => by
    have : ¬ (c.lm < ((0 : Nat) : Int) ∧ 0 ≤ c.lm ∧ c.long y = true) := by omega
    rw [if_neg this]
    rfl
  | m + 1, h => by
    have g := ahead_sum y m (by omega)
    have hm : m < c.months.length := by omega
    rw [show c.ahead y (m + 1) = c.ahead y m + c.md y m from rfl, g, List.take_succ_eq_append_getElem hm, List.sum_append]
    unfold md
    rw [show c.months.getD m 0 = c.months[m] by rw [List.getD_eq_getElem?_getD, List.getElem?_eq_getElem hm]; rfl]
    have e1 : [c.months[m]].sum = c.months[m] := by simp
    rw [e1]
    by_cases hl : c.long y = true
    · by_cases h0 : 0 ≤ c.lm
      · rcases Int.lt_trichotomy c.lm (m : Int) with q | q | q
        · rw [if_pos ⟨q, h0, hl⟩, if_neg (by omega), if_pos ⟨by omega, h0, hl⟩]
          omega
        · rw [if_neg (by omega), if_pos ⟨q.symm, hl⟩, if_pos ⟨by omega, h0, hl⟩]
          omega
        · rw [if_neg (by omega), if_neg (by omega), if_neg (by omega)]
          omega
      · rw [if_neg (by omega), if_neg (by omega), if_neg (by omega)]
        omega
    · rw [if_neg (fun z => hl z.2.2), if_neg (fun z => hl z.2), if_neg (fun z => hl z.2.2)]
      omega
theorem ahead_all (k : c.Ok) (y : Int) : c.ahead y c.months.length = c.yearDays y := by
  rw [ahead_sum y _ (Nat.le_refl _), List.take_length]
  unfold yearDays plain
  have h0 := k.lm0
  have h1 := k.lm1
  by_cases hl : c.long y = true
  · rw [if_pos ⟨h1, h0, hl⟩, if_pos hl]
  · rw [if_neg (fun z => hl z.2.2), if_neg hl]
    omega
theorem md_pos (k : c.Ok) (y : Int) {m : Nat} (h : m < c.months.length) : 1 ≤ c.md y m := by
  have g := k.pos c.months[m] (List.getElem_mem h)
  unfold md
  rw [show c.months.getD m 0 = c.months[m] by rw [List.getD_eq_getElem?_getD, List.getElem?_eq_getElem h]; rfl]
  split <;> omega
theorem ahead_mono (k : c.Ok) (y : Int) {m n : Nat} (h : m < n) (hn : n ≤ c.months.length) : c.ahead y m < c.ahead y n := by
  induction n with
  | zero => omega
  | succ n ih =>
    have g := md_pos k y (m := n) (by omega)
    rw [show c.ahead y (n + 1) = c.ahead y n + c.md y n from rfl]
    rcases Nat.lt_or_ge m n with q | q
    · have := ih q (by omega)
      omega
    · have e : m = n := by omega
      rw [e]
      omega
theorem month_one (k : c.Ok) {y r : Int} {m n : Nat} (hm : m < c.months.length) (hn : n < c.months.length) (a1 : c.ahead y m ≤ r) (a2 : r < c.ahead y (m + 1)) (b1 : c.ahead y n ≤ r) (b2 : r < c.ahead y (n + 1)) : m = n := by
  rcases Nat.lt_trichotomy m n with h | h | h
  · have q : c.ahead y (m + 1) ≤ c.ahead y n := by
      rcases Nat.lt_or_eq_of_le (show m + 1 ≤ n from h) with e | e
      · exact Int.le_of_lt (ahead_mono k y e (by omega))
      · rw [e]; exact Int.le_refl _
    omega
  · exact h
  · have q : c.ahead y (n + 1) ≤ c.ahead y m := by
      rcases Nat.lt_or_eq_of_le (show n + 1 ≤ m from h) with e | e
      · exact Int.le_of_lt (ahead_mono k y e (by omega))
      · rw [e]; exact Int.le_refl _
    omega
/-- what a day's date is -/
structure At (c : Ca) (n y : Int) (m : Nat) (d : Int) : Prop where
  m1 : m < c.months.length
  d0 : 0 ≤ d
  d1 : d < c.md y m
  num : n = c.firstOf y + c.ahead y m + d
theorem At.year {n y d : Int} {m : Nat} (k : c.Ok) (a : c.At n y m d) : c.firstOf y ≤ n ∧ n < c.firstOf (y + 1) := by
  have h0 : 0 ≤ c.ahead y m := by
    rcases Nat.eq_zero_or_pos m with z | z
    · rw [z]; exact Int.le_refl _
    · have := ahead_mono k y z (Nat.le_of_lt a.m1)
      have e : c.ahead y 0 = 0 := rfl
      omega
  have h1 : c.ahead y (m + 1) ≤ c.yearDays y := by
    rw [← ahead_all k y]
    rcases Nat.lt_or_eq_of_le (show m + 1 ≤ c.months.length from a.m1) with e | e
    · exact Int.le_of_lt (ahead_mono k y e (Nat.le_refl _))
    · rw [e]; exact Int.le_refl _
  have h2 : c.ahead y (m + 1) = c.ahead y m + c.md y m := rfl
  have s := first_succ k y
  have := a.num
  have := a.d0
  have := a.d1
  omega
theorem At.one {n y y' d d' : Int} {m m' : Nat} (k : c.Ok) (a : c.At n y m d) (b : c.At n y' m' d') : y = y' ∧ m = m' ∧ d = d' := by
  have e := year_one k (a.year k).1 (a.year k).2 (b.year k).1 (b.year k).2
  subst e
  have h2 : c.ahead y (m + 1) = c.ahead y m + c.md y m := rfl
  have h3 : c.ahead y (m' + 1) = c.ahead y m' + c.md y m' := rfl
  have := a.num
  have := b.num
  have := a.d0
  have := a.d1
  have := b.d0
  have := b.d1
  have e : m = m' := month_one k (y := y) (r := n - c.firstOf y) a.m1 b.m1 (by omega) (by omega) (by omega) (by omega)
  subst e
  exact ⟨rfl, rfl, by omega⟩
end Ca
end Cy
namespace Rw
open PySem PySem.Spec PyProof.Rows L2 Evl Cy
/-! ### objects, evaluated -/
section
variable {K : PySem.W.Frag} {σ : L2.St} {H : Hp} {to te td ty : TE} {a C dx : Addr} {fs : List (Str × V)} {f : Str} {v z : V}
theorem ev_fld (ho : Ev to σ H (.ref a)) (hi : H a = some (.ins C dx fs)) (hc : Cls K C) (hn : NoAttr K C f) (hl : fs.lookup f = some v) : Ev (tFld K to f) σ H v := fun H1 e Q q =>
  ho H1 e _ fun H2 e2 => ⟨a, C, dx, fs, v, rfl, (e.trans e2) _ _ hi, hc, hn, hl, q H2 e2⟩
theorem ev_din {d : Addr} {kvs : List (Key × V)} {k : Key} (hy : Ev ty σ H (kV k)) (hd : Ev td σ H (.ref d)) (h : H d = some (.dK kvs)) : Ev (tDIn ty td) σ H (.bl (valV kvs k).isSome) := fun H1 e Q q =>
  hy H1 e _ fun H2 e2 => hd H2 (e.trans e2) _ fun H3 e3 => ⟨d, _, rfl, DGet.k (((e.trans e2).trans e3) _ _ h), q H3 (e2.trans e3)⟩
end
/-! ### a calendar in the heap -/
def startsL (c : Ca) : List V := ((List.range (c.cycle.toNat + 1)).map fun i => V.int (c.startN i))
def calF (c : Ca) (tm ty dl ts : Addr) : List (Str × V) :=
  [("months", .ref tm), ("long_month", .int c.lm), ("cycle", .int c.cycle), ("long_years", .ref ty), ("week", .int c.week), ("first_weekday", .int c.fw), ("longs", .ref dl), ("plain_days", .int c.plain), ("starts", .ref ts)]
/-- a calendar's object at a; full: its table of starts is whole -/
def CalB (full : Bool) (K : PySem.W.Frag) (C : Addr) (H : Hp) (a : Addr) (c : Ca) : Prop := ∃ dx tm ty dl ts kvs st, H a = some (.ins C dx (calF c tm ty dl ts)) ∧ SqT K H tm (c.months.map V.int) ∧ SqT K H ty (c.ly.map V.int) ∧
  H dl = some (.dK kvs) ∧ (∀ i : Int, (valV kvs (.inl i)).isSome = decide (i ∈ c.ly)) ∧ SqL K H ts st ∧ (full = true → st = startsL c)
theorem CalB.ex {b : Bool} {K : PySem.W.Frag} {C : Addr} {H H' : Hp} {a : Addr} {c : Ca} (h : CalB b K C H a c) (e : Ex H H') : CalB b K C H' a c := by
  obtain ⟨dx, tm, ty, dl, ts, kvs, st, h1, h2, h3, h4, h5, h6, h7⟩ := h
  exact ⟨dx, tm, ty, dl, ts, kvs, st, e _ _ h1, ex_t e h2, ex_t e h3, e _ _ h4, h5, ex_l e h6, h7⟩
theorem CalB.weak {b : Bool} {K : PySem.W.Frag} {C : Addr} {H : Hp} {a : Addr} {c : Ca} (h : CalB b K C H a c) : CalB false K C H a c := by
  obtain ⟨dx, tm, ty, dl, ts, kvs, st, h1, h2, h3, h4, h5, h6, h7⟩ := h
  exact ⟨dx, tm, ty, dl, ts, kvs, st, h1, h2, h3, h4, h5, h6, fun z => nomatch z⟩
abbrev CalP := CalB true
/-- bounds within which all numbers of a calendar are small -/
structure Small (c : Ca) : Prop where
  ok : c.Ok
  cy : c.cycle < 100000
  len : c.months.length < 1000
  cyc : c.cyc < 1000000000
  wk : c.week < 1000000
/-- a promise about a calendar: what is answered is a plain function of it -/
def spB (b : Bool) (K : PySem.W.Frag) (C : Addr) (cl : Nat → Addr) (f : Ca → List V → Option Rs) : Sp := fun vs H Q E => ∃ a c ws r, vs = .ref a :: ws ∧ CalB b K C H a c ∧ Small c ∧ f c ws = some r ∧ Out cl H Q E r
abbrev spM := spB true
section
variable {K : PySem.W.Frag} {C : Addr} {cl : Nat → Addr} {f : Ca → List V → Option Rs} {σ : L2.St} {H : Hp} {to : TE} {ta : TA} {E : XK} {a : Addr} {c : Ca} {ws dvs : List V} {z : V} {xs : List V} {m : Str}
/-- calendar.m(..) -/
theorem mt_run {b : Bool} {r : Rs} {Q : VK} (ho : Ev to σ H (.ref a)) (ha : EvA ta σ H ws) (hc : CalB b K C H a c) (hs : Small c) (hm : ∀ tm ty dl ts, (calF c tm ty dl ts).lookup m = none) (hf : f c (ws ++ dvs) = some r) (H1 : Hp) (e : Ex H H1) (o : Out cl H1 Q E r) :
    tMeth C m (spB b K C cl f) dvs E to ta σ H1 Q := ho H1 e _ fun H2 e2 => by
  obtain ⟨dx, tm, ty, dl, ts, kvs, st, h1, hr⟩ := hc.ex (e.trans e2)
  refine ⟨a, dx, _, rfl, h1, hm _ _ _ _, ha H2 (e.trans e2) _ fun H3 e3 => ⟨a, c, ws ++ dvs, r, rfl, hc.ex ((e.trans e2).trans e3), hs, hf, o.mono (e2.trans e3)⟩⟩
theorem ev_M {b : Bool} (ho : Ev to σ H (.ref a)) (ha : EvA ta σ H ws) (hc : CalB b K C H a c) (hs : Small c) (hm : ∀ tm ty dl ts, (calF c tm ty dl ts).lookup m = none) (hf : f c (ws ++ dvs) = some (.ok z)) :
    Ev (tMeth C m (spB b K C cl f) dvs E to ta) σ H z := fun H1 e Q q => mt_run ho ha hc hs hm hf H1 e fun H2 e2 => q H2 e2
theorem eu_M {b : Bool} (ho : Ev to σ H (.ref a)) (ha : EvA ta σ H ws) (hc : CalB b K C H a c) (hs : Small c) (hm : ∀ tm ty dl ts, (calF c tm ty dl ts).lookup m = none) (hf : f c (ws ++ dvs) = some (.tup xs)) :
    EvU (tMeth C m (spB b K C cl f) dvs E to ta) σ H xs := fun H1 e Q q => mt_run ho ha hc hs hm hf H1 e fun p H2 hp e2 h2 => q p H2 hp e2 h2
/-- f(calendar, ..) -/
theorem ev_G {b : Bool} (ha : EvA ta σ H (.ref a :: ws)) (hc : CalB b K C H a c) (hs : Small c) (hf : f c (ws ++ dvs) = some (.ok z)) : Ev (tCall (spB b K C cl f) dvs E ta) σ H z := fun H1 e Q q =>
  ha H1 e _ fun H2 e2 => ⟨a, c, ws ++ dvs, _, rfl, hc.ex (e.trans e2), hs, hf, fun H3 e3 => q H3 (e2.trans e3)⟩
end
theorem ev_lenT {K : PySem.W.Frag} {σ : L2.St} {H : Hp} {ta : TE} {p : Addr} {xs : List V} (h : Ev ta σ H (.ref p)) (hs : SqT K H p xs) : Ev (tCB (fun xs H Q => ∃ p ys, xs = [.ref p] ∧ (SqL K H p ys ∨ SqT K H p ys) ∧ Q (.int ys.length) H) (tCons ta tNil)) σ H (.int (xs.length : Nat)) := fun H1 e Q q =>
  h H1 e _ fun H2 e2 => ⟨p, xs, rfl, .inr (ex_t (e.trans e2) hs), q H2 e2⟩
/-- divmod of ints is a new pair -/
theorem eu_divmod {σ : L2.St} {H : Hp} {ta tb : TE} {i j : Int} (ha : Ev ta σ H (.int i)) (hb : Ev tb σ H (.int j)) (hc : CDiv i j) :
    EvU (tCB (fun xs H Q => ∃ i j, xs = [.int i, .int j] ∧ CDiv i j ∧ ∀ p, H p = none → Q (.ref p) (upd H p (.tup [.int (i / j), .int (i % j)]))) (tCons ta (tCons tb tNil))) σ H [.int (i / j), .int (i % j)] := fun H1 e Q q =>
  ha H1 e _ fun H2 e2 => hb H2 (e.trans e2) _ fun H3 e3 => ⟨i, j, rfl, hc, fun p hp => q p _ (fresh_back (e2.trans e3) hp) ((e2.trans e3).trans (Ex.new hp)) upd_same⟩
/-- a, b = a new pair -/
theorem q_pair {K : PySem.W.Frag} {σ : L2.St} {H : Hp} {te : TE} {i j : Nat} {x y : V} {D : Ends} {tz : TS} (h : EvU te σ H [x, y]) (k : ∀ H1, Ex H H1 → tz D ((σ.set i (some x)).set j (some y)) H1) : tSeq (tAsg te (gTup K 2 (gCons (gName i) (gCons (gName j) gNil)))) tz D σ H :=
  h H (Ex.refl H) _ fun p H1 hp e h1 => ⟨p, [x, y], rfl, SqT.of h1, rfl, _, _, rfl, _, _, rfl, rfl, k H1 e⟩
end Rw
namespace Rw
open PySem PySem.Spec PyProof.Rows L2 Evl Cy
/-- a method that keeps a promise; it may raise -/
def Mt (P : Program) (w : World) (K : PySem.W.Frag) (mg : Str → Option Value) (base : Heap) (k : Nat) (C : Addr) (m : Str) (sp : Sp) (dvs : List V) : Prop :=
  ∃ (f : Addr) (d : FuncData) (names : List Str) (dv : List Value), Cls K C ∧ Meth K C m f ∧ FnOk P w K mg base (L2.CX P w) k f d names sp ∧ Binds K d names dv ∧ Vals dvs dv
section
variable {X : Cx} {k j : Nat} {C : Addr} {m : Str} {sp : Sp} {dvs : List V} {E : XK} {apos pos : Pos} {o e : Expr} {es : List Expr} {t : TA} {ta : TE}
theorem pe_mk {pl : Sem Bool} (c : Mt X.prog X.w X.K X.mg X.base k C m sp dvs) (room : Room j X.A) (le : k ≤ j) (out : Passes (L2.CX X.prog X.w) X E) (obj : PE X o ta) (args : PA X (e :: es) t)
    (stars : starEach (e :: es) X.env = (false, eval e X.env) :: starEach es X.env := by rfl) (nostar : (backTo pos (starEach es X.env)).any (·.1) = false := by rfl)
    (way : eval (.Call (.Attribute o m apos) (e :: es) [] pos) X.env = (do let u ← eval o X.env; standAt apos.atName; let (g, us) ← holding [u] (getMethod u m pl); callWith pos g us (backTo pos (starEach (e :: es) X.env)) (backToKw pos (keywordEach [] X.env))) := by rfl) :
    PE X (.Call (.Attribute o m apos) (e :: es) [] pos) (tMeth C m sp dvs E ta t) :=
  let ⟨_, _, _, _, cl, me, F, b, d⟩ := c
  pe_meth obj cl me F (room.mono le) b d out args stars nostar way
theorem pe_mk0 {pl : Sem Bool} (c : Mt X.prog X.w X.K X.mg X.base k C m sp dvs) (room : Room j X.A) (le : k ≤ j) (out : Passes (L2.CX X.prog X.w) X E) (obj : PE X o ta)
    (way : eval (.Call (.Attribute o m apos) [] [] pos) X.env = (do let u ← eval o X.env; standAt apos.atName; let (g, us) ← holding [u] (getMethod u m pl); callWith pos g us (backTo pos (starEach [] X.env)) (backToKw pos (keywordEach [] X.env))) := by rfl) :
    PE X (.Call (.Attribute o m apos) [] [] pos) (tMeth C m sp dvs E ta tNil) :=
  let ⟨_, _, _, _, cl, me, F, b, d⟩ := c
  pe_meth0 obj cl me F (room.mono le) b d out way
end
section
variable {c : Ca} {tm ty dl ts : Addr}
theorem calF_months : (calF c tm ty dl ts).lookup ("months" : Str) = some (V.ref tm) := rfl
theorem calF_lm : (calF c tm ty dl ts).lookup ("long_month" : Str) = some (V.int c.lm) := rfl
theorem calF_cycle : (calF c tm ty dl ts).lookup ("cycle" : Str) = some (V.int c.cycle) := rfl
theorem calF_ly : (calF c tm ty dl ts).lookup ("long_years" : Str) = some (V.ref ty) := rfl
theorem calF_week : (calF c tm ty dl ts).lookup ("week" : Str) = some (V.int c.week) := rfl
theorem calF_fw : (calF c tm ty dl ts).lookup ("first_weekday" : Str) = some (V.int c.fw) := rfl
theorem calF_longs : (calF c tm ty dl ts).lookup ("longs" : Str) = some (V.ref dl) := rfl
theorem calF_plain : (calF c tm ty dl ts).lookup ("plain_days" : Str) = some (V.int c.plain) := rfl
theorem calF_starts : (calF c tm ty dl ts).lookup ("starts" : Str) = some (V.ref ts) := rfl
end
structure CalT (K : PySem.W.Frag) (C : Addr) : Prop where
  cls : Cls K C
  months : NoAttr K C "months"
  lm : NoAttr K C "long_month"
  cycle : NoAttr K C "cycle"
  ly : NoAttr K C "long_years"
  week : NoAttr K C "week"
  fw : NoAttr K C "first_weekday"
  longs : NoAttr K C "longs"
  plain : NoAttr K C "plain_days"
  starts : NoAttr K C "starts"
/-! ### what the methods answer -/
theorem range_count (p : Nat → Bool) {k : Nat} : ∀ N : Nat, k ≤ N → (∀ i, i < k → p i = true) → (∀ i, k ≤ i → i < N → p i = false) → (List.range N).countP p = k
  | 0, h, _, _ => by
    have e : k = 0 := by omega
    rw [e]
    rfl
  | N + 1, h, h1, h2 => by
    rw [List.range_succ, List.countP_append]
    rcases Nat.lt_or_ge N k with q | q
    · have e : k = N + 1 := by omega
      have g := range_count p (k := N) N (Nat.le_refl _) (fun i hi => h1 i (by omega)) (fun i a b => by omega)
      rw [g, e]
      simp [h1 N q]
    · have g := range_count p (k := k) N q h1 (fun i a b => h2 i a (by omega))
      rw [g]
      simp [h2 N q (by omega)]
def yearOf (c : Ca) (n : Int) : Int := n / c.cyc * c.cycle + (((List.range (c.cycle.toNat + 1)).countP fun i => decide (c.startN i < n % c.cyc + 1) : Nat) : Int) - 1
def monthOf (c : Ca) (y r : Int) : Nat := (List.range c.months.length).countP fun m => decide (c.ahead y (m + 1) ≤ r)
theorem start_mono {c : Ca} (k : c.Ok) {i j : Nat} (h : i < j) (hj : (j : Int) ≤ c.cycle) : c.startN i < c.startN j := by
  rw [Ca.start_first k (n := i) (by omega), Ca.start_first k hj]
  exact Ca.first_lt k (by omega)
theorem year_count {c : Ca} (k : c.Ok) (b : Int) {p : Nat} (hp : p ≤ c.cycle.toNat + 1) (h1 : ∀ i : Nat, i < p → c.startN i < b) (h2 : ∀ i : Nat, p ≤ i → i < c.cycle.toNat + 1 → b ≤ c.startN i) :
    (List.range (c.cycle.toNat + 1)).countP (fun i => decide (c.startN i < b)) = p :=
  range_count _ _ hp (fun i hi => decide_eq_true (h1 i hi)) fun i a b' => decide_eq_false (by have := h2 i a b'; omega)
/-- where the table's starts pass a bound -/
theorem starts_cut {c : Ca} (k : c.Ok) (b : Int) : ∃ p : Nat, p ≤ c.cycle.toNat + 1 ∧ (∀ i : Nat, i < p → c.startN i < b) ∧ (∀ i : Nat, p ≤ i → i < c.cycle.toNat + 1 → b ≤ c.startN i) := by
  have hc := k.cy
  have go : ∀ N : Nat, N ≤ c.cycle.toNat + 1 → ∃ p : Nat, p ≤ N ∧ (∀ i : Nat, i < p → c.startN i < b) ∧ (∀ i : Nat, p ≤ i → i < N → b ≤ c.startN i) := by
    intro N
    induction N with
    | zero => intro _; exact ⟨0, Nat.le_refl _, fun i h => by omega, fun i _ h => by omega⟩
    | succ N ih =>
      intro hN
      obtain ⟨p, p0, p1, p2⟩ := ih (by omega)
      rcases Nat.lt_or_eq_of_le p0 with q | q
      · refine ⟨p, by omega, p1, fun i a e => ?_⟩
        rcases Nat.lt_or_eq_of_le (Nat.lt_succ_iff.mp e) with z | z
        · exact p2 i a z
        · have g := p2 p (Nat.le_refl _) q
          have l := start_mono k (i := p) (j := N) q (by omega)
          rw [z]
          omega
      · by_cases z : c.startN N < b
        · exact ⟨N + 1, Nat.le_refl _, fun i h => by
            rcases Nat.lt_or_eq_of_le (Nat.lt_succ_iff.mp h) with e | e
            · exact p1 i (by omega)
            · rw [e]; exact z, fun i a e => by omega⟩
        · exact ⟨p, by omega, p1, fun i a e => by
            have e2 : i = N := by omega
            rw [e2]
            omega⟩
  exact go _ (Nat.le_refl _)
theorem yearOf_spec {c : Ca} (k : c.Ok) (n : Int) : c.firstOf (yearOf c n) ≤ n ∧ n < c.firstOf (yearOf c n + 1) := by
  obtain ⟨p, p0, p1, p2⟩ := starts_cut k (n % c.cyc + 1)
  have e := year_count k (n % c.cyc + 1) p0 p1 p2
  have g := Ca.year_by k (n := n) (p := p) p1 (fun i a b => p2 i a (by omega))
  unfold yearOf
  rw [e]
  exact g
theorem month_count {c : Ca} (k : c.Ok) {y r : Int} {m : Nat} (hm : m < c.months.length) (h1 : c.ahead y m ≤ r) (h2 : r < c.ahead y (m + 1)) : monthOf c y r = m := by
  unfold monthOf
  refine range_count _ _ (by omega) (fun i hi => decide_eq_true ?_) fun i a b => decide_eq_false ?_
  · rcases Nat.lt_or_eq_of_le (show i + 1 ≤ m from hi) with e | e
    · have := Ca.ahead_mono k y e (by omega)
      omega
    · rw [e]; exact h1
  · rcases Nat.lt_or_eq_of_le a with e | e
    · have := Ca.ahead_mono k y (show m + 1 < i + 1 by omega) (by omega)
      omega
    · rw [← e]
      omega
theorem month_there {c : Ca} (k : c.Ok) {y r : Int} (h0 : 0 ≤ r) (h1 : r < c.yearDays y) : ∃ m : Nat, m < c.months.length ∧ c.ahead y m ≤ r ∧ r < c.ahead y (m + 1) := by
  rw [← Ca.ahead_all k y] at h1
  have go : ∀ N : Nat, r < c.ahead y N → N ≤ c.months.length → ∃ m : Nat, m < c.months.length ∧ c.ahead y m ≤ r ∧ r < c.ahead y (m + 1) := by
    intro N
    induction N with
    | zero =>
      intro h _
      have e : c.ahead y 0 = 0 := rfl
      omega
    | succ N ih =>
      intro h hN
      by_cases q : r < c.ahead y N
      · exact ih q (by omega)
      · exact ⟨N, by omega, by omega, h⟩
  exact go _ h1 (Nat.le_refl _)
def dateM (c : Ca) (n : Int) : Nat := monthOf c (yearOf c n) (n - c.firstOf (yearOf c n))
def dateD (c : Ca) (n : Int) : Int := n - c.firstOf (yearOf c n) - c.ahead (yearOf c n) (dateM c n)
theorem date_at {c : Ca} (k : c.Ok) (n : Int) : c.At n (yearOf c n) (dateM c n) (dateD c n) := by
  obtain ⟨y0, y1⟩ := yearOf_spec k n
  have s := Ca.first_succ k (yearOf c n)
  obtain ⟨m, m0, m1, m2⟩ := month_there k (y := yearOf c n) (r := n - c.firstOf (yearOf c n)) (by omega) (by omega)
  have e := month_count k m0 m1 m2
  have e2 : c.ahead (yearOf c n) (m + 1) = c.ahead (yearOf c n) m + c.md (yearOf c n) m := rfl
  unfold dateD dateM
  rw [e]
  exact ⟨m0, by omega, by omega, by omega⟩
def fCycleDays (c : Ca) : List V → Option Rs
  | [] => some (.ok (.int c.cyc))
  | _ => none
def fIsLong (c : Ca) : List V → Option Rs
  | [.int y] => some (.ok (.bl (c.long y)))
  | _ => none
def fYearDays (c : Ca) : List V → Option Rs
  | [.int y] => some (.ok (.int (c.yearDays y)))
  | _ => none
def fMonthDays (c : Ca) : List V → Option Rs
  | [.int y, .int m] => some (if 0 ≤ m ∧ m < (c.months.length : Int) then .ok (.int (c.md y m.toNat)) else .err 1)
  | _ => none
def fFirstOf (c : Ca) : List V → Option Rs
  | [.int y] => some (.ok (.int (c.firstOf y)))
  | _ => none
def fYearOf (c : Ca) : List V → Option Rs
  | [.int n] => some (.ok (.int (yearOf c n)))
  | _ => none
def fDate (c : Ca) : List V → Option Rs
  | [.int n] => some (.tup [.int (yearOf c n), .int (dateM c n : Nat), .int (dateD c n)])
  | _ => none
def fWeekday (c : Ca) : List V → Option Rs
  | [.int n] => some (.ok (.int (c.weekday n)))
  | _ => none
end Rw
namespace Rw
open PySem PySem.Spec PyProof.Rows L2 Evl Cy
/-! ### an object in the making -/
section
variable {K : PySem.W.Frag} {σ : L2.St} {H : Hp} {to tv ta te tl : TE} {a C dx p : Addr} {fs : List (Str × V)} {f : Str} {y : V} {xs ys : List V} {D : Ends} {tz : TS}
theorem sqT_b {H' : Hp} (e : ExB a H H') (ha : H a = some (.ins C dx fs)) (h : SqT K H p xs) : SqT K H' p xs := by
  rcases h with (h | ⟨o, h⟩) | h
  · exact .inl (.inl (e _ _ (fun z => by rw [z, ha] at h; cases h) h))
  · exact .inl (.inr ⟨o, e _ _ (fun z => by rw [z, ha] at h; cases h) h⟩)
  · exact .inr h
theorem sqL_b {H' : Hp} (e : ExB a H H') (ha : H a = some (.ins C dx fs)) (h : SqL K H p xs) : SqL K H' p xs := by
  rcases h with (h | ⟨o, h⟩) | h
  · exact .inl (.inl (e _ _ (fun z => by rw [z, ha] at h; cases h) h))
  · exact .inl (.inr ⟨o, e _ _ (fun z => by rw [z, ha] at h; cases h) h⟩)
  · exact .inr h
theorem yes_if {A B : Prop} (h : A) : if true = true then A else B := (if_pos rfl).symm ▸ h
theorem sqT_u {t : Addr} {l : List V} {o : HO} (h : SqT K H p xs) (hl : H t = some (.lst l)) : SqT K (upd H t o) p xs := by
  rcases h with (h | ⟨q, h⟩) | h
  · exact .inl (.inl (by rw [upd_ne (fun z => by rw [z, hl] at h; cases h)]; exact h))
  · exact .inl (.inr ⟨q, by rw [upd_ne (fun z => by rw [z, hl] at h; cases h)]; exact h⟩)
  · exact .inr h
/-- an expression whose value, in the heap then, is so -/
def EvX (te : TE) (σ : L2.St) (H : Hp) (R : V → Hp → Prop) : Prop := ∀ H1, Ex H H1 → ∀ Q : VK, (∀ y H2, Ex H1 H2 → R y H2 → Q y H2) → te σ H1 Q
theorem q_fldB (hv : Ev tv σ H y) (ho : Ev to σ H (.ref a)) (hi : H a = some (.ins C dx fs)) (c : Cls K C) (n : NoAttr K C f) (hl : fs.length < 1000) (k : ∀ G, ExB a H G → G a = some (.ins C dx (putF f y fs)) → tz D σ G) : tSeq (sFld K to tv f) tz D σ H :=
  hv H (Ex.refl H) _ fun H1 e1 => ho H1 e1 _ fun H2 e2 => ⟨a, C, dx, fs, rfl, e2 _ _ (e1 _ _ hi), c, n, hl, k _ (ExB.of (e1.trans e2)).upd upd_same⟩
theorem q_fldX {R : V → Hp → Prop} (hv : EvX tv σ H R) (ho : Ev to σ H (.ref a)) (hi : H a = some (.ins C dx fs)) (c : Cls K C) (n : NoAttr K C f) (hl : fs.length < 1000)
    (st : ∀ y H1 H2, R y H1 → H1 a = some (.ins C dx fs) → ExB a H1 H2 → R y H2) (k : ∀ y G, ExB a H G → G a = some (.ins C dx (putF f y fs)) → R y G → tz D σ G) : tSeq (sFld K to tv f) tz D σ H :=
  hv H (Ex.refl H) _ fun y H1 e1 r => ho H1 e1 _ fun H2 e2 => ⟨a, C, dx, fs, rfl, e2 _ _ (e1 _ _ hi), c, n, hl, k y _ (ExB.of (e1.trans e2)).upd upd_same (st y H1 _ r (e1 _ _ hi) (ExB.of e2).upd)⟩
def SqA (K : PySem.W.Frag) (H : Hp) (p : Addr) (xs : List V) : Prop := SqL K H p xs ∨ SqT K H p xs
theorem SqA.ex {H H' : Hp} (h : SqA K H p xs) (e : Ex H H') : SqA K H' p xs := h.elim (fun h => .inl (ex_l e h)) fun h => .inr (ex_t e h)
theorem SqA.b {H' : Hp} (e : ExB a H H') (ha : H a = some (.ins C dx fs)) (h : SqA K H p xs) : SqA K H' p xs := h.elim (fun h => .inl (sqL_b e ha h)) fun h => .inr (sqT_b e ha h)
/-- tuple(xs): a new one, or the same -/
theorem ev_tupOf (h : Ev ta σ H (.ref p)) (hs : SqA K H p xs) :
    EvX (tCB (fun xs H Q => ∃ p ys, xs = [.ref p] ∧ ((SqL K H p ys ∧ ∀ l, H l = none → Q (.ref l) (upd H l (.tup ys))) ∨ (SqT K H p ys ∧ Q (.ref p) H))) (tCons ta tNil)) σ H (fun y H2 => ∃ q, y = .ref q ∧ SqT K H2 q xs) := fun H1 e Q k =>
  h H1 e _ fun H2 e2 => by
    refine ⟨p, xs, rfl, ?_⟩
    rcases hs.ex (e.trans e2) with g | g
    · exact .inl ⟨g, fun l hl => k _ _ (e2.trans (Ex.new hl)) ⟨l, rfl, SqT.of upd_same⟩⟩
    · exact .inr ⟨g, k _ _ e2 ⟨p, rfl, g⟩⟩
theorem dp_ints : ∀ ns : List Int, DpAll K H (ns.map V.int) (ns.map PyData.int)
  | [] => .nil
  | n :: r => .cons (.int n) (dp_ints r)
theorem lay_ints : ∀ ns : List Int, PyData.canLayAll0 (ns.map PyData.int) = true
  | [] => rfl
  | n :: r => by
    rw [List.map_cons, PyData.canLayAll0, lay_ints r]
    rfl
theorem depth_ints : ∀ ns : List Int, PyData.depthAll (ns.map PyData.int) = 0
  | [] => rfl
  | n :: r => by
    rw [List.map_cons, PyData.depthAll, depth_ints r]
    rfl
theorem shaped_ints (ns : List Int) : SeqAt.shaped (.tuple (ns.map PyData.int)) = true := by
  unfold SeqAt.shaped
  rw [PyData.canLay0, lay_ints, PyData.depth, depth_ints]
  rfl
/-- a tuple of ints, not empty, is not () -/
theorem ev_noTup {ns : List Int} (h : Ev ta σ H (.ref p)) (hs : SqT K H p (ns.map V.int)) (hn : ns ≠ []) : Ev (tOp (rEqD K) ta (tTup tNil)) σ H (.bl false) :=
  ev_opU h (eu_tup ea_nil (by decide)) fun q H1 h1 e => fun H2 e2 Q k => ⟨.tuple (ns.map .int), .tuple [], .tup (ex_t (e.trans e2) hs) (dp_ints ns), .tup (SqT.of (e2 _ _ h1)) .nil, shaped_ints ns, rfl, by
    cases ns with
    | nil => exact absurd rfl hn
    | cons n r => exact k H2 (Ex.refl H2)⟩
theorem et_min {ns : List Int} {b : Int} (h : Ev ta σ H (.ref p)) (hs : SqT K H p (ns.map V.int)) (hn : ns ≠ []) (hb : ∀ m ∈ ns, b ≤ m) : EvT (tTest (tOp (rI0 fun i j => .bl (decide (i < j))) (tCB (rMinT K) (tCons ta tNil)) (tC (.int b)))) σ H false := fun H1 e Q q =>
  h H1 e _ fun H2 e2 => ⟨p, ns, rfl, ex_t (e.trans e2) hs, List.length_pos_iff.mpr hn, fun m hm _ => ⟨m, b, rfl, rfl, false, congrArg V.bl (decide_eq_false (by have := hb m hm; omega)), q H2 e2⟩⟩
theorem ev_sumT {ns : List Int} (h : Ev ta σ H (.ref p)) (hs : SqT K H p (ns.map V.int)) : Ev (tCB (rSumT K) (tCons ta tNil)) σ H (.int ns.sum) := fun H1 e Q q =>
  h H1 e _ fun H2 e2 => ⟨p, ns, rfl, ex_t (e.trans e2) hs, q H2 e2⟩
theorem ev_newL (h : EvL te σ H xs) : EvX te σ H (fun y H2 => ∃ q, y = .ref q ∧ H2 q = some (.lst xs) ∧ H q = none) := fun H1 e Q k => h H1 e _ fun q H2 hq e2 h2 => k _ _ e2 ⟨q, rfl, h2, fresh_back e hq⟩
/-- all items of a tuple that stands, each made another -/
theorem el_mapT {j : Nat} {vs : List Nat} (h : Ev tl σ H (.ref p)) (hx : SqT K H p xs) (hz : xs.length ≤ 40000) (hw : ∀ x, wipe ((wipe σ vs).set j (some x)) vs = wipe σ vs) (hl : xs.length = ys.length)
    (he : ∀ (i : Nat) (x y : V) H1, Ex H H1 → xs[i]? = some x → ys[i]? = some y → Ev te ((wipe σ vs).set j (some x)) H1 y) : EvL (tLc (iTup K tl) (gName j) tYes te vs) σ H ys := fun H0 e Q q => h H0 e _ fun H1 e1 => by
  have ey : given xs.length (fun _ => true) (fun i => ys.getD i .non) = ys := given_map hl fun i y hy => by rw [List.getD_eq_getElem?_getD, hy]; rfl
  refine ⟨p, rfl, ⟨xs, ex_t (e.trans e1) hx⟩, fun Dl hD => lc_tup (xs := xs) (Cw H1 (fun _ => true) (fun i => ys.getD i .non) Dl) ⟨hD, Ex.new hD, upd_same⟩ (fun i H' _ c => ex_t ((e.trans e1).trans c.2.1) hx) (fun i x H' hi c => ?_) (fun H' c => ?_)⟩
  · have hi2 := (List.getElem?_eq_some_iff.mp hi).1
    refine ⟨hw x, cw_turn c (by omega) et_yes fun _ => ?_⟩
    have hiy : i < ys.length := by omega
    have eg : ys.getD i .non = ys[i] := by rw [List.getD_eq_getElem?_getD, List.getElem?_eq_getElem hiy]; rfl
    rw [eg]
    exact he i x _ H1 (e.trans e1) hi (List.getElem?_eq_getElem hiy)
  · have g := c.2.2
    rw [ey] at g
    exact q Dl H' (fresh_back e1 c.1) (e1.trans c.2.1) g
/-- {n: True for n in a tuple of ints} -/
theorem ev_dictTrue {ns : List Int} {j : Nat} {vs : List Nat} (h : Ev tl σ H (.ref p)) (hs : SqT K H p (ns.map V.int)) (hz : ns.length ≤ 100000) (hw : ∀ x, wipe ((wipe σ vs).set j (some x)) vs = wipe σ vs) (hj : ∀ x, ((wipe σ vs).set j (some x))[j]? = some (some x)) :
    EvX (tDc (iTup K tl) (gName j) tYes (tVar j) (tC (.bl true)) vs) σ H (fun y H2 => ∃ d kvs, y = .ref d ∧ H2 d = some (.dK kvs) ∧ ∀ i : Int, (valV kvs (.inl i)).isSome = decide (i ∈ ns)) := fun H0 e Q k => h H0 e _ fun H1 e1 =>
  ⟨p, rfl, ⟨_, ex_t (e.trans e1) hs⟩, fun Dd hD => dc_tup (xs := ns.map V.int) (fun i H' => Ex H1 H' ∧ ∃ kvs : List (Key × V), H' Dd = some (.dK kvs) ∧ kvs.length ≤ i ∧ ∀ q : Int, (valV kvs (.inl q)).isSome = decide (q ∈ ns.take i))
    ⟨Ex.new hD, [], upd_same, Nat.le_refl _, fun q => by simp [valV]⟩ (fun i H' _ c => ex_t ((e.trans e1).trans c.1) hs) (fun i x H' hi c => by
      obtain ⟨eH, kvs, g1, g2, g3⟩ := c
      have hlt := (List.getElem?_eq_some_iff.mp hi).1
      rw [List.length_map] at hlt
      rw [List.getElem?_map, List.getElem?_eq_getElem hlt] at hi
      obtain rfl : V.int ns[i] = x := Option.some.inj hi
      refine ⟨hw _, ?_⟩
      simp only [tYes, ↓reduceIte]
      refine ⟨_, hj _, kvs, .inl ns[i], rfl, g1, sz_lt (by omega), Ex.mut eH hD, _, upd_same, Nat.le_trans (length_putK _ _ _) (by omega), fun q => ?_⟩
      rw [valV_put, List.take_succ_eq_append_getElem hlt]
      by_cases z : (Sum.inl q : Key) = Sum.inl ns[i]
      · rw [if_pos z]
        injection z with z
        rw [z]
        exact (decide_eq_true (List.mem_append_right _ List.mem_cons_self)).symm
      · rw [if_neg z, g3 q]
        have z2 : ¬ q = ns[i] := fun y => z (by rw [y])
        exact decide_eq_decide.mpr ⟨fun h => List.mem_append_left _ h, fun h => (List.mem_append.mp h).elim id fun h => absurd (List.mem_singleton.mp h) z2⟩) (fun H' c => by
      obtain ⟨eH, kvs, g1, g2, g3⟩ := c
      rw [List.length_map, List.take_length] at g3
      exact k _ _ (e1.trans eH) ⟨Dd, kvs, rfl, g1, g3⟩)⟩
end
end Rw
namespace Rw
open PySem PySem.Spec PyProof.Rows L2 Evl Cy
/-- a class whose making keeps a promise; it may raise -/
def Nw (P : Program) (w : World) (K : PySem.W.Frag) (mg : Str → Option Value) (base : Heap) (k : Nat) (x : Str) (C : Addr) (sp : Sp) (dvs : List V) : Prop :=
  ∃ (f : Addr) (d : FuncData) (names : List Str) (dv : List Value), Mk K C f ∧ mg x = some (.ref C) ∧ FnOk P w K mg base (L2.CX P w) k f d names sp ∧ Binds K d names dv ∧ Vals dvs dv
section
variable {X : Cx} {k j : Nat} {x : Str} {C : Addr} {sp : Sp} {dvs : List V} {E : XK} {p pos : Pos} {e : Expr} {es : List Expr} {t : TA}
theorem pe_nw (c : Nw X.prog X.w X.K X.mg X.base k x C sp dvs) (room : Room j X.A) (le : k + 1 ≤ j) (out : Passes (L2.CX X.prog X.w) X E) (args : PA X (e :: es) t) (gl : Gl X x := by rfl)
    (plain : (x == ("__debug__" : Str)) = false := by decide) (stars : starEach (e :: es) X.env = (false, eval e X.env) :: starEach es X.env := by rfl) (nostar : (backTo pos (starEach es X.env)).any (·.1) = false := by rfl) :
    PE X (.Call (.Name x p) (e :: es) [] pos) (tMake C sp dvs E t) :=
  let ⟨_, _, _, _, M, at_, F, b, d⟩ := c
  pe_make M F (room.mono le) gl at_ b d out args plain stars nostar
end
/-! ### what a heap keeps while dice are rolled -/
def Rel (d : Addr) (H H' : Hp) : Prop := ExB d H H' ∧ ∃ a b c, H' d = some (.lst [.int a, .int b, .int c])
section
variable {d p : Addr} {H H1 H2 : Hp} {o : HO}
theorem Rel.ex (r : Rel d H H1) (e : Ex H1 H2) : Rel d H H2 := ⟨r.1.ex e, let ⟨a, b, c, h⟩ := r.2; ⟨a, b, c, e _ _ h⟩⟩
theorem Rel.ne (r : Rel d H H1) (h : H1 p = none) : p ≠ d := fun z => by
  obtain ⟨a, b, c, g⟩ := r.2
  rw [← z, h] at g
  cases g
theorem Rel.back (r : Rel d H H1) (h : H1 p = none) : H p = none := by
  cases e : H p with
  | none => rfl
  | some o =>
    have g := r.1 p o (r.ne h) e
    rw [h] at g
    cases g
/-- an object of ours is written -/
theorem Rel.mut (r : Rel d H H1) (h : H p = none) (n : p ≠ d) : Rel d H (upd H1 p o) :=
  ⟨fun b u hb e => by rw [upd_ne (fun z => by rw [z, h] at e; cases e)]; exact r.1 b u hb e, let ⟨a, b, c, g⟩ := r.2; ⟨a, b, c, by rw [upd_ne (Ne.symm n)]; exact g⟩⟩
theorem Rel.trans (r : Rel d H H1) (s : Rel d H1 H2) : Rel d H H2 := ⟨r.1.trans s.1, s.2⟩
theorem rd_rollR {σ : L2.St} {i : Nat} {m : Int} {Q : VK} {tm : TE} (r : Rel d H H1) (hσ : σ[i]? = some (some (.ref d))) (hm : Ev tm σ H1 (.int m)) (h0 : 0 < m) (h1 : m < 1000000) (cont : ∀ v H2, 0 ≤ v → v < m → Rel d H H2 → Rel d H1 H2 → Q (.int v) H2) (sp : Sp)
    (hsp : ∀ (H : Hp) (Q : VK) (a b c : Int), H d = some (.lst [.int a, .int b, .int c]) → (∀ (v a' b' c' : Int) H', 0 ≤ v → v < m → ExB d H H' → H' d = some (.lst [.int a', .int b', .int c']) → Q (.int v) H') → sp [.ref d, .int m] H Q E0) :
    tCall sp [] E0 (tCons (tVar i) (tCons tm tNil)) σ H1 Q := by
  have hv : EvA (tCons (tVar i) (tCons tm tNil)) σ H1 [.ref d, .int m] := ea_cons (ev_var hσ) (ea_cons hm ea_nil)
  refine hv H1 (Ex.refl H1) _ fun H2 e2 => ?_
  obtain ⟨a, b, c, g⟩ := r.2
  refine hsp H2 _ a b c (e2 _ _ g) fun v a' b' c' H' v0 v1 eB hd => ?_
  have s : Rel d H1 H' := ⟨(ExB.of e2).trans eB, _, _, _, hd⟩
  exact cont v H' v0 v1 (r.trans s) s
end
/-! ### small calendars -/
theorem start_le {c : Ca} (hp : 0 ≤ c.plain) : ∀ n : Nat, c.startN n ≤ (n : Int) * (c.plain + 1)
  | 0 => by show (0 : Int) ≤ _; omega
  | n + 1 => by
    have g := start_le hp n
    have s : c.startN (n + 1) = c.startN n + c.yearDays (n : Int) := rfl
    have y : c.yearDays (n : Int) ≤ c.plain + 1 := by
      unfold Ca.yearDays
      split <;> omega
    rw [s, show ((n + 1 : Nat) : Int) = (n : Int) + 1 by omega, Int.add_mul]
    omega
theorem sum_top (b : Int) : ∀ l : List Int, (∀ m ∈ l, m ≤ b) → l.sum ≤ (l.length : Int) * b
  | [], _ => by simp
  | a :: l, h => by
    have g := sum_top b l fun m hm => h m (List.mem_cons_of_mem _ hm)
    have q := h a List.mem_cons_self
    rw [List.sum_cons, List.length_cons, show ((l.length + 1 : Nat) : Int) = (l.length : Int) + 1 by omega, Int.add_mul]
    omega
structure Tiny (c : Ca) : Prop where
  len : c.months.length ≤ 3
  mon : ∀ m ∈ c.months, 2 ≤ m ∧ m ≤ 5
  cy : c.cycle ≤ 3
  wk : c.week ≤ 4
  ly : c.ly.Pairwise (· < ·)
theorem Tiny.small {c : Ca} (k : c.Ok) (t : Tiny c) : Small c := by
  have p1 := Ca.plain_pos k
  have p2 : c.plain ≤ 15 := by
    have g := sum_top 5 c.months fun m hm => (t.mon m hm).2
    have l := t.len
    unfold Ca.plain
    omega
  have cy := k.cy
  have l := t.len
  refine ⟨k, by have := t.cy; omega, by omega, ?_, by have := t.wk; omega⟩
  have g := start_le (c := c) (by omega) c.cycle.toNat
  have tc := t.cy
  have e : c.cyc = c.startN c.cycle.toNat := rfl
  rw [e]
  have h3 : c.cycle.toNat = 1 ∨ c.cycle.toNat = 2 ∨ c.cycle.toNat = 3 := by omega
  rcases h3 with z | z | z <;> rw [z] at g ⊢ <;> omega
end Rw
namespace Rw
open PySem PySem.Spec PyProof.Rows L2 Evl Cy
/-! ### enumerate(tuple) -/
theorem enum_new1 {x : Value} {cell : Obj} {At : Heap → Prop} (B : Begins x cell At) :
    Meets (Builtin.«enumerate.__new__» ⟨[.type "enumerate", x], []⟩) (fun _ R s => At s.heap ∧ R (.ok (.ret (.ref (s.heap.push cell).objs.size)))
      { s with heap := (s.heap.push cell).push { cls := .type "enumerate", data := .fields #[.none, .bool false, .ref s.heap.objs.size, rawInt 0, .none, .none] } }) :=
  .of_wp fun P w A R s ask => by
    obtain ⟨h0, gs, dr, tk, sys⟩ := s
    obtain ⟨at0, ask⟩ := ask
    have same := sub_enumerate
    have begins : ∀ {A' : Around} {E' : Value → Shared → Prop} {Q' : Value → Shared → Prop}, Q' (.ref h0.objs.size) ⟨h0.push cell, gs, dr, tk, sys⟩ → wpAny (model P w) A' (pyIter x) Q' E' ⟨h0, gs, dr, tk, sys⟩ := fun q => B.iter P w _ _ ⟨h0, gs, dr, tk, sys⟩ _ at0 q
    wp_walk using begins
    refine wpAny_stack_any fun _ => wpAny_pure ?_
    split
    · rename_i t _ _ _ _ _
      cases (t == Value.type "enumerate") <;> (wp_walk using begins; exact ⟨_, rfl, ask⟩)
    · wp_walk using begins
      exact ⟨_, rfl, ask⟩
theorem call_enum1 {P : Program} {w : World} {A : Around} {E : Value → Shared → Prop} {s : Shared} {x : Value} {cell : Obj} {At : Heap → Prop} {Q : Value → Shared → Prop} (B : Begins x cell At) (at0 : At s.heap)
    (k : ∀ g, IsEnum g (s.heap.objs.size + 1) s.heap.objs.size 0 .none → g.get? s.heap.objs.size = some cell → (∀ b o, s.heap.get? b = some o → g.get? b = some o) → Q (.ref (s.heap.objs.size + 1)) { s with heap := g }) :
    wpAny (model P w) A (call (.type "enumerate") [x]) Q E s := by
  refine callType_new F.called_enumerate (by decide) (F.typeCall_enumerate_1 _) (F.newCall_enumerate_1 _) (fun obj => F.args_object_init_2 obj _) F.entry_enumerate_new (enum_new1 B) ⟨at0, ?_⟩
  have size1 : (s.heap.push cell).objs.size = s.heap.objs.size + 1 := Heap.size_push ..
  show _ ∧ _
  rw [size1]
  have made : IsEnum ((s.heap.push cell).push { cls := .type "enumerate", data := .fields #[.none, .bool false, .ref s.heap.objs.size, rawInt 0, .none, .none] }) (s.heap.objs.size + 1) s.heap.objs.size 0 .none := by
    have g := Heap.get?_push_size (s.heap.push cell) (o := { cls := .type "enumerate", data := .fields #[.none, .bool false, .ref s.heap.objs.size, rawInt 0, .none, .none] }) rfl
    rw [size1] at g
    exact g
  exact ⟨⟨_, made, rfl⟩, k _ made (Heap.get?_push_of_some _ (Heap.get?_push_size _ B.free)) fun b o e => Heap.get?_push_of_some _ (Heap.get?_push_of_some _ e)⟩
def ItEn (K : PySem.W.Frag) (b : Addr) : It where
  go := fun i H => ∃ (ys : List V) (y : V), SqT K H b ys ∧ ys[i]? = some y
  yld := fun i H v H' => ∃ (T : Addr) (y : V), v = .ref T ∧ H T = none ∧ H' = upd H T (.tup [.int (i : Nat), y]) ∧ ∀ ys, SqT K H b ys → ys[i]? = some y
  stop := fun i H => ∃ ys : List V, SqT K H b ys ∧ i = ys.length
/-- where it stands: its two cells -/
structure StEn (b N : Addr) (i : Nat) (h : Heap) : Prop where
  en : ∃ old, IsEnum h (N + 1) N ((i : Nat) : Int) old
  tup : h.IsTupleIter N b i
theorem two_of {N x : Addr} (h : x ∈ [N + 1, N]) : x = N + 1 ∨ x = N := by simpa using h
theorem turn_en {P : Program} {w : World} {K : PySem.W.Frag} {elts : List Expr} {kk : Nat} {tp : Pos} {b N : Addr} (hb : b < N) :
    Turn P w K (.Tuple elts kk tp) (ItEn K b) [N + 1, N] (N + 1) (StEn b N) where
  mem := List.mem_cons_self ..
  obj := fun i h S x hx => by
    obtain ⟨old, e⟩ := S.en
    obtain ⟨o, eo, _, d⟩ := S.tup
    rcases two_of hx with rfl | rfl
    · exact ⟨_, e, fun v q => by cases q⟩
    · exact ⟨o, eo, fun v q => by rw [d] at q; cases q⟩
  keep := fun i h h' S k => ⟨let ⟨old, e⟩ := S.en; ⟨old, k _ (by simp) _ e⟩, S.tup.at fun o e => k _ (by simp) o e⟩
  item := by
    rintro X rfl rfl rfl hc i pins s σ H E I hf S ⟨ys, y, hy, hi⟩
    obtain ⟨us, rv, tupb, _⟩ := I.tuple hy
    obtain ⟨uy, huy, ry⟩ := rv.get hi
    obtain ⟨old, e⟩ := S.en
    have nb : b ≠ N := Nat.ne_of_lt hb
    have h2 : i < us.toArray.size := by simpa using (List.getElem?_eq_some_iff.mp huy).1
    have lt1 : N + 1 < s.heap.objs.size := Heap.lt_size e
    refine wpAny_pyNext_enum_itemD (Draws.tuple (by rw [show X.A.in1.handled = X.A.handled from rfl]; exact I.ok.hd hc) N b nb us.toArray) e ⟨S.tup, tupb⟩ h2 (Nat.succ_ne_self N) (by
      intro z
      simp only [List.mem_cons, List.not_mem_nil, or_false] at z
      rcases z with z | z
      · exact Nat.succ_ne_self N z
      · rw [← z] at hb
        exact absurd (Nat.lt_of_succ_lt hb) (Nat.lt_irrefl _)) fun x2 h' tk hx ho hs hT hsz hk => ?_
    have ex2 : uy = x2 := Option.some.inj (huy.symm.trans (by simpa using hx))
    subst ex2
    refine ⟨_, rfl, wpAny_letOwnedTupleGo_enum (s := { s with heap := h', toks := tk + 1 }) ho fun h2' e2 sb => ?_⟩
    have pr : h2'.get? s.heap.objs.size = some { cls := .type "tuple", data := .seq #[.int i tk, uy] } := (sb.2 _ (Nat.ne_of_gt lt1)).trans hT
    have new : ObjOk X.prog X.w (upd H s.heap.objs.size (.tup [.int (i : Nat), y])) h2' s.heap.objs.size (.tup [.int (i : Nat), y]) :=
      ⟨by show 2 ≤ sizeLine; decide, [.int i tk, uy], .cons ⟨tk, rfl⟩ (.cons ry .nil), ⟨_, pr, rfl, _, rfl⟩⟩
    have J := I.turnedNew (t' := tk + 1) (ch := [N + 1, N]) (h' := h2') (fun x o nx q => (sb.2 x (fun z => nx (by simp [z]))).trans (hk x o (fun z => nx (by simp [z])) (fun z => nx (by simp [z])) q)) hf (Nat.le_refl _) new
    refine ⟨.ref s.heap.objs.size, _, J, rfl, ⟨_, y, rfl, I.hok.fresh (Nat.le_refl _), rfl, fun l hl => by rw [I.tuple_inj hl hy]; exact hi⟩, ⟨⟨_, by rw [show ((i + 1 : Nat) : Int) = (i : Int) + 1 by omega]; exact e2⟩, hs.1.at fun o q => (sb.2 N (Nat.ne_of_lt (Nat.lt_succ_self N))).trans q⟩, fun x hx => ?_⟩
    have lt : x < s.heap.objs.size := by
      rcases two_of hx with rfl | rfl
      · exact lt1
      · exact Nat.lt_of_succ_lt lt1
    rw [upd_ne (Nat.ne_of_lt lt)]
    exact (hf x hx).1
  done := by
    rintro X rfl rfl rfl hc i pins s σ H E I hf S ⟨ys, hy, hend⟩
    obtain ⟨us, rv, tupb, _⟩ := I.tuple hy
    obtain ⟨old, e⟩ := S.en
    have nb : b ≠ N := Nat.ne_of_lt hb
    have el : us.toArray.size = i := by rw [List.size_toArray, ← rv.length, hend]
    obtain ⟨f0, f1, f2, f3, f4, f5⟩ := hf N (by simp)
    exact wpAny_pyNext_enum_endD (Draws.tuple (by rw [show X.A.in1.handled = X.A.handled from rfl]; exact I.ok.hd hc) N b nb us.toArray) e (by rw [el]; exact ⟨S.tup, tupb⟩) fun h' eb => ⟨rfl, I.turned (t' := s.toks) (fun x o hx q => eb x o hx q) f0 f1 f3 f4 f5⟩
  self := fun A i s Q E S q => let ⟨_, e⟩ := S.en; wpAny_pyIter_enum e q
def iEnumT (K : PySem.W.Frag) (ta : TA) : TI := fun σ H R => ta σ H fun vs H1 => ∃ (b : Addr) (ys : List V), vs = [.ref b] ∧ SqT K H1 b ys ∧ R (ItEn K b) H1
theorem pi_enumT {X : Cx} {e : Expr} {ta : TA} {p pos tp : Pos} {elts : List Expr} {kk : Nat} (hm : X.mg "enumerate" = none) (ha : PA X [e] ta) (hg : Gl X "enumerate" := by rfl) (stars : starEach [e] X.env = [(false, eval e X.env)] := by rfl) :
    PI X (.Tuple elts kk tp) (.Call (.Name "enumerate" p) [e] [] pos) (iEnumT X.K ta) := by
  constructor
  intro pins s σ H R I h
  refine Call_ (ld_blt I hg hm boot_enumerate (PyProof.Rows.callWith_type1 (thn (ha.run pos pins s σ H _ I h) ?_) stars rfl))
  rintro us s1 ⟨vs, H1, J, r, b, ys, rfl, hy, q⟩
  match us, r with
  | [u], .cons r1 .nil =>
    obtain rfl : u = Value.ref b := r1
    obtain ⟨its, rv, tupb, _⟩ := J.tuple hy
    have hb : b < s1.heap.objs.size := by
      obtain ⟨o, e, _⟩ := id tupb
      exact Heap.lt_size e
    refine call_enum1 (begins_tuple b its.toArray) tupb fun g g1 g2 kp => wpAny_pyIter_enum g1 ?_
    refine ⟨s1.heap.objs.size + 1, _, _, _, H1, rfl, J.kept (t' := s1.toks) kp, turn_en hb, ⟨⟨_, g1⟩, ⟨_, g2, rfl, rfl⟩⟩, fun x hx => ?_, q⟩
    have le : s1.heap.objs.size ≤ x := by
      rcases two_of hx with z | z
      · rw [z]; exact Nat.le_add_right ..
      · rw [z]; exact Nat.le_refl _
    exact J.fpOk le (J.hok.fresh le)
end Rw
namespace Rw
open PySem PySem.Spec PyProof.Rows L2 Evl Cy
section
variable {K : PySem.W.Frag} {σ : L2.St} {H : Hp} {tl te : TE} {p : Addr} {xs ys : List V}
theorem walk_en : Walk (ItEn K p) xs.length (fun H => SqT K H p xs) (fun i H v H' => ∃ T y, v = .ref T ∧ H T = none ∧ H' = upd H T (.tup [.int (i : Nat), y]) ∧ xs[i]? = some y) :=
  ⟨fun i _ hi q => ⟨xs, xs[i], q, List.getElem?_eq_getElem hi⟩, fun _ q => ⟨xs, q, rfl⟩, fun i _ x _ _ q y => let ⟨T, z, e1, e2, e3, e4⟩ := y; ⟨T, z, e1, e2, e3, e4 xs q⟩⟩
/-- [.. for i, x in enumerate(a tuple)] -/
theorem el_enT {i j : Nat} {vs : List Nat} (h : Ev tl σ H (.ref p)) (hx : SqT K H p xs) (hz : xs.length ≤ 40000) (hw : ∀ x y, wipe (((wipe σ vs).set i (some x)).set j (some y)) vs = wipe σ vs) (hl : xs.length = ys.length)
    (he : ∀ (n : Nat) (x y : V) H1, Ex H H1 → xs[n]? = some x → ys[n]? = some y → Ev te (((wipe σ vs).set i (some (.int (n : Nat)))).set j (some x)) H1 y) :
    EvL (tLc (iEnumT K (tCons tl tNil)) (gTup K 2 (gCons (gName i) (gCons (gName j) gNil))) tYes te vs) σ H ys := fun H0 e Q q => h H0 e _ fun H1 e1 => by
  have ey : given xs.length (fun _ => true) (fun n => ys.getD n .non) = ys := given_map hl fun n y hy => by rw [List.getD_eq_getElem?_getD, hy]; rfl
  refine ⟨p, xs, rfl, ex_t (e.trans e1) hx, fun Dl hD => lc_it (walk_en (xs := xs)) (Cw H1 (fun _ => true) (fun n => ys.getD n .non) Dl) ⟨hD, Ex.new hD, upd_same⟩ (fun n H' _ c => ex_t ((e.trans e1).trans c.2.1) hx) (fun n x Ha Hb hn c y => ?_) (fun H' c => ?_)⟩
  · obtain ⟨T, y, rfl, hT, rfl, hy⟩ := y
    have c2 : Cw H1 (fun _ => true) (fun n => ys.getD n .non) Dl n (upd Ha T (.tup [.int (n : Nat), y])) := ⟨c.1, c.2.1.trans (Ex.new hT), (Ex.new hT) _ _ c.2.2⟩
    refine ⟨T, _, rfl, SqT.of upd_same, rfl, _, _, rfl, _, _, rfl, rfl, hw _ _, cw_turn c2 (by omega) et_yes fun _ => ?_⟩
    have hny : n < ys.length := by omega
    have eg : ys.getD n .non = ys[n] := by rw [List.getD_eq_getElem?_getD, List.getElem?_eq_getElem hny]; rfl
    rw [eg]
    exact he n y _ H1 (e.trans e1) hy (List.getElem?_eq_getElem hny)
  · have g := c.2.2
    rw [ey] at g
    exact q Dl H' (fresh_back e1 c.1) (e1.trans c.2.1) g
theorem ev_sumL {ta : TE} {ns : List Int} (h : Ev ta σ H (.ref p)) (hs : SqL K H p (ns.map V.int)) : Ev (tCB (rSum K) (tCons ta tNil)) σ H (.int ns.sum) := fun H1 e Q q =>
  h H1 e _ fun H2 e2 => ⟨p, ns, rfl, ex_l (e.trans e2) hs, q H2 e2⟩
theorem inV_ints (y : Int) (ns : List Int) : inV (.int y) (ns.map V.int) = decide (y ∈ ns) := by
  unfold inV
  rw [Bool.eq_iff_iff, List.any_eq_true, decide_eq_true_eq]
  constructor
  · rintro ⟨v, hv, e⟩
    obtain ⟨n, hn, rfl⟩ := List.mem_map.mp hv
    have z : n = y := by simpa [eqV] using e
    rw [← z]
    exact hn
  · intro h
    exact ⟨.int y, List.mem_map.mpr ⟨y, h, rfl⟩, by simp [eqV]⟩
theorem flat_ints (ns : List Int) : (ns.map V.int).all flatV = true := by
  rw [List.all_map, List.all_eq_true]
  intro n _
  rfl
end
section
variable {X : Cx} {e : Expr} {f : Str} {pos : Pos} {ta : TE}
theorem pe_fldK {K : PySem.W.Frag} (he : PE X e ta) (hb : attributeBase e f X.env (eval e X.env) = eval e X.env) (h : X.K = K := by rfl) : PE X (.Attribute e f pos) (tFld K ta f) := by
  subst h
  exact pe_fld he hb
theorem op_inK {K : PySem.W.Frag} (h : X.K = K := by rfl) : OpR X (compareOp .In) (rIn K false) := by
  subst h
  exact op_in_seq
end
end Rw
namespace Rw
open PySem PySem.Spec PyProof.Rows L2 Evl Cy
/-- o.f as one of several targets -/
def gFld (K : PySem.W.Frag) (to : TE) (f : Str) : TG := fun v σ H Q => to σ H fun x H1 => ∃ a C dx fs, x = .ref a ∧ H1 a = some (.ins C dx fs) ∧ Cls K C ∧ NoAttr K C f ∧ fs.length < 1000 ∧ Q σ (upd H1 a (.ins C dx (putF f v fs)))
theorem pg_fldT {X : Cx} {o : Expr} {f : Str} {pos : Pos} {to : TE} (ho : PE X o to) : PG X (.Attribute o f pos) (gFld X.K to f) := by
  refine ⟨fun pins s σ H v u Q I r h => ?_⟩
  rw [assign_Attribute]
  refine wpAny_bind (wpAny_holding (thn (ho.run pins s σ H _ I h) fun ov s1 ⟨x, H1, I1, r1, a, C, dx, fs, ex, ea, cl, na, le, q⟩ => ?_))
  subst ex
  obtain rfl : ov = Value.ref a := r1
  refine wpAny_bind (wpAny_standAt (wpAny_bind (wpAny_holding (setattr_ok I1 ea cl na le r fun s2 I2 => ?_))))
  exact wpAny_release ⟨σ, _, I2, q⟩
theorem s_fldB {K : PySem.W.Frag} {σ : L2.St} {H : Hp} {to tv : TE} {a C dx : Addr} {fs : List (Str × V)} {f : Str} {y : V} {D : Ends} (hv : Ev tv σ H y) (ho : Ev to σ H (.ref a)) (hi : H a = some (.ins C dx fs)) (c : Cls K C) (n : NoAttr K C f) (hl : fs.length < 1000) (k : ∀ G, ExB a H G → G a = some (.ins C dx (putF f y fs)) → D.nx σ G) : sFld K to tv f D σ H :=
  hv H (Ex.refl H) _ fun H1 e1 => ho H1 e1 _ fun H2 e2 => ⟨a, C, dx, fs, rfl, e2 _ _ (e1 _ _ hi), c, n, hl, k _ (ExB.of (e1.trans e2)).upd upd_same⟩
theorem s_retMake {σ : L2.St} {H : Hp} {ta : TA} {C : Addr} {sp : Sp} {dvs vs : List V} {E : XK} {D : Ends} (h : EvA ta σ H vs)
    (k : ∀ H1, Ex H H1 → ∀ x dx, H1 x = none → H1 dx = none → dx ≠ x → sp (.ref x :: (vs ++ dvs)) (upd (upd H1 dx (.own x)) x (.ins C dx [])) (fun v H2 => v = .non ∧ D.rt (.ref x) H2) E) : tRet (tMake C sp dvs E ta) D σ H :=
  h H (Ex.refl H) _ fun H1 e1 => k H1 e1
end Rw
namespace Rw
open PySem PySem.Spec PyProof.Rows L2 Evl Cy
/-! ### a range that a name holds -/
def iRngV (te : TE) : TI := fun σ H R => te σ H fun v H1 => ∃ a lo hi, v = .ref a ∧ H1 a = some (.rng lo hi) ∧ (-(2 ^ 62) ≤ lo ∧ lo < 2 ^ 62 ∧ -(2 ^ 62) ≤ hi ∧ hi < 2 ^ 62) ∧ R (Itr lo (hi - lo).toNat) H1
theorem pi_rngV {X : Cx} {tg e : Expr} {te : TE} (he : PE X e te) : PI X tg e (iRngV te) := by
  refine ⟨fun pins s σ H R I h => ?_⟩
  refine thn (he.run pins s σ H _ I h) fun v s1 ⟨y, H1, I1, r1, a, lo, hi, e, ho, b, q⟩ => ?_
  subst e
  obtain rfl : v = Value.ref a := r1
  obtain ⟨t, u, z, at_⟩ := I1.hok a _ ho
  refine wpAny_pyIter_range (show IsRange s1.heap a lo hi 1 t u z from at_) (small_one b.1 b.2.1 b.2.2.1 b.2.2.2) ?_
  refine ⟨s1.heap.objs.size, [s1.heap.objs.size], _, _, H1, rfl, I1.kept (t' := s1.toks) fun b o e => Heap.get?_push_of_some _ e, turn_range _ lo (hi - lo).toNat, ?_, fun b hb => ?_, q⟩
  · have e1 : lo + ((0 : Nat) : Int) * 1 = lo := by simp
    have e2 : (((hi - lo).toNat : Nat) : Int) - ((0 : Nat) : Int) = Builtin.Range.rangeSize lo hi 1 := by
      rw [rangeSize_one]
      split <;> omega
    show IsRangeIter _ _ (lo + ((0 : Nat) : Int) * 1) ((((hi - lo).toNat : Nat) : Int) - ((0 : Nat) : Int)) 1
    rw [e1, e2]
    exact Heap.get?_push_size _ rfl
  · obtain rfl : b = s1.heap.objs.size := by simpa using hb
    exact I1.fpOk (Nat.le_refl _) (I1.hok.fresh (Nat.le_refl _))
theorem ev_rng {σ : L2.St} {H : Hp} {ta : TA} {lo hi : Int} (h : EvA ta σ H [.int lo, .int hi]) :
    EvX (tCB (fun vs H Q => ∃ i j, vs = [V.int i, V.int j] ∧ ∀ p, H p = none → Q (.ref p) (upd H p (.rng i j))) ta) σ H (fun y H2 => ∃ q, y = .ref q ∧ H2 q = some (.rng lo hi)) := fun H1 e Q k =>
  h H1 e _ fun H2 e2 => ⟨lo, hi, rfl, fun p hp => k _ _ (e2.trans (Ex.new hp)) ⟨p, rfl, upd_same⟩⟩
section
variable {K : PySem.W.Frag} {σ : L2.St} {H : Hp} {te tl : TE} {t : TT}
/-- a comprehension over such a range -/
theorem el_lcRng {a : Addr} {lo hi : Int} {j : Nat} {vs : List Nat} (f : Nat → Bool) (v : Nat → V) (h : Ev tl σ H (.ref a)) (hx : H a = some (.rng lo hi)) (hb : -(2 ^ 62) ≤ lo ∧ lo < 2 ^ 62 ∧ -(2 ^ 62) ≤ hi ∧ hi < 2 ^ 62) (hz : (hi - lo).toNat ≤ 40000) (hw : ∀ x, wipe ((wipe σ vs).set j (some x)) vs = wipe σ vs)
    (ht : ∀ (i : Nat) H1, Ex H H1 → i < (hi - lo).toNat → EvT t ((wipe σ vs).set j (some (.int (lo + i)))) H1 (f i)) (he : ∀ (i : Nat) H1, Ex H H1 → i < (hi - lo).toNat → f i = true → Ev te ((wipe σ vs).set j (some (.int (lo + i)))) H1 (v i)) :
    EvL (tLc (iRngV tl) (gName j) t te vs) σ H (given (hi - lo).toNat f v) := fun H0 e Q q => h H0 e _ fun H1 e1 => ⟨a, lo, hi, rfl, (e.trans e1) _ _ hx, hb, fun Dl hD =>
  lc_range (lo := lo) (n := (hi - lo).toNat) (Cw H1 f v Dl) ⟨hD, Ex.new hD, upd_same⟩ (fun i Hi hi' c => ⟨hw _, cw_turn c (by omega) (ht i H1 (e.trans e1) hi') (fun hf => he i H1 (e.trans e1) hi' hf)⟩)
    (fun Hz c => q Dl Hz (fresh_back e1 c.1) (e1.trans c.2.1) c.2.2)⟩
end
end Rw
namespace Rw
open PySem.W
open PySem PySem.Spec PyProof.Rows L2 Evl Cy
/-! ### max(a list of ints, default=an int) -/
theorem hold_ints {h : Heap} : ∀ {us : List Value} {ns : List Int}, IntsAre us ns → HoldAll h us ns
  | _, _, .nil => HoldAll.nil
  | _, _, .cons n t r => HoldAll.cons ⟨_, .int n t⟩ (hold_ints r)
/-- the greatest of ints, d of none -/
def maxD (d : Int) : List Int → Int
  | [] => d
  | y :: ys => maxOf y ys
def rMaxD (K : PySem.W.Frag) : List V → List V → Hp → VK → Prop := fun vs zs H Q => ∃ (a : Addr) (ns : List Int) (d : Int), vs = [V.ref a] ∧ zs = [V.int d] ∧ SqL K H a (ns.map V.int) ∧ Q (.int (maxD d ns)) H
theorem cr_maxD {X : Cx} (hc : X.calm = true) (hu : X.A.units + 64 < cLine) : CallRK X (.builtin "max") ["default"] (rMaxD X.K) := by
  intro pins s σ H vs zs us ws Q I r rz h
  obtain ⟨a, ns, d, rfl, rfl, hs, q⟩ := h
  obtain ⟨its, rv, hl, _⟩ := I.list hs
  rw [Vals.ref1 r]
  obtain ⟨t, rfl⟩ : ∃ t, ws = [Value.int d t] := by
    cases rz with
    | cons z zs =>
      cases zs
      obtain ⟨t, rfl⟩ := z
      exact ⟨t, rfl⟩
  refine max_list_datum_default (α := Int) (I.ok.hd hc) hl.isList (hold_ints rv.ints) (Nat.lt_of_le_of_lt (Nat.add_le_add_left (show 1 + 0 ≤ 64 by decide) _) hu) (fun e h' tk hk => ?_) fun y ys i v h' tk e hi hv hk => ?_
  · subst e
    exact ⟨.int d, H, I.kept hk, ⟨_, rfl⟩, q⟩
  · subst e
    obtain ⟨as, hr⟩ := hv
    obtain ⟨t2, rfl⟩ : ∃ t2, v = Value.int (maxOf y ys) t2 := by
      have hr : Reads h' v (.int (maxOf y ys)) as := hr
      cases hr
      exact ⟨_, rfl⟩
    exact ⟨.int (maxOf y ys), H, I.kept hk, ⟨_, rfl⟩, q⟩
theorem maxOf_facts : ∀ (ys : List Int) (y : Int), y ≤ maxOf y ys ∧ (∀ z ∈ ys, z ≤ maxOf y ys) ∧ (maxOf y ys = y ∨ maxOf y ys ∈ ys)
  | [], y => ⟨Int.le_refl _, fun z h => (by cases h), .inl rfl⟩
  | a :: r, y => by
    have e : maxOf y (a :: r) = maxOf (if DatumOrd.lt y a = true then a else y) r := rfl
    have l : DatumOrd.lt y a = decide (y < a) := rfl
    obtain ⟨h1, h2, h3⟩ := maxOf_facts r (if DatumOrd.lt y a = true then a else y)
    rw [e]
    rw [l] at h1 h2 h3 ⊢
    by_cases q : y < a
    · rw [decide_eq_true q, if_pos rfl] at h1 h2 h3 ⊢
      refine ⟨by omega, fun z hz => ?_, ?_⟩
      · rcases List.mem_cons.mp hz with rfl | hz
        · exact h1
        · exact h2 z hz
      · rcases h3 with h3 | h3
        · exact .inr (by rw [h3]; exact List.mem_cons_self)
        · exact .inr (List.mem_cons_of_mem _ h3)
    · rw [decide_eq_false q, if_neg Bool.false_ne_true] at h1 h2 h3 ⊢
      refine ⟨h1, fun z hz => ?_, ?_⟩
      · rcases List.mem_cons.mp hz with rfl | hz
        · omega
        · exact h2 z hz
      · rcases h3 with h3 | h3
        · exact .inl h3
        · exact .inr (List.mem_cons_of_mem _ h3)
theorem ev_maxD {K : PySem.W.Frag} {σ : L2.St} {H : Hp} {te td : TE} {ns : List Int} {d : Int} (h : EvL te σ H (ns.map V.int)) (hd : ∀ H1, Ex H H1 → Ev td σ H1 (.int d)) : Ev (tCKw (rMaxD K) (tCons te tNil) (tCons td tNil)) σ H (.int (maxD d ns)) := fun H1 e Q q =>
  h H1 e _ fun p H2 hp e2 h2 => hd H2 (e.trans e2) H2 (Ex.refl H2) _ fun H3 e3 => ⟨p, ns, d, rfl, rfl, SqL.of (e3 _ _ h2), q H3 (e2.trans e3)⟩
theorem q_asgX {σ : L2.St} {H : Hp} {te : TE} {i : Nat} {R : V → Hp → Prop} {D : Ends} {tz : TS} (h : EvX te σ H R) (k : ∀ y H1, Ex H H1 → R y H1 → tz D (σ.set i (some y)) H1) : tSeq (tAsg te (gName i)) tz D σ H := h H (Ex.refl H) _ fun y H1 e r => k y H1 e r
theorem given_true {n : Nat} {v : Nat → V} : Evl.given n (fun _ => true) v = (List.range n).map v := by
  unfold Evl.given
  rw [List.filter_eq_self.mpr fun a _ => rfl]
/-- tuple(a new list) -/
theorem eu_tupNew {K : PySem.W.Frag} {σ : L2.St} {H : Hp} {te : TE} {xs : List V} (h : EvL te σ H xs) :
    EvU (tCB (fun xs H Q => ∃ p ys, xs = [.ref p] ∧ ((SqL K H p ys ∧ ∀ l, H l = none → Q (.ref l) (upd H l (.tup ys))) ∨ (SqT K H p ys ∧ Q (.ref p) H))) (tCons te tNil)) σ H xs := fun H1 e Q q =>
  h H1 e _ fun p H2 hp e2 h2 => ⟨p, xs, rfl, .inl ⟨SqL.of h2, fun l hl => q l _ (fresh_back e2 hl) (e2.trans (Ex.new hl)) upd_same⟩⟩
end Rw
namespace Rw
open PySem PySem.Spec PyProof.Rows L2 Evl
local macro_rules | `(tactic| walk_at "sq") => `(tactic| first | assumption | exact SqL.of (by assumption) | exact SqT.of (by assumption))
local macro_rules | `(tactic| walk_at "at") => `(tactic| first | exact atI_nat (j := 0) rfl | exact atI_nat (j := 1) rfl | exact atI_nat (j := 2) rfl | exact atI_nat (j := 3) rfl)
local macro_rules | `(tactic| walk_at "rv") => `(tactic| first
  | with_reducible exact rv_I0
  | ((with_reducible refine' rv_I ?k1); (case k1 => first | (show (0 : Int) < _; omega) | exact ⟨by omega, by omega⟩ | exact .inr ⟨by omega, by omega⟩ | exact .inl ⟨by omega, by omega⟩ | exact ⟨by decide, by decide, by decide⟩))
  | ((with_reducible refine' rv_eq ?k1); (case k1 => exact rfl))
  | ((with_reducible refine' rv_ne ?k1); (case k1 => exact rfl))
  | (refine' rv_ixL ?k1 ?k2; (case k1 => walk_at "sq"); (case k2 => walk_at "at"))
  | (refine' rv_ixT ?k1 ?k2; (case k1 => walk_at "sq"); (case k2 => walk_at "at")))
local macro_rules | `(tactic| walk_at "rc") => `(tactic| first | exact rc_int1 | exact rc_int1b | exact rc_abs)
local macro_rules | `(tactic| walk_at "ea") => `(tactic| first
  | with_reducible exact ea_nil
  | ((with_reducible refine' ea_cons ?k1 ?k2); (case k1 => walk_at "ev"); (case k2 => walk_at "ea")))
local macro_rules | `(tactic| walk_at "ev") => `(tactic| first
  | with_reducible exact ev_c
  | ((with_reducible refine' ev_var ?k1); (case k1 => exact rfl))
  | ((with_reducible refine' ev_op ?k1 ?k2 ?k3); (case k1 => walk_at "ev"); (case k2 => walk_at "ev"); (case k3 => walk_at "rv"))
  | ((with_reducible refine' et_chain ?k1 ?k2 ?k3 ?k4 ?k5); (case k1 => walk_at "ev"); (case k2 => walk_at "ev"); (case k3 => (intro _; walk_at "ev")); (case k4 => walk_at "rv"); (case k5 => (intro _; walk_at "rv")))
  | ((with_reducible refine' ev_cb ?k1 ?k2); (case k1 => walk_at "ea"); (case k2 => walk_at "rc")))
local macro_rules | `(tactic| walk_at "et") => `(tactic| first
  | ((with_reducible refine' et_test ?k1); (case k1 => walk_at "ev"))
  | ((with_reducible refine' et_B ?k1); (case k1 => walk_at "ev"))
  | ((with_reducible refine' et_and ?k1 ?k2); (case k1 => walk_at "et"); (case k2 => (intro _; walk_at "et")))
  | ((with_reducible refine' et_or ?k1 ?k2); (case k1 => walk_at "et"); (case k2 => (intro _; walk_at "et")))
  | ((with_reducible refine' et_not ?k1); (case k1 => walk_at "et")))
def topS (i : Nat) : Stmt := PySem.Challenge.pw_recurwright_k16_terms_of_business.main.body.getD i (.Pass ⟨0, 0, 0, 0⟩)
abbrev sDice : Stmt := topS 34
abbrev sRoll : Stmt := topS 35
theorem scDice : FnScope ["cell"] ["cell"] (defScope sDice) := ⟨rfl, rfl, rfl, by decide +kernel, rfl, by decide +kernel, by decide +kernel⟩
theorem scRoll : FnScope ["dice", "many", "found"] ["dice", "many"] (defScope sRoll) := ⟨rfl, rfl, rfl, by decide +kernel, rfl, by decide +kernel, by decide +kernel⟩
/-- the text's own names of built-ins -/
structure Blt (mg : Str → Option Value) : Prop where
  int : mg "int" = none
  abs : mg "abs" = none
section
variable {P : Program} {w : World} {K : PySem.W.Frag} {mg : Str → Option Value} {base : Heap}
def spDice : Sp := fun vs H Q _ => ∃ n : Int, vs = [.int n] ∧ ∀ p a b c H', H p = none → Ex H H' → H' p = some (.lst [.int a, .int b, .int c]) → Q (.ref p) H'
theorem ok_dice {f : Addr} {fd : FuncData} (F : Fun K "_law_dice" "_law_dice" sDice f fd) (B : Blt mg) : FnOk P w K mg base (L2.CX P w) 1 f fd ["cell"] spDice := by
  refine F.okX scDice (fun vs H Q E h => ?_) (fun cdv A outer s H vs Q E hr h => ?_)
  · obtain ⟨n, rfl, _⟩ := h
    rfl
  · obtain ⟨n, rfl, q⟩ := h
    refine ⟨_, pss_cons (ps_if (pt_chain op_lt op_lt (pe_op op_sub pe_int pe_int) (pv 0) pe_int)
        (pss_one (ps_ret (pe_lst (pa_cons (pe_callB call_abs (by rfl) B.abs (by decide +kernel) (pa_cons (pv 0) pa_nil)) (pa_cons pe_int (pa_cons pe_int pa_nil)))))) pss_nil)
      (pss_one (ps_ret (pe_lst (pa_cons (pv 0) (pa_cons (pe_op op_add pe_int (pe_op op_mod (pe_callTy call_int1 (by rfl) B.int (by decide +kernel) (pa_cons (pv 0) pa_nil)) pe_int))
        (pa_cons (pe_callTy call_int1 (by rfl) B.int (by decide +kernel) (pa_cons (pe_cmpR op_ge (pv 0) (pe_op op_pow pe_int pe_int) (nomark _)) pa_nil)) pa_nil)))))), ?_⟩
    refine q_when (by walk_at "et") (fun hb H1 e1 => ?_) (fun hb H1 e1 => ?_)
    · exact s_retL (el_lst (by walk_at "ea") (by show 3 ≤ 100000; decide)) fun p H2 hp e2 h2 => q p _ _ _ H2 (fresh_back e1 hp) (e1.trans e2) h2
    · exact s_retL (el_lst (by walk_at "ea") (by show 3 ≤ 100000; decide)) fun p H2 hp e2 h2 => q p _ _ _ H2 (fresh_back e1 hp) (e1.trans e2) h2
def spRoll : Sp := fun vs H Q _ => ∃ (d : Addr) (a b c m : Int), vs = [.ref d, .int m] ∧ H d = some (.lst [.int a, .int b, .int c]) ∧ 0 < m ∧ m < 1000000 ∧
  ∀ (v a' b' c' : Int) H', 0 ≤ v → v < m → ExB d H H' → H' d = some (.lst [.int a', .int b', .int c']) → Q (.int v) H'
theorem ok_roll {f : Addr} {fd : FuncData} (F : Fun K "_law_roll" "_law_roll" sRoll f fd) (B : Blt mg) : FnOk P w K mg base (L2.CX P w) 1 f fd ["dice", "many"] spRoll := by
  refine F.okX scRoll (fun vs H Q E h => ?_) (fun cdv A outer s H vs Q E hr h => ?_)
  · obtain ⟨d, a, b, c, m, rfl, _⟩ := h
    rfl
  · obtain ⟨d, a, b, c, m, rfl, hd, h0, h1, q⟩ := h
    refine ⟨_, pss_cons (ps_if (PW.pt (pw_or (pt_cmpR op_eq (pe_ix ix_list (pv 0) pe_int (fun _ _ => rfl)) pe_int (nomark _)) (pw_or1 (PW.pt (pw_and (pt_cmpR op_eq (pe_ix ix_list (pv 0) pe_int (fun _ _ => rfl)) pe_int (nomark _)) (pw_and1 (pt_cmpR op_gt (pe_ix ix_list (pv 0) pe_int (fun _ _ => rfl)) pe_int (nomark _))))))))
        (pss_cons (ps_set (i := 2) scRoll.nd rfl (.inl rfl) (pe_op op_mod (pe_callTy call_int1 (by rfl) B.int (by decide +kernel) (pa_cons (pe_ix ix_list (pv 0) pe_int (fun _ _ => rfl)) pa_nil)) (pv 1)))
        (pss_cons (ps_asg (pe_op op_fdiv (pe_ix ix_list (pv 0) pe_int (fun _ _ => rfl)) (pv 1)) (pg_sub (pv 0) pe_int set_list))
        (pss_one (ps_ret (pv 2))))) pss_nil)
      (pss_cons (ps_asg pe_int (pg_sub (pv 0) pe_int set_list))
      (pss_cons (ps_asg (pe_op op_mod (pe_callTy call_int1 (by rfl) B.int (by decide +kernel) (pa_cons (pe_op op_add (pe_op op_add (pe_op op_mul (pe_ix ix_list (pv 0) pe_int (fun _ _ => rfl)) pe_int) (pe_op op_mul (pe_ix ix_list (pv 0) pe_int (fun _ _ => rfl)) pe_int)) pe_int) pa_nil)) pe_int) (pg_sub (pv 0) pe_int set_list))
      (pss_cons (ps_asg (pe_op op_add (pe_ix ix_list (pv 0) pe_int (fun _ _ => rfl)) pe_int) (pg_sub (pv 0) pe_int set_list))
      (pss_one (ps_ret (pe_op op_mod (pe_callTy call_int1 (by rfl) B.int (by decide +kernel) (pa_cons (pe_op op_add (pe_op op_fdiv (pe_ix ix_list (pv 0) pe_int (fun _ _ => rfl)) pe_int) (pe_ix ix_list (pv 0) pe_int (fun _ _ => rfl))) pa_nil)) (pv 1))))))), ?_⟩
    refine q_when (by walk_at "et") (fun hb H1 e1 => ?_) (fun hb H1 e1 => ?_)
    · have hd1 := e1 d _ hd
      refine q_asg (by walk_at "ev") fun H2 e2 => ?_
      have hd2 := e2 d _ hd1
      refine q_setL (j := 0) hd2 (by walk_at "ev") (by walk_at "ev") (by exact ev_c) (by show 0 < 3; decide) fun H3 e3 => ?_
      refine s_ret (by walk_at "ev") fun H4 e4 => ?_
      exact q _ _ _ _ H4 (Int.emod_nonneg _ (by omega)) (Int.emod_lt_of_pos _ h0) (((ExB.of ((e1.trans e2).trans e3)).upd).ex e4) (e4 d _ upd_same)
    · have hd1 := e1 d _ hd
      refine q_setL (j := 2) hd1 (by walk_at "ev") (by walk_at "ev") (by exact ev_c) (by show 2 < 3; decide) fun H2 e2 => ?_
      have hd2 : upd H2 d (.lst [.int a, .int b, .int 0]) d = some _ := upd_same
      refine q_setL (xs := [.int a, .int b, .int 0]) (j := 0) hd2 (by walk_at "ev") (by walk_at "ev") (by exact ev_c) (by show 0 < 3; decide) fun H3 e3 => ?_
      have b1 : ExB d H (upd H2 d (.lst [.int a, .int b, .int 0])) := (ExB.of (e1.trans e2)).upd
      generalize hz : (a * 48271 + b * 69621 + 11) % 2147483647 = z
      have hd3 : upd H3 d (.lst [.int z, .int b, .int 0]) d = some _ := upd_same
      refine q_setL (xs := [.int z, .int b, .int 0]) (j := 1) hd3 (by walk_at "ev") (by walk_at "ev") (by exact ev_c) (by show 1 < 3; decide) fun H4 e4 => ?_
      have b2 : ExB d H (upd H3 d (.lst [.int z, .int b, .int 0])) := (b1.ex e3).upd
      have hd4 : upd H4 d (.lst [.int z, .int (b + 1), .int 0]) d = some _ := upd_same
      have b3 : ExB d H (upd H4 d (.lst [.int z, .int (b + 1), .int 0])) := (b2.ex e4).upd
      refine s_ret (v := .int ((z / 7 + z) % m)) (by walk_at "ev") fun H5 e5 => ?_
      exact q _ _ _ _ H5 (Int.emod_nonneg _ (by omega)) (Int.emod_lt_of_pos _ h0) (b3.ex e5) (e5 d _ hd4)
end
abbrev sTold : Stmt := topS 37
theorem scTold : FnScope ["what"] ["what"] (defScope sTold) := ⟨rfl, rfl, rfl, by decide +kernel, rfl, by decide +kernel, by decide +kernel⟩
section
variable {P : Program} {w : World} {K : PySem.W.Frag} {mg : Str → Option Value} {base : Heap}
theorem ok_told {f : Addr} {fd : FuncData} {c : Nat → Addr} {k : Nat} (F : Fun K "_law_told" "_law_told" sTold f fd) (B : Exs K mg c) : FnOk P w K mg base (L2.CX P w) (k + 2) f fd ["what"] (spTold P w K mg base c k) := by
  refine F.okX scTold (fun vs H Q E h => ?_) (fun cdv A outer s H vs Q E hr h => ?_)
  · obtain ⟨f, c', q, params, body, scope, tb, rfl, _⟩ := h
    rfl
  · obtain ⟨f, c', q, params, body, scope, tb, rfl, hf, hc, L, hb, hl, ht⟩ := h
    refine ⟨_, pss_one (ps_try_many (tb := fun W D σ H => ∃ (f c' : Addr) (q : Str) (params : Arguments) (body : Expr) (scope : Scope) (tb : XK → Hp → VK → Prop), σ[0]? = some (some (.ref f)) ∧ H f = some (LamO f q params body scope c') ∧ H c' = some (LamX.CodeO c' q) ∧ Lam0 scope ∧
          (∀ (pm cv ctv : Value), bindArgs (PySem.W.kla_fn "<lambda>" q params body scope [] pm cv ctv) ⟨[], []⟩ = pure []) ∧ LamRun P w K mg base k q scope body f c' tb ∧ ∃ E' : XK, (∀ cls d σ' H', E' cls d H' → W cls d σ' H') ∧ tb E' H D.rt) rfl rfl takes_none5
        (fun W pn xe tk _ => ⟨fun pins s' σ H' D I h' => ?_⟩)
        (HdsOk.cons ⟨rfl, by decide, .inl (B.e 0 (by decide)).g⟩ (fun _ _ _ _ _ _ _ => pss_one (ps_ret pe_str)) (HdsOk.cons ⟨rfl, by decide, .inl (B.e 1 (by decide)).g⟩ (fun _ _ _ _ _ _ _ => pss_one (ps_ret pe_str)) (HdsOk.cons ⟨rfl, by decide, .inl (B.e 2 (by decide)).g⟩ (fun _ _ _ _ _ _ _ => pss_one (ps_ret pe_str)) (HdsOk.cons ⟨rfl, by decide, .inl (B.e 3 (by decide)).g⟩ (fun _ _ _ _ _ _ _ => pss_one (ps_ret pe_str)) (HdsOk.cons ⟨rfl, by decide, .inl (B.e 4 (by decide)).g⟩ (fun _ _ _ _ _ _ _ => pss_one (ps_ret pe_str)) (HdsOk.cons ⟨rfl, by decide, .inl (B.e 5 (by decide)).g⟩ (fun _ _ _ _ _ _ _ => pss_one (ps_ret pe_str)) (HdsOk.cons ⟨rfl, by decide, .inl (B.e 6 (by decide)).g⟩ (fun _ _ _ _ _ _ _ => pss_one (ps_ret pe_str)) (HdsOk.cons ⟨rfl, by decide, .inl (B.e 7 (by decide)).g⟩ (fun _ _ _ _ _ _ _ => pss_one (ps_ret pe_str)) (HdsOk.cons ⟨rfl, by decide, .inl (B.e 8 (by decide)).g⟩ (fun _ _ _ _ _ _ _ => pss_one (ps_ret pe_str)) (HdsOk.cons ⟨rfl, by decide, .inl (B.e 9 (by decide)).g⟩ (fun _ _ _ _ _ _ _ => pss_one (ps_ret pe_str)) (HdsOk.cons ⟨rfl, by decide, .inl (B.e 10 (by decide)).g⟩ (fun _ _ _ _ _ _ _ => pss_one (ps_ret pe_str)) (HdsOk.nil))))))))))))), ?_⟩
    · obtain ⟨f, c', q, params, body, scope, tb, h1, h2, h3, h4, h5, h6, E', hE, h7⟩ := h'
      exact (pss_one (ps_ret (pe_actO (E := E') (i := 0) (k := k) tk hE hr rfl (.inl rfl)))).run pins s' σ H' D I ⟨f, c', q, params, body, scope, tb, h1, h2, h3, h4, h5, h6, h7⟩
    · refine ⟨f, c', q, params, body, scope, tb, rfl, hf, hc, L, hb, hl, ETold c Q, fun cls d σ' H' hE => ?_, ht⟩
      obtain ⟨i, hi, rfl, q⟩ := hE
      exact ⟨decide (i = 0), B.m i 0 hi (by omega), fun hb _ _ => (by obtain rfl : i = 0 := of_decide_eq_true hb; exact q), fun hb0 => (by have n0 := of_decide_eq_false hb0; exact ⟨decide (i = 1), B.m i 1 hi (by omega), fun hb _ _ => (by obtain rfl : i = 1 := of_decide_eq_true hb; exact q), fun hb1 => (by have n1 := of_decide_eq_false hb1; exact ⟨decide (i = 2), B.m i 2 hi (by omega), fun hb _ _ => (by obtain rfl : i = 2 := of_decide_eq_true hb; exact q), fun hb2 => (by have n2 := of_decide_eq_false hb2; exact ⟨decide (i = 3), B.m i 3 hi (by omega), fun hb _ _ => (by obtain rfl : i = 3 := of_decide_eq_true hb; exact q), fun hb3 => (by have n3 := of_decide_eq_false hb3; exact ⟨decide (i = 4), B.m i 4 hi (by omega), fun hb _ _ => (by obtain rfl : i = 4 := of_decide_eq_true hb; exact q), fun hb4 => (by have n4 := of_decide_eq_false hb4; exact ⟨decide (i = 5), B.m i 5 hi (by omega), fun hb _ _ => (by obtain rfl : i = 5 := of_decide_eq_true hb; exact q), fun hb5 => (by have n5 := of_decide_eq_false hb5; exact ⟨decide (i = 6), B.m i 6 hi (by omega), fun hb _ _ => (by obtain rfl : i = 6 := of_decide_eq_true hb; exact q), fun hb6 => (by have n6 := of_decide_eq_false hb6; exact ⟨decide (i = 7), B.m i 7 hi (by omega), fun hb _ _ => (by obtain rfl : i = 7 := of_decide_eq_true hb; exact q), fun hb7 => (by have n7 := of_decide_eq_false hb7; exact ⟨decide (i = 8), B.m i 8 hi (by omega), fun hb _ _ => (by obtain rfl : i = 8 := of_decide_eq_true hb; exact q), fun hb8 => (by have n8 := of_decide_eq_false hb8; exact ⟨decide (i = 9), B.m i 9 hi (by omega), fun hb _ _ => (by obtain rfl : i = 9 := of_decide_eq_true hb; exact q), fun hb9 => (by have n9 := of_decide_eq_false hb9; exact ⟨decide (i = 10), B.m i 10 hi (by omega), fun hb _ _ => (by obtain rfl : i = 10 := of_decide_eq_true hb; exact q), fun hb10 => (by have n10 := of_decide_eq_false hb10; exact (by omega : False).elim)⟩)⟩)⟩)⟩)⟩)⟩)⟩)⟩)⟩)⟩)⟩
end
end Rw
namespace Rw
open PySem PySem.Spec PyProof.Rows L2 Evl
/-- a lambda with its captured cells, as a tracked object -/
def LamC (f : Addr) (q : Str) (params : Arguments) (body : Expr) (scope : Scope) (cells : List (Str × Addr)) (cc : Addr) : HO :=
  .ext fun h => ∃ pm tv, h.get? f = some (PySem.W.kla_obj "<lambda>" q params body scope cells pm cc tv)
section
variable {X : Cx} {pins : List (Addr × Obj)} {σ : L2.St} {H : Hp} {s : Shared}
/-- x(), in a def that the lambda's maker called: Z is that def's context, entered at s -/
theorem pe_actC {CXg : CXT} {Eg : XK} {Ng : List Str} {qg : Str} {sg : Scope} {g f cc : Addr} {cdg : Value} {params : Arguments} {body : Expr} {scope : Scope} {k i : Nat} {a : Str} {pn : List (Addr × Obj)} {xe : Value → Shared → Prop} {W : WX} {E : XK} {tb : TE} {p1 p2 : Pos}
    (I : Inv X pins σ H s) (L : LamX.LamS X.env.scope scope) (binds : ∀ (pm cv ctv : Value), bindArgs (PySem.W.kla_fn "<lambda>" (X.env.qual ++ "<lambda>") params body scope (cloFrom X.env.cells scope.names []) pm cv ctv) ⟨[], []⟩ = pure [])
    (takes : Takes ((cxOf CXg X.prog X.w X.K X.mg X.base Ng qg sg g cdg X.A X.stack s H Eg).tr pn xe) W) (hW : ∀ cls d σ' H', E cls d H' → W cls d σ' H') (room : Room (k + 1) (X.A.deeper (envOfC qg sg s.heap.objs.size g cdg)))
    (runs : ∀ (A : Around) (outer : List Env) (s : Shared) (H : Hp), Room k (A.deeper (LamX.lamEnv X scope s.heap.objs.size f cc)) → PE (LamX.lamCx X A outer s H E scope f cc) body tb)
    (hN : Ng[i]? = some a) (hv : Vis sg a) (hd : (a == ("__debug__" : Str)) = false := by decide) (hcd : (a == ("__classdict__" : Str)) = false := by decide) :
    PE ((cxOf CXg X.prog X.w X.K X.mg X.base Ng qg sg g cdg X.A X.stack s H Eg).tr pn xe) (.Call (.Name a p1) [] [] p2)
      (fun σZ HZ Q => σZ[i]? = some (some (.ref f)) ∧ HZ f = some (LamC f (X.env.qual ++ "<lambda>") params body scope (cloFrom X.env.cells scope.names []) cc) ∧ HZ cc = some (LamX.CodeO cc (X.env.qual ++ "<lambda>")) ∧ tb σ HZ Q) := by
  refine ⟨fun pz tz uz Hz Q Iz ask => ?_⟩
  obtain ⟨isf, atf, atc, ask⟩ := ask
  refine wpAny_Call_Name_kw (thn ((pe_var (pos := p1) (i := i) hN hv hd hcd).run pz tz uz Hz (fun v H1 => v = .ref f ∧ H1 = Hz) Iz ⟨.ref f, isf, rfl, rfl⟩) fun u sv ⟨v, H1, J1, rel, ends⟩ => ?_)
  obtain ⟨rfl, eqH⟩ := ends
  rw [eqH] at J1
  obtain rfl : u = Value.ref f := rel
  obtain ⟨⟨pm, tv, objf⟩, _, _⟩ := J1.hok f _ atf
  refine PySem.W.callWith_F0 ⟨_, _, _, _, objf⟩ ?_
  obtain ⟨⟨oc, vs, t, objc, datac, qualc⟩, _, _⟩ := J1.hok cc _ atc
  have ran : codeAny (model X.prog X.w) (X.A.deeper (envOfC qg sg s.heap.objs.size g cdg)) (.call (.ref f) ⟨[], []⟩) (CR (L2.CX X.prog X.w) (envOfC qg sg s.heap.objs.size g cdg :: X.stack) X.prog X.w Hz sv Q E) sv := by
    refine PySem.W.kla_callFunE room.depth objf rfl L.co L.gen rfl ⟨cc, oc, vs, t, rfl, objc, datac, qualc⟩ ?_
    rw [binds]
    refine wpAny_pure (wpAny_newFunctionEnv (fun y hy => (L.own y hy).2) (fun y hy => absurd hy (by simp)) (fun hN newNs steps => ⟨J1.nolimit.fresh _ steps, ?_⟩) L.kind)
    show codeAny _ _ (.expr body (LamX.lamEnv X scope sv.heap.objs.size f cc)) _ _
    have stays : ∀ b o, sv.heap.get? b = some o → hN.get? b = some o := fun b o e => steps.extBut b o (Nat.ne_of_lt (Heap.lt_size e)) (Heap.get?_push_of_some _ e)
    have Jv : Inv (LamX.lamCx X (X.A.deeper (envOfC qg sg s.heap.objs.size g cdg)) (envOfC qg sg s.heap.objs.size g cdg :: X.stack) sv Hz E scope f cc) [] σ Hz { sv with heap := hN, toks := sv.toks + ([] : List (Str × Value)).length } :=
      LamX.lam_start2 I L J1.env0 room.hd J1.base newNs stays
    refine PySem.W.kla_codeExpr (wpAny_mono ((runs _ _ sv Hz (room.deeper _)).run [] _ _ Hz Q Jv ask) (fun v s' got => ?_) fun e s' got => got)
    obtain ⟨wv, Hv, Kv, rv, q⟩ := got
    exact ⟨wv, Hv, Kv.os, Kv.bare, Kv.base, Kv.hok, rv, q⟩
  refine wpAny_call (codeAny_mono ran fun r s' got => ?_)
  cases r with
  | error e => exact (passes_call takes hW) pz uz Hz sv e s' J1 got
  | ok fl =>
    cases fl with
    | ret u => exact J1.after got
    | next => exact False.elim got
    | brk => exact False.elim got
    | cont => exact False.elim got
end
/-- _law_told(e), e a lambda of this very def, kept with its cells -/
def tToldC (X : Cx) (c : Nat → Addr) (k : Nat) (ta : TA) : TE := fun σ H Q => ta σ H fun vs H1 => ∃ (f cc : Addr) (params : Arguments) (body : Expr) (scope : Scope) (t : XK → TE), vs = [.ref f] ∧ H1 f = some (LamC f (X.env.qual ++ "<lambda>") params body scope (cloFrom X.env.cells scope.names []) cc) ∧ H1 cc = some (LamX.CodeO cc (X.env.qual ++ "<lambda>")) ∧ LamX.LamS X.env.scope scope ∧
  (∀ (pm cv ctv : Value), bindArgs (PySem.W.kla_fn "<lambda>" (X.env.qual ++ "<lambda>") params body scope (cloFrom X.env.cells scope.names []) pm cv ctv) ⟨[], []⟩ = pure []) ∧
  (∀ (A : Around) (outer : List Env) (s : Shared) (H : Hp) (E : XK), Room k (A.deeper (LamX.lamEnv X scope s.heap.objs.size f cc)) → PE (LamX.lamCx X A outer s H E scope f cc) body (t E)) ∧ t (ETold c Q) σ H1 Q
theorem pe_toldC {X : Cx} {c : Nat → Addr} {k : Nat} {g : Addr} {oc kV dc pm cdv ct : Value} {od an : Option Addr} {osl : Array (Option Value)} {p pos : Pos} {e : Expr} {ta : TA} (B : Exs X.K X.mg c) (hm : X.mg "_law_told" = some (.ref g)) (kp : PySem.W.keepIn X.K (.ref g) = true)
    (lk : X.K.lookup g = some ⟨oc, od, .func (PySem.W.fnOf "_law_told" "_law_told" (defArgs sTold) (defBody sTold) (defScope sTold) .none kV dc pm an cdv ct), osl⟩) (hcg : PySem.W.codeIn X.K cdv "_law_told" = true) (b : Binds X.K (PySem.W.fnOf "_law_told" "_law_told" (defArgs sTold) (defBody sTold) (defScope sTold) .none kV dc pm an cdv ct) ["what"] [])
    (room : Room (k + 2) X.A) (ha : PA X [e] ta) (hg : Gl X "_law_told" := by rfl) (he : starEach [e] X.env = (false, eval e X.env) :: starEach [] X.env := by rfl) (hpl : (backTo pos (starEach [] X.env)).any (·.1) = false := by rfl) :
    PE X (.Call (.Name "_law_told" p) [e] [] pos) (tToldC X c k ta) := by
  refine ⟨fun pins s σ H Q I h => ?_⟩
  refine wpAny_Call_Name_kw (ld_glob I hg hm ?_ (by decide))
  refine PySem.W.callWith_K (h₀ := X.base) I.ok.mod.kin kp (thn (ha.run pos pins s σ H _ I h) fun us s1 ⟨vs, H1, I1, r, q⟩ => ⟨I1.kIn, ?_⟩) he hpl
  obtain ⟨f, cc, params, body, scope, t, rfl, atf, atc, L, binds, runs, q⟩ := q
  obtain rfl : us = [Value.ref f] := Vals.ref1 r
  have ran : codeAny (model X.prog X.w) X.A (.call (.ref g) ⟨[.ref f], []⟩) (CR (L2.CX X.prog X.w) X.stack X.prog X.w H1 s1 Q E0) s1 := by
    refine LamX.run_ofS (N := ["what"]) (ps := ["what"]) (us := [.ref f]) (vs := [.ref f]) lk hcg scTold room I1.env0 (b s1 [.ref f] I1.kIn rfl) (.cons rfl .nil) rfl fun room' => ?_
    refine ⟨_, pss_one (ps_try_many (tb := fun W D σZ HZ => ∃ E' : XK, (∀ cls d σ' H', E' cls d H' → W cls d σ' H') ∧ σZ[0]? = some (some (.ref f)) ∧ HZ f = some (LamC f (X.env.qual ++ "<lambda>") params body scope (cloFrom X.env.cells scope.names []) cc) ∧ HZ cc = some (LamX.CodeO cc (X.env.qual ++ "<lambda>")) ∧ t E' σ HZ D.rt) rfl rfl takes_none5
        (fun W pn xe tk _ => ⟨fun pz s' uz Hz D Iz h' => ?_⟩)
        (HdsOk.cons ⟨rfl, by decide, .inl (B.e 0 (by decide)).g⟩ (fun _ _ _ _ _ _ _ => pss_one (ps_ret pe_str)) (HdsOk.cons ⟨rfl, by decide, .inl (B.e 1 (by decide)).g⟩ (fun _ _ _ _ _ _ _ => pss_one (ps_ret pe_str)) (HdsOk.cons ⟨rfl, by decide, .inl (B.e 2 (by decide)).g⟩ (fun _ _ _ _ _ _ _ => pss_one (ps_ret pe_str)) (HdsOk.cons ⟨rfl, by decide, .inl (B.e 3 (by decide)).g⟩ (fun _ _ _ _ _ _ _ => pss_one (ps_ret pe_str)) (HdsOk.cons ⟨rfl, by decide, .inl (B.e 4 (by decide)).g⟩ (fun _ _ _ _ _ _ _ => pss_one (ps_ret pe_str)) (HdsOk.cons ⟨rfl, by decide, .inl (B.e 5 (by decide)).g⟩ (fun _ _ _ _ _ _ _ => pss_one (ps_ret pe_str)) (HdsOk.cons ⟨rfl, by decide, .inl (B.e 6 (by decide)).g⟩ (fun _ _ _ _ _ _ _ => pss_one (ps_ret pe_str)) (HdsOk.cons ⟨rfl, by decide, .inl (B.e 7 (by decide)).g⟩ (fun _ _ _ _ _ _ _ => pss_one (ps_ret pe_str)) (HdsOk.cons ⟨rfl, by decide, .inl (B.e 8 (by decide)).g⟩ (fun _ _ _ _ _ _ _ => pss_one (ps_ret pe_str)) (HdsOk.cons ⟨rfl, by decide, .inl (B.e 9 (by decide)).g⟩ (fun _ _ _ _ _ _ _ => pss_one (ps_ret pe_str)) (HdsOk.cons ⟨rfl, by decide, .inl (B.e 10 (by decide)).g⟩ (fun _ _ _ _ _ _ _ => pss_one (ps_ret pe_str)) (HdsOk.nil))))))))))))), ?_⟩
    · obtain ⟨E', hE, g1, g2, g3, g4⟩ := h'
      exact (pss_one (ps_ret (pe_actC (E := E') (i := 0) (k := k) I1 L binds tk hE room' (fun A outer s H hr2 => runs A outer s H E' hr2) rfl (.inl rfl)))).run pz s' uz Hz D Iz ⟨g1, g2, g3, g4⟩
    · refine ⟨ETold c Q, fun cls d σ' H' hE => ?_, rfl, atf, atc, q⟩
      obtain ⟨i, hi, rfl, q⟩ := hE
      exact ⟨decide (i = 0), B.m i 0 hi (by omega), fun hb _ _ => (by obtain rfl : i = 0 := of_decide_eq_true hb; exact q), fun hb0 => (by have n0 := of_decide_eq_false hb0; exact ⟨decide (i = 1), B.m i 1 hi (by omega), fun hb _ _ => (by obtain rfl : i = 1 := of_decide_eq_true hb; exact q), fun hb1 => (by have n1 := of_decide_eq_false hb1; exact ⟨decide (i = 2), B.m i 2 hi (by omega), fun hb _ _ => (by obtain rfl : i = 2 := of_decide_eq_true hb; exact q), fun hb2 => (by have n2 := of_decide_eq_false hb2; exact ⟨decide (i = 3), B.m i 3 hi (by omega), fun hb _ _ => (by obtain rfl : i = 3 := of_decide_eq_true hb; exact q), fun hb3 => (by have n3 := of_decide_eq_false hb3; exact ⟨decide (i = 4), B.m i 4 hi (by omega), fun hb _ _ => (by obtain rfl : i = 4 := of_decide_eq_true hb; exact q), fun hb4 => (by have n4 := of_decide_eq_false hb4; exact ⟨decide (i = 5), B.m i 5 hi (by omega), fun hb _ _ => (by obtain rfl : i = 5 := of_decide_eq_true hb; exact q), fun hb5 => (by have n5 := of_decide_eq_false hb5; exact ⟨decide (i = 6), B.m i 6 hi (by omega), fun hb _ _ => (by obtain rfl : i = 6 := of_decide_eq_true hb; exact q), fun hb6 => (by have n6 := of_decide_eq_false hb6; exact ⟨decide (i = 7), B.m i 7 hi (by omega), fun hb _ _ => (by obtain rfl : i = 7 := of_decide_eq_true hb; exact q), fun hb7 => (by have n7 := of_decide_eq_false hb7; exact ⟨decide (i = 8), B.m i 8 hi (by omega), fun hb _ _ => (by obtain rfl : i = 8 := of_decide_eq_true hb; exact q), fun hb8 => (by have n8 := of_decide_eq_false hb8; exact ⟨decide (i = 9), B.m i 9 hi (by omega), fun hb _ _ => (by obtain rfl : i = 9 := of_decide_eq_true hb; exact q), fun hb9 => (by have n9 := of_decide_eq_false hb9; exact ⟨decide (i = 10), B.m i 10 hi (by omega), fun hb _ _ => (by obtain rfl : i = 10 := of_decide_eq_true hb; exact q), fun hb10 => (by have n10 := of_decide_eq_false hb10; exact (by omega : False).elim)⟩)⟩)⟩)⟩)⟩)⟩)⟩)⟩)⟩)⟩)⟩
  refine wpAny_call (codeAny_mono ran fun r s2 got => ?_)
  cases r with
  | error e => exact passL pins σ H1 s1 e s2 I1 got
  | ok fl =>
    cases fl with
    | ret u => exact I1.after got
    | next => exact False.elim got
    | brk => exact False.elim got
    | cont => exact False.elim got
end Rw
namespace Rw
open PySem PySem.Spec PyProof.Rows L2 Evl Cy
/-! ### kinds of values: what stands for what -/
structure Ty (α : Type) where
  r : Hp → V → α → Prop
  up : ∀ {H H' : Hp} {v : V} {x : α}, Ex H H' → r H v x → r H' v x
inductive All2 {α β : Type} (R : α → β → Prop) : List α → List β → Prop
  | nil : All2 R [] []
  | cons {a b l m} : R a b → All2 R l m → All2 R (a :: l) (b :: m)
namespace All2
variable {α β : Type} {R S : α → β → Prop} {l : List α} {m : List β}
theorem imp (h : All2 R l m) (k : ∀ a b, R a b → S a b) : All2 S l m := by
  induction h with
  | nil => exact .nil
  | cons r _ ih => exact .cons (k _ _ r) ih
theorem len (h : All2 R l m) : l.length = m.length := by
  induction h with
  | nil => rfl
  | cons _ _ ih => rw [List.length_cons, List.length_cons, ih]
theorem app {l' : List α} {m' : List β} (h : All2 R l m) (k : All2 R l' m') : All2 R (l ++ l') (m ++ m') := by
  induction h with
  | nil => exact k
  | cons r _ ih => exact .cons r ih
theorem one {a : α} {b : β} (h : R a b) : All2 R [a] [b] := .cons h .nil
theorem at_ (h : All2 R l m) : ∀ {i : Nat} {a : α}, l[i]? = some a → ∃ b, m[i]? = some b ∧ R a b := by
  induction h with
  | nil => intro i a e; simp at e
  | cons r _ ih =>
    intro i a e
    cases i with
    | zero => exact ⟨_, rfl, by simp at e; rw [← e]; exact r⟩
    | succ i => exact ih (by simpa using e)
theorem at2 (h : All2 R l m) : ∀ {i : Nat} {b : β}, m[i]? = some b → ∃ a, l[i]? = some a ∧ R a b := by
  induction h with
  | nil => intro i a e; simp at e
  | cons r _ ih =>
    intro i a e
    cases i with
    | zero => exact ⟨_, rfl, by simp at e; rw [← e]; exact r⟩
    | succ i => exact ih (by simpa using e)
end All2
def kI : Ty Int := ⟨fun _ v x => v = .int x, fun _ h => h⟩
def kB : Ty Bool := ⟨fun _ v x => v = .bl x, fun _ h => h⟩
def kS : Ty Str := ⟨fun _ v x => v = .str x, fun _ h => h⟩
def kN : Ty Unit := ⟨fun _ v _ => v = .non, fun _ h => h⟩
/-- a pointer to what may change -/
def kPtr (d : Addr) : Ty Unit := ⟨fun _ v _ => v = .ref d, fun _ h => h⟩
/-- None, or what stands for a value (and is not None) -/
def kO {α : Type} (t : Ty α) : Ty (Option α) := ⟨fun H v x => match x with | none => v = .non | some y => t.r H v y ∧ v ≠ .non, fun {H H' v x} e h => by
  cases x with
  | none => exact h
  | some y => exact ⟨t.up e h.1, h.2⟩⟩
section
variable (K : PySem.W.Frag) {α β γ δ ε ζ : Type}
theorem all2_up (t : Ty α) {H H' : Hp} (e : Ex H H') {vs : List V} {xs : List α} (h : All2 (t.r H) vs xs) : All2 (t.r H') vs xs := h.imp fun _ _ => t.up e
def kL (t : Ty α) : Ty (List α) := ⟨fun H v xs => ∃ p vs, v = .ref p ∧ SqL K H p vs ∧ All2 (t.r H) vs xs, fun e ⟨p, vs, a, b, c⟩ => ⟨p, vs, a, ex_l e b, all2_up t e c⟩⟩
def kT (t : Ty α) : Ty (List α) := ⟨fun H v xs => ∃ p vs, v = .ref p ∧ SqT K H p vs ∧ All2 (t.r H) vs xs, fun e ⟨p, vs, a, b, c⟩ => ⟨p, vs, a, ex_t e b, all2_up t e c⟩⟩
def k2 (a : Ty α) (b : Ty β) : Ty (α × β) := ⟨fun H v x => ∃ p u w, v = .ref p ∧ SqT K H p [u, w] ∧ a.r H u x.1 ∧ b.r H w x.2, fun e ⟨p, u, w, h1, h2, h3, h4⟩ => ⟨p, u, w, h1, ex_t e h2, a.up e h3, b.up e h4⟩⟩
def k3 (a : Ty α) (b : Ty β) (c : Ty γ) : Ty (α × β × γ) := ⟨fun H v x => ∃ p u1 u2 u3, v = .ref p ∧ SqT K H p [u1, u2, u3] ∧ a.r H u1 x.1 ∧ b.r H u2 x.2.1 ∧ c.r H u3 x.2.2, fun e ⟨p, u1, u2, u3, h1, h2, h3, h4, h5⟩ => ⟨p, u1, u2, u3, h1, ex_t e h2, a.up e h3, b.up e h4, c.up e h5⟩⟩
end
/-! ### the heap but for what may change -/
def del (M : List Addr) (H : Hp) : Hp := fun a => if a ∈ M then none else H a
section
variable {M A : List Addr} {H H' H1 H2 : Hp} {a d p : Addr} {o : HO}
theorem del_some : del M H a = some o ↔ a ∉ M ∧ H a = some o := by
  unfold del
  by_cases h : a ∈ M
  · simp [h]
  · simp [h]
theorem ex_del (e : Ex H H') : Ex (del M H) (del M H') := fun a o h => del_some.mpr ⟨(del_some.mp h).1, e _ _ (del_some.mp h).2⟩
theorem del_le : Ex (del M H) H := fun a o h => (del_some.mp h).2
/-- less is kept, more may change -/
theorem ex_sub (s : ∀ a ∈ A, a ∈ M) (e : Ex (del A H) (del A H')) : Ex (del M H) (del M H') := fun a o h => by
  obtain ⟨n, h⟩ := del_some.mp h
  exact del_some.mpr ⟨n, (del_some.mp (e a o (del_some.mpr ⟨fun z => n (s a z), h⟩))).2⟩
theorem ex_of {H H' : Hp} (e : Ex H H') : Ex (del A H) (del A H') := ex_del e
/-- something new becomes changeable -/
theorem del_new (h : H p = none) : Ex (del M H) (del (p :: M) H) := fun a o e => by
  obtain ⟨n, e⟩ := del_some.mp e
  refine del_some.mpr ⟨fun z => ?_, e⟩
  rcases List.mem_cons.mp z with z | z
  · rw [z, h] at e; cases e
  · exact n z
theorem del_free : Ex (del (p :: M) H) (del M H) := fun a o e => by
  obtain ⟨n, e⟩ := del_some.mp e
  exact del_some.mpr ⟨fun z => n (List.mem_cons_of_mem _ z), e⟩
theorem del_upd (h : d ∈ M) : del M (upd H d o) = del M H := by
  funext a
  unfold del
  by_cases k : a ∈ M
  · rw [if_pos k, if_pos k]
  · rw [if_neg k, if_neg k]
    exact upd_ne fun z => k (by rw [z]; exact h)
theorem del_nil : del [] H = H := rfl
end
/-! ### what may change, and what it is -/
structure Cell where
  a : Addr
  α : Type
  r : Hp → HO → α → Prop
  up : ∀ {H H' : Hp} {o : HO} {x : α}, Ex H H' → r H o x → r H' o x
  x : α
abbrev ads (S : List Cell) : List Addr := S.map (·.a)
structure Holds (M : List Addr) (S : List Cell) (H : Hp) : Prop where
  at_ : ∀ c ∈ S, c.a ∈ M ∧ ∃ o, H c.a = some o ∧ c.r (del M H) o c.x
  one : (ads S).Nodup
  live : ∀ m ∈ M, H m ≠ none
/-- three numbers: dice | a list in the making -/
def cDice (d : Addr) (x : Int × Int × Int) : Cell := ⟨d, Int × Int × Int, fun _ o x => o = .lst [.int x.1, .int x.2.1, .int x.2.2], fun _ h => h, x⟩
def cL {α : Type} (d : Addr) (t : Ty α) (x : List α) : Cell := ⟨d, List α, fun H o x => ∃ vs, o = .lst vs ∧ All2 (t.r H) vs x, fun e ⟨vs, a, b⟩ => ⟨vs, a, all2_up t e b⟩, x⟩
section
variable {M : List Addr} {S S' : List Cell} {H H' H1 H2 : Hp} {a d p : Addr} {o : HO}
theorem Holds.sub (w : Holds M S H) : ∀ a ∈ ads S, a ∈ M := fun a h => by
  obtain ⟨c, hc, e⟩ := List.mem_map.mp h
  rw [← e]
  exact (w.at_ c hc).1
theorem Holds.grow (w : Holds M S H) (e : Ex (del (ads S) H) (del (ads S) H')) : Ex (del M H) (del M H') := ex_sub w.sub e
theorem Holds.ex (w : Holds M S H) (e : Ex H H') : Holds M S H' :=
  ⟨fun c hc => let ⟨h1, o, h2, h3⟩ := w.at_ c hc; ⟨h1, o, e _ _ h2, c.up (ex_del e) h3⟩, w.one, fun m hm => by
    cases h : H m with
    | none => exact absurd h (w.live m hm)
    | some o => rw [e m o h]; exact fun z => nomatch z⟩
/-- a cell is written -/
theorem Holds.put {k : Nat} {c c' : Cell} (w : Holds M S H) (hk : S[k]? = some c) (ha : c'.a = c.a) (hr : c'.r (del M H) o c'.x) : Holds M (S.set k c') (upd H c.a o) := by
  have lt : k < S.length := (List.getElem?_eq_some_iff.mp hk).1
  have hm : c.a ∈ M := (w.at_ c (List.mem_of_getElem? hk)).1
  have e : ads (S.set k c') = ads S := by
    unfold ads
    rw [List.map_set]
    apply List.ext_getElem? fun i => ?_
    rw [List.getElem?_set]
    by_cases h : k = i
    · subst h
      rw [if_pos rfl, List.length_map, if_pos lt, List.getElem?_map, hk, ha]
      rfl
    · rw [if_neg h]
  refine ⟨fun x hx => ?_, by rw [e]; exact w.one, fun m hm => by
    unfold upd
    split
    · exact fun z => nomatch z
    · exact w.live m hm⟩
  rw [del_upd hm]
  obtain ⟨i, hi⟩ := List.mem_iff_getElem?.mp hx
  rw [List.getElem?_set] at hi
  by_cases h : k = i
  · subst h
    rw [if_pos rfl, if_pos lt] at hi
    obtain rfl := Option.some.inj hi
    exact ⟨by rw [ha]; exact hm, o, by rw [ha]; exact upd_same, hr⟩
  · rw [if_neg h] at hi
    obtain ⟨h1, u, h2, h3⟩ := w.at_ x (List.mem_of_getElem? hi)
    refine ⟨h1, u, ?_, h3⟩
    rw [upd_ne ?_]
    · exact h2
    · intro z
      have g1 : (ads S)[i]? = some x.a := by unfold ads; rw [List.getElem?_map, hi]; rfl
      have g2 : (ads S)[k]? = some c.a := by unfold ads; rw [List.getElem?_map, hk]; rfl
      rw [z] at g1
      have li : i < (ads S).length := (List.getElem?_eq_some_iff.mp g1).1
      have q := (List.getElem?_inj li w.one).mp (g1.trans g2.symm)
      exact h q.symm
theorem ads_set {k : Nat} {c c' : Cell} (hk : S[k]? = some c) (ha : c'.a = c.a) : ads (S.set k c') = ads S := by
  have lt : k < S.length := (List.getElem?_eq_some_iff.mp hk).1
  unfold ads
  rw [List.map_set]
  apply List.ext_getElem? fun i => ?_
  rw [List.getElem?_set]
  by_cases h : k = i
  · subst h
    rw [if_pos rfl, List.length_map, if_pos lt, List.getElem?_map, hk, ha]
    rfl
  · rw [if_neg h]
/-- something new that may change -/
theorem Holds.new {c : Cell} (w : Holds M S H) (hn : H c.a = none) (e : Ex H H') (hc : H' c.a = some o) (hr : c.r (del (c.a :: M) H') o c.x) : Holds (c.a :: M) (c :: S) H' := by
  have w' := w.ex e
  have nm : c.a ∉ M := fun z => w.live _ z hn
  refine ⟨fun x hx => ?_, ?_, fun m hm => ?_⟩
  · rcases List.mem_cons.mp hx with z | z
    · rw [z]
      exact ⟨List.mem_cons_self, o, hc, hr⟩
    · obtain ⟨h1, u, h2, h3⟩ := w.at_ x z
      exact ⟨List.mem_cons_of_mem _ h1, u, e _ _ h2, x.up ((del_new hn).trans (ex_del e)) h3⟩
  · show (c.a :: ads S).Nodup
    exact List.nodup_cons.mpr ⟨fun z => nm (w.sub _ z), w.one⟩
  · rcases List.mem_cons.mp hm with z | z
    · rw [z, hc]
      exact fun z => nomatch z
    · exact w'.live m z
/-- it changes no more -/
theorem Holds.drop {c : Cell} (w : Holds (c.a :: M) (c :: S) H) (hn : c.a ∉ M) : Holds M S H := by
  refine ⟨fun x hx => ?_, (List.nodup_cons.mp w.one).2, fun m hm => w.live m (List.mem_cons_of_mem _ hm)⟩
  obtain ⟨h1, u, h2, h3⟩ := w.at_ x (List.mem_cons_of_mem _ hx)
  refine ⟨?_, u, h2, x.up del_free h3⟩
  rcases List.mem_cons.mp h1 with z | z
  · exact absurd (List.mem_map.mpr ⟨x, hx, z⟩) (List.nodup_cons.mp w.one).1
  · exact z
end
end Rw
namespace Rw
open PySem PySem.Spec PyProof.Rows L2 Evl Cy
/-- an answer, or an error's kind -/
inductive Re (α : Type) where
  | ok (x : α)
  | er (k : Nat)
def Re.bind {α β : Type} (r : Re α) (f : α → Re β) : Re β := match r with | .ok x => f x | .er k => .er k
/-- what an expression comes to: from any heap that has I beside what may change (M, told by S) -/
structure Em {α : Type} (E : XK) (cl : Nat → Addr) (M : List Addr) (te : TE) (σ : L2.St) (I : Hp) (S : List Cell) (t : Ty α) (r : Re α) (S' : List Cell) : Prop where
  ad : ads S' = ads S
  run : ∀ H1, Ex I (del M H1) → Holds M S H1 → ∀ Q : VK, (∀ x v H2, r = .ok x → Ex (del (ads S) H1) (del (ads S) H2) → Holds M S' H2 → t.r (del M H2) v x → Q v H2) →
    (∀ k H2, r = .er k → Ex (del (ads S) H1) (del (ads S) H2) → Holds M S' H2 → E (.ref (cl k)) none H2) → te σ H1 Q
structure Et (E : XK) (cl : Nat → Addr) (M : List Addr) (tt : TT) (σ : L2.St) (I : Hp) (S : List Cell) (r : Re Bool) (S' : List Cell) : Prop where
  ad : ads S' = ads S
  run : ∀ H1, Ex I (del M H1) → Holds M S H1 → ∀ Q : Bool → Hp → Prop, (∀ b H2, r = .ok b → Ex (del (ads S) H1) (del (ads S) H2) → Holds M S' H2 → Q b H2) →
    (∀ k H2, r = .er k → Ex (del (ads S) H1) (del (ads S) H2) → Holds M S' H2 → E (.ref (cl k)) none H2) → tt σ H1 Q
structure Ea {α : Type} (E : XK) (cl : Nat → Addr) (M : List Addr) (ta : TA) (σ : L2.St) (I : Hp) (S : List Cell) (A : Hp → List V → α → Prop) (r : Re α) (S' : List Cell) : Prop where
  ad : ads S' = ads S
  run : ∀ H1, Ex I (del M H1) → Holds M S H1 → ∀ Q : List V → Hp → Prop, (∀ x vs H2, r = .ok x → Ex (del (ads S) H1) (del (ads S) H2) → Holds M S' H2 → A (del M H2) vs x → Q vs H2) →
    (∀ k H2, r = .er k → Ex (del (ads S) H1) (del (ads S) H2) → Holds M S' H2 → E (.ref (cl k)) none H2) → ta σ H1 Q
abbrev AR (α : Type) := Hp → List V → α → Prop
def a0 : AR Unit := fun _ vs _ => vs = []
def aC {α β : Type} (t : Ty α) (A : AR β) : AR (α × β) := fun H vs a => ∃ v r, vs = v :: r ∧ t.r H v a.1 ∧ A H r a.2
/-- an operation on values -/
def Op2 {α β γ : Type} (r : R2) (q1 : Ty α) (x : α) (q2 : Ty β) (y : β) (q3 : Ty γ) (z : γ) : Prop :=
  ∀ (M : List Addr) (u w : V) (H : Hp), (∀ m ∈ M, H m ≠ none) → q1.r (del M H) u x → q2.r (del M H) w y → ∀ Q : VK, (∀ v H', Ex H H' → q3.r (del M H') v z → Q v H') → r u w H Q
def Op1 {α γ : Type} (r : V → Hp → VK → Prop) (q1 : Ty α) (x : α) (q3 : Ty γ) (z : γ) : Prop :=
  ∀ (M : List Addr) (u : V) (H : Hp), (∀ m ∈ M, H m ≠ none) → q1.r (del M H) u x → ∀ Q : VK, (∀ v H', Ex H H' → q3.r (del M H') v z → Q v H') → r u H Q
def OpN {α γ : Type} (r : List V → Hp → VK → Prop) (A : AR α) (x : α) (q3 : Ty γ) (z : γ) : Prop :=
  ∀ (M : List Addr) (us : List V) (H : Hp), (∀ m ∈ M, H m ≠ none) → A (del M H) us x → ∀ Q : VK, (∀ v H', Ex H H' → q3.r (del M H') v z → Q v H') → r us H Q
section
variable {α β γ δ : Type} {E : XK} {cl : Nat → Addr} {M : List Addr} {σ : L2.St} {I I' H H' : Hp} {S S' S1 S2 S3 : List Cell} {te ta tb tc to : TE} {tt tu : TT} {tr : TA} {t : Ty α} {u : Ty β} {w : Ty γ} {x : α} {y : β} {z : γ} {v : V}
theorem ads_tr (a : ads S1 = ads S) (e1 : Ex (del (ads S) H) (del (ads S) H')) {H2 : Hp} (e2 : Ex (del (ads S1) H') (del (ads S1) H2)) : Ex (del (ads S) H) (del (ads S) H2) := by
  rw [a] at e2
  exact e1.trans e2
theorem Em.mono (h : Em E cl M te σ I S t (.ok x) S') (e : Ex I I') : Em E cl M te σ I' S t (.ok x) S' := ⟨h.ad, fun H1 a => h.run H1 (e.trans a)⟩
theorem em_eq {x' : α} (h : Em E cl M te σ I S t (.ok x) S') (e : x = x') : Em E cl M te σ I S t (.ok x') S' := by
  rw [← e]
  exact h
theorem et_eq {b b' : Bool} (h : Et E cl M tt σ I S (.ok b) S') (e : b = b') : Et E cl M tt σ I S (.ok b') S' := by
  rw [← e]
  exact h
/-- another kind of the same value -/
theorem em_ty {t' : Ty β} {x' : β} (h : Em E cl M te σ I S t (.ok x) S') (k : ∀ H v, t.r H v x → t'.r H v x') : Em E cl M te σ I S t' (.ok x') S' :=
  ⟨h.ad, fun H1 a b Q q _ => h.run H1 a b Q (fun x2 v H2 e f g r => q _ v H2 rfl f g (by cases e; exact k _ _ r)) (fun k H2 e => nomatch e)⟩
/-- nothing is raised: from a plain evaluation -/
theorem em_mk (a : ads S' = ads S) (h : ∀ H1, Ex I (del M H1) → Holds M S H1 → ∀ Q : VK, (∀ v H2, Ex (del (ads S) H1) (del (ads S) H2) → Holds M S' H2 → t.r (del M H2) v x → Q v H2) → te σ H1 Q) : Em E cl M te σ I S t (.ok x) S' :=
  ⟨a, fun H1 i w Q q _ => h H1 i w Q fun v H2 e w' r => q x v H2 rfl e w' r⟩
theorem em_of (h : Em E cl M te σ I S t (.ok x) S') (H1 : Hp) (i : Ex I (del M H1)) (w : Holds M S H1) (Q : VK) (q : ∀ v H2, Ex (del (ads S) H1) (del (ads S) H2) → Holds M S' H2 → t.r (del M H2) v x → Q v H2) : te σ H1 Q :=
  h.run H1 i w Q (fun x2 v H2 e f g r => q v H2 f g (by cases e; exact r)) (fun k H2 e => nomatch e)
theorem et_of {b : Bool} (h : Et E cl M tt σ I S (.ok b) S') (H1 : Hp) (i : Ex I (del M H1)) (w : Holds M S H1) (Q : Bool → Hp → Prop) (q : ∀ H2, Ex (del (ads S) H1) (del (ads S) H2) → Holds M S' H2 → Q b H2) : tt σ H1 Q :=
  h.run H1 i w Q (fun x2 H2 e f g => by cases e; exact q H2 f g) (fun k H2 e => nomatch e)
theorem ea_of {A : AR α} (h : Ea E cl M tr σ I S A (.ok x) S') (H1 : Hp) (i : Ex I (del M H1)) (w : Holds M S H1) (Q : List V → Hp → Prop) (q : ∀ vs H2, Ex (del (ads S) H1) (del (ads S) H2) → Holds M S' H2 → A (del M H2) vs x → Q vs H2) : tr σ H1 Q :=
  h.run H1 i w Q (fun x2 v H2 e f g r => q v H2 f g (by cases e; exact r)) (fun k H2 e => nomatch e)
theorem et_mk {b : Bool} (a : ads S' = ads S) (h : ∀ H1, Ex I (del M H1) → Holds M S H1 → ∀ Q : Bool → Hp → Prop, (∀ H2, Ex (del (ads S) H1) (del (ads S) H2) → Holds M S' H2 → Q b H2) → tt σ H1 Q) : Et E cl M tt σ I S (.ok b) S' :=
  ⟨a, fun H1 i w Q q _ => h H1 i w Q fun H2 e w' => q b H2 rfl e w'⟩
theorem em_var {i : Nat} (h : σ[i]? = some (some v)) (r : t.r I v x) : Em E cl M (tVar i) σ I S t (.ok x) S :=
  em_mk rfl fun H1 i w Q q => ⟨v, h, q v H1 (Ex.refl _) w (t.up i r)⟩
theorem em_c (r : t.r I v x) : Em E cl M (tC v) σ I S t (.ok x) S :=
  em_mk rfl fun H1 i w Q q => q v H1 (Ex.refl _) w (t.up i r)
theorem em_int {i : Int} : Em E cl M (tC (.int i)) σ I S kI (.ok i) S := em_c rfl
theorem em_bl {b : Bool} : Em E cl M (tC (.bl b)) σ I S kB (.ok b) S := em_c rfl
theorem em_str {s : Str} : Em E cl M (tC (.str s)) σ I S kS (.ok s) S := em_c rfl
theorem em_op {r : R2} (ha : Em E cl M ta σ I S t (.ok x) S1) (hb : Em E cl M tb σ I S1 u (.ok y) S2) (ho : Op2 r t x u y w z) : Em E cl M (tOp r ta tb) σ I S w (.ok z) S2 :=
  em_mk (hb.ad.trans ha.ad) fun H1 i w Q q => em_of ha H1 i w _ fun v1 H2 e1 w1 r1 => em_of hb H2 (i.trans (w.grow e1)) w1 _ fun v2 H3 e2 w2 r2 =>
    ho M v1 v2 H3 w2.live (t.up (w1.grow e2) r1) r2 Q fun v H4 e3 r3 => q v H4 ((ads_tr ha.ad e1 e2).trans (ex_del e3)) (w2.ex e3) r3
theorem em_un {r : V → Hp → VK → Prop} (ha : Em E cl M ta σ I S t (.ok x) S1) (ho : Op1 r t x w z) : Em E cl M (tUn r ta) σ I S w (.ok z) S1 :=
  em_mk ha.ad fun H1 i w Q q => em_of ha H1 i w _ fun v1 H2 e1 w1 r1 => ho M v1 H2 w1.live r1 Q fun v H4 e3 r3 => q v H4 (e1.trans (ex_del e3)) (w1.ex e3) r3
/-- a < b < c, nothing changed by the last -/
theorem em_chain {r r' : R2} {b b' : Bool} (ha : Em E cl M ta σ I S t (.ok x) S1) (hb : Em E cl M tb σ I S1 u (.ok y) S2) (hc : b = true → Em E cl M tc σ I S2 w (.ok z) S2) (ho : Op2 r t x u y kB b) (ho' : Op2 r' u y w z kB b') : Em E cl M (tChain r r' ta tb tc) σ I S kB (.ok (b && b')) S2 :=
  em_mk (hb.ad.trans ha.ad) fun H1 i w Q q => em_of ha H1 i w _ fun v1 H2 e1 w1 r1 => em_of hb H2 (i.trans (w.grow e1)) w1 _ fun v2 H3 e2 w2 r2 =>
    ho M v1 v2 H3 w2.live (t.up (w1.grow e2) r1) r2 _ fun v H4 e3 r3 => by
      have e13 := (ads_tr ha.ad e1 e2).trans (ex_del e3)
      refine ⟨b, r3, ?_⟩
      cases b with
      | true =>
        rw [if_pos rfl]
        refine em_of (hc rfl) H4 (i.trans (w.grow e13)) (w2.ex e3) _ fun v4 H5 e4 w4 r4 => ?_
        have a2 : ads S2 = ads S := hb.ad.trans ha.ad
        have w3 := w2.ex e3
        refine ho' M v2 v4 H5 w4.live (u.up ((ex_del e3).trans (w3.grow e4)) r2) r4 Q fun v5 H6 e5 r5 => q v5 H6 ((ads_tr a2 e13 e4).trans (ex_del e5)) (w4.ex e5) ?_
        rw [Bool.true_and]
        exact r5
      | false =>
        rw [if_neg Bool.false_ne_true]
        exact q _ H4 e13 (w2.ex e3) rfl
/-- tests -/
theorem gt_test {b : Bool} (h : Em E cl M te σ I S kB (.ok b) S') : Et E cl M (tTest te) σ I S (.ok b) S' := et_mk h.ad fun H1 i w Q q => em_of h H1 i w _ fun v H2 e w' r => ⟨b, r, q H2 e w'⟩
theorem gt_B {b : Bool} (h : Em E cl M te σ I S kB (.ok b) S') : Et E cl M (L2.tB te) σ I S (.ok b) S' := et_mk h.ad fun H1 i w Q q => em_of h H1 i w _ fun v H2 e w' r => ⟨b, r, q H2 e w'⟩
theorem gt_yes : Et E cl M tYes σ I S (.ok true) S := et_mk rfl fun H1 i w Q q => q H1 (Ex.refl _) w
theorem gt_not {b : Bool} (h : Et E cl M tt σ I S (.ok b) S') : Et E cl M (tNot tt) σ I S (.ok (!b)) S' := et_mk h.ad fun H1 i w Q q => et_of h H1 i w _ fun H2 e w' => q H2 e w'
theorem gt_and {a b : Bool} (h : Et E cl M tt σ I S (.ok a) S1) (k : a = true → Et E cl M tu σ I S1 (.ok b) S1) : Et E cl M (tAnd tt tu) σ I S (.ok (a && b)) S1 := et_mk h.ad fun H1 i w Q q => et_of h H1 i w _ fun H2 e w' => by
  cases a with
  | true =>
    rw [if_pos rfl]
    exact et_of (k rfl) H2 (i.trans (w.grow e)) w' _ fun H3 e2 w2 => q H3 (ads_tr h.ad e e2) w2
  | false =>
    rw [if_neg Bool.false_ne_true]
    exact q H2 e w'
theorem gt_or {a b : Bool} (h : Et E cl M tt σ I S (.ok a) S1) (k : a = false → Et E cl M tu σ I S1 (.ok b) S1) : Et E cl M (tOr tt tu) σ I S (.ok (a || b)) S1 := et_mk h.ad fun H1 i w Q q => et_of h H1 i w _ fun H2 e w' => by
  cases a with
  | true =>
    rw [if_pos rfl]
    exact q H2 e w'
  | false =>
    rw [if_neg Bool.false_ne_true]
    exact et_of (k rfl) H2 (i.trans (w.grow e)) w' _ fun H3 e2 w2 => q H3 (ads_tr h.ad e e2) w2
theorem em_andV {a b : Bool} (h : Em E cl M ta σ I S kB (.ok a) S1) (k : a = true → Em E cl M tb σ I S1 kB (.ok b) S1) : Em E cl M (tAndV ta tb) σ I S kB (.ok (a && b)) S1 := em_mk h.ad fun H1 i w Q q => em_of h H1 i w _ fun v H2 e w' r => by
  refine ⟨a, r, ?_⟩
  cases a with
  | true =>
    rw [if_pos rfl]
    exact em_of (k rfl) H2 (i.trans (w.grow e)) w' _ fun v2 H3 e2 w2 r2 => q v2 H3 (ads_tr h.ad e e2) w2 r2
  | false =>
    rw [if_neg Bool.false_ne_true]
    exact q _ H2 e w' rfl
theorem em_orV {a b : Bool} (h : Em E cl M ta σ I S kB (.ok a) S1) (k : a = false → Em E cl M tb σ I S1 kB (.ok b) S1) : Em E cl M (tOrV ta tb) σ I S kB (.ok (a || b)) S1 := em_mk h.ad fun H1 i w Q q => em_of h H1 i w _ fun v H2 e w' r => by
  refine ⟨a, r, ?_⟩
  cases a with
  | true =>
    rw [if_pos rfl]
    exact q _ H2 e w' rfl
  | false =>
    rw [if_neg Bool.false_ne_true]
    exact em_of (k rfl) H2 (i.trans (w.grow e)) w' _ fun v2 H3 e2 w2 r2 => q v2 H3 (ads_tr h.ad e e2) w2 r2
theorem em_notV {a : Bool} (h : Em E cl M ta σ I S kB (.ok a) S1) : Em E cl M (tNotV ta) σ I S kB (.ok (!a)) S1 := em_mk h.ad fun H1 i w Q q => em_of h H1 i w _ fun v H2 e w' r => ⟨a, r, q _ H2 e w' rfl⟩
theorem em_if {b : Bool} {x' : α} (h : Et E cl M tt σ I S (.ok b) S1) (h1 : b = true → Em E cl M ta σ I S1 t (.ok x) S1) (h2 : b = false → Em E cl M tb σ I S1 t (.ok x') S1) : Em E cl M (tIf tt ta tb) σ I S t (.ok (cond b x x')) S1 := em_mk h.ad fun H1 i w Q q => et_of h H1 i w _ fun H2 e w' => by
  cases b with
  | true =>
    rw [if_pos rfl]
    exact em_of (h1 rfl) H2 (i.trans (w.grow e)) w' _ fun v2 H3 e2 w2 r2 => q v2 H3 (ads_tr h.ad e e2) w2 r2
  | false =>
    rw [if_neg Bool.false_ne_true]
    exact em_of (h2 rfl) H2 (i.trans (w.grow e)) w' _ fun v2 H3 e2 w2 r2 => q v2 H3 (ads_tr h.ad e e2) w2 r2
/-- arguments, displays -/
theorem em_nil : Ea E cl M tNil σ I S a0 (.ok ()) S := ⟨rfl, fun H1 i w Q q _ => q () [] H1 rfl (Ex.refl _) w rfl⟩
theorem em_cons {A : AR β} (h : Em E cl M te σ I S t (.ok x) S1) (k : Ea E cl M tr σ I S1 A (.ok y) S2) : Ea E cl M (tCons te tr) σ I S (aC t A) (.ok (x, y)) S2 :=
  ⟨k.ad.trans h.ad, fun H1 i w Q q _ => em_of h H1 i w _ fun v H2 e w1 r => ea_of k H2 (i.trans (w.grow e)) w1 _ fun vs H3 e2 w2 r2 => q (x, y) (v :: vs) H3 rfl (ads_tr h.ad e e2) w2 ⟨v, vs, rfl, t.up (w1.grow e2) r, r2⟩⟩
variable (K : PySem.W.Frag)
theorem fresh_not {M : List Addr} {H : Hp} {p : Addr} (l : ∀ m ∈ M, H m ≠ none) (h : H p = none) : p ∉ M := fun z => l p z h
theorem del_at {M : List Addr} {H : Hp} {p : Addr} {o : HO} (n : p ∉ M) (h : H p = some o) : del M H p = some o := del_some.mpr ⟨n, h⟩
theorem em_t2 (h : Ea E cl M tr σ I S (aC t (aC u a0)) (.ok (x, y, ())) S') : Em E cl M (tTup tr) σ I S (k2 K t u) (.ok (x, y)) S' :=
  em_mk h.ad fun H1 i w Q q => ea_of h H1 i w _ fun vs H2 e w1 r => by
    obtain ⟨v1, r1, rfl, g1, v2, r2, rfl, g2, rfl⟩ := r
    refine ⟨by show 2 ≤ sizeLine; decide, fun p hp => q _ _ (e.trans (ex_del (Ex.new hp))) (w1.ex (Ex.new hp)) ⟨p, v1, v2, rfl, st_of (del_at (fresh_not w1.live hp) upd_same), t.up (ex_del (Ex.new hp)) g1, u.up (ex_del (Ex.new hp)) g2⟩⟩
theorem em_t3 (h : Ea E cl M tr σ I S (aC t (aC u (aC w a0))) (.ok (x, y, z, ())) S') : Em E cl M (tTup tr) σ I S (k3 K t u w) (.ok (x, y, z)) S' :=
  em_mk h.ad fun H1 i w0 Q q => ea_of h H1 i w0 _ fun vs H2 e w1 r => by
    obtain ⟨v1, r1, rfl, g1, v2, r2, rfl, g2, v3, r3, rfl, g3, rfl⟩ := r
    refine ⟨by show 3 ≤ sizeLine; decide, fun p hp => q _ _ (e.trans (ex_del (Ex.new hp))) (w1.ex (Ex.new hp)) ⟨p, v1, v2, v3, rfl, st_of (del_at (fresh_not w1.live hp) upd_same), t.up (ex_del (Ex.new hp)) g1, u.up (ex_del (Ex.new hp)) g2, w.up (ex_del (Ex.new hp)) g3⟩⟩
/-- all of one kind -/
def aL (t : Ty α) : AR (List α) := fun H vs xs => All2 (t.r H) vs xs
theorem em_nilL : Ea E cl M tNil σ I S (aL t) (.ok []) S := ⟨rfl, fun H1 i w Q q _ => q _ [] H1 rfl (Ex.refl _) w .nil⟩
theorem em_consL {xs : List α} (h : Em E cl M te σ I S t (.ok x) S1) (k : Ea E cl M tr σ I S1 (aL t) (.ok xs) S2) : Ea E cl M (tCons te tr) σ I S (aL t) (.ok (x :: xs)) S2 :=
  ⟨k.ad.trans h.ad, fun H1 i w Q q _ => em_of h H1 i w _ fun v H2 e w1 r => ea_of k H2 (i.trans (w.grow e)) w1 _ fun vs H3 e2 w2 r2 => q _ (v :: vs) H3 rfl (ads_tr h.ad e e2) w2 (.cons (t.up (w1.grow e2) r) r2)⟩
theorem em_lst {xs : List α} (h : Ea E cl M tr σ I S (aL t) (.ok xs) S') (hl : xs.length ≤ 100000) : Em E cl M (tLst tr) σ I S (kL K t) (.ok xs) S' :=
  em_mk h.ad fun H1 i w Q q => ea_of h H1 i w _ fun vs H2 e w1 r => ⟨sz_of (by rw [r.len]; exact hl), fun p hp => q _ _ (e.trans (ex_del (Ex.new hp))) (w1.ex (Ex.new hp)) ⟨p, vs, rfl, sq_of (del_at (fresh_not w1.live hp) upd_same), all2_up t (ex_del (Ex.new hp)) r⟩⟩
theorem em_tupL {xs : List α} (h : Ea E cl M tr σ I S (aL t) (.ok xs) S') (hl : xs.length ≤ 100000) : Em E cl M (tTup tr) σ I S (kT K t) (.ok xs) S' :=
  em_mk h.ad fun H1 i w Q q => ea_of h H1 i w _ fun vs H2 e w1 r => ⟨sz_of (by rw [r.len]; exact hl), fun p hp => q _ _ (e.trans (ex_del (Ex.new hp))) (w1.ex (Ex.new hp)) ⟨p, vs, rfl, st_of (del_at (fresh_not w1.live hp) upd_same), all2_up t (ex_del (Ex.new hp)) r⟩⟩
variable {K}
theorem em_cb {A : AR α} {r : List V → Hp → VK → Prop} (h : Ea E cl M tr σ I S A (.ok x) S') (ho : OpN r A x w z) : Em E cl M (tCB r tr) σ I S w (.ok z) S' :=
  em_mk h.ad fun H1 i w Q q => ea_of h H1 i w _ fun vs H2 e w1 r => ho M vs H2 w1.live r Q fun v H3 e3 r3 => q v H3 (e.trans (ex_del e3)) (w1.ex e3) r3
end
/-! ### operations -/
section
variable {K : PySem.W.Frag} {α β γ : Type} {i j : Int} {b c : Bool} {s s' : Str} {t : Ty α} {u : Ty β}
theorem o_I {g : Int → Int → Int} : Op2 (rI0 fun i j => .int (g i j)) kI i kI j kI (g i j) := fun M u w H l a b Q q => ⟨i, j, a, b, q _ H (Ex.refl H) rfl⟩
theorem o_IB {g : Int → Int → Bool} : Op2 (rI0 fun i j => .bl (g i j)) kI i kI j kB (g i j) := fun M u w H l a b Q q => ⟨i, j, a, b, q _ H (Ex.refl H) rfl⟩
theorem o_IC {C : Int → Int → Prop} {g : Int → Int → Int} (h : C i j) : Op2 (rI C fun i j => .int (g i j)) kI i kI j kI (g i j) := fun M u w H l a b Q q => ⟨i, j, a, b, h, q _ H (Ex.refl H) rfl⟩
theorem o_eqI : Op2 rEq kI i kI j kB (decide (i = j)) := fun M u w H l a b Q q => by
  cases a; cases b
  exact ⟨rfl, q _ H (Ex.refl H) (by show V.bl _ = V.bl _; congr 1; simp)⟩
theorem o_neI : Op2 rNe kI i kI j kB (!decide (i = j)) := fun M u w H l a b Q q => by
  cases a; cases b
  exact ⟨rfl, q _ H (Ex.refl H) (by show V.bl _ = V.bl _; congr 1; simp)⟩
theorem o_eqS : Op2 rEq kS s kS s' kB (decide (s = s')) := fun M u w H l a b Q q => by
  cases a; cases b
  exact ⟨rfl, q _ H (Ex.refl H) (by show V.bl _ = V.bl _; congr 1; simp)⟩
theorem o_neS : Op2 rNe kS s kS s' kB (!decide (s = s')) := fun M u w H l a b Q q => by
  cases a; cases b
  exact ⟨rfl, q _ H (Ex.refl H) (by show V.bl _ = V.bl _; congr 1; simp)⟩
theorem o_eqB : Op2 rEq kB b kB c kB (decide (b = c)) := fun M u w H l a b Q q => by
  cases a; cases b
  exact ⟨rfl, q _ H (Ex.refl H) (by show V.bl _ = V.bl _; congr 1; simp)⟩
theorem o_neB : Op2 rNe kB b kB c kB (!decide (b = c)) := fun M u w H l a b Q q => by
  cases a; cases b
  exact ⟨rfl, q _ H (Ex.refl H) (by show V.bl _ = V.bl _; congr 1; simp)⟩
theorem o_ixL {xs : List α} {n : Nat} {x : α} (h : xs[n]? = some x) (hi : i = (n : Int)) : Op2 (rIxL K) (kL K t) xs kI i t x := fun M u w H l a b Q q => by
  obtain ⟨p, vs, rfl, hp, ha⟩ := a
  obtain rfl : w = .int i := b
  obtain ⟨v, hv, hr⟩ := ha.at2 h
  exact ⟨p, vs, i, v, rfl, rfl, ex_l del_le hp, by rw [hi]; exact atI_nat hv, q v H (Ex.refl H) hr⟩
theorem o_ixT {xs : List α} {n : Nat} {x : α} (h : xs[n]? = some x) (hi : i = (n : Int)) : Op2 (rIxT K) (kT K t) xs kI i t x := fun M u w H l a b Q q => by
  obtain ⟨p, vs, rfl, hp, ha⟩ := a
  obtain rfl : w = .int i := b
  obtain ⟨v, hv, hr⟩ := ha.at2 h
  exact ⟨p, vs, i, v, rfl, rfl, ex_t del_le hp, by rw [hi]; exact atI_nat hv, q v H (Ex.refl H) hr⟩
theorem o_ix20 {x : α × β} : Op2 (rIxT K) (k2 K t u) x kI 0 t x.1 := fun M v w H l a b Q q => by
  obtain ⟨p, v1, v2, rfl, hp, h1, h2⟩ := a
  obtain rfl : w = .int 0 := b
  exact ⟨p, _, 0, v1, rfl, rfl, ex_t del_le hp, rfl, q _ H (Ex.refl H) h1⟩
theorem o_ix21 {x : α × β} : Op2 (rIxT K) (k2 K t u) x kI 1 u x.2 := fun M v w H l a b Q q => by
  obtain ⟨p, v1, v2, rfl, hp, h1, h2⟩ := a
  obtain rfl : w = .int 1 := b
  exact ⟨p, _, 1, v2, rfl, rfl, ex_t del_le hp, rfl, q _ H (Ex.refl H) h2⟩
theorem o_ix30 {w : Ty γ} {x : α × β × γ} : Op2 (rIxT K) (k3 K t u w) x kI 0 t x.1 := fun M v w H l a b Q q => by
  obtain ⟨p, v1, v2, v3, rfl, hp, h1, h2, h3⟩ := a
  obtain rfl : w = .int 0 := b
  exact ⟨p, _, 0, v1, rfl, rfl, ex_t del_le hp, rfl, q _ H (Ex.refl H) h1⟩
theorem o_ix31 {w : Ty γ} {x : α × β × γ} : Op2 (rIxT K) (k3 K t u w) x kI 1 u x.2.1 := fun M v w H l a b Q q => by
  obtain ⟨p, v1, v2, v3, rfl, hp, h1, h2, h3⟩ := a
  obtain rfl : w = .int 1 := b
  exact ⟨p, _, 1, v2, rfl, rfl, ex_t del_le hp, rfl, q _ H (Ex.refl H) h2⟩
theorem o_ix32 {w : Ty γ} {x : α × β × γ} : Op2 (rIxT K) (k3 K t u w) x kI 2 w x.2.2 := fun M v w H l a b Q q => by
  obtain ⟨p, v1, v2, v3, rfl, hp, h1, h2, h3⟩ := a
  obtain rfl : w = .int 2 := b
  exact ⟨p, _, 2, v3, rfl, rfl, ex_t del_le hp, rfl, q _ H (Ex.refl H) h3⟩
end
end Rw
namespace Rw
open PySem PySem.Spec PyProof.Rows L2 Evl Cy
/-! ### walks -/
def rng (lo hi : Int) : List Int := (List.range (hi - lo).toNat).map fun (k : Nat) => lo + (k : Int)
theorem rng_len {lo hi : Int} : (rng lo hi).length = (hi - lo).toNat := by unfold rng; rw [List.length_map, List.length_range]
theorem rng_at {lo hi x : Int} {i : Nat} (h : (rng lo hi)[i]? = some x) : x = lo + (i : Int) ∧ i < (hi - lo).toNat := by
  have l := (List.getElem?_eq_some_iff.mp h).1
  rw [rng_len] at l
  unfold rng at h
  rw [List.getElem?_map, List.getElem?_range l] at h
  exact ⟨(Option.some.inj h).symm, l⟩
theorem rng_mem {lo hi x : Int} : x ∈ rng lo hi ↔ lo ≤ x ∧ x < hi := by
  unfold rng
  rw [List.mem_map]
  constructor
  · rintro ⟨k, hk, rfl⟩
    rw [List.mem_range] at hk
    omega
  · intro h
    exact ⟨(x - lo).toNat, by rw [List.mem_range]; omega, by omega⟩
structure Ei {α : Type} (E : XK) (cl : Nat → Addr) (M : List Addr) (wi : TI) (σ : L2.St) (I : Hp) (S : List Cell) (t : Ty α) (xs : List α) (S' : List Cell) : Prop where
  ad : ads S' = ads S
  run : ∀ H1, Ex I (del M H1) → Holds M S H1 → ∀ R : It → Hp → Prop, (∀ J H2 G Y, Ex (del (ads S) H1) (del (ads S) H2) → Holds M S' H2 → Walk J xs.length G Y → (∀ H', Ex (del M H2) (del M H') → G H') →
    (∀ i H v H' x, xs[i]? = some x → Ex (del M H2) (del M H) → Y i H v H' → Ex H H' ∧ ∀ M', (∀ m ∈ M', H m ≠ none) → Ex (del M H2) (del M' H) → t.r (del M' H') v x) → R J H2) → wi σ H1 R
def Eg {α : Type} (g : TG) (t : Ty α) (σ : L2.St) (B : Hp → α → L2.St → Prop) : Prop := ∀ v H x I, t.r I v x → Ex I H → ∀ k : L2.St → Hp → Prop, (∀ σ', B I x σ' → k σ' H) → g v σ H k
section
variable {K : PySem.W.Frag} {α β γ δ R τ : Type} {E : XK} {cl : Nat → Addr} {M : List Addr} {σ : L2.St} {I I' H H' : Hp} {S S' S1 S2 S3 : List Cell} {te ta tb tc to : TE} {tt : TT} {tr : TA} {t : Ty α} {u : Ty β} {w' : Ty γ} {x : α} {y : β} {v : V} {xs : List α}
theorem ei_L (h : Em E cl M te σ I S (kL K t) (.ok xs) S') : Ei E cl M (iList K te) σ I S t xs S' :=
  ⟨h.ad, fun H1 i w R q => em_of h H1 i w _ fun v H2 e w1 r => by
    obtain ⟨p, vs, rfl, hp, ha⟩ := r
    refine ⟨p, rfl, ⟨vs, ex_l del_le hp⟩, q _ H2 (fun H => SqL K H p vs) _ e w1 (by rw [← ha.len]; exact walk_list) (fun H' e2 => ex_l (e2.trans del_le) hp) ?_⟩
    intro i H v H' x hx e2 y
    obtain ⟨rfl, hv⟩ := y
    obtain ⟨v', hv', r⟩ := ha.at2 hx
    rw [hv] at hv'
    obtain rfl := Option.some.inj hv'
    exact ⟨Ex.refl _, fun M' l e3 => t.up e3 r⟩⟩
theorem ei_T (h : Em E cl M te σ I S (kT K t) (.ok xs) S') : Ei E cl M (iTup K te) σ I S t xs S' :=
  ⟨h.ad, fun H1 i w R q => em_of h H1 i w _ fun v H2 e w1 r => by
    obtain ⟨p, vs, rfl, hp, ha⟩ := r
    refine ⟨p, rfl, ⟨vs, ex_t del_le hp⟩, q _ H2 (fun H => SqT K H p vs) _ e w1 (by rw [← ha.len]; exact walk_tup) (fun H' e2 => ex_t (e2.trans del_le) hp) ?_⟩
    intro i H v H' x hx e2 y
    obtain ⟨rfl, hv⟩ := y
    obtain ⟨v', hv', r⟩ := ha.at2 hx
    rw [hv] at hv'
    obtain rfl := Option.some.inj hv'
    exact ⟨Ex.refl _, fun M' l e3 => t.up e3 r⟩⟩
theorem ei_R1 {n : Int} (h : Ea E cl M tr σ I S (aC kI a0) (.ok (n, ())) S') (b : -(2 ^ 62) ≤ n ∧ n < 2 ^ 62) : Ei E cl M (iRng1 tr) σ I S kI (rng 0 n) S' :=
  ⟨h.ad, fun H1 i w R q => ea_of h H1 i w _ fun vs H2 e w1 r => by
    obtain ⟨v, rs, rfl, rfl, rfl⟩ := r
    refine ⟨n, rfl, b.1, b.2, q _ H2 (fun _ => True) _ e w1 (by rw [rng_len, show n - 0 = n by omega]; exact walk_range) (fun _ _ => trivial) ?_⟩
    intro i H v H' x hx e2 y
    obtain ⟨rfl, rfl⟩ := y
    exact ⟨Ex.refl _, fun M' l e3 => by rw [(rng_at hx).1]; rfl⟩⟩
theorem ei_R2 {lo n : Int} (h : Ea E cl M tr σ I S (aC kI (aC kI a0)) (.ok (lo, n, ())) S') (b : -(2 ^ 62) ≤ lo ∧ lo < 2 ^ 62 ∧ -(2 ^ 62) ≤ n ∧ n < 2 ^ 62) : Ei E cl M (iRng2 tr) σ I S kI (rng lo n) S' :=
  ⟨h.ad, fun H1 i w R q => ea_of h H1 i w _ fun vs H2 e w1 r => by
    obtain ⟨v, rs, rfl, rfl, v2, rs2, rfl, rfl, rfl⟩ := r
    refine ⟨lo, n, rfl, b, q _ H2 (fun _ => True) _ e w1 (by rw [rng_len]; exact walk_range) (fun _ _ => trivial) ?_⟩
    intro i H v H' x hx e2 y
    obtain ⟨rfl, rfl⟩ := y
    exact ⟨Ex.refl _, fun M' l e3 => by rw [(rng_at hx).1]; rfl⟩⟩
/-! ### targets -/
theorem eg_name {j : Nat} : Eg (gName j) t σ (fun I x σ' => ∃ v, t.r I v x ∧ σ' = σ.set j (some v)) := fun v H x I r e k q => q _ ⟨v, r, rfl⟩
theorem eg_2 {i j : Nat} : Eg (gTup K 2 (gCons (gName i) (gCons (gName j) gNil))) (k2 K t u) σ (fun I x σ' => ∃ v w, t.r I v x.1 ∧ u.r I w x.2 ∧ σ' = (σ.set i (some v)).set j (some w)) := fun v H x I r e k q => by
  obtain ⟨p, v1, v2, rfl, hp, h1, h2⟩ := r
  exact ⟨p, _, rfl, ex_t e hp, rfl, v1, [v2], rfl, v2, [], rfl, rfl, q _ ⟨v1, v2, h1, h2, rfl⟩⟩
theorem eg_3 {i j l : Nat} : Eg (gTup K 3 (gCons (gName i) (gCons (gName j) (gCons (gName l) gNil)))) (k3 K t u w') σ (fun I x σ' => ∃ v1 v2 v3, t.r I v1 x.1 ∧ u.r I v2 x.2.1 ∧ w'.r I v3 x.2.2 ∧ σ' = ((σ.set i (some v1)).set j (some v2)).set l (some v3)) := fun v H x I r e k q => by
  obtain ⟨p, v1, v2, v3, rfl, hp, h1, h2, h3⟩ := r
  exact ⟨p, _, rfl, ex_t e hp, rfl, v1, [v2, v3], rfl, v2, [v3], rfl, v3, [], rfl, rfl, q _ ⟨v1, v2, v3, h1, h2, h3, rfl⟩⟩
/-! ### comprehensions -/
theorem all2_new (t : Ty α) {D : Addr} {H : Hp} {vs : List V} (h : H D = none) (a : All2 (t.r (del M H)) vs xs) : All2 (t.r (del (D :: M) H)) vs xs := all2_up t (del_new h) a
theorem ex_lone {D : Addr} {H2 H' : Hp} {o : HO} (hD : H2 D = none) (e : Ex (del (D :: M) (upd H2 D o)) (del (D :: M) H')) : Ex (del M H2) (del (D :: M) H') := fun a u h => by
  obtain ⟨n, h⟩ := del_some.mp h
  have nd : a ≠ D := fun z => by rw [z, hD] at h; cases h
  exact e a u (del_some.mpr ⟨fun z => by rcases List.mem_cons.mp z with z | z; exact nd z; exact n z, by rw [upd_ne nd]; exact h⟩)
theorem del_le2 {D : Addr} {H : Hp} : Ex (del (D :: M) H) (del M H) := del_free
/-- the tests and the elements may change what may change: s told by Sx -/
def runE {β τ : Type} (ct : α → τ → Bool × τ) (f : α → τ → β × τ) : List α → τ → List β × τ
  | [], s => ([], s)
  | x :: xs, s => if (ct x s).1 = true then ((f x (ct x s).2).1 :: (runE ct f xs (f x (ct x s).2).2).1, (runE ct f xs (f x (ct x s).2).2).2) else runE ct f xs (ct x s).2
theorem runE_app {ct : α → τ → Bool × τ} {f : α → τ → β × τ} : ∀ (xs : List α) (x : α) (s : τ), runE ct f (xs ++ [x]) s =
    (if (ct x (runE ct f xs s).2).1 = true then ((runE ct f xs s).1 ++ [(f x (ct x (runE ct f xs s).2).2).1], (f x (ct x (runE ct f xs s).2).2).2) else ((runE ct f xs s).1, (ct x (runE ct f xs s).2).2))
  | [], x, s => by
    show runE ct f [x] s = _
    simp only [runE, List.nil_append]
    rfl
  | a :: xs, x, s => by
    simp only [List.cons_append, runE]
    by_cases h : (ct a s).1 = true
    · simp only [if_pos h]
      rw [runE_app xs x]
      split <;> rfl
    · simp only [if_neg h]
      exact runE_app xs x _
theorem em_lcE {wi : TI} {g : TG} {vs : List Nat} {B : Hp → α → L2.St → Prop} {ct : α → τ → Bool × τ} {f : α → τ → β × τ} {Sx : τ → List Cell} {s0 : τ} (hi : Ei E cl M wi σ I S t xs (Sx s0)) (hz : xs.length ≤ 100000 - 1) (hS : ∀ s, ads (Sx s) = ads (Sx s0))
    (hg : Eg g t (wipe σ vs) B) (hw : ∀ I x σ', B I x σ' → wipe σ' vs = wipe σ vs)
    (ht : ∀ D acc I' x s σ', Ex I I' → x ∈ xs → B I' x σ' → Et E cl (D :: M) tt σ' I' (cL D u acc :: Sx s) (.ok (ct x s).1) (cL D u acc :: Sx (ct x s).2))
    (he : ∀ D acc I' x s σ', Ex I I' → x ∈ xs → (ct x s).1 = true → B I' x σ' → Em E cl (D :: M) te σ' I' (cL D u acc :: Sx (ct x s).2) u (.ok (f x (ct x s).2).1) (cL D u acc :: Sx (f x (ct x s).2).2)) :
    Em E cl M (tLc wi g tt te vs) σ I S (kL K u) (.ok (runE ct f xs s0).1) (Sx (runE ct f xs s0).2) := by
  refine em_mk ((hS _).trans hi.ad) fun H0 i0 w0 Q q => hi.run H0 i0 w0 _ fun J H2 G Y e2 w2 wk gG gY D hD => ?_
  let acc : Nat → List β := fun i => (runE ct f (xs.take i) s0).1
  let st : Nat → τ := fun i => (runE ct f (xs.take i) s0).2
  let Pv : Nat → Hp → Prop := fun i H' => Holds (D :: M) (cL D u (acc i) :: Sx (st i)) H' ∧ Ex (del (D :: ads (Sx s0)) (upd H2 D (.lst []))) (del (D :: ads (Sx s0)) H')
  have dM : D ∉ M := fresh_not w2.live hD
  have toM : ∀ {i H'}, Pv i H' → Ex (del M H2) (del (D :: M) H') := fun {i H'} p => by
    refine ex_lone (o := .lst []) hD (ex_sub (A := D :: ads (Sx s0)) (fun a h => ?_) p.2)
    rcases List.mem_cons.mp h with z | z
    · rw [z]; exact List.mem_cons_self
    · exact List.mem_cons_of_mem _ (w2.sub a z)
  have stop : ∀ i, i < xs.length → ∃ x, xs[i]? = some x := fun i hi => ⟨xs[i], by simp [hi]⟩
  have accLen : ∀ i, (acc i).length ≤ i := by
    intro i
    have : ∀ (l : List α) (s : τ), (runE ct f l s).1.length ≤ l.length := by
      intro l
      induction l with
      | nil => intro s; exact Nat.le_refl _
      | cons a l ih =>
        intro s
        simp only [runE]
        split
        · simp only [List.length_cons]
          exact Nat.succ_le_succ (ih _)
        · exact Nat.le_succ_of_le (ih _)
    exact Nat.le_trans (this _ _) (by rw [List.length_take]; omega)
  refine lc_it wk Pv ⟨?_, Ex.refl _⟩ (fun i H' hi p => gG H' ((toM p).trans del_le2)) (fun i v H Hy hi p y => ?_) (fun H' p => ?_)
  · have e0 : acc 0 = [] := by show (runE ct f (xs.take 0) s0).1 = []; rw [List.take_zero]; rfl
    have e1 : st 0 = s0 := by show (runE ct f (xs.take 0) s0).2 = s0; rw [List.take_zero]; rfl
    show Holds (D :: M) (cL D u (acc 0) :: Sx (st 0)) _
    rw [e0, e1]
    exact w2.new (c := cL D u []) hD (Ex.new hD) upd_same ⟨[], rfl, .nil⟩
  · obtain ⟨x, hx⟩ := stop i hi
    have xm : x ∈ xs := List.mem_of_getElem? hx
    obtain ⟨eH, rv⟩ := gY i H v Hy x hx ((toM p).trans del_le2) y
    have rx := rv (D :: M) p.1.live (toM p)
    have wy := p.1.ex eH
    have i1 : Ex I (del (D :: M) Hy) := ((i0.trans (w0.grow e2)).trans (toM p)).trans (ex_del eH)
    refine hg v Hy x _ rx del_le _ fun σ' b => ⟨hw _ x σ' b, ?_⟩
    have tk : xs.take (i + 1) = xs.take i ++ [x] := by rw [List.take_add_one, hx]; rfl
    have nx : runE ct f (xs.take (i + 1)) s0 = (if (ct x (st i)).1 = true then (acc i ++ [(f x (ct x (st i)).2).1], (f x (ct x (st i)).2).2) else (acc i, (ct x (st i)).2)) := by rw [tk, runE_app]
    have fr : Ex (del (D :: ads (Sx s0)) (upd H2 D (.lst []))) (del (D :: ads (Sx s0)) Hy) := p.2.trans (ex_del eH)
    have same : ∀ s, ads (cL D u (acc i) :: Sx s) = D :: ads (Sx s0) := fun s => by show D :: ads (Sx s) = _; rw [hS s]
    refine et_of (ht D (acc i) _ x (st i) σ' i1 xm b) Hy (Ex.refl _) wy _ fun H3 e3 w3 => ?_
    rw [same] at e3
    cases hc : (ct x (st i)).1 with
    | true =>
      rw [if_pos rfl]
      have i3 : Ex (del (D :: M) Hy) (del (D :: M) H3) := wy.grow (by rw [same]; exact e3)
      refine em_of (he D (acc i) _ x _ σ' i1 xm hc b) H3 i3 w3 _ fun vy H4 e4 w4 r4 => ?_
      rw [same] at e4
      obtain ⟨_, o4, h4, ys, rfl, a4⟩ := w4.at_ _ List.mem_cons_self
      refine ⟨ys, h4, ?_, ?_, ?_⟩
      · rw [All2.len a4]
        exact sz_lt (by have := accLen i; show (acc i).length < _; omega)
      · have a1 : acc (i + 1) = acc i ++ [(f x (ct x (st i)).2).1] := by show (runE ct f (xs.take (i + 1)) s0).1 = _; rw [nx]; simp [hc]
        have s1 : st (i + 1) = (f x (ct x (st i)).2).2 := by show (runE ct f (xs.take (i + 1)) s0).2 = _; rw [nx]; simp [hc]
        show Holds (D :: M) (cL D u (acc (i + 1)) :: Sx (st (i + 1))) _
        rw [a1, s1]
        exact w4.put (k := 0) (c := cL D u (acc i)) (c' := cL D u (acc i ++ [(f x (ct x (st i)).2).1])) rfl rfl ⟨_, rfl, a4.app (.one r4)⟩
      · rw [show del (D :: ads (Sx s0)) (upd H4 D (.lst (ys ++ [vy]))) = del (D :: ads (Sx s0)) H4 from del_upd List.mem_cons_self]
        exact (fr.trans e3).trans e4
    | false =>
      rw [if_neg Bool.false_ne_true]
      refine ⟨?_, fr.trans e3⟩
      have a1 : acc (i + 1) = acc i := by show (runE ct f (xs.take (i + 1)) s0).1 = _; rw [nx]; simp [hc]
      have s1 : st (i + 1) = (ct x (st i)).2 := by show (runE ct f (xs.take (i + 1)) s0).2 = _; rw [nx]; simp [hc]
      rw [a1, s1]
      exact w3
  · have al : acc xs.length = (runE ct f xs s0).1 := by show (runE ct f (xs.take xs.length) s0).1 = _; rw [List.take_length]
    have sl : st xs.length = (runE ct f xs s0).2 := by show (runE ct f (xs.take xs.length) s0).2 = _; rw [List.take_length]
    obtain ⟨pw, pe⟩ := p
    rw [al, sl] at pw
    obtain ⟨_, o4, h4, ys, rfl, a4⟩ := pw.at_ _ List.mem_cons_self
    refine q _ H' ?_ (pw.drop (c := cL D u _) dM) ⟨D, ys, rfl, sq_of (del_at dM h4), all2_up u del_le2 a4⟩
    rw [← hi.ad]
    rw [← hi.ad] at e2
    exact e2.trans ((ex_lone (M := ads (Sx s0)) hD pe).trans del_le2)
/-- nothing changed by them -/
theorem runE_pure {c : α → Bool} {f : α → β} : ∀ (xs : List α) (s : τ), runE (fun x s => (c x, s)) (fun x s => (f x, s)) xs s = ((xs.filter c).map f, s)
  | [], s => rfl
  | x :: xs, s => by
    simp only [runE]
    rw [runE_pure xs s]
    cases h : c x
    · simp [List.filter_cons, h]
    · simp [List.filter_cons, h]
theorem em_lc {wi : TI} {g : TG} {vs : List Nat} {B : Hp → α → L2.St → Prop} (c : α → Bool) (f : α → β) (hi : Ei E cl M wi σ I S t xs S1) (hz : xs.length ≤ 100000 - 1) (hg : Eg g t (wipe σ vs) B) (hw : ∀ I x σ', B I x σ' → wipe σ' vs = wipe σ vs)
    (ht : ∀ M' S' I' x σ', Ex I I' → x ∈ xs → B I' x σ' → Et E cl M' tt σ' I' S' (.ok (c x)) S') (he : ∀ M' S' I' x σ', Ex I I' → x ∈ xs → c x = true → B I' x σ' → Em E cl M' te σ' I' S' u (.ok (f x)) S') :
    Em E cl M (tLc wi g tt te vs) σ I S (kL K u) (.ok ((xs.filter c).map f)) S1 := by
  have h := em_lcE (K := K) (u := u) (te := te) (tt := tt) (ct := fun x (s : Unit) => (c x, s)) (f := fun x (s : Unit) => (f x, s)) (Sx := fun _ => S1) (s0 := ()) hi hz (fun _ => rfl) hg hw (fun D acc I' x s σ' a b d => ht _ _ I' x σ' a b d) (fun D acc I' x s σ' a b d z => he _ _ I' x σ' a b d z)
  rw [runE_pure] at h
  exact h
end
end Rw
namespace Rw
open PySem PySem.Spec PyProof.Rows L2 Evl Cy
/-! ### a mirror's words -/
/-- a value, then the rest -/
def lt {α R : Type} (x : α) (k : α → R) : R := k x
/-- a value or an error, then the rest -/
def lr {α β : Type} (r : Re α) (k : α → Re β) : Re β := match r with | .ok x => k x | .er e => .er e
/-- a part with what comes behind it -/
def jn {τ R : Type} (k : τ → R) (b : (τ → R) → R) : R := b k
/-- a for: the turn is told how to go on and how to stop -/
def forK {α τ R : Type} (b : α → τ → (τ → R) → (τ → R) → R) (k : τ → R) : List α → τ → R
  | [], s => k s
  | x :: xs, s => b x s (fun s' => forK b k xs s') k
/-- a while, so many turns at most -/
def whK {τ R : Type} (c : τ → Bool) (b : τ → (τ → R) → (τ → R) → R) (k : τ → R) : Nat → τ → R
  | 0, s => k s
  | n + 1, s => cond (c s) (b s (fun s' => whK c b k n s') k) (k s)
section
variable {K : PySem.W.Frag} {α β γ δ R τ : Type} {E : XK} {cl : Nat → Addr} {M : List Addr} {σ : L2.St} {I I' H H' : Hp} {S S' S1 S2 S3 : List Cell} {te ta tb tc to : TE} {tt : TT} {tr : TA} {t : Ty α} {u : Ty β} {x : α} {y : β} {v : V} {xs : List α} {P : R → Prop} {k : α → R} {D : Ends} {tz tu tw : TS} {g : TG}
/-- what is kept from H to H2 -/
structure Gr (M : List Addr) (S : List Cell) (H H2 : Hp) : Prop where
  fr : Ex (del (ads S) H) (del (ads S) H2)
  im : Ex (del M H) (del M H2)
theorem Gr.of (w : Holds M S H) (e : Ex (del (ads S) H) (del (ads S) H')) : Gr M S H H' := ⟨e, w.grow e⟩
theorem g_asg {i : Nat} (w : Holds M S H) (o : P (lt x k)) (h : Em E cl M te σ (del M H) S t (.ok x) S') (c : ∀ x' v H2, x' = x → P (k x') → Gr M S H H2 → Holds M S' H2 → t.r (del M H2) v x' → tz D (σ.set i (some v)) H2) : tSeq (tAsg te (gName i)) tz D σ H :=
  em_of h H (Ex.refl _) w _ fun v H2 e w2 r => c x v H2 rfl o (.of w e) w2 r
theorem g_asgL {i : Nat} (w : Holds M S H) (o : P (lt x k)) (h : Em E cl M te σ (del M H) S t (.ok x) S') (c : ∀ x' v H2, x' = x → P (k x') → Gr M S H H2 → Holds M S' H2 → t.r (del M H2) v x' → D.nx (σ.set i (some v)) H2) : tAsg te (gName i) D σ H :=
  em_of h H (Ex.refl _) w _ fun v H2 e w2 r => c x v H2 rfl o (.of w e) w2 r
/-- the same of any target -/
theorem g_asgG {B : Hp → α → L2.St → Prop} (w : Holds M S H) (hg : Eg g t σ B) (o : P (lt x k)) (h : Em E cl M te σ (del M H) S t (.ok x) S') (c : ∀ x' σ' H2, x' = x → P (k x') → Gr M S H H2 → Holds M S' H2 → B (del M H2) x' σ' → tz D σ' H2) : tSeq (tAsg te g) tz D σ H :=
  em_of h H (Ex.refl _) w _ fun v H2 e w2 r => hg v H2 x _ r del_le _ fun σ' b => c x σ' H2 rfl o (.of w e) w2 b
/-- an error may leave it -/
theorem g_asgX {i : Nat} {P : Re β → Prop} {k : α → Re β} {r : Re α} (w : Holds M S H) (o : P (lr r k)) (h : Em E cl M te σ (del M H) S t r S') (c : ∀ x' v H2, r = .ok x' → P (k x') → Gr M S H H2 → Holds M S' H2 → t.r (del M H2) v x' → tz D (σ.set i (some v)) H2)
    (c2 : ∀ e H2, r = .er e → P (.er e) → Gr M S H H2 → Holds M S' H2 → E (.ref (cl e)) none H2) : tSeq (tAsg te (gName i)) tz D σ H :=
  h.run H (Ex.refl _) w _ (fun x v H2 z e w2 r => c x v H2 z (by subst z; exact o) (.of w e) w2 r) fun e H2 z e2 w2 => c2 e H2 z (by subst z; exact o) (.of w e2) w2
theorem g_asgGX {B : Hp → α → L2.St → Prop} {P : Re β → Prop} {k : α → Re β} {r : Re α} (w : Holds M S H) (hg : Eg g t σ B) (o : P (lr r k)) (h : Em E cl M te σ (del M H) S t r S') (c : ∀ x' σ' H2, r = .ok x' → P (k x') → Gr M S H H2 → Holds M S' H2 → B (del M H2) x' σ' → tz D σ' H2)
    (c2 : ∀ e H2, r = .er e → P (.er e) → Gr M S H H2 → Holds M S' H2 → E (.ref (cl e)) none H2) : tSeq (tAsg te g) tz D σ H :=
  h.run H (Ex.refl _) w _ (fun x v H2 z e w2 r => hg v H2 x _ r del_le _ fun σ' b => c x σ' H2 z (by subst z; exact o) (.of w e) w2 b) fun e H2 z e2 w2 => c2 e H2 z (by subst z; exact o) (.of w e2) w2
/-- a, b = x, y -/
theorem g_par {i j : Nat} {kk : α → β → R} (w : Holds M S H) (o : P (lt x fun a => lt y fun b => kk a b)) (h : Ea E cl M tr σ (del M H) S (aC t (aC u a0)) (.ok (x, y, ())) S') (c : ∀ x' y' v1 v2 H2, x' = x → y' = y → P (kk x' y') → Gr M S H H2 → Holds M S' H2 → t.r (del M H2) v1 x' → u.r (del M H2) v2 y' → tz D ((σ.set i (some v1)).set j (some v2)) H2) : tSeq (tPar i j tr) tz D σ H :=
  ea_of h H (Ex.refl _) w _ fun vs H2 e w2 r => by
    obtain ⟨v1, r1, rfl, g1, v2, r2, rfl, g2, rfl⟩ := r
    exact ⟨v1, v2, rfl, c x y v1 v2 H2 rfl rfl o (.of w e) w2 g1 g2⟩
theorem g_if {A B : R} {b : Bool} (w : Holds M S H) (o : P (cond b A B)) (h : Et E cl M tt σ (del M H) S (.ok b) S') (c1 : b = true → P A → ∀ H2, Gr M S H H2 → Holds M S' H2 → tu { D with nx := tz D } σ H2) (c2 : b = false → P B → ∀ H2, Gr M S H H2 → Holds M S' H2 → tw { D with nx := tz D } σ H2) : tSeq (tIfS tt tu tw) tz D σ H :=
  et_of h H (Ex.refl _) w _ fun H2 e w2 => by
    cases b with
    | true => exact c1 rfl o H2 (.of w e) w2
    | false => exact c2 rfl o H2 (.of w e) w2
theorem g_ifL {A B : R} {b : Bool} (w : Holds M S H) (o : P (cond b A B)) (h : Et E cl M tt σ (del M H) S (.ok b) S') (c1 : b = true → P A → ∀ H2, Gr M S H H2 → Holds M S' H2 → tu D σ H2) (c2 : b = false → P B → ∀ H2, Gr M S H H2 → Holds M S' H2 → tw D σ H2) : tIfS tt tu tw D σ H :=
  et_of h H (Ex.refl _) w _ fun H2 e w2 => by
    cases b with
    | true => exact c1 rfl o H2 (.of w e) w2
    | false => exact c2 rfl o H2 (.of w e) w2
theorem g_when {A B : R} {b : Bool} (w : Holds M S H) (o : P (cond b A B)) (h : Et E cl M tt σ (del M H) S (.ok b) S') (c1 : b = true → P A → ∀ H2, Gr M S H H2 → Holds M S' H2 → tu { D with nx := tz D } σ H2) (c2 : b = false → P B → ∀ H2, Gr M S H H2 → Holds M S' H2 → tz D σ H2) : tSeq (tIfS tt tu tNext) tz D σ H := g_if w o h c1 c2
/-- the same, what follows being shown once -/
theorem g_join {τ : Type} {kk : τ → R} {b : (τ → R) → R} {ts : TS} (Rel : τ → L2.St → Hp → Prop) (o : P (jn kk b)) (c1 : P (b kk) → ts { D with nx := fun σ' H' => ∃ s, P (kk s) ∧ Rel s σ' H' } σ H) (c2 : ∀ s σ' H', P (kk s) → Rel s σ' H' → tz D σ' H') : tCut ts tz D σ H :=
  ⟨fun σ' H' => ∃ s, P (kk s) ∧ Rel s σ' H', c1 o, fun σ' H' ⟨s, p, r⟩ => c2 s σ' H' p r⟩
theorem g_ret (w : Holds M S H) (h : Em E cl M te σ (del M H) S t (.ok x) S') (c : ∀ v H2, Gr M S H H2 → Holds M S' H2 → t.r (del M H2) v x → D.rt v H2) : tRet te D σ H :=
  em_of h H (Ex.refl _) w _ fun v H2 e w2 r => c v H2 (.of w e) w2 r
theorem g_retX {r : Re α} (w : Holds M S H) (h : Em E cl M te σ (del M H) S t r S') (c : ∀ x v H2, r = .ok x → Gr M S H H2 → Holds M S' H2 → t.r (del M H2) v x → D.rt v H2) (c2 : ∀ e H2, r = .er e → Gr M S H H2 → Holds M S' H2 → E (.ref (cl e)) none H2) : tRet te D σ H :=
  h.run H (Ex.refl _) w _ (fun x v H2 z e w2 r => c x v H2 z (.of w e) w2 r) fun e H2 z e2 w2 => c2 e H2 z (.of w e2) w2
theorem g_drop (w : Holds M S H) (o : P (lt x k)) (h : Em E cl M te σ (del M H) S t (.ok x) S') (c : ∀ x' H2, x' = x → P (k x') → Gr M S H H2 → Holds M S' H2 → tz D σ H2) : tSeq (tDrop te) tz D σ H :=
  em_of h H (Ex.refl _) w _ fun v H2 e w2 r => c x H2 rfl o (.of w e) w2
theorem Gr.trans (a : Gr M S H H') {H2 : Hp} (s : ads S' = ads S) (b : Gr M S' H' H2) : Gr M S H H2 := ⟨ads_tr s a.fr b.fr, a.im.trans b.im⟩
theorem Gr.then (a : Gr M S H H') {H2 : Hp} (b : Gr M S' H' H2) (s : ads S' = ads S) : Gr M S H H2 := a.trans s b
theorem Gr.cast (g : Gr M S H H') (e : ads S = ads S') : Gr M S' H H' := ⟨by rw [← e]; exact g.fr, g.im⟩
theorem Gr.refl : Gr M S H H := ⟨Ex.refl _, Ex.refl _⟩
/-! loops -/
theorem g_for {wi : TI} {b : α → τ → (τ → R) → (τ → R) → R} {kn : τ → R} {s0 : τ} {B : L2.St → Hp → α → L2.St → Prop} {Sx : τ → List Cell} (Rv : Hp → List α → τ → L2.St → Prop) (w : Holds M S H) (o : P (forK b kn xs s0)) (hi : Ei E cl M wi σ (del M H) S t xs (Sx s0)) (hS : ∀ s, ads (Sx s) = ads (Sx s0)) (hg : ∀ σ', Eg g t σ' (B σ'))
    (h0 : ∀ H2, Gr M S H H2 → Rv (del M H2) xs s0 σ)
    (hd : ∀ s σ' H', Gr M S H H' → Holds M (Sx s) H' → Rv (del M H') [] s σ' → P (kn s) → tz D σ' H')
    (hs : (∀ s σ' H', Gr M S H H' → Holds M (Sx s) H' → Rv (del M H') [] s σ' → P (kn s) → tz D σ' H') → ∀ x s σ' σ2 I' H3 rest, x ∈ xs → Gr M S H H3 → Holds M (Sx s) H3 → Ex I' (del M H3) → Rv I' (x :: rest) s σ' → B σ' (del M H3) x σ2 → P (b x s (fun s' => forK b kn rest s') kn) →
      ∀ Nx : L2.St → Hp → Prop, (∀ s' σ4 H4, P (forK b kn rest s') → Gr M S H3 H4 → Holds M (Sx s') H4 → Rv (del M H4) rest s' σ4 → Nx σ4 H4) → tu { D with nx := Nx, ct := Nx, bk := tz D } σ2 H3) : tSeq (tFor wi g tu) tz D σ H := by
  have a1 : ∀ s, ads (Sx s) = ads S := fun s => (hS s).trans hi.ad
  refine hi.run H (Ex.refl _) w _ fun J H2 G Y e2 w2 wk gG gY => ?_
  have g2 : Gr M S H H2 := .of w e2
  refine for_it wk (fun i σ' H' => ∃ s', P (forK b kn (xs.drop i) s') ∧ Gr M S H2 H' ∧ Holds M (Sx s') H' ∧ Rv (del M H') (xs.drop i) s' σ') ⟨s0, o, Gr.refl, w2, h0 H2 g2⟩ (fun i σ' H' hi' p => ?_) (fun i v σ' H' H3 hi' p y => ?_) (fun σ' H' p => ?_)
  · obtain ⟨s', _, e, w', _⟩ := p
    exact gG H' e.im
  · obtain ⟨s', o', e, w', r⟩ := p
    have hx : xs[i]? = some xs[i] := by simp [hi']
    obtain ⟨eH, rv⟩ := gY i H' v H3 _ hx e.im y
    have w3 := w'.ex eH
    refine hg σ' v H3 _ _ (rv M w'.live e.im) del_le _ fun σ2 b2 => ?_
    have e3 : Gr M S H' H3 := ⟨ex_del eH, ex_del eH⟩
    have g3 : Gr M S H H3 := (g2.trans rfl e).trans rfl e3
    have dr : xs.drop i = xs[i] :: xs.drop (i + 1) := by rw [List.drop_eq_getElem_cons hi']
    have ot : P (b xs[i] s' (fun s' => forK b kn (xs.drop (i + 1)) s') kn) := by
      rw [dr] at o'
      exact o'
    exact hs hd xs[i] s' σ' σ2 (del M H') H3 (xs.drop (i + 1)) (List.getElem_mem hi') g3 w3 (ex_del eH) (by rw [← dr]; exact r) b2 ot _ fun s4 σ4 H4 o4 g4 w4 r4 => ⟨s4, o4, (e.trans rfl e3).trans rfl g4, w4, r4⟩
  · obtain ⟨s', o', e, w', r⟩ := p
    rw [List.drop_length] at o' r
    exact hd s' σ' H' (g2.trans rfl e) w' r o'
theorem g_while {c : τ → Bool} {b : τ → (τ → R) → (τ → R) → R} {kn : τ → R} {n : Nat} {s0 : τ} {Sx : τ → List Cell} (Ok : Nat → τ → Prop) (Rv : Hp → τ → L2.St → Prop) (w : Holds M (Sx s0) H) (o : P (whK c b kn n s0)) (hS : ∀ s, ads (Sx s) = ads (Sx s0)) (ok0 : Ok n s0) (okz : ∀ s, Ok 0 s → c s = false) (h0 : Rv (del M H) s0 σ)
    (ht : ∀ n s σ' H', Ok n s → Gr M (Sx s0) H H' → Holds M (Sx s) H' → Rv (del M H') s σ' → Et E cl M tt σ' (del M H') (Sx s) (.ok (c s)) (Sx s))
    (hd : ∀ n s σ' I' H', Ok n s → c s = false → Gr M (Sx s0) H H' → Holds M (Sx s) H' → Ex I' (del M H') → Rv I' s σ' → P (kn s) → tz D σ' H')
    (hs : (∀ n s σ' I' H', Ok n s → c s = false → Gr M (Sx s0) H H' → Holds M (Sx s) H' → Ex I' (del M H') → Rv I' s σ' → P (kn s) → tz D σ' H') → ∀ n s σ' I' H', Ok (n + 1) s → c s = true → Gr M (Sx s0) H H' → Holds M (Sx s) H' → Ex I' (del M H') → Rv I' s σ' → P (b s (fun s' => whK c b kn n s') kn) →
      ∀ Nx : L2.St → Hp → Prop, (∀ s' σ4 H4, Ok n s' → P (whK c b kn n s') → Gr M (Sx s0) H' H4 → Holds M (Sx s') H4 → Rv (del M H4) s' σ4 → Nx σ4 H4) → tu { D with nx := Nx, ct := Nx, bk := tz D } σ' H') : tSeq (tWhile tt tu) tz D σ H := by
  refine ⟨fun m σ' H' => ∃ s, Ok m s ∧ P (whK c b kn m s) ∧ Gr M (Sx s0) H H' ∧ Holds M (Sx s) H' ∧ Rv (del M H') s σ', ⟨n, s0, ok0, o, Gr.refl, w, h0⟩, ?_⟩
  rintro m σ' H' ⟨s, k, o', g', w', r⟩
  refine et_of (ht m s σ' H' k g' w' r) H' (Ex.refl _) w' _ fun H2 e2 w2 => ?_
  have e2' : Gr M (Sx s0) H' H2 := ⟨by rw [hS s] at e2; exact e2, w'.grow e2⟩
  have g2 : Gr M (Sx s0) H H2 := g'.trans rfl e2'
  cases hc : c s with
  | true =>
    rw [if_pos rfl]
    cases m with
    | zero => rw [okz s k] at hc; cases hc
    | succ m =>
      have o2 : P (b s (fun s' => whK c b kn m s') kn) := by
        have : P (cond (c s) (b s (fun s' => whK c b kn m s') kn) (kn s)) := o'
        rw [hc] at this
        exact this
      exact ⟨fun σ4 H4 => ∃ s, Ok m s ∧ P (whK c b kn m s) ∧ Gr M (Sx s0) H H4 ∧ Holds M (Sx s) H4 ∧ Rv (del M H4) s σ4, fun σ4 H4 z => ⟨m, Nat.lt_succ_self m, z⟩,
        hs hd m s σ' (del M H') H2 k hc g2 w2 e2'.im r o2 _ fun s4 σ4 H4 k4 o4 g4 w4 r4 => ⟨s4, k4, o4, g2.trans rfl g4, w4, r4⟩⟩
  | false =>
    rw [if_neg Bool.false_ne_true]
    refine hd m s σ' (del M H') H2 k hc g2 w2 e2'.im r ?_
    cases m with
    | zero => exact o'
    | succ m =>
      have : P (cond (c s) (b s (fun s' => whK c b kn m s') kn) (kn s)) := o'
      rw [hc] at this
      exact this
/-! what may change from here on: a list in the making -/
theorem Gr.lone {p : Addr} {c : Cell} (hp : H c.a = none) (a : Gr M S H H') {H2 : Hp} (hp' : H' c.a = none) (b : Gr (c.a :: M) (c :: S) H' H2) : Gr M S H H2 := by
  have f : ∀ A : List Addr, Ex (del A H') (del (c.a :: A) H') := fun A => del_new hp'
  exact ⟨a.fr.trans ((f _).trans (b.fr.trans del_free)), a.im.trans ((f _).trans (b.im.trans del_free))⟩
theorem g_new {i : Nat} (K : PySem.W.Frag) (t : Ty α) (w : Holds M S H) (c : ∀ p H2, H p = none → Gr M S H H2 → Holds (p :: M) (cL p t [] :: S) H2 → Ex (del M H) (del (p :: M) H2) → tz D (σ.set i (some (.ref p))) H2) : tSeq (tAsg (tLst tNil) (gName i)) tz D σ H := by
  refine ⟨by show 0 ≤ sizeLine; decide, fun p hp => ?_⟩
  have e : Ex H (upd H p (.lst [])) := Ex.new hp
  exact c p _ hp ⟨ex_del e, ex_del e⟩ (w.new (c := cL p t []) hp e upd_same ⟨[], rfl, .nil⟩) ((del_new hp).trans (ex_del e))
/-- p.append(x), p the n-th of what may change -/
theorem g_app {n : Nat} {p : Addr} {acc0 acc : List α} {k : List α → R} (w : Holds M S H) (o : P (lt (acc ++ [x]) k)) (ha : Em E cl M ta σ (del M H) S (kPtr p) (.ok ()) S) (h : Em E cl M te σ (del M H) S t (.ok x) S') (hk0 : S[n]? = some (cL p t acc0)) (hk : S'[n]? = some (cL p t acc)) (hz : acc.length < 100000)
    (c : ∀ acc' H2, acc' = acc ++ [x] → P (k acc') → Gr M S H H2 → Holds M (S'.set n (cL p t acc')) H2 → tz D σ H2) : tSeq (tDrop (tBM K "list" rAppend ta (tCons te tNil))) tz D σ H := by
  refine em_of ha H (Ex.refl _) w _ fun v H1 e1 w1 r1 => ?_
  obtain rfl : v = .ref p := r1
  obtain ⟨_, o1, h1, vs1, rfl, _⟩ := w1.at_ _ (List.mem_of_getElem? hk0)
  refine ⟨Or.inl ⟨rfl, vs1, sq_of h1⟩, em_of h H1 (w.grow e1) w1 _ fun v2 H2 e2 w2 r2 => ?_⟩
  obtain ⟨pM, o2, h2, vs2, rfl, a2⟩ := w2.at_ _ (List.mem_of_getElem? hk)
  have pM : p ∈ M := pM
  have pS : p ∈ ads S := by rw [← h.ad]; exact List.mem_map.mpr ⟨_, List.mem_of_getElem? hk, rfl⟩
  refine ⟨p, vs2, v2, rfl, rfl, h2, sz_lt (by rw [a2.len]; exact hz), ?_⟩
  refine c _ _ rfl o ⟨?_, ?_⟩ (w2.put hk rfl ⟨_, rfl, a2.app (.one r2)⟩)
  · rw [del_upd pS]
    exact e1.trans e2
  · rw [del_upd pM]
    exact (w.grow e1).trans (w1.grow e2)
/-- p[i], p in the making -/
theorem em_cellAt {n : Nat} {p : Addr} {acc0 acc : List α} {i : Int} {x : α} (ha : Em E cl M ta σ I S (kPtr p) (.ok ()) S) (hb : Em E cl M tb σ I S kI (.ok i) S1) (hk : S1[n]? = some (cL p t acc)) (hi : atI acc i = some x) : Em E cl M (tOp (rIxL K) ta tb) σ I S t (.ok x) S1 :=
  em_mk hb.ad fun H1 i1 w Q q => em_of ha H1 i1 w _ fun v H2 e w2 r => em_of hb H2 (i1.trans (w.grow e)) w2 _ fun v2 H3 e3 w3 r3 => by
    obtain rfl : v = .ref p := r
    obtain rfl : v2 = .int i := r3
    obtain ⟨_, o2, h2, vs2, rfl, a2⟩ := w3.at_ _ (List.mem_of_getElem? hk)
    obtain ⟨j, hj, hx⟩ : ∃ j, ixN acc.length i = some j ∧ acc[j]? = some x := by
      unfold atI at hi
      cases hj : ixN acc.length i with
      | none => rw [hj] at hi; cases hi
      | some j => rw [hj] at hi; exact ⟨j, rfl, hi⟩
    obtain ⟨u, hu, ru⟩ := a2.at2 hx
    refine ⟨p, vs2, i, u, rfl, rfl, sq_of h2, ?_, q u H3 (e.trans e3) w3 ru⟩
    unfold atI
    rw [a2.len]
    show (ixN acc.length i).bind _ = _
    rw [hj]
    exact hu
theorem em_cellLen {n : Nat} {p : Addr} {acc : List α} (ha : Em E cl M ta σ I S (kPtr p) (.ok ()) S) (hk : S[n]? = some (cL p t acc)) : Em E cl M (tCB (rLenS K) (tCons ta tNil)) σ I S kI (.ok (acc.length : Int)) S :=
  em_mk rfl fun H1 i1 w Q q => em_of ha H1 i1 w _ fun v H2 e w2 r => by
    obtain rfl : v = .ref p := r
    obtain ⟨_, o2, h2, vs2, rfl, a2⟩ := w2.at_ _ (List.mem_of_getElem? hk)
    exact ⟨p, vs2, rfl, .inl (sq_of h2), q _ H2 e w2 (by rw [a2.len]; rfl)⟩
/-- p, in the making no more: a tuple, a list of the same -/
theorem em_cellTup {n : Nat} {p : Addr} {acc : List α} {r : List V → Hp → VK → Prop} (hr : ∀ H vs, SqL K H p vs → ∀ Q : VK, (∀ q, H q = none → Q (.ref q) (upd H q (.tup vs))) → r [.ref p] H Q) (ha : Em E cl M ta σ I S (kPtr p) (.ok ()) S) (hk : S[n]? = some (cL p t acc)) : Em E cl M (tCB r (tCons ta tNil)) σ I S (kT K t) (.ok acc) S :=
  em_mk rfl fun H1 i1 w Q q => em_of ha H1 i1 w _ fun v H2 e w2 r => by
    obtain rfl : v = .ref p := r
    obtain ⟨_, o2, h2, vs2, rfl, a2⟩ := w2.at_ _ (List.mem_of_getElem? hk)
    exact hr H2 vs2 (sq_of h2) _ fun p2 hp => q _ _ (e.trans (ex_del (Ex.new hp))) (w2.ex (Ex.new hp)) ⟨p2, vs2, rfl, st_of (del_at (fresh_not w2.live hp) upd_same), all2_up t (ex_del (Ex.new hp)) a2⟩
/-- it is given away: what was in the making stays as it is from now on -/
theorem cell_end {p : Addr} {acc : List α} (w : Holds (p :: M) (cL p t acc :: S) H) (n : p ∉ M) : (kL K t).r (del M H) (.ref p) acc := by
  obtain ⟨_, o2, h2, vs2, rfl, a2⟩ := w.at_ _ List.mem_cons_self
  exact ⟨p, vs2, rfl, sq_of (del_at n h2), all2_up t del_free a2⟩
end
/-! ### data that are compared -/
structure Dq (K : PySem.W.Frag) {α : Type} (t : Ty α) (d : Nat) where
  enc : α → PyData
  dp : ∀ {H v x}, t.r H v x → Dp K H v (enc x) ∧ (enc x).canLay0 = true
  dep : ∀ x, (enc x).depth ≤ d
  eq : ∀ x y, PyData.eqv (enc x) (enc y) = true ↔ x = y
/-- a text that may be compared in data -/
def kSo : Ty Str := ⟨fun _ v x => v = .str x ∧ PyData.canLay0 (.str x) = true, fun _ h => h⟩
theorem dp_upM {K : PySem.W.Frag} {H H' : Hp} (e : Ex H H') : ∀ (d : PyData) (v : V), Dp K H v d → Dp K H' v d := fun d v h => by
  refine Dp.rec (motive_1 := fun v d _ => Dp K H' v d) (motive_2 := fun vs ds _ => DpAll K H' vs ds) .non .bl .int .str (fun h _ ih => .lst (ex_l e h) ih) (fun h _ ih => .tup (ex_t e h) ih) .nil (fun _ _ i j => .cons i j) h
section
variable {K : PySem.W.Frag} {α β γ : Type} {t : Ty α} {u : Ty β} {w : Ty γ} {i j k : Nat}
def dI : Dq K kI 0 := ⟨.int, fun h => by cases h; exact ⟨.int _, rfl⟩, fun _ => Nat.le_refl _, fun x y => by simp [PyData.eqv]⟩
def dB : Dq K kB 0 := ⟨.bool, fun h => by cases h; exact ⟨.bl _, rfl⟩, fun _ => Nat.le_refl _, fun x y => by simp [PyData.eqv]⟩
def dS : Dq K kSo 0 := ⟨.str, fun h => by obtain ⟨rfl, h⟩ := h; exact ⟨.str _, h⟩, fun _ => Nat.le_refl _, fun x y => by simp [PyData.eqv]⟩
theorem dp_all (D : Dq K t i) {H : Hp} {vs : List V} {xs : List α} (h : All2 (t.r H) vs xs) : DpAll K H vs (xs.map D.enc) ∧ PyData.canLayAll0 (xs.map D.enc) = true := by
  induction h with
  | nil => exact ⟨.nil, rfl⟩
  | cons r _ ih => exact ⟨.cons (D.dp r).1 ih.1, by rw [List.map_cons, PyData.canLayAll0, (D.dp r).2, ih.2]; rfl⟩
theorem dep_all (D : Dq K t i) : ∀ xs : List α, PyData.depthAll (xs.map D.enc) ≤ i
  | [] => Nat.zero_le _
  | x :: xs => by rw [List.map_cons, PyData.depthAll]; exact Nat.max_le.mpr ⟨D.dep x, dep_all D xs⟩
theorem eq_all (D : Dq K t i) : ∀ xs ys : List α, PyData.eqvAll (xs.map D.enc) (ys.map D.enc) = true ↔ xs = ys
  | [], [] => by simp [PyData.eqvAll]
  | x :: xs, [] => by simp [PyData.eqvAll]
  | [], y :: ys => by simp [PyData.eqvAll]
  | x :: xs, y :: ys => by simp only [List.map_cons, PyData.eqvAll, Bool.and_eq_true, D.eq, eq_all D xs ys, List.cons.injEq]
def dL (D : Dq K t i) : Dq K (kL K t) (i + 1) := ⟨fun xs => .list (xs.map D.enc), fun ⟨p, vs, e, h, a⟩ => by subst e; exact ⟨.lst h (dp_all D a).1, by rw [PyData.canLay0]; exact (dp_all D a).2⟩, fun xs => by rw [PyData.depth]; have := dep_all D xs; omega, fun x y => by rw [PyData.eqv]; exact eq_all D x y⟩
def dT (D : Dq K t i) : Dq K (kT K t) (i + 1) := ⟨fun xs => .tuple (xs.map D.enc), fun ⟨p, vs, e, h, a⟩ => by subst e; exact ⟨.tup h (dp_all D a).1, by rw [PyData.canLay0]; exact (dp_all D a).2⟩, fun xs => by rw [PyData.depth]; have := dep_all D xs; omega, fun x y => by rw [PyData.eqv]; exact eq_all D x y⟩
def d2 (A : Dq K t i) (B : Dq K u j) : Dq K (k2 K t u) (max i j + 1) := ⟨fun x => .tuple [A.enc x.1, B.enc x.2], fun ⟨p, v1, v2, e, h, h1, h2⟩ => by subst e; exact ⟨.tup h (.cons (A.dp h1).1 (.cons (B.dp h2).1 .nil)), by simp [PyData.canLay0, PyData.canLayAll0, (A.dp h1).2, (B.dp h2).2]⟩,
  fun x => by simp only [PyData.depth, PyData.depthAll]; have := A.dep x.1; have := B.dep x.2; omega, fun x y => by simp [PyData.eqv, PyData.eqvAll, A.eq, B.eq, Prod.ext_iff]⟩
def d3 (A : Dq K t i) (B : Dq K u j) (C : Dq K w k) : Dq K (k3 K t u w) (max i (max j k) + 1) := ⟨fun x => .tuple [A.enc x.1, B.enc x.2.1, C.enc x.2.2], fun ⟨p, v1, v2, v3, e, h, h1, h2, h3⟩ => by subst e; exact ⟨.tup h (.cons (A.dp h1).1 (.cons (B.dp h2).1 (.cons (C.dp h3).1 .nil))), by simp [PyData.canLay0, PyData.canLayAll0, (A.dp h1).2, (B.dp h2).2, (C.dp h3).2]⟩,
  fun x => by simp only [PyData.depth, PyData.depthAll]; have := A.dep x.1; have := B.dep x.2.1; have := C.dep x.2.2; omega, fun x y => by simp [PyData.eqv, PyData.eqvAll, A.eq, B.eq, C.eq, Prod.ext_iff]⟩
theorem eqv_none_of {d : PyData} (h : d ≠ .none) : PyData.eqv .none d = false ∧ PyData.eqv d .none = false := by cases d <;> first | exact absurd rfl h | exact ⟨rfl, rfl⟩
def dO (A : Dq K t i) (hn : ∀ x, A.enc x ≠ .none) : Dq K (kO t) i := ⟨fun x => match x with | none => .none | some y => A.enc y, fun {H v x} h => by
    cases x with
    | none => cases h; exact ⟨.non, rfl⟩
    | some y => exact A.dp h.1, fun x => by cases x; exact Nat.zero_le _; exact A.dep _, fun x y => by
    cases x <;> cases y
    · exact ⟨fun _ => rfl, fun _ => rfl⟩
    · simp [(eqv_none_of (hn _)).1]
    · simp [(eqv_none_of (hn _)).2]
    · simp [A.eq]⟩
theorem shaped_of {d : PyData} (h : d.canLay0 = true) (l : d.depth ≤ 64) : SeqAt.shaped d = true := by
  unfold SeqAt.shaped
  rw [h]
  simpa using l
theorem o_eqD {x y : α} [Decidable (x = y)] (D : Dq K t i) (h : i ≤ 64) : Op2 (rEqD K) t x t y kB (decide (x = y)) := fun M v1 v2 H l a b Q q =>
  ⟨_, _, dp_upM del_le _ _ (D.dp a).1, dp_upM del_le _ _ (D.dp b).1, shaped_of (D.dp a).2 (Nat.le_trans (D.dep x) h), shaped_of (D.dp b).2 (Nat.le_trans (D.dep y) h), q _ H (Ex.refl _) (by
    show V.bl _ = V.bl _
    congr 1
    rw [Bool.eq_iff_iff, D.eq, decide_eq_true_iff])⟩
theorem o_neD {x y : α} [Decidable (x = y)] (D : Dq K t i) (h : i ≤ 64) : Op2 (rNeD K) t x t y kB (!decide (x = y)) := fun M v1 v2 H l a b Q q =>
  ⟨_, _, dp_upM del_le _ _ (D.dp a).1, dp_upM del_le _ _ (D.dp b).1, shaped_of (D.dp a).2 (Nat.le_trans (D.dep x) h), shaped_of (D.dp b).2 (Nat.le_trans (D.dep y) h), q _ H (Ex.refl _) (by
    show V.bl _ = V.bl _
    congr 2
    rw [Bool.eq_iff_iff, D.eq, decide_eq_true_iff])⟩
end
end Rw
namespace Rw
open PySem PySem.Spec PyProof.Rows L2 Evl Cy
/-! ### dice -/
abbrev Dice := Int × Int × Int
def roll (x : Dice) (m : Int) : Int × Dice :=
  if (decide (x.2.2 = 2) || (decide (x.2.2 = 1) && decide (0 < x.1))) = true then (x.1 % m, (x.1 / m, x.2.1, x.2.2))
  else (((x.1 * 48271 + x.2.1 * 69621 + 11) % 2147483647 / 7 + (x.1 * 48271 + x.2.1 * 69621 + 11) % 2147483647) % m, ((x.1 * 48271 + x.2.1 * 69621 + 11) % 2147483647, x.2.1 + 1, 0))
theorem roll_in (x : Dice) {m : Int} (h : 0 < m) : 0 ≤ (roll x m).1 ∧ (roll x m).1 < m := by
  unfold roll
  split
  · exact ⟨Int.emod_nonneg _ (by omega), Int.emod_lt_of_pos _ h⟩
  · exact ⟨Int.emod_nonneg _ (by omega), Int.emod_lt_of_pos _ h⟩
def spRollX : Sp := fun vs H Q _ => ∃ (d : Addr) (x : Dice) (m : Int), vs = [.ref d, .int m] ∧ H d = some (.lst [.int x.1, .int x.2.1, .int x.2.2]) ∧ 0 < m ∧ m < 1000000 ∧
  ∀ H', ExB d H H' → H' d = some (.lst [.int (roll x m).2.1, .int (roll x m).2.2.1, .int (roll x m).2.2.2]) → Q (.int (roll x m).1) H'
/-- a plain def's promise: it changes nothing -/
def spD {α β : Type} (A : AR α) (pre : α → Prop) (f : α → Re β) (t : Ty β) (cl : Nat → Addr) : Sp := fun vs H Q E => ∃ M a, (∀ m ∈ M, H m ≠ none) ∧ A (del M H) vs a ∧ pre a ∧
  (∀ y v H', f a = .ok y → Ex H H' → t.r (del M H') v y → Q v H') ∧ (∀ k H', f a = .er k → Ex H H' → E (.ref (cl k)) none H')
/-- a def's promise that rolls the dice that it is given first -/
def spR {α β : Type} (A : AR α) (pre : α → Prop) (f : α → Dice → β × Dice) (t : Ty β) : Sp := fun vs H Q _ => ∃ M d x ws a, vs = .ref d :: ws ∧ d ∈ M ∧ (∀ m ∈ M, H m ≠ none) ∧ M.Nodup ∧ H d = some (.lst [.int x.1, .int x.2.1, .int x.2.2]) ∧ A (del M H) ws a ∧ pre a ∧
  ∀ v H', Ex (del [d] H) (del [d] H') → H' d = some (.lst [.int (f a x).2.1, .int (f a x).2.2.1, .int (f a x).2.2.2]) → t.r (del M H') v (f a x).1 → Q v H'
section
variable {K : PySem.W.Frag} {α β γ δ R τ : Type} {E E' : XK} {cl : Nat → Addr} {M : List Addr} {σ : L2.St} {I I' H H' : Hp} {S S' S1 S2 S3 : List Cell} {te ta tb tc to : TE} {tt : TT} {tr : TA} {t : Ty α} {u : Ty β} {w' : Ty γ} {x : α} {y : β} {v : V} {xs : List α}
theorem em_call {A : AR α} {B : AR γ} {a : α} {a' : γ} {pre : α → Prop} {f : α → Re β} {dvs : List V} (ha : Ea E cl M tr σ I S B (.ok a') S1) (hA : ∀ H vs, B H vs a' → A H (vs ++ dvs) a) (hp : pre a) : Em E cl M (tCall (spD A pre f u cl) dvs E tr) σ I S u (f a) S1 :=
  ⟨ha.ad, fun H1 i w Q q qe => ea_of ha H1 i w _ fun vs H2 e w2 r => ⟨M, a, w2.live, hA _ _ r, hp, fun y v H3 ey e3 r3 => q y v H3 ey (e.trans (ex_del e3)) (w2.ex e3) r3, fun k H3 ek e3 => qe k H3 ek (e.trans (ex_del e3)) (w2.ex e3)⟩⟩
/-- where it raises nothing -/
theorem em_callP {A : AR α} {B : AR γ} {a : α} {a' : γ} {pre : α → Prop} {f : α → Re β} {dvs : List V} (ha : Ea E cl M tr σ I S B (.ok a') S1) (hA : ∀ H vs, B H vs a' → A H (vs ++ dvs) a) (hp : pre a) (hy : f a = .ok y) : Em E cl M (tCall (spD A pre f u cl) dvs E' tr) σ I S u (.ok y) S1 :=
  em_mk ha.ad fun H1 i w Q q => ea_of ha H1 i w _ fun vs H2 e w2 r => ⟨M, a, w2.live, hA _ _ r, hp, fun y' v H3 ey e3 r3 => q v H3 (e.trans (ex_del e3)) (w2.ex e3) (by rw [hy] at ey; cases ey; exact r3), fun k H3 ek e3 => by rw [hy] at ek; cases ek⟩
theorem args_id {A : AR α} {a : α} : ∀ (H : Hp) (vs : List V), A H vs a → A H (vs ++ []) a := fun H vs h => by rw [List.append_nil]; exact h
/-- an object of a class of the program's own -/
def Ob (t : Ty α) (C : Addr) (m : Str) : Prop := ∀ H v x, t.r H v x → ∃ a dx fs, v = .ref a ∧ H a = some (.ins C dx fs) ∧ fs.lookup m = none
theorem em_meth {C : Addr} {m : Str} {A : AR (α × β)} {B : AR γ} {b : β} {b' : γ} {pre : α × β → Prop} {f : α × β → Re δ} {u : Ty δ} {dvs : List V} (ho : Em E cl M to σ I S t (.ok x) S1) (ob : Ob t C m) (ha : Ea E cl M tr σ I S1 B (.ok b') S2) (hA : ∀ H v vs, t.r H v x → B H vs b' → A H (v :: (vs ++ dvs)) (x, b)) (hp : pre (x, b)) : Em E cl M (tMeth C m (spD A pre f u cl) dvs E to tr) σ I S u (f (x, b)) S2 :=
  ⟨ha.ad.trans ho.ad, fun H1 i w Q q qe => em_of ho H1 i w _ fun v H2 e w2 r => by
    obtain ⟨a, dx, fs, rfl, ha1, hl⟩ := ob _ _ _ r
    refine ⟨a, dx, fs, rfl, (del_some.mp ha1).2, hl, ea_of ha H2 (i.trans (w.grow e)) w2 _ fun vs H3 e3 w3 r3 => ⟨M, (x, b), w3.live, hA _ _ _ (t.up (w2.grow e3) r) r3, hp, fun y v H4 ey e4 r4 => q y v H4 ey ((ads_tr ho.ad e e3).trans (ex_del e4)) (w3.ex e4) r4, fun k H4 ek e4 => qe k H4 ek ((ads_tr ho.ad e e3).trans (ex_del e4)) (w3.ex e4)⟩⟩⟩
theorem em_methP {C : Addr} {m : Str} {A : AR (α × β)} {B : AR γ} {b : β} {b' : γ} {pre : α × β → Prop} {f : α × β → Re δ} {u : Ty δ} {dvs : List V} {y : δ} (ho : Em E cl M to σ I S t (.ok x) S1) (ob : Ob t C m) (ha : Ea E cl M tr σ I S1 B (.ok b') S2) (hA : ∀ H v vs, t.r H v x → B H vs b' → A H (v :: (vs ++ dvs)) (x, b)) (hp : pre (x, b)) (hy : f (x, b) = .ok y) : Em E cl M (tMeth C m (spD A pre f u cl) dvs E' to tr) σ I S u (.ok y) S2 :=
  em_mk (ha.ad.trans ho.ad) fun H1 i w Q q => em_of ho H1 i w _ fun v H2 e w2 r => by
    obtain ⟨a, dx, fs, rfl, ha1, hl⟩ := ob _ _ _ r
    refine ⟨a, dx, fs, rfl, (del_some.mp ha1).2, hl, ea_of ha H2 (i.trans (w.grow e)) w2 _ fun vs H3 e3 w3 r3 => ⟨M, (x, b), w3.live, hA _ _ _ (t.up (w2.grow e3) r) r3, hp, fun y v H4 ey e4 r4 => q v H4 ((ads_tr ho.ad e e3).trans (ex_del e4)) (w3.ex e4) (by rw [hy] at ey; cases ey; exact r4), fun k H4 ek e4 => by rw [hy] at ek; cases ek⟩⟩
theorem exb_del {d : Addr} : ExB d H H' ↔ Ex (del [d] H) (del [d] H') :=
  ⟨fun h a o e => del_some.mpr ⟨(del_some.mp e).1, h a o (fun z => (del_some.mp e).1 (by rw [z]; exact List.mem_singleton.mpr rfl)) (del_some.mp e).2⟩, fun h a o n e => (del_some.mp (h a o (del_some.mpr ⟨fun z => n (List.mem_singleton.mp z), e⟩))).2⟩
/-- the dice at n of what may change are rolled -/
theorem dice_put {n : Nat} {d : Addr} {z z' : Dice} (w : Holds M S H) (hk : S[n]? = some (cDice d z)) (e : ExB d H H') (hd : H' d = some (.lst [.int z'.1, .int z'.2.1, .int z'.2.2])) : Holds M (S.set n (cDice d z')) H' ∧ Ex (del (ads S) H) (del (ads S) H') := by
  have dS : d ∈ ads S := List.mem_map.mpr ⟨_, List.mem_of_getElem? hk, rfl⟩
  have dM : d ∈ M := w.sub d dS
  have ee : Ex (del (ads S) H) (del (ads S) H') := ex_sub (A := [d]) (fun a h => by rw [List.mem_singleton.mp h]; exact dS) (exb_del.mp e)
  refine ⟨?_, ee⟩
  have w1 : Holds M (S.set n (cDice d z')) (upd H d (.lst [.int z'.1, .int z'.2.1, .int z'.2.2])) := w.put hk rfl rfl
  refine w1.ex fun a o h => ?_
  by_cases ha : a = d
  · rw [ha] at h ⊢
    rw [upd_same] at h
    rw [hd]
    exact h
  · rw [upd_ne ha] at h
    exact e a o ha h
theorem em_roll {n : Nat} {d : Addr} {z : Dice} {m : Int} (h : Ea E cl M tr σ I S (aC (kPtr d) (aC kI a0)) (.ok ((), m, ())) S') (hk : S'[n]? = some (cDice d z)) (hm : 0 < m ∧ m < 1000000) : Em E cl M (tCall spRollX [] E' tr) σ I S kI (.ok (roll z m).1) (S'.set n (cDice d (roll z m).2)) :=
  em_mk ((ads_set (c' := cDice d (roll z m).2) hk rfl).trans h.ad) fun H1 i w Q q => ea_of h H1 i w _ fun vs H2 e w2 r => by
    obtain ⟨v1, r1, rfl, g1, v2, r2, rfl, g2, rfl⟩ := r
    obtain rfl : v1 = .ref d := g1
    obtain rfl : v2 = .int m := g2
    obtain ⟨_, o, h2, ro⟩ := w2.at_ _ (List.mem_of_getElem? hk)
    obtain rfl : o = .lst [.int z.1, .int z.2.1, .int z.2.2] := ro
    refine ⟨d, z, m, rfl, h2, hm.1, hm.2, fun H3 e3 h3 => ?_⟩
    obtain ⟨w3, x3⟩ := dice_put w2 hk e3 h3
    exact q _ H3 (ads_tr h.ad e x3) w3 rfl
theorem em_callR {n : Nat} {d : Addr} {z : Dice} {A : AR α} {B : AR γ} {a : α} {a' : γ} {pre : α → Prop} {f : α → Dice → β × Dice} {dvs : List V} (h : Ea E cl M tr σ I S (aC (kPtr d) B) (.ok ((), a')) S') (hA : ∀ H vs, B H vs a' → A H (vs ++ dvs) a) (hk : S'[n]? = some (cDice d z)) (hp : pre a) (mn : M.Nodup) : Em E cl M (tCall (spR A pre f u) dvs E' tr) σ I S u (.ok (f a z).1) (S'.set n (cDice d (f a z).2)) :=
  em_mk ((ads_set (c' := cDice d (f a z).2) hk rfl).trans h.ad) fun H1 i w Q q => ea_of h H1 i w _ fun vs H2 e w2 r => by
    obtain ⟨v1, r1, rfl, g1, g2⟩ := r
    obtain rfl : v1 = .ref d := g1
    obtain ⟨dM, o, h2, ro⟩ := w2.at_ _ (List.mem_of_getElem? hk)
    obtain rfl : o = .lst [.int z.1, .int z.2.1, .int z.2.2] := ro
    refine ⟨M, d, z, r1 ++ dvs, a, rfl, dM, w2.live, mn, h2, hA _ _ g2, hp, fun v H3 e3 h3 r3 => ?_⟩
    obtain ⟨w3, x3⟩ := dice_put w2 hk (exb_del.mpr e3) h3
    exact q _ H3 (ads_tr h.ad e x3) w3 r3
end
/-! ### calendars -/
def kCal (K : PySem.W.Frag) (C : Addr) : Ty Ca := ⟨fun H v c => ∃ a, v = .ref a ∧ CalP K C H a c ∧ Small c, fun e ⟨a, h1, h2, h3⟩ => ⟨a, h1, h2.ex e, h3⟩⟩
section
variable {K : PySem.W.Frag} {α β γ δ R τ : Type} {E E' : XK} {cl : Nat → Addr} {M : List Addr} {σ : L2.St} {I I' H H' : Hp} {S S' S1 S2 S3 : List Cell} {te ta tb tc to : TE} {tt : TT} {tr : TA} {t : Ty α} {u : Ty β} {C : Addr} {c : Ca} {y : β}
/-- what an old promise hands back, in a kind -/
def RsT (K : PySem.W.Frag) (r : Rs) (u : Ty β) (y : β) : Prop := match r with
  | .ok z => ∀ H, u.r H z y
  | .tup zs => ∀ H p, SqT K H p zs → u.r H (.ref p) y
  | .lst zs => ∀ H p, SqL K H p zs → u.r H (.ref p) y
  | _ => False
theorem em_oldG {f : Ca → List V → Option Rs} {r : Rs} {ws dvs : List V} {B : AR γ} {b : γ} (h : Ea E cl M tr σ I S (aC (kCal K C) B) (.ok (c, b)) S') (hB : ∀ H vs, B H vs b → vs = ws) (hf : f c (ws ++ dvs) = some r) (hr : RsT K r u y) : Em E cl M (tCall (spM K C cl f) dvs E' tr) σ I S u (.ok y) S' :=
  em_mk h.ad fun H1 i w Q q => ea_of h H1 i w _ fun vs H2 e w2 r2 => by
    obtain ⟨v, rs, rfl, ⟨a, rfl, hc, hs⟩, hb⟩ := r2
    obtain rfl := hB _ _ hb
    have hc2 : CalP K C H2 a c := hc.ex del_le
    refine ⟨a, c, rs ++ dvs, r, rfl, hc2, hs, hf, ?_⟩
    cases r with
    | ok z => exact fun H3 e3 => q z H3 (e.trans (ex_del e3)) (w2.ex e3) (hr _)
    | tup zs => exact fun p H3 hp e3 h3 => q _ H3 (e.trans (ex_del e3)) (w2.ex e3) (hr _ p (st_of (del_at (fresh_not w2.live hp) h3)))
    | lst zs => exact fun p H3 hp e3 h3 => q _ H3 (e.trans (ex_del e3)) (w2.ex e3) (hr _ p (sq_of (del_at (fresh_not w2.live hp) h3)))
    | err k => exact hr.elim
theorem em_oldM {m : Str} {f : Ca → List V → Option Rs} {r : Rs} {ws dvs : List V} {B : AR γ} {b : γ} (ho : Em E cl M to σ I S (kCal K C) (.ok c) S1) (h : Ea E cl M tr σ I S1 B (.ok b) S') (hB : ∀ H vs, B H vs b → vs = ws) (hm : ∀ tm ty dl ts, (calF c tm ty dl ts).lookup m = none) (hf : f c (ws ++ dvs) = some r) (hr : RsT K r u y) : Em E cl M (tMeth C m (spM K C cl f) dvs E' to tr) σ I S u (.ok y) S' :=
  em_mk (h.ad.trans ho.ad) fun H1 i w Q q => em_of ho H1 i w _ fun v H2 e w2 r2 => by
    obtain ⟨a, rfl, hc, hs⟩ := r2
    have hc2 : CalP K C H2 a c := hc.ex del_le
    obtain ⟨dx, tm, ty, dl, ts, kvs, st, h1, hrest⟩ := hc2
    refine ⟨a, dx, _, rfl, h1, hm _ _ _ _, ea_of h H2 (i.trans (w.grow e)) w2 _ fun vs H3 e3 w3 r3 => ?_⟩
    obtain rfl := hB _ _ r3
    have hc3 : CalP K C H3 a c := (hc.ex (w2.grow e3)).ex del_le
    refine ⟨a, c, vs ++ dvs, r, rfl, hc3, hs, hf, ?_⟩
    cases r with
    | ok z => exact fun H4 e4 => q z H4 ((ads_tr ho.ad e e3).trans (ex_del e4)) (w3.ex e4) (hr _)
    | tup zs => exact fun p H4 hp e4 h4 => q _ H4 ((ads_tr ho.ad e e3).trans (ex_del e4)) (w3.ex e4) (hr _ p (st_of (del_at (fresh_not w3.live hp) h4)))
    | lst zs => exact fun p H4 hp e4 h4 => q _ H4 ((ads_tr ho.ad e e3).trans (ex_del e4)) (w3.ex e4) (hr _ p (sq_of (del_at (fresh_not w3.live hp) h4)))
    | err k => exact hr.elim
end
end Rw
namespace Rw
open PySem PySem.Spec PyProof.Rows L2 Evl
section
variable {X : Cx} {pins : List (Addr × Obj)} {σ : L2.St} {H : Hp} {s : Shared}
/-- lambda: body -/
def tLamC (T : List (Addr × Str)) (P : Addr) (q : Str) (params : Arguments) (body : Expr) (scope : Scope) (cells : List (Str × Addr)) : TE := fun _ H Q => LamX.Tabs T H ∧
  ∀ f cc H1, H f = none → ExB P H H1 → LamX.Tabs T H1 → H1 f = some (LamC f q params body scope cells cc) → H1 cc = some (LamX.CodeO cc q) → Q (.ref f) H1
theorem pe_lamC {T : List (Addr × Str)} {c P : Addr} {params : Arguments} {body : Expr} {scope : Scope} {pos : Pos} (L : LamX.LamS X.env.scope scope) (TB : LamX.TabB X.base X.mg c P) (codeX : X.env.code = .ref c)
    (inT : (P, X.env.qual ++ "<lambda>") ∈ T) (oneT : ∀ p ∈ T, p.1 = P → p.2 = X.env.qual ++ "<lambda>") (nodef : defaultsOf params X.env = ([], [])) :
    PE X (.Lambda params body scope pos) (tLamC T P (X.env.qual ++ "<lambda>") params body scope (cloFrom X.env.cells scope.names [])) := by
  refine ⟨fun pins s σ H Q I h => ?_⟩
  obtain ⟨tabs0, h⟩ := h
  obtain ⟨trs, atP, okP, allP⟩ := tabs0 _ inT
  generalize hclo : cloFrom X.env.cells scope.names [] = CL at h ⊢
  have frees := L.has I.ok
  refine PySem.W.kla_eval nodef ?_
  have bltP : s.heap.BuiltinsAt X.mg P := TB.bm.keeps I.bk
  have heapP : s.heap.get? P = some { cls := .none, data := .fields trs } := I.hok P _ atP
  cases among : codeAmong pos trs.toList with
  | none =>
    refine PySem.W.kla_makeFunction (mg := X.mg) (c := c) (P := P) (ps := trs) (closure_ok frees) I.ok.glob (I.mod.glob.keeps I.bk) codeX (TB.code.keeps I.bk) heapP okP among TB.gP bltP fun cc tv hp tt kept ge0 lt0 rec0 tab0 => ?_
    rw [hclo]
    obtain ⟨c2, co, fs, t, f2, coAt, coData, coQual⟩ := rec0
    cases f2
    have ge1 : s.heap.objs.size ≤ hp.objs.size := Nat.le_trans ge0 (Nat.le_of_lt lt0)
    have newC : H cc = none := I.hok.fresh ge0
    have J1 := LamX.inv_table (t' := tt) (more := #[rawInt pos.line, rawInt pos.col, .ref cc]) (h' := hp) I atP kept tab0 ge0 ⟨co, fs, t, coAt, coData, coQual⟩
    have extH : ExB P H (upd (upd H P (.tbl (trs ++ #[rawInt pos.line, rawInt pos.col, .ref cc]))) cc (LamX.CodeO cc (X.env.qual ++ "<lambda>"))) := fun b o n e => by
      rw [upd_ne (ne_of_none e newC), upd_ne n]
      exact e
    have snocL : (trs ++ #[rawInt pos.line, rawInt pos.col, .ref cc]).toList = trs.toList ++ [rawInt pos.line, rawInt pos.col, .ref cc] := by simp
    have tabs1 : LamX.Tabs T (upd (upd H P (.tbl (trs ++ #[rawInt pos.line, rawInt pos.col, .ref cc]))) cc (LamX.CodeO cc (X.env.qual ++ "<lambda>"))) := fun p hp => by
      by_cases isP : p.1 = P
      · rw [oneT p hp isP, isP]
        refine ⟨_, by rw [upd_ne (ne_of_none atP newC), upd_same], by rw [snocL]; exact PySem.TriplesOk_snoc _ _ _ _ okP, fun pp cd find => ?_⟩
        rw [snocL] at find
        rcases LamX.among_app _ okP find with z | z
        · obtain ⟨c9, f1, f2⟩ := allP pp cd z
          exact ⟨c9, f1, extH _ _ (fun z => LamX.codeO_ne _ (Option.some.inj ((f2.symm.trans (by rw [z])).trans atP))) f2⟩
        · exact ⟨cc, z, upd_same⟩
      · obtain ⟨trs', t1, t2, t3⟩ := tabs0 p hp
        refine ⟨trs', by rw [upd_ne (ne_of_none t1 newC), upd_ne isP]; exact t1, t2, fun pp cd find => ?_⟩
        obtain ⟨c9, f1, f2⟩ := t3 pp cd find
        exact ⟨c9, f1, extH _ _ (fun z => LamX.codeO_ne _ (Option.some.inj ((f2.symm.trans (by rw [z])).trans atP))) f2⟩
    -- the function object
    have objF : (hp.push (PySem.W.kla_obj "<lambda>" (X.env.qual ++ "<lambda>") params body scope CL ((X.mg "__name__").getD .none) cc tv)).get? hp.objs.size = some (PySem.W.kla_obj "<lambda>" (X.env.qual ++ "<lambda>") params body scope CL ((X.mg "__name__").getD .none) cc tv) := Heap.get?_push_size _ rfl
    generalize eqH1 : (upd (upd H P (.tbl (trs ++ #[rawInt pos.line, rawInt pos.col, .ref cc]))) cc (LamX.CodeO cc (X.env.qual ++ "<lambda>"))) = H1 at J1 extH tabs1
    have newF : H1 hp.objs.size = none := J1.hok.fresh (Nat.le_refl _)
    have J2 := Inv.laid (a := hp.objs.size) (o := LamC hp.objs.size (X.env.qual ++ "<lambda>") params body scope CL cc) (t' := tt) (h' := hp.push (PySem.W.kla_obj "<lambda>" (X.env.qual ++ "<lambda>") params body scope CL ((X.mg "__name__").getD .none) cc tv)) J1 (fun b u e => Heap.get?_push_of_some _ e) (Nat.le_refl _)
      ⟨⟨_, _, objF⟩, ⟨_, objF⟩, fun h1 h2 ⟨pm, ct, e⟩ st => ⟨pm, ct, st _ e⟩⟩
    have extH2 : ExB P H (upd H1 hp.objs.size (LamC hp.objs.size (X.env.qual ++ "<lambda>") params body scope CL cc)) := fun b o n e => by
      rw [upd_ne (ne_of_none (extH b o n e) newF)]
      exact extH b o n e
    have atC : H1 cc = some (LamX.CodeO cc (X.env.qual ++ "<lambda>")) := by rw [← eqH1]; exact upd_same
    refine ⟨.ref hp.objs.size, _, J2, rfl, h hp.objs.size cc _ (I.hok.fresh ge1) extH2 (tabs1.ext fun b o e => by rw [upd_ne (ne_of_none e newF)]; exact e) upd_same ?_⟩
    rw [upd_ne (ne_of_none atC newF)]
    exact atC
  | some cd =>
    obtain ⟨cc, e, oldC⟩ := allP pos cd among
    subst e
    refine PySem.W.kla_makeFunctionHit (mg := X.mg) (c := c) (P := P) (ps := trs) (closure_ok frees) I.ok.glob (I.mod.glob.keeps I.bk) codeX (TB.code.keeps I.bk) heapP okP among bltP fun tv hp tt kept ge1 => ?_
    rw [hclo]
    have objF : (hp.push (PySem.W.kla_obj "<lambda>" (X.env.qual ++ "<lambda>") params body scope CL ((X.mg "__name__").getD .none) cc tv)).get? hp.objs.size = some (PySem.W.kla_obj "<lambda>" (X.env.qual ++ "<lambda>") params body scope CL ((X.mg "__name__").getD .none) cc tv) := Heap.get?_push_size _ rfl
    have newF : H hp.objs.size = none := I.hok.fresh ge1
    have J2 := Inv.laid (a := hp.objs.size) (o := LamC hp.objs.size (X.env.qual ++ "<lambda>") params body scope CL cc) (t' := tt) (h' := hp.push (PySem.W.kla_obj "<lambda>" (X.env.qual ++ "<lambda>") params body scope CL ((X.mg "__name__").getD .none) cc tv)) I (fun b u e => Heap.get?_push_of_some _ (kept b u e)) ge1
      ⟨⟨_, _, objF⟩, ⟨_, objF⟩, fun h1 h2 ⟨pm, ct, e⟩ st => ⟨pm, ct, st _ e⟩⟩
    have extH2 : ∀ b o, H b = some o → upd H hp.objs.size (LamC hp.objs.size (X.env.qual ++ "<lambda>") params body scope CL cc) b = some o := fun b o e => by
      rw [upd_ne (ne_of_none e newF)]
      exact e
    exact ⟨.ref hp.objs.size, _, J2, rfl, h hp.objs.size cc _ newF (ExB.of extH2) (tabs0.ext extH2) upd_same (extH2 _ _ oldC)⟩

end
/-! ### a comprehension whose block is told where it was entered -/
/-- from within the block back to the def around it -/
theorem out_of {X : Cx} {pins p2 : List (Addr × Obj)} {σ σ2 : L2.St} {H H2 : Hp} {s s2 : Shared} {scope : Scope} {ce : Env} {fp : List Addr} (I : Inv X pins σ H s) (ok : ∀ b ∈ fp, FpOk X pins H b) (J : Inv (X.blk s H scope ce fp) p2 σ2 H2 s2) : Inv X pins σ H2 s2 :=
  I.call' (ch := fp) J.os J.base J.hok J.bare fun b hb => let ⟨_, f1, _, f3, f4, f5⟩ := ok b hb; ⟨f3, f1, f4, f5⟩
def tLcK (wi : TI) (g : TG) (tt : L2.St → TT) (te : L2.St → TE) (vs : List Nat) : TE := fun σ H Q => tLc wi g (tt σ) (te σ) vs σ H Q
section
variable {X : Cx}
theorem pe_lcK {elt tg iter : Expr} {ifs : List Expr} {scope : Scope} {own : List (Str × Nat)} {pos : Pos} {wi : TI} {g : TG} {tt : L2.St → TT} {te : L2.St → TE} (hc : X.calm = true) (nd : X.N.Nodup) (hi : PI X tg iter wi) (ok : BlkOk X.N X.env.scope scope own)
    (hg : ∀ (s : Shared) (H : Hp) (C : Addr) (cl : List (Str × Addr)) (fp : List Addr), PG (X.blk s H scope (compEnvC scope cl C X.env) fp) tg g)
    (ht : ∀ (pins : List (Addr × Obj)) (σ : L2.St) (s : Shared) (H : Hp) (C : Addr) (cl : List (Str × Addr)) (fp : List Addr), Inv X pins σ H s → (∀ b ∈ fp, FpOk X pins H b) → PTs (X.blk s H scope (compEnvC scope cl C X.env) fp) ifs (tt σ))
    (he : ∀ (pins : List (Addr × Obj)) (σ : L2.St) (s : Shared) (H : Hp) (C : Addr) (cl : List (Str × Addr)) (fp : List Addr), Inv X pins σ H s → (∀ b ∈ fp, FpOk X pins H b) → PE (X.blk s H scope (compEnvC scope cl C X.env) fp) elt (te σ)) (hs : ∀ x, foldedSetIterable iter X.env x = pure x := by intro _; rfl) :
    PE X (.ListComp elt [⟨tg, iter, ifs, 0⟩] scope pos) (tLcK wi g tt te (own.map (·.2))) := by
  refine ⟨fun ps s0 σ H0 Q I0 want => ?_⟩
  rw [eval_ListComp]
  have caught : ∀ y ∈ scope.names, y.2 = .free → ∃ c, X.env.cells.lookup y.1 = some c := fun y hy e => (ok.free y hy e).elim (fun k => I0.ok.has _ (.inl k)) fun k => I0.ok.has _ (.inr k)
  refine wpAny_comprehension_free (use := none) rfl hs (closure_ok caught) ok.kind (fun y hy e => by rw [ok.uniq y hy, e]) (thn (hi.run ps s0 σ H0 _ I0 want) fun src s1 h1 => thn h1 fun itr s2 h2 => ?_)
  obtain ⟨it, fp, tn, J, Hi, rfl, Ii, T, at0, fi, more⟩ := h2
  refine wpAny_newObj_type (newEnv_comp ?_) (by show 0 ≤ sizeLine; decide)
  generalize eqD : s2.heap.objs.size = D
  have isnew : Hi D = none := Ii.hok.fresh (Nat.le_of_eq eqD)
  obtain ⟨W, ⟨m0, w0⟩, turn⟩ := more D isnew
  generalize eqs : ({ s2 with heap := s2.heap.push { cls := .type "list", data := .seq ([] : List Value).toArray } } : Shared) = sl
  have hl : sl.heap = s2.heap.push { cls := .type "list", data := .seq ([] : List Value).toArray } := by rw [← eqs]
  have Il : Inv X ps σ (upd Hi D (.lst [])) sl := by
    rw [← eqs]
    exact Ii.laid (t' := s2.toks) (fun b o e => Heap.get?_push_of_some _ e) (Nat.le_of_eq eqD) ⟨Nat.zero_le _, [], 0, .nil, by rw [← eqD]; exact Heap.get?_push_size _ rfl⟩
  have low : ∀ b ∈ fp, b < s2.heap.objs.size := fun b hb => let ⟨_, e, _⟩ := T.obj _ _ at0 b hb; Heap.lt_size e
  have fl : ∀ b ∈ fp, FpOk X ps (upd Hi D (.lst [])) b := fun b hb => ⟨by rw [upd_ne (by rw [← eqD]; exact Nat.ne_of_lt (low b hb))]; exact (fi b hb).1, (fi b hb).2⟩
  have atl : tn 0 sl.heap := T.keep _ _ _ at0 fun b _ o e => by rw [hl]; exact Heap.get?_push_of_some _ e
  have Ib := block_start Il ok nd fun b hb => ⟨fl b hb, by rw [hl, Heap.size_push]; exact Nat.lt_succ_of_lt (low b hb)⟩
  have pg := hg sl (upd Hi D (.lst [])) sl.heap.objs.size (cellsFrom (sl.heap.objs.size + 1) scope.names (cloFrom X.env.cells scope.names [])) fp
  have pt := ht ps σ sl (upd Hi D (.lst [])) sl.heap.objs.size (cellsFrom (sl.heap.objs.size + 1) scope.names (cloFrom X.env.cells scope.names [])) fp Il fl
  have pe := he ps σ sl (upd Hi D (.lst [])) sl.heap.objs.size (cellsFrom (sl.heap.objs.size + 1) scope.names (cloFrom X.env.cells scope.names [])) fp Il fl
  show codeAny _ _ (.compStart _ 0 (.ref it) (.ref D) (compEnvC scope (cellsFrom (sl.heap.objs.size + 1) scope.names (cloFrom X.env.cells scope.names [])) sl.heap.objs.size X.env)) (compPost (model X.prog X.w) X.A X.xe none (EP X ps σ Q) (.ref D) sl.heap.objs.size) _
  generalize eqce : compEnvC scope (cellsFrom (sl.heap.objs.size + 1) scope.names (cloFrom X.env.cells scope.names [])) sl.heap.objs.size X.env = ce at Ib pg pt pe ⊢
  have locs : ce.locals = sl.heap.objs.size := by rw [← eqce]; rfl
  generalize eqH : upd Hi D (.lst []) = Hl at Il Ib pg pt pe w0 fl
  generalize eqb : ({ sl with heap := pushCells (sl.heap.push { cls := .type "dict", data := .dict #[] }) scope.names } : Shared) = sb at Ib ⊢
  have atb : tn 0 sb.heap := T.keep _ _ _ atl fun b _ o e => by rw [← eqb]; exact pushCells_keeps _ _ _ _ (Heap.get?_push_of_some _ e)
  have still : ∀ {σ' : L2.St} {H' : Hp} {s' : Shared}, Inv (X.blk sl Hl scope ce fp) [] σ' H' s' → (∀ b ∈ fp, H' b = none) → ∀ b ∈ fp, FpOk (X.blk sl Hl scope ce fp) [] H' b := fun I' n b hb =>
    ⟨n b hb, (I'.ok.exf b hb).1, I'.ok.exfs b hb, .inl hb, fun x c e => (I'.ok.exf b hb).2 x c e, fun p hp => by simp at hp⟩
  refine codeAny_compStart_list ?go (T.self X.A 0 _ _ _ atb ?go)
  refine compLoop_any (fun n s' => ∃ i H', Inv (X.blk sl Hl scope ce fp) [] (wipe σ (own.map (·.2))) H' s' ∧ tn i s'.heap ∧ (∀ b ∈ fp, H' b = none) ∧ W i n H') (fun n s5 ⟨i, H5, I5, at5, n5, w5⟩ => ?_) m0 ⟨0, Hl, Ib, atb, fun b hb => (fl b hb).1, w0⟩
  rcases turn i n H5 w5 with ⟨stop, qq⟩ | ⟨go, Nx, falls, step⟩
  · refine thnF (T.done (X.blk sl Hl scope ce fp) rfl rfl rfl hc i [] s5 _ H5 (fun _ _ => False) I5 (still I5 n5) at5 stop) fun r s6 ⟨hr, I6⟩ => ?_
    subst hr
    have I7 : Inv X ps σ H5 s6 := out_of Il fl I6
    have nC : H5 sl.heap.objs.size = none := by rw [← locs]; exact I6.free
    obtain ⟨m, hn, _⟩ := I6.loc
    have hn : s6.heap.Ns ce.locals m := hn
    rw [locs] at hn
    refine ⟨m, hn, fun h'' sb' => ?_⟩
    obtain ⟨f0, f1, f2, f3, f4, f5⟩ : FpOk X ps H5 sl.heap.objs.size := Il.fpOk (Nat.le_refl _) nC
    exact ⟨.ref D, H5, I7.turned (t' := s6.toks) (fun b o hb e => (sb'.2 b hb).trans e) f0 f1 f3 f4 f5, rfl, qq⟩
  · refine thnF (T.item (X.blk sl Hl scope ce fp) rfl rfl rfl hc i [] s5 _ H5 (fun _ _ => False) I5 (still I5 n5) at5 go) fun r s6 ⟨u, hr, h6⟩ => ?_
    subst hr
    refine thnF h6 fun _ s7 ⟨x, H7, I7, r7, y7, at7, n7⟩ => ?_
    refine thnF (pg.run _ s7 _ H7 x u _ (I7.pinned (still I7 n7) (T.obj _ _ at7)) r7 (step x H7 y7)) fun _ s8 ⟨σ8, H8, I8, hw8, q8⟩ => ?_
    refine thnF (pt.run _ s8 σ8 H8 _ I8 q8) fun b s9 ⟨H9, I9, q9⟩ => ?_
    have fin : ∀ {s' : Shared} {H' : Hp}, Inv (X.blk sl Hl scope ce fp) ([] ++ pinsAt fp s7.heap) σ8 H' s' → Nx H' → ∃ m, m < n ∧ ∃ i H', Inv (X.blk sl Hl scope ce fp) [] (wipe σ (own.map (·.2))) H' s' ∧ tn i s'.heap ∧ (∀ b ∈ fp, H' b = none) ∧ W i m H' := fun {s' H'} I' nx => by
      obtain ⟨m', hm, w'⟩ := falls H' nx
      have pinned : ∀ b ∈ fp, ∀ o, s7.heap.get? b = some o → s'.heap.get? b = some o ∧ H' b = none := fun b hb o e => ⟨(I'.pin (b, o) (List.mem_append_right _ (List.mem_append_right _ (mem_pinsAt hb e)))).1, (I'.pin (b, o) (List.mem_append_right _ (List.mem_append_right _ (mem_pinsAt hb e)))).2.1⟩
      refine ⟨m', hm, i + 1, H', (I'.unpinned (pins := [])).weak (by rw [← hw8, wipe_length]) (fun j v e => (wipe_some (by rw [← hw8] at e; exact e)).1), T.keep _ _ _ at7 fun b hb o e => (pinned b hb o e).1, fun b hb => ?_, w'⟩
      obtain ⟨o, e, _⟩ := T.obj _ _ at7 b hb
      exact (pinned b hb o e).2
    cases b with
    | false => exact fin I9 (by simpa using q9)
    | true =>
      simp only [if_true] at q9 ⊢
      exact thnF (pe.run _ s9 σ8 H9 _ I9 q9) fun z s10 ⟨yv, H10, I10, r10, acc, hD10, hz10, nx⟩ => app_ok (X := X.blk sl Hl scope ce fp) I10 hD10 hz10 r10 fun s11 I11 => fin I11 nx
end
end Rw
namespace Rw
open PySem PySem.Spec PyProof.Rows L2 Evl
/-- _law_told(e) within a block, e a lambda of the def around it -/
def tToldB (X : Cx) (σ0 : L2.St) (c : Nat → Addr) (k : Nat) (ta : TA) : TE := fun σ H Q => ta σ H fun vs H1 => ∃ (f cc : Addr) (params : Arguments) (body : Expr) (scope : Scope) (t : XK → TE), vs = [.ref f] ∧ H1 f = some (LamC f (X.env.qual ++ "<lambda>") params body scope (cloFrom X.env.cells scope.names []) cc) ∧ H1 cc = some (LamX.CodeO cc (X.env.qual ++ "<lambda>")) ∧ LamX.LamS X.env.scope scope ∧
  (∀ (pm cv ctv : Value), bindArgs (PySem.W.kla_fn "<lambda>" (X.env.qual ++ "<lambda>") params body scope (cloFrom X.env.cells scope.names []) pm cv ctv) ⟨[], []⟩ = pure []) ∧
  (∀ (A : Around) (outer : List Env) (s : Shared) (H : Hp) (E : XK), Room k (A.deeper (LamX.lamEnv X scope s.heap.objs.size f cc)) → PE (LamX.lamCx X A outer s H E scope f cc) body (t E)) ∧ t (ETold c Q) σ0 H1 Q
theorem pe_toldB {X : Cx} {pins0 : List (Addr × Obj)} {σ0 : L2.St} {H0 : Hp} {s0 : Shared} {scopeB : Scope} {ceB : Env} {fp : List Addr} (I0 : Inv X pins0 σ0 H0 s0) (fpo : ∀ b ∈ fp, FpOk X pins0 H0 b) {c : Nat → Addr} {k : Nat} {g : Addr} {oc kV dc pm cdv ct : Value} {od an : Option Addr} {osl : Array (Option Value)} {p pos : Pos} {e : Expr} {ta : TA} (B : Exs X.K X.mg c) (hm : X.mg "_law_told" = some (.ref g)) (kp : PySem.W.keepIn X.K (.ref g) = true)
    (lk : X.K.lookup g = some ⟨oc, od, .func (PySem.W.fnOf "_law_told" "_law_told" (defArgs sTold) (defBody sTold) (defScope sTold) .none kV dc pm an cdv ct), osl⟩) (hcg : PySem.W.codeIn X.K cdv "_law_told" = true) (b : Binds X.K (PySem.W.fnOf "_law_told" "_law_told" (defArgs sTold) (defBody sTold) (defScope sTold) .none kV dc pm an cdv ct) ["what"] [])
    (room : Room (k + 2) X.A) (ha : PA (X.blk s0 H0 scopeB ceB fp) [e] ta) (hg : Gl (X.blk s0 H0 scopeB ceB fp) "_law_told" := by rfl) (he : starEach [e] ceB = (false, eval e ceB) :: starEach [] ceB := by rfl) (hpl : (backTo pos (starEach [] ceB)).any (·.1) = false := by rfl) :
    PE (X.blk s0 H0 scopeB ceB fp) (.Call (.Name "_law_told" p) [e] [] pos) (tToldB X σ0 c k ta) := by
  refine ⟨fun pins s σ H Q I h => ?_⟩
  refine wpAny_Call_Name_kw (ld_glob I hg hm ?_ (by decide))
  refine PySem.W.callWith_K (h₀ := X.base) I.ok.mod.kin kp (thn (ha.run pos pins s σ H _ I h) fun us s1 ⟨vs, H1, I1, r, q⟩ => ⟨I1.kIn, ?_⟩) he hpl
  obtain ⟨f, cc, params, body, scope, t, rfl, atf, atc, L, binds, runs, q⟩ := q
  have I1 : Inv (X.blk s0 H0 scopeB ceB fp) pins σ H1 s1 := I1
  have IX := out_of I0 fpo I1
  obtain rfl : us = [Value.ref f] := Vals.ref1 r
  have ran : codeAny (model X.prog X.w) X.A (.call (.ref g) ⟨[.ref f], []⟩) (CR (L2.CX X.prog X.w) X.stack X.prog X.w H1 s1 Q E0) s1 := by
    refine LamX.run_ofS (N := ["what"]) (ps := ["what"]) (us := [.ref f]) (vs := [.ref f]) lk hcg scTold room IX.env0 (b s1 [.ref f] IX.kIn rfl) (.cons rfl .nil) rfl fun room' => ?_
    refine ⟨_, pss_one (ps_try_many (tb := fun W D σZ HZ => ∃ E' : XK, (∀ cls d σ' H', E' cls d H' → W cls d σ' H') ∧ σZ[0]? = some (some (.ref f)) ∧ HZ f = some (LamC f (X.env.qual ++ "<lambda>") params body scope (cloFrom X.env.cells scope.names []) cc) ∧ HZ cc = some (LamX.CodeO cc (X.env.qual ++ "<lambda>")) ∧ t E' σ0 HZ D.rt) rfl rfl takes_none5
        (fun W pn xe tk _ => ⟨fun pz s' uz Hz D Iz h' => ?_⟩)
        (HdsOk.cons ⟨rfl, by decide, .inl (B.e 0 (by decide)).g⟩ (fun _ _ _ _ _ _ _ => pss_one (ps_ret pe_str)) (HdsOk.cons ⟨rfl, by decide, .inl (B.e 1 (by decide)).g⟩ (fun _ _ _ _ _ _ _ => pss_one (ps_ret pe_str)) (HdsOk.cons ⟨rfl, by decide, .inl (B.e 2 (by decide)).g⟩ (fun _ _ _ _ _ _ _ => pss_one (ps_ret pe_str)) (HdsOk.cons ⟨rfl, by decide, .inl (B.e 3 (by decide)).g⟩ (fun _ _ _ _ _ _ _ => pss_one (ps_ret pe_str)) (HdsOk.cons ⟨rfl, by decide, .inl (B.e 4 (by decide)).g⟩ (fun _ _ _ _ _ _ _ => pss_one (ps_ret pe_str)) (HdsOk.cons ⟨rfl, by decide, .inl (B.e 5 (by decide)).g⟩ (fun _ _ _ _ _ _ _ => pss_one (ps_ret pe_str)) (HdsOk.cons ⟨rfl, by decide, .inl (B.e 6 (by decide)).g⟩ (fun _ _ _ _ _ _ _ => pss_one (ps_ret pe_str)) (HdsOk.cons ⟨rfl, by decide, .inl (B.e 7 (by decide)).g⟩ (fun _ _ _ _ _ _ _ => pss_one (ps_ret pe_str)) (HdsOk.cons ⟨rfl, by decide, .inl (B.e 8 (by decide)).g⟩ (fun _ _ _ _ _ _ _ => pss_one (ps_ret pe_str)) (HdsOk.cons ⟨rfl, by decide, .inl (B.e 9 (by decide)).g⟩ (fun _ _ _ _ _ _ _ => pss_one (ps_ret pe_str)) (HdsOk.cons ⟨rfl, by decide, .inl (B.e 10 (by decide)).g⟩ (fun _ _ _ _ _ _ _ => pss_one (ps_ret pe_str)) (HdsOk.nil))))))))))))), ?_⟩
    · obtain ⟨E', hE, g1, g2, g3, g4⟩ := h'
      exact (pss_one (ps_ret (pe_actC (E := E') (i := 0) (k := k) IX L binds tk hE room' (fun A outer s H hr2 => runs A outer s H E' hr2) rfl (.inl rfl)))).run pz s' uz Hz D Iz ⟨g1, g2, g3, g4⟩
    · refine ⟨ETold c Q, fun cls d σ' H' hE => ?_, rfl, atf, atc, q⟩
      obtain ⟨i, hi, rfl, q⟩ := hE
      exact ⟨decide (i = 0), B.m i 0 hi (by omega), fun hb _ _ => (by obtain rfl : i = 0 := of_decide_eq_true hb; exact q), fun hb0 => (by have n0 := of_decide_eq_false hb0; exact ⟨decide (i = 1), B.m i 1 hi (by omega), fun hb _ _ => (by obtain rfl : i = 1 := of_decide_eq_true hb; exact q), fun hb1 => (by have n1 := of_decide_eq_false hb1; exact ⟨decide (i = 2), B.m i 2 hi (by omega), fun hb _ _ => (by obtain rfl : i = 2 := of_decide_eq_true hb; exact q), fun hb2 => (by have n2 := of_decide_eq_false hb2; exact ⟨decide (i = 3), B.m i 3 hi (by omega), fun hb _ _ => (by obtain rfl : i = 3 := of_decide_eq_true hb; exact q), fun hb3 => (by have n3 := of_decide_eq_false hb3; exact ⟨decide (i = 4), B.m i 4 hi (by omega), fun hb _ _ => (by obtain rfl : i = 4 := of_decide_eq_true hb; exact q), fun hb4 => (by have n4 := of_decide_eq_false hb4; exact ⟨decide (i = 5), B.m i 5 hi (by omega), fun hb _ _ => (by obtain rfl : i = 5 := of_decide_eq_true hb; exact q), fun hb5 => (by have n5 := of_decide_eq_false hb5; exact ⟨decide (i = 6), B.m i 6 hi (by omega), fun hb _ _ => (by obtain rfl : i = 6 := of_decide_eq_true hb; exact q), fun hb6 => (by have n6 := of_decide_eq_false hb6; exact ⟨decide (i = 7), B.m i 7 hi (by omega), fun hb _ _ => (by obtain rfl : i = 7 := of_decide_eq_true hb; exact q), fun hb7 => (by have n7 := of_decide_eq_false hb7; exact ⟨decide (i = 8), B.m i 8 hi (by omega), fun hb _ _ => (by obtain rfl : i = 8 := of_decide_eq_true hb; exact q), fun hb8 => (by have n8 := of_decide_eq_false hb8; exact ⟨decide (i = 9), B.m i 9 hi (by omega), fun hb _ _ => (by obtain rfl : i = 9 := of_decide_eq_true hb; exact q), fun hb9 => (by have n9 := of_decide_eq_false hb9; exact ⟨decide (i = 10), B.m i 10 hi (by omega), fun hb _ _ => (by obtain rfl : i = 10 := of_decide_eq_true hb; exact q), fun hb10 => (by have n10 := of_decide_eq_false hb10; exact (by omega : False).elim)⟩)⟩)⟩)⟩)⟩)⟩)⟩)⟩)⟩)⟩)⟩
  refine wpAny_call (codeAny_mono ran fun r s2 got => ?_)
  cases r with
  | error e => exact (passL (X := X.blk s0 H0 scopeB ceB fp)) pins σ H1 s1 e s2 I1 got
  | ok fl =>
    cases fl with
    | ret u => exact I1.after got
    | next => exact False.elim got
    | brk => exact False.elim got
    | cont => exact False.elim got
end Rw
namespace Rw
open PySem PySem.Spec PyProof.Rows L2 Evl Cy
section
variable {K : PySem.W.Frag} {α β γ δ R τ : Type} {E E' : XK} {cl : Nat → Addr} {M : List Addr} {σ : L2.St} {I I' H H' : Hp} {S S' S1 S2 S3 : List Cell} {te ta tb tc to : TE} {tt : TT} {tr : TA} {t : Ty α} {u : Ty β} {w' : Ty γ} {x : α} {y : β} {v : V} {xs : List α}
/-- one thing that may change is changed -/
theorem Holds.chg {n : Nat} {c c' : Cell} {o : HO} (w : Holds M S H) (hk : S[n]? = some c) (ha : c'.a = c.a) (e : ExB c.a H H') (hc : H' c.a = some o) (hr : c'.r (del M H') o c'.x) : Holds M (S.set n c') H' ∧ Ex (del (ads S) H) (del (ads S) H') := by
  have cS : c.a ∈ ads S := List.mem_map.mpr ⟨_, List.mem_of_getElem? hk, rfl⟩
  have cM : c.a ∈ M := w.sub _ cS
  have ee : Ex (del (ads S) H) (del (ads S) H') := ex_sub (A := [c.a]) (fun a h => by rw [List.mem_singleton.mp h]; exact cS) (exb_del.mp e)
  have em := w.grow ee
  have ea := ads_set hk ha
  refine ⟨⟨fun z hz => ?_, by rw [ea]; exact w.one, fun m hm => ?_⟩, ee⟩
  · obtain ⟨i, hi⟩ := List.mem_iff_getElem?.mp hz
    have lt : n < S.length := (List.getElem?_eq_some_iff.mp hk).1
    rw [List.getElem?_set] at hi
    by_cases h : n = i
    · subst h
      rw [if_pos rfl, if_pos lt] at hi
      obtain rfl := Option.some.inj hi
      exact ⟨by rw [ha]; exact cM, o, by rw [ha]; exact hc, hr⟩
    · rw [if_neg h] at hi
      obtain ⟨h1, u, h2, h3⟩ := w.at_ z (List.mem_of_getElem? hi)
      refine ⟨h1, u, e _ _ (fun q => ?_) h2, z.up em h3⟩
      have g1 : (ads S)[i]? = some z.a := by unfold ads; rw [List.getElem?_map, hi]; rfl
      have g2 : (ads S)[n]? = some c.a := by unfold ads; rw [List.getElem?_map, hk]; rfl
      rw [q] at g1
      have li : i < (ads S).length := (List.getElem?_eq_some_iff.mp g1).1
      exact h ((List.getElem?_inj li w.one).mp (g1.trans g2.symm)).symm
  · by_cases h : m = c.a
    · rw [h, hc]; exact fun z => nomatch z
    · cases g : H m with
      | none => exact absurd g (w.live m hm)
      | some o => rw [e m o h g]; exact fun z => nomatch z
theorem set_same {c : Cell} {n : Nat} (hk : S[n]? = some c) : S.set n c = S := by
  apply List.ext_getElem? fun i => ?_
  rw [List.getElem?_set]
  by_cases h : n = i
  · subst h
    rw [if_pos rfl, if_pos (List.getElem?_eq_some_iff.mp hk).1, hk]
  · rw [if_neg h]
/-! ### lambdas that are kept -/
/-- the table of a def's code, which lambdas fill -/
def cTab (P : Addr) (q : Str) : Cell := ⟨P, Unit, fun I o _ => ∃ ps : Array Value, o = .tbl ps ∧ TriplesOk ps.toList ∧ ∀ (pos : Pos) (cv : Value), codeAmong pos ps.toList = some cv → ∃ c, cv = .ref c ∧ I c = some (LamX.CodeO c q), fun e ⟨ps, a, b, c⟩ => ⟨ps, a, b, fun pos cv h => let ⟨z, g1, g2⟩ := c pos cv h; ⟨z, g1, e _ _ g2⟩⟩, ()⟩
/-- none of what may change is a code -/
def NoCode (M : List Addr) (S : List Cell) : Prop := (∀ m ∈ M, m ∈ ads S) ∧ ∀ c ∈ S, ∀ I o, c.r I o c.x → ∀ z q, o ≠ LamX.CodeO z q
theorem nc_nil : NoCode [] [] := ⟨fun _ h => h, fun c h => by cases h⟩
theorem nc_cons {c : Cell} (h : NoCode M S) (k : ∀ I o, c.r I o c.x → ∀ z q, o ≠ LamX.CodeO z q) : NoCode (c.a :: M) (c :: S) :=
  ⟨fun m hm => by rcases List.mem_cons.mp hm with z | z; exact List.mem_cons.mpr (.inl z); exact List.mem_cons_of_mem _ (h.1 m z), fun z hz => by rcases List.mem_cons.mp hz with e | e; rw [e]; exact k; exact h.2 z e⟩
theorem nc_dice {d : Addr} {z : Dice} : ∀ I o, (cDice d z).r I o (cDice d z).x → ∀ c q, o ≠ LamX.CodeO c q := fun I o h c q e => by
  obtain rfl : o = _ := h
  unfold LamX.CodeO at e
  cases e
theorem nc_tab {P : Addr} {p : Str} : ∀ I o, (cTab P p).r I o (cTab P p).x → ∀ c q, o ≠ LamX.CodeO c q := fun I o h c q e => by
  obtain ⟨ps, rfl, _⟩ := h
  exact LamX.codeO_ne _ e.symm
theorem nc_list {d : Addr} {z : List α} : ∀ I o, (cL d t z).r I o (cL d t z).x → ∀ c q, o ≠ LamX.CodeO c q := fun I o h c q e => by
  obtain ⟨vs, rfl, _⟩ := h
  unfold LamX.CodeO at e
  cases e
theorem em_lamC {n : Nat} {P : Addr} {q : Str} {params : Arguments} {body : Expr} {scope : Scope} {cells : List (Str × Addr)} (hk : S[n]? = some (cTab P q)) (nc : NoCode M S) (r : ∀ f cc I', Ex I I' → I' f = some (LamC f q params body scope cells cc) → I' cc = some (LamX.CodeO cc q) → t.r I' (.ref f) x) :
    Em E cl M (tLamC [(P, q)] P q params body scope cells) σ I S t (.ok x) S := by
  refine em_mk rfl fun H1 i w Q qq => ?_
  obtain ⟨PM, o, h1, ps, rfl, ok, all⟩ := w.at_ _ (List.mem_of_getElem? hk)
  refine ⟨fun p hp => ?_, fun f cc H2 fn e tabs hf hc => ?_⟩
  · obtain rfl := List.mem_singleton.mp hp
    exact ⟨ps, h1, ok, fun pos cv h => let ⟨z, g1, g2⟩ := all pos cv h; ⟨z, g1, (del_some.mp g2).2⟩⟩
  · obtain ⟨ps2, g1, g2, g3⟩ := tabs (P, q) (List.mem_singleton.mpr rfl)
    have kd : ∀ z p, H2 z = some (LamX.CodeO z p) → del M H2 z = some (LamX.CodeO z p) := fun z p h => by
      refine del_some.mpr ⟨fun zm => ?_, h⟩
      obtain ⟨c, hc, rfl⟩ := List.mem_map.mp (nc.1 z zm)
      obtain ⟨_, u, hu, ru⟩ := w.at_ c hc
      by_cases zP : c.a = P
      · rw [zP] at h
        rw [h] at g1
        exact LamX.codeO_ne _ (Option.some.inj g1)
      · rw [e _ _ zP hu] at h
        exact nc.2 c hc _ _ ru _ _ (Option.some.inj h)
    obtain ⟨w2, x2⟩ := w.chg (c' := cTab P q) hk rfl e g1 ⟨ps2, rfl, g2, fun pos cv h => let ⟨z, k1, k2⟩ := g3 pos cv h; ⟨z, k1, kd z q k2⟩⟩
    rw [set_same hk] at w2
    exact qq _ H2 x2 w2 (r f cc _ (i.trans (w.grow x2)) (del_at (fresh_not w.live fn) hf) (kd cc q hc))
/-- a lambda of the def X, which raises: what it is told as -/
def kTold (X : Cx) (cl : Nat → Addr) (k : Nat) (ag : L2.St → Prop) : Ty Str := ⟨fun I v z => ∃ (f cc : Addr) (params : Arguments) (body : Expr) (scope : Scope) (tb : XK → TE) (i : Nat), v = .ref f ∧ I f = some (LamC f (X.env.qual ++ "<lambda>") params body scope (cloFrom X.env.cells scope.names []) cc) ∧ I cc = some (LamX.CodeO cc (X.env.qual ++ "<lambda>")) ∧
    LamX.LamS X.env.scope scope ∧ (∀ (pm cv ctv : Value), bindArgs (PySem.W.kla_fn "<lambda>" (X.env.qual ++ "<lambda>") params body scope (cloFrom X.env.cells scope.names []) pm cv ctv) ⟨[], []⟩ = pure []) ∧
    (∀ (A : Around) (outer : List Env) (s : Shared) (H : Hp) (E : XK), Room k (A.deeper (LamX.lamEnv X scope s.heap.objs.size f cc)) → PE (LamX.lamCx X A outer s H E scope f cc) body (tb E)) ∧ i < 11 ∧ z = kindName i ∧
    ∀ E M S σ' I', Ex I I' → ag σ' → Em E cl M (tb E) σ' I' S kN (.er i) S,
  fun e ⟨f, cc, params, body, scope, tb, i, h1, h2, h3, h4, h5, h6, h7, h8, h9⟩ => ⟨f, cc, params, body, scope, tb, i, h1, e _ _ h2, e _ _ h3, h4, h5, h6, h7, h8, fun E M S σ' I' e2 => h9 E M S σ' I' (e.trans e2)⟩⟩
theorem em_er {t' : Ty β} {k : Nat} (h : Em E cl M te σ I S t (.er k) S') : Em E cl M te σ I S t' (.er k) S' := ⟨h.ad, fun H1 i w Q _ qe => h.run H1 i w Q (fun x v H2 e => nomatch e) fun k H2 e => qe k H2 (by cases e; rfl)⟩
theorem kind_ok : ∀ i, i < 11 → (PyData.str (kindName i)).canLay0 = true := by decide +kernel
theorem em_toldB {X : Cx} {k : Nat} {σ0 : L2.St} {ag : L2.St → Prop} {z : Str} (ha : Ea E' cl M tr σ I S (aC (kTold X cl k ag) a0) (.ok (z, ())) S') (hag : ag σ0) : Em E' cl M (tToldB X σ0 cl k tr) σ I S kS (.ok z) S' :=
  em_mk ha.ad fun H1 i w Q q => ea_of ha H1 i w _ fun vs H2 e w2 r => by
    obtain ⟨v, rs, rfl, ⟨f, cc, params, body, scope, tb, j, rfl, h2, h3, h4, h5, h6, h7, rfl, h9⟩, rfl⟩ := r
    exact ⟨f, cc, params, body, scope, tb, rfl, (del_some.mp h2).2, (del_some.mp h3).2, h4, h5, h6, (h9 (ETold cl Q) M S' σ0 (del M H2) (Ex.refl _) hag).run H2 (Ex.refl _) w2 Q (fun x v H3 z => nomatch z) fun k H3 ek e3 w3 => by cases ek; exact ⟨j, h7, rfl, q _ H3 (ads_tr ha.ad e e3) w3 rfl⟩⟩
theorem em_toldC {X : Cx} {k : Nat} {ag : L2.St → Prop} {z : Str} (ha : Ea E' cl M tr σ I S (aC (kTold X cl k ag) a0) (.ok (z, ())) S') (hag : ag σ) : Em E' cl M (tToldC X cl k tr) σ I S kS (.ok z) S' :=
  em_mk ha.ad fun H1 i w Q q => ea_of ha H1 i w _ fun vs H2 e w2 r => by
    obtain ⟨v, rs, rfl, ⟨f, cc, params, body, scope, tb, j, rfl, h2, h3, h4, h5, h6, h7, rfl, h9⟩, rfl⟩ := r
    exact ⟨f, cc, params, body, scope, tb, rfl, (del_some.mp h2).2, (del_some.mp h3).2, h4, h5, h6, (h9 (ETold cl Q) M S' σ (del M H2) (Ex.refl _) hag).run H2 (Ex.refl _) w2 Q (fun x v H3 z => nomatch z) fun k H3 ek e3 w3 => by cases ek; exact ⟨j, h7, rfl, q _ H3 (ads_tr ha.ad e e3) w3 rfl⟩⟩
/-! ### more operations -/
theorem filter_yes (l : List α) (f : α → β) : (l.filter fun _ => true).map f = l.map f := by rw [List.filter_eq_self.mpr fun _ _ => rfl]
theorem o_intI {i : Int} : OpN (fun xs H Q => (∃ i, xs = [V.int i] ∧ Q (V.int i) H) ∨ ∃ k, xs = [V.bl k] ∧ Q (V.int (if k = true then 1 else 0)) H) (aC kI a0) (i, ()) kI i := fun M us H l a Q q => by
  obtain ⟨v, r, rfl, rfl, rfl⟩ := a
  exact .inl ⟨i, rfl, q _ H (Ex.refl H) rfl⟩
theorem o_intB {b : Bool} : OpN (fun xs H Q => (∃ i, xs = [V.int i] ∧ Q (V.int i) H) ∨ ∃ k, xs = [V.bl k] ∧ Q (V.int (if k = true then 1 else 0)) H) (aC kB a0) (b, ()) kI (if b = true then 1 else 0) := fun M us H l a Q q => by
  obtain ⟨v, r, rfl, rfl, rfl⟩ := a
  exact .inr ⟨b, rfl, q _ H (Ex.refl H) rfl⟩
theorem o_abs {i : Int} : OpN (fun xs H Q => ∃ i, xs = [V.int i] ∧ Q (V.int (if i < 0 then -i else i)) H) (aC kI a0) (i, ()) kI (if i < 0 then -i else i) := fun M us H l a Q q => by
  obtain ⟨v, r, rfl, rfl, rfl⟩ := a
  exact ⟨i, rfl, q _ H (Ex.refl H) rfl⟩
theorem o_lenL : OpN (fun xs H Q => ∃ p ys, xs = [.ref p] ∧ (SqL K H p ys ∨ SqT K H p ys) ∧ Q (.int ys.length) H) (aC (kL K t) a0) (xs, ()) kI (xs.length : Int) := fun M us H l a Q q => by
  obtain ⟨v, r, rfl, ⟨p, vs, rfl, hp, ha⟩, rfl⟩ := a
  exact ⟨p, vs, rfl, .inl (ex_l del_le hp), q _ H (Ex.refl H) (by show V.int _ = V.int _; rw [ha.len])⟩
theorem o_lenT : OpN (fun xs H Q => ∃ p ys, xs = [.ref p] ∧ (SqL K H p ys ∨ SqT K H p ys) ∧ Q (.int ys.length) H) (aC (kT K t) a0) (xs, ()) kI (xs.length : Int) := fun M us H l a Q q => by
  obtain ⟨v, r, rfl, ⟨p, vs, rfl, hp, ha⟩, rfl⟩ := a
  exact ⟨p, vs, rfl, .inr (ex_t del_le hp), q _ H (Ex.refl H) (by show V.int _ = V.int _; rw [ha.len])⟩
theorem mk_list {H : Hp} {vs : List V} {Q : VK} (l : ∀ m ∈ M, H m ≠ none) (a : All2 (t.r (del M H)) vs xs) (q : ∀ v H', Ex H H' → (kL K t).r (del M H') v xs → Q v H') (p : Addr) (hp : H p = none) : Q (.ref p) (upd H p (.lst vs)) :=
  q _ _ (Ex.new hp) ⟨p, vs, rfl, sq_of (del_at (fresh_not l hp) upd_same), all2_up t (ex_del (Ex.new hp)) a⟩
theorem mk_tup {H : Hp} {vs : List V} {Q : VK} (l : ∀ m ∈ M, H m ≠ none) (a : All2 (t.r (del M H)) vs xs) (q : ∀ v H', Ex H H' → (kT K t).r (del M H') v xs → Q v H') (p : Addr) (hp : H p = none) : Q (.ref p) (upd H p (.tup vs)) :=
  q _ _ (Ex.new hp) ⟨p, vs, rfl, st_of (del_at (fresh_not l hp) upd_same), all2_up t (ex_del (Ex.new hp)) a⟩
theorem o_listL : OpN (fun xs H Q => ∃ p ys, xs = [.ref p] ∧ (SqL K H p ys ∨ SqT K H p ys) ∧ ∀ l, H l = none → Q (.ref l) (upd H l (.lst ys))) (aC (kL K t) a0) (xs, ()) (kL K t) xs := fun M us H l a Q q => by
  obtain ⟨v, r, rfl, ⟨p, vs, rfl, hp, ha⟩, rfl⟩ := a
  exact ⟨p, vs, rfl, .inl (ex_l del_le hp), mk_list l ha q⟩
theorem o_listT : OpN (fun xs H Q => ∃ p ys, xs = [.ref p] ∧ (SqL K H p ys ∨ SqT K H p ys) ∧ ∀ l, H l = none → Q (.ref l) (upd H l (.lst ys))) (aC (kT K t) a0) (xs, ()) (kL K t) xs := fun M us H l a Q q => by
  obtain ⟨v, r, rfl, ⟨p, vs, rfl, hp, ha⟩, rfl⟩ := a
  exact ⟨p, vs, rfl, .inr (ex_t del_le hp), mk_list l ha q⟩
theorem all_ints {H : Hp} {vs : List V} {ns : List Int} (a : All2 (kI.r H) vs ns) : vs = ns.map V.int := by
  induction a with
  | nil => rfl
  | cons r _ ih => rw [List.map_cons, ← ih, show _ = V.int _ from r]
theorem all_bools {H : Hp} {vs : List V} {ns : List Bool} (a : All2 (kB.r H) vs ns) : vs = ns.map V.bl := by
  induction a with
  | nil => rfl
  | cons r _ ih => rw [List.map_cons, ← ih, show _ = V.bl _ from r]
theorem o_sumL {ns : List Int} : OpN (rSum K) (aC (kL K kI) a0) (ns, ()) kI ns.sum := fun M us H l a Q q => by
  obtain ⟨v, r, rfl, ⟨p, vs, rfl, hp, ha⟩, rfl⟩ := a
  exact ⟨p, ns, rfl, ex_l del_le (by rw [← all_ints ha]; exact hp), q _ H (Ex.refl H) rfl⟩
theorem o_isN {x : Option α} : Op2 (fun x y H Q => y = .non ∧ Q (.bl (decide (x = .non))) H) (kO t) x kN () kB x.isNone := fun M u w H l a b Q q => by
  obtain rfl : w = .non := b
  refine ⟨rfl, q _ H (Ex.refl H) ?_⟩
  cases x with
  | none => rw [show u = .non from a]; rfl
  | some y => show V.bl _ = V.bl _; rw [decide_eq_false a.2]; rfl
theorem o_notN {x : Option α} : Op2 (fun x y H Q => y = .non ∧ Q (.bl (!decide (x = .non))) H) (kO t) x kN () kB x.isSome := fun M u w H l a b Q q => by
  obtain rfl : w = .non := b
  refine ⟨rfl, q _ H (Ex.refl H) ?_⟩
  cases x with
  | none => rw [show u = .non from a]; rfl
  | some y => show V.bl _ = V.bl _; rw [decide_eq_false a.2]; rfl
/-- None or a number against a number -/
theorem o_eqOI {x : Option Int} {j : Int} : Op2 rEq (kO kI) x kI j kB (decide (x = some j)) := fun M u w H l a b Q q => by
  obtain rfl : w = .int j := b
  cases x with
  | none =>
    obtain rfl : u = .non := a
    exact ⟨rfl, q _ H (Ex.refl H) (by show V.bl _ = V.bl _; congr 1)⟩
  | some y =>
    obtain rfl : u = .int y := a.1
    exact ⟨rfl, q _ H (Ex.refl H) (by show V.bl _ = V.bl _; congr 1; simp)⟩
theorem em_some (h : Em E cl M te σ I S t (.ok x) S') (nn : ∀ H v, t.r H v x → v ≠ .non) : Em E cl M te σ I S (kO t) (.ok (some x)) S' :=
  em_mk h.ad fun H1 i w Q q => em_of h H1 i w Q fun v H2 e w2 r => q v H2 e w2 ⟨r, nn _ _ r⟩
theorem nn_2 {a : Ty α} {b : Ty β} {x : α × β} : ∀ H v, (k2 K a b).r H v x → v ≠ .non := fun H v ⟨p, _, _, h, _⟩ z => by rw [h] at z; cases z
theorem nn_I {x : Int} : ∀ H v, kI.r H v x → v ≠ .non := fun H v h z => by rw [show v = .int x from h] at z; cases z
/-- x in (not in) a list of data -/
theorem o_inL {i : Nat} (D : Dq K t i) (h : i < 64) {x : α} {xs : List α} [Decidable (x ∈ xs)] : Op2 (rInD K) t x (kL K t) xs kB (decide (x ∈ xs)) := fun M v1 v2 H l a b Q q => by
  obtain ⟨p, vs, rfl, hp, ha⟩ := b
  have ha2 : All2 (t.r H) vs xs := all2_up t del_le ha
  have al := dp_all D ha2
  refine ⟨D.enc x, xs.map D.enc, dp_upM del_le _ _ (D.dp a).1, .lst (ex_l del_le hp) al.1, shaped_of (D.dp a).2 (Nat.le_trans (D.dep x) (by omega)), shaped_of (by rw [PyData.canLay0]; exact al.2) (by rw [PyData.depth]; have := dep_all D xs; omega), q _ H (Ex.refl H) ?_⟩
  show V.bl _ = V.bl _
  congr 1
  rw [Bool.eq_iff_iff, List.any_eq_true, decide_eq_true_iff]
  constructor
  · rintro ⟨z, hz, e⟩
    obtain ⟨y, hy, rfl⟩ := List.mem_map.mp hz
    rw [← (D.eq _ _).mp e]
    exact hy
  · intro h
    exact ⟨D.enc x, List.mem_map.mpr ⟨x, h, rfl⟩, (D.eq _ _).mpr rfl⟩
theorem o_niL {i : Nat} (D : Dq K t i) (h : i < 64) {x : α} {xs : List α} [Decidable (x ∈ xs)] : Op2 (rNotInD K) t x (kL K t) xs kB (!decide (x ∈ xs)) := fun M v1 v2 H l a b Q q => by
  obtain ⟨p, vs, rfl, hp, ha⟩ := b
  have ha2 : All2 (t.r H) vs xs := all2_up t del_le ha
  have al := dp_all D ha2
  refine ⟨D.enc x, xs.map D.enc, dp_upM del_le _ _ (D.dp a).1, .lst (ex_l del_le hp) al.1, shaped_of (D.dp a).2 (Nat.le_trans (D.dep x) (by omega)), shaped_of (by rw [PyData.canLay0]; exact al.2) (by rw [PyData.depth]; have := dep_all D xs; omega), q _ H (Ex.refl H) ?_⟩
  show V.bl _ = V.bl _
  congr 2
  rw [Bool.eq_iff_iff, List.any_eq_true, decide_eq_true_iff]
  constructor
  · rintro ⟨z, hz, e⟩
    obtain ⟨y, hy, rfl⟩ := List.mem_map.mp hz
    rw [← (D.eq _ _).mp e]
    exact hy
  · intro h
    exact ⟨D.enc x, List.mem_map.mpr ⟨x, h, rfl⟩, (D.eq _ _).mpr rfl⟩
/-! dicts that are only asked -/
/-- a dict of whole numbers to values, told by what is found -/
def kFn (t : Ty α) : Ty (Int → Option α) := ⟨fun H v f => ∃ p kvs, v = .ref p ∧ H p = some (.dK kvs) ∧ ∀ k : Int, (valV kvs (.inl k) = none ∧ f k = none) ∨ ∃ w y, valV kvs (.inl k) = some w ∧ f k = some y ∧ t.r H w y,
  fun e ⟨p, kvs, h1, h2, h3⟩ => ⟨p, kvs, h1, e _ _ h2, fun k => (h3 k).imp id fun ⟨w, y, a, b, c⟩ => ⟨w, y, a, b, t.up e c⟩⟩⟩
def dictOf (l : List (Int × α)) (k : Int) : Option α := (l.reverse.find? fun q => decide (q.1 = k)).map (·.2)
theorem dictOf_cons (l : List (Int × α)) (a : Int × α) (k : Int) : dictOf (a :: l) k = (dictOf l k).or (if a.1 = k then some a.2 else none) := by
  unfold dictOf
  rw [List.reverse_cons, List.find?_append, Option.map_or]
  congr 1
  by_cases h : a.1 = k
  · simp [h]
  · simp [h]
/-- keys and values answer to a function -/
def KeyFn (R : V → α → Prop) (kvs : List (Key × V)) (f : Int → Option α) : Prop := ∀ k : Int, (valV kvs (.inl k) = none ∧ f k = none) ∨ ∃ w y, valV kvs (.inl k) = some w ∧ f k = some y ∧ R w y
theorem keyFn_put {R : V → α → Prop} {kvs : List (Key × V)} {f : Int → Option α} {k : Int} {w : V} {y : α} (h : KeyFn R kvs f) (r : R w y) : KeyFn R (putK kvs (.inl k) w) (fun j => if j = k then some y else f j) := fun j => by
  rw [valV_put]
  by_cases e : j = k
  · rw [e, if_pos rfl]
    exact .inr ⟨w, y, rfl, by simp, r⟩
  · rw [if_neg (fun z => e (Sum.inl.inj z))]
    simp only [if_neg e]
    exact h j
theorem keyFn_merge {R : V → α → Prop} : ∀ (l : List (Int × α)) (kvs acc : List (Key × V)) (f : Int → Option α), All2 (fun (kv : Key × V) (x : Int × α) => kv.1 = .inl x.1 ∧ R kv.2 x.2) kvs l → KeyFn R acc f → KeyFn R (mergeK acc kvs) (fun k => (dictOf l k).or (f k))
  | [], kvs, acc, f, h, g => by
    cases h
    exact g
  | a :: l, kvs, acc, f, h, g => by
    cases h with
    | @cons kv _ m _ r h =>
      obtain ⟨k, w⟩ := kv
      obtain ⟨hk, hr⟩ := r
      have hk : k = .inl a.1 := hk
      subst hk
      have step := keyFn_merge l m (putK acc (.inl a.1) w) _ h (keyFn_put (k := a.1) g hr)
      intro k
      have s := step k
      simp only [dictOf_cons] at s ⊢
      have e : ((dictOf l k).or (if a.1 = k then some a.2 else none)).or (f k) = (dictOf l k).or (if k = a.1 then some a.2 else f k) := by
        rw [Option.or_assoc]
        congr 1
        by_cases z : a.1 = k
        · simp [z]
        · have z2 : ¬ k = a.1 := fun y => z y.symm
          simp [z, z2]
      simp only [e]
      exact s
theorem o_dictP {l : List (Int × α)} : OpN (fun xs H Q => ∃ (a : Addr) (ps : List Addr) (kvs : List (Key × V)), xs = [.ref a] ∧ SqL K H a (ps.map V.ref) ∧ Paired (fun p kv => SqT K H p [kV kv.1, kv.2]) ps kvs ∧ ∀ p, H p = none → Q (.ref p) (upd H p (.dK (mergeK [] kvs)))) (aC (kL K (k2 K kI t)) a0) (l, ()) (kFn t) (dictOf l) := fun M us H live a Q q => by
  obtain ⟨v, r, rfl, ⟨p, vs, rfl, hp, ha⟩, rfl⟩ := a
  have cut : ∀ (vs : List V) (l : List (Int × α)), All2 ((k2 K kI t).r (del M H)) vs l → ∃ ps kvs, vs = ps.map V.ref ∧ Paired (fun p (kv : Key × V) => SqT K H p [kV kv.1, kv.2]) ps kvs ∧ All2 (fun (kv : Key × V) (x : Int × α) => kv.1 = .inl x.1 ∧ t.r (del M H) kv.2 x.2) kvs l := by
    intro vs l h
    induction h with
    | nil => exact ⟨[], [], rfl, .nil, .nil⟩
    | cons r _ ih =>
      obtain ⟨p, u, w, rfl, hs, h1, h2⟩ := r
      obtain ⟨ps, kvs, rfl, b, c⟩ := ih
      obtain rfl : u = .int _ := h1
      exact ⟨p :: ps, (.inl _, w) :: kvs, rfl, .cons (ex_t del_le hs) b, .cons ⟨rfl, h2⟩ c⟩
  obtain ⟨ps, kvs, rfl, b, c⟩ := cut vs l ha
  refine ⟨p, ps, kvs, rfl, ex_l del_le hp, b, fun d hd => q _ _ (Ex.new hd) ⟨d, _, rfl, del_at (fresh_not live hd) upd_same, ?_⟩⟩
  have fin := keyFn_merge (R := t.r (del M H)) l kvs [] (fun _ => none) c fun k => .inl ⟨rfl, rfl⟩
  intro k
  have g := fin k
  simp only [Option.or_none] at g
  rcases g with h | ⟨w, y, h1, h2, h3⟩
  · exact .inl h
  · exact .inr ⟨w, y, h1, h2, t.up (ex_del (Ex.new hd)) h3⟩
theorem em_dget {f : Int → Option α} {k : Int} (ha : Em E cl M ta σ I S (kFn t) (.ok f) S1) (hb : Em E cl M tb σ I S1 kI (.ok k) S2) (h : f k = some x) : Em E cl M (tDGet ta tb) σ I S t (.ok x) S2 :=
  em_mk (hb.ad.trans ha.ad) fun H1 i w Q q => em_of ha H1 i w _ fun v1 H2 e1 w1 r1 => em_of hb H2 (i.trans (w.grow e1)) w1 _ fun v2 H3 e2 w2 r2 => by
    obtain ⟨p, kvs, rfl, hp, hk⟩ := (kFn t).up (w1.grow e2) r1
    obtain rfl : v2 = .int k := r2
    rcases hk k with ⟨_, z⟩ | ⟨w, y, g1, g2, g3⟩
    · rw [h] at z; cases z
    · rw [h] at g2
      obtain rfl := Option.some.inj g2
      exact ⟨p, w, rfl, by rw [← g1]; exact DGet.k (k := .inl k) (del_some.mp hp).2, q w H3 (ads_tr ha.ad e1 e2) w2 g3⟩
theorem em_dget1 {f : Int → Option α} {k : Int} (ha : Em E cl M ta σ I S (kFn t) (.ok f) S1) (hb : Em E cl M tb σ I S1 kI (.ok k) S2) (nn : ∀ H v x, t.r H v x → v ≠ .non) : Em E cl M (tDGet1 ta tb) σ I S (kO t) (.ok (f k)) S2 :=
  em_mk (hb.ad.trans ha.ad) fun H1 i w Q q => em_of ha H1 i w _ fun v1 H2 e1 w1 r1 => by
    obtain ⟨p, kvs, rfl, hp, hk⟩ := r1
    refine ⟨p, rfl, .inl ⟨kvs, .inl (del_some.mp hp).2⟩, em_of hb H2 (i.trans (w.grow e1)) w1 _ fun v2 H3 e2 w2 r2 => ?_⟩
    obtain rfl : v2 = .int k := r2
    have hp3 := (w1.grow e2) _ _ hp
    refine ⟨valV kvs (.inl k), DGet.k (k := .inl k) (del_some.mp hp3).2, ?_⟩
    rcases hk k with ⟨a, b⟩ | ⟨w, y, g1, g2, g3⟩
    · rw [a]
      exact q _ H3 (ads_tr ha.ad e1 e2) w2 (by rw [b]; rfl)
    · rw [g1]
      exact q w H3 (ads_tr ha.ad e1 e2) w2 (by rw [g2]; exact ⟨t.up (w1.grow e2) g3, nn _ _ _ g3⟩)
end
end Rw
namespace Rw
open PySem PySem.Spec PyProof.Rows L2 Evl
/-- the greatest of a dict's values: whole numbers, one at least -/
def tTopVal (td : TE) : TE := fun σ H Q => td σ H fun x H1 => ∃ (d : Addr) (kvs : List (Key × V)) (ns : List Int), x = V.ref d ∧ H1 d = some (.dK kvs) ∧ kvs.map (·.2) = ns.map V.int ∧ 0 < ns.length ∧ ∀ m, m ∈ ns → (∀ n ∈ ns, n ≤ m) → Q (.int m) H1
theorem val_nth {kvs : List (Key × V)} {ns : List Int} (e : kvs.map (·.2) = ns.map V.int) {i : Nat} {k : Key} {x : V} (h : kvs[i]? = some (k, x)) : x = .int (ns.getD i 0) := by
  have a : (kvs.map (·.2))[i]? = some x := by rw [List.getElem?_map, h]; rfl
  rw [e, List.getElem?_map] at a
  cases b : ns[i]? with
  | none => rw [b] at a; cases a
  | some n => rw [b] at a; rw [← Option.some.inj a, List.getD_eq_getElem?_getD, b]; rfl
theorem top_in {ns : List Int} (h : 0 < ns.length) : ns.getD (argBest (fun i j => decide (ns.getD i 0 > ns.getD j 0)) (ns.length - 1)) 0 ∈ ns ∧ ∀ n ∈ ns, n ≤ ns.getD (argBest (fun i j => decide (ns.getD i 0 > ns.getD j 0)) (ns.length - 1)) 0 := by
  obtain ⟨lo, all⟩ := argBest_gt (fun i => ns.getD i 0) (ns.length - 1)
  generalize argBest (fun i j => decide (ns.getD i 0 > ns.getD j 0)) (ns.length - 1) = b at lo all ⊢
  have get : ∀ i, i < ns.length → ns.getD i 0 ∈ ns := fun i hi => by rw [List.getD_eq_getElem?_getD, List.getElem?_eq_getElem hi]; exact List.getElem_mem hi
  refine ⟨get b (by omega), fun n hn => ?_⟩
  obtain ⟨i, hi, rfl⟩ := List.mem_iff_getElem.mp hn
  have g := all i (by omega)
  rw [show ns.getD i 0 = ns[i] by rw [List.getD_eq_getElem?_getD, List.getElem?_eq_getElem hi]; rfl] at g
  exact g
section
variable {X : Cx} {o : Expr} {p pos apos mpos : Pos} {td : TE}
theorem pe_topVal (hc : X.calm = true) (hm : X.mg "max" = none) (hd : PE X o td) (hg : Gl X "max" := by rfl) (hbase : attributeBase o "values" X.env (eval o X.env) = eval o X.env := by rfl) (hline : (apos.endLine == mpos.line) = true := by rfl)
    (hse : starEach [Expr.Call (.Attribute o "values" apos) [] [] mpos] X.env = [(false, eval (Expr.Call (.Attribute o "values" apos) [] [] mpos) X.env)] := by rfl) :
    PE X (.Call (.Name "max" p) [.Call (.Attribute o "values" apos) [] [] mpos] [] pos) (tTopVal td) := ⟨fun pins s σ H Q I want => by
  refine wpAny_Call_Name_kw (ld_blt I hg hm (u := .builtin "max") (by first | rfl | decide +kernel) ?_ (by decide +kernel) (by decide +kernel))
  rw [hse]
  refine PySem.callWith_builtin1 (wpAny_Call_method0_late hbase hline (thn (hd.run pins s σ H _ I want) fun v st ⟨x, G, J, rel, d, kvs, ns, ex, atd, vals, some1, q⟩ => ?_))
  subst ex
  obtain rfl : v = Value.ref d := rel
  obtain ⟨_, sys, rows, like, held⟩ := dk_of J.hok atd
  obtain ⟨ep, tab⟩ := held.dictAt
  have tab0 := tab
  obtain ⟨ob, _, obAt, obIs, _⟩ := tab0
  refine ⟨"dict", "dict.values", F.plainAttrs_dict, F.slot_dict_values, F.type_dict_values, ⟨ob, obAt, obIs.1⟩, fun b e => (by cases e; exact ⟨ob, obAt, obIs.2.1⟩), Calls.callWith_builtin rfl (PySem.evalArgs_none (call_meetsIn F.slot_dict_values ⟨ob, obAt, obIs.1⟩ F.entry_dict_values (F.args_dict_values_1 _) (meets_dict_values (mixKind X.prog X.w) d sys) ⟨⟨rows, held⟩, ?_⟩))⟩
  generalize vo : ({ cls := .type "dict_values", data := .fields #[.ref d] } : Obj) = view
  have up1 : ∀ b u, st.heap.get? b = some u → (st.heap.push view).get? b = some u := fun b u e => Heap.get?_push_of_some _ e
  have rows_len : rows.length = ns.length := by
    have a := congrArg List.length vals
    rw [List.length_map, List.length_map] at a
    rw [← KV.length like, a]
  have nums : ∀ (i : Nat) (u : Value), (∃ k, rows[i]? = some (k, u)) → ∃ t, u = Value.int (ns.getD i 0) t := fun i u ⟨k, hk⟩ => by
    obtain ⟨x, h1, h2⟩ := KV.at' like hk
    rw [val_nth vals h1] at h2
    exact h2
  have viewAt : (st.heap.push view).get? st.heap.objs.size = some view := Heap.get?_push_size _ (by rw [← vo]; rfl)
  have size1 : (st.heap.push view).objs.size = st.heap.objs.size + 1 := Heap.size_push _ _
  have below : d < st.heap.objs.size := Heap.lt_size obAt
  refine call_max_walk (wpAny_pyIter_values (v := st.heap.objs.size) (d := d) ⟨view, viewAt, by rw [← vo], by rw [← vo]⟩ (tab.keep up1) ?_)
  refine ⟨_, _, _, _, _, _, _, rfl, Walks.dictValues (knd := mixKind X.prog X.w) (A := X.A.in1) (I.ok.hd hc) (st.heap.push view).objs.size d (by rw [size1]; exact Nat.ne_of_lt (Nat.lt_succ_of_lt below)) rows ep, ⟨⟨_, Heap.get?_push_size _ rfl, rfl, rfl⟩, (tab.keep up1).keep fun b u e => Heap.get?_push_of_some _ e⟩, fun b hb => ?_, by omega, CmpOf.ints_gt (fun i => ns.getD i 0) nums, fun u h' tk isbest kept => ?_⟩
  · show b < ((st.heap.push view).push _).objs.size
    rw [Heap.size_push]
    rcases List.mem_cons.mp hb with z | z
    · rw [z]
      exact Nat.lt_succ_self _
    · rw [List.mem_singleton.mp z, size1]
      exact Nat.lt_succ_of_lt (Nat.lt_succ_of_lt below)
  · obtain ⟨t, rfl⟩ := nums _ u isbest
    obtain ⟨t1, t2⟩ := top_in some1
    rw [rows_len]
    refine ⟨.int _, G, J.kept (t' := tk) fun b u e => kept b u (fun z => ?_) (Heap.get?_push_of_some _ (up1 b u e)), ⟨t, rfl⟩, q _ t1 t2⟩
    have lo := Heap.lt_size e
    rw [List.mem_singleton.mp z, size1] at lo
    exact Nat.not_succ_lt_self lo⟩
end
end Rw
namespace Rw
open PySem PySem.Spec PyProof.Rows L2 Evl
local macro_rules | `(tactic| walk_at "sq") => `(tactic| first | assumption | exact SqL.of (by assumption) | exact SqT.of (by assumption))
local macro_rules | `(tactic| walk_at "at") => `(tactic| first | exact atI_nat (j := 0) rfl | exact atI_nat (j := 1) rfl | exact atI_nat (j := 2) rfl | exact atI_nat (j := 3) rfl)
local macro_rules | `(tactic| walk_at "rv") => `(tactic| first
  | with_reducible exact rv_I0
  | ((with_reducible refine' rv_I ?k1); (case k1 => first | (show (0 : Int) < _; omega) | exact ⟨by omega, by omega⟩ | exact .inr ⟨by omega, by omega⟩ | exact .inl ⟨by omega, by omega⟩ | exact ⟨by decide, by decide, by decide⟩))
  | ((with_reducible refine' rv_eq ?k1); (case k1 => exact rfl))
  | ((with_reducible refine' rv_ne ?k1); (case k1 => exact rfl))
  | (refine' rv_ixL ?k1 ?k2; (case k1 => walk_at "sq"); (case k2 => walk_at "at"))
  | (refine' rv_ixT ?k1 ?k2; (case k1 => walk_at "sq"); (case k2 => walk_at "at")))
local macro_rules | `(tactic| walk_at "rc") => `(tactic| first | exact rc_int1 | exact rc_int1b | exact rc_abs)
local macro_rules | `(tactic| walk_at "ea") => `(tactic| first
  | with_reducible exact ea_nil
  | ((with_reducible refine' ea_cons ?k1 ?k2); (case k1 => walk_at "ev"); (case k2 => walk_at "ea")))
local macro_rules | `(tactic| walk_at "ev") => `(tactic| first
  | with_reducible exact ev_c
  | ((with_reducible refine' ev_var ?k1); (case k1 => exact rfl))
  | ((with_reducible refine' ev_op ?k1 ?k2 ?k3); (case k1 => walk_at "ev"); (case k2 => walk_at "ev"); (case k3 => walk_at "rv"))
  | ((with_reducible refine' et_chain ?k1 ?k2 ?k3 ?k4 ?k5); (case k1 => walk_at "ev"); (case k2 => walk_at "ev"); (case k3 => (intro _; walk_at "ev")); (case k4 => walk_at "rv"); (case k5 => (intro _; walk_at "rv")))
  | ((with_reducible refine' ev_cb ?k1 ?k2); (case k1 => walk_at "ea"); (case k2 => walk_at "rc")))
local macro_rules | `(tactic| walk_at "et") => `(tactic| first
  | ((with_reducible refine' et_test ?k1); (case k1 => walk_at "ev"))
  | ((with_reducible refine' et_B ?k1); (case k1 => walk_at "ev"))
  | ((with_reducible refine' et_and ?k1 ?k2); (case k1 => walk_at "et"); (case k2 => (intro _; walk_at "et")))
  | ((with_reducible refine' et_or ?k1 ?k2); (case k1 => walk_at "et"); (case k2 => (intro _; walk_at "et")))
  | ((with_reducible refine' et_not ?k1); (case k1 => walk_at "et")))

abbrev sRounds : Stmt := topS 36
theorem scRounds : FnScope ["script", "most", "cells", "cell"] ["script", "most"] (defScope sRounds) := ⟨rfl, rfl, rfl, by decide +kernel, rfl, by decide +kernel, by decide +kernel⟩
theorem cut_take1 (xs : List V) : cutV xs none (some 1) = xs.take 1 := by
  unfold cutV
  have e : HT.sIx xs.length xs.length (some 1) = min 1 xs.length := HT.sIx_nat xs.length xs.length 1
  rw [HT.sIx_none, e]
  cases xs with
  | nil => rfl
  | cons x r =>
    rw [show min 1 (x :: r).length = 1 by rw [List.length_cons]; omega]
    rfl
section
variable {P : Program} {w : World} {K : PySem.W.Frag} {mg : Str → Option Value} {base : Heap}
def spRounds (K : PySem.W.Frag) : Sp := fun vs H Q _ => ∃ (s : Addr) (ns : List Int), vs = [.ref s, .int 1] ∧ SqL K H s (ns.map V.int) ∧
  ∀ r d a b c H', H r = none → H d = none → r ≠ d → Ex H H' → H' r = some (.lst [.ref d]) → H' d = some (.lst [.int a, .int b, .int c]) → Q (.ref r) H'
theorem ok_rounds {f : Addr} {fd : FuncData} (F : Fun K "_law_rounds" "_law_rounds" sRounds f fd) (cD : Cal P w K mg base 1 "_law_dice" spDice []) : FnOk P w K mg base (L2.CX P w) 2 f fd ["script", "most"] (spRounds K) := by
  refine F.okX scRounds (fun vs H Q E h => ?_) (fun cdv A outer s H vs Q E hr h => ?_)
  · obtain ⟨s, ns, rfl, _⟩ := h
    rfl
  · obtain ⟨sc, ns, rfl, hS, q⟩ := h
    refine ⟨_, pss_cons (ps_set (i := 2) scRounds.nd rfl (.inl rfl) (pe_slice sl_list (pv 0) po_none (po_some (pv 1))))
      (pss_cons (ps_if (pt_cmpR (op_eqD hr.units) (pv 2) (pe_lst pa_nil) (nomark _)) (pss_one (ps_set (i := 2) scRounds.nd rfl (.inl rfl) (pe_lst (pa_cons pe_int pa_nil)))) pss_nil)
      (pss_one (ps_ret (pe_lc (own := [("cell", 3)]) (g := gName 3) (tt := tYes) rfl scRounds.nd (pi_list (pv 2)) (blkOk_by (own := [("cell", 3)]) (N := ["script", "most", "cells", "cell"]) (sc := defScope sRounds) (by decide +kernel)) (fun _ _ _ _ _ => pg_name (i := 3) scRounds.nd rfl (Or.inl rfl)) (fun _ _ _ _ _ => pts_nil) (fun _ _ _ _ _ => pe_k cD hr (by decide) passL (pa_cons (pv 3) pa_nil)))))), ?_⟩
    -- the comprehension, over a list of one item
    have fin : ∀ (l2 : Addr) (x : Int) (H1 : Hp), Ex H H1 → H1 l2 = some (.lst [.int x]) → tRet (tLc (iList K (tVar 2)) (gName 3) tYes (tCall spDice [] E0 (tCons (tVar 3) tNil)) [3]) { nx := fun _ H' => Q .non H', rt := Q } [some (.ref sc), some (.int 1), some (.ref l2), none] H1 := fun l2 x H1 e1 hl => by
      refine ⟨.ref l2, rfl, l2, rfl, ⟨_, SqL.of hl⟩, fun Dl hD => lc_list (K := K) (a := l2) (xs := [.int x]) (fun i H' => (i = 0 ∧ H' = upd H1 Dl (.lst [])) ∨ (i = 1 ∧ ∃ d a b c, H1 d = none ∧ Dl ≠ d ∧ Ex H1 H' ∧ H' Dl = some (.lst [.ref d]) ∧ H' d = some (.lst [.int a, .int b, .int c])))
        (.inl ⟨rfl, rfl⟩) (fun i H' _ hP => ?_) (fun i y H' hy hP => ?_) fun H' hP => ?_⟩
      · have nl : l2 ≠ Dl := ne_of_none hl hD
        rcases hP with ⟨_, rfl⟩ | ⟨_, d, a, b, c, _, _, e, _⟩
        · exact SqL.of (by rw [upd_ne nl]; exact hl)
        · exact SqL.of (e _ _ hl)
      · have hi : i = 0 := by
          cases i with
          | zero => rfl
          | succ i => simp at hy
        subst hi
        obtain rfl : V.int x = y := Option.some.inj hy
        rcases hP with ⟨_, rfl⟩ | ⟨h, _⟩
        · refine ⟨rfl, .int x, rfl, x, rfl, fun p a b c H2 hp e2 h2 => ?_⟩
          have hDl : H2 Dl = some (.lst []) := e2 _ _ upd_same
          have npD : Dl ≠ p := ne_of_none (H := upd H1 Dl (.lst [])) upd_same hp
          have hp1 : H1 p = none := by rw [upd_ne npD.symm] at hp; exact hp
          refine ⟨[], hDl, by decide, .inr ⟨rfl, p, a, b, c, hp1, npD, fun z o hz => ?_, upd_same, by rw [upd_ne npD.symm]; exact h2⟩⟩
          rw [upd_ne (ne_of_none hz hD)]
          exact e2 _ _ (by rw [upd_ne (ne_of_none hz hD)]; exact hz)
        · cases h
      · rcases hP with ⟨h, _⟩ | ⟨_, d, a, b, c, hd, ne, e, g1, g2⟩
        · cases h
        · exact q Dl d a b c H' (fresh_back e1 hD) (fresh_back e1 hd) ne (e1.trans e) g1 g2
    refine q_asgL (xs := (ns.map V.int).take 1) (by
        have h := el_sl (K := K) (σ := [some (.ref sc), some (.int 1), none, none]) (H := H) (ev_var (i := 0) rfl) eo_none (eo_some (ev_var (i := 1) rfl)) hS
        rw [cut_take1] at h
        exact h) fun l H1 hl e1 h1 => ?_
    cases ns with
    | nil =>
      have h1 : H1 l = some (.lst []) := h1
      refine q_when (b := true) (fun H2 e2 Q2 q2 => ⟨.ref l, rfl, by decide, fun l2 hl2 => ⟨.list [], .list [], .lst (SqL.of (by rw [upd_ne (ne_of_none (e2 _ _ h1) hl2)]; exact e2 _ _ h1)) .nil, .lst (SqL.of upd_same) .nil, rfl, rfl, true, rfl, q2 _ (Ex.new hl2)⟩⟩) (fun _ H2 e2 => ?_) (fun z => nomatch z)
      refine s_asgL (el_lst (by walk_at "ea") (by show 1 ≤ 100000; decide)) fun l2 H3 hl2 e3 h3 => fin l2 0 H3 ((e1.trans e2).trans e3) h3
    | cons n r =>
      have h1 : H1 l = some (.lst [.int n]) := h1
      refine q_when (b := false) (fun H2 e2 Q2 q2 => ⟨.ref l, rfl, by decide, fun l2 hl2 => ⟨.list [.int n], .list [], .lst (SqL.of (by rw [upd_ne (ne_of_none (e2 _ _ h1) hl2)]; exact e2 _ _ h1)) (.cons (.int n) .nil), .lst (SqL.of upd_same) .nil, rfl, rfl, false, rfl, q2 _ (Ex.new hl2)⟩⟩) (fun z => nomatch z) (fun _ H2 e2 => ?_)
      exact fin l n H2 (e1.trans e2) (e2 _ _ h1)
end
end Rw
namespace Rw
open PySem PySem.Spec PyProof.Rows L2 Evl Cy
local macro_rules | `(tactic| walk_at "sq") => `(tactic| first | assumption | exact SqL.of (by assumption) | exact SqT.of (by assumption))
local macro_rules | `(tactic| walk_at "at") => `(tactic| first | exact atI_nat (j := 0) rfl | exact atI_nat (j := 1) rfl | exact atI_nat (j := 2) rfl | exact atI_nat (j := 3) rfl)
local macro_rules | `(tactic| walk_at "rv") => `(tactic| first
  | with_reducible exact rv_I0
  | ((with_reducible refine' rv_I ?k1); (case k1 => first | (show (0 : Int) < _; omega) | exact ⟨by omega, by omega⟩ | exact .inr ⟨by omega, by omega⟩ | exact .inl ⟨by omega, by omega⟩ | exact ⟨by decide, by decide, by decide⟩))
  | ((with_reducible refine' rv_eq ?k1); (case k1 => exact rfl))
  | ((with_reducible refine' rv_ne ?k1); (case k1 => exact rfl))
  | (refine' rv_ixL ?k1 ?k2; (case k1 => walk_at "sq"); (case k2 => walk_at "at"))
  | (refine' rv_ixT ?k1 ?k2; (case k1 => walk_at "sq"); (case k2 => walk_at "at")))
local macro_rules | `(tactic| walk_at "rc") => `(tactic| first | exact rc_int1 | exact rc_int1b | exact rc_abs)
local macro_rules | `(tactic| walk_at "ea") => `(tactic| first
  | with_reducible exact ea_nil
  | ((with_reducible refine' ea_cons ?k1 ?k2); (case k1 => walk_at "ev"); (case k2 => walk_at "ea")))
local macro_rules | `(tactic| walk_at "ev") => `(tactic| first
  | with_reducible exact ev_c
  | ((with_reducible refine' ev_var ?k1); (case k1 => exact rfl))
  | ((with_reducible refine' ev_op ?k1 ?k2 ?k3); (case k1 => walk_at "ev"); (case k2 => walk_at "ev"); (case k3 => walk_at "rv"))
  | ((with_reducible refine' et_chain ?k1 ?k2 ?k3 ?k4 ?k5); (case k1 => walk_at "ev"); (case k2 => walk_at "ev"); (case k3 => (intro _; walk_at "ev")); (case k4 => walk_at "rv"); (case k5 => (intro _; walk_at "rv")))
  | ((with_reducible refine' ev_cb ?k1 ?k2); (case k1 => walk_at "ea"); (case k2 => walk_at "rc")))
local macro_rules | `(tactic| walk_at "et") => `(tactic| first
  | ((with_reducible refine' et_test ?k1); (case k1 => walk_at "ev"))
  | ((with_reducible refine' et_B ?k1); (case k1 => walk_at "ev"))
  | ((with_reducible refine' et_and ?k1 ?k2); (case k1 => walk_at "et"); (case k2 => (intro _; walk_at "et")))
  | ((with_reducible refine' et_or ?k1 ?k2); (case k1 => walk_at "et"); (case k2 => (intro _; walk_at "et")))
  | ((with_reducible refine' et_not ?k1); (case k1 => walk_at "et")))
local macro_rules | `(tactic| walk_at "ff") => `(tactic| first | exact rfl | assumption)
local macro_rules | `(tactic| walk_at "ev") => `(tactic| first
  | with_reducible exact ev_c
  | ((with_reducible refine' ev_var ?k1); (case k1 => exact rfl))
  | ((with_reducible refine' ev_op ?k1 ?k2 ?k3); (case k1 => walk_at "ev"); (case k2 => walk_at "ev"); (case k3 => walk_at "rv"))
  | ((with_reducible refine' et_chain ?k1 ?k2 ?k3 ?k4 ?k5); (case k1 => walk_at "ev"); (case k2 => walk_at "ev"); (case k3 => (intro _; walk_at "ev")); (case k4 => walk_at "rv"); (case k5 => (intro _; walk_at "rv")))
  | ((with_reducible refine' ev_cb ?k1 ?k2); (case k1 => walk_at "ea"); (case k2 => walk_at "rc"))
  | ((with_reducible refine' ev_F ?k1 ?k2); (case k1 => walk_at "ea"); (case k2 => walk_at "ff"))
  | ((with_reducible refine' ev_two ?k1 ?k2 ?k3); (case k1 => walk_at "ev"); (case k2 => omega); (case k3 => omega)))
abbrev c_cycle_days : Stmt := inClass (topS 32) 1
theorem cs_cycle_days : FnScope ["self"] ["self"] (defScope c_cycle_days) := ⟨rfl, rfl, rfl, by decide +kernel, rfl, by decide +kernel, by decide +kernel⟩
abbrev c_is_long : Stmt := inClass (topS 32) 2
theorem cs_is_long : FnScope ["self", "year"] ["self", "year"] (defScope c_is_long) := ⟨rfl, rfl, rfl, by decide +kernel, rfl, by decide +kernel, by decide +kernel⟩
abbrev c_year_days : Stmt := inClass (topS 32) 3
theorem cs_year_days : FnScope ["self", "year"] ["self", "year"] (defScope c_year_days) := ⟨rfl, rfl, rfl, by decide +kernel, rfl, by decide +kernel, by decide +kernel⟩
abbrev c_month_days : Stmt := inClass (topS 32) 4
theorem cs_month_days : FnScope ["self", "year", "month"] ["self", "year", "month"] (defScope c_month_days) := ⟨rfl, rfl, rfl, by decide +kernel, rfl, by decide +kernel, by decide +kernel⟩
abbrev c_first_of : Stmt := inClass (topS 32) 5
theorem cs_first_of : FnScope ["self", "year", "times", "place"] ["self", "year"] (defScope c_first_of) := ⟨rfl, rfl, rfl, by decide +kernel, rfl, by decide +kernel, by decide +kernel⟩
abbrev c_year_of : Stmt := inClass (topS 32) 7
theorem cs_year_of : FnScope ["self", "number", "times", "rest"] ["self", "number"] (defScope c_year_of) := ⟨rfl, rfl, rfl, by decide +kernel, rfl, by decide +kernel, by decide +kernel⟩
abbrev c_date : Stmt := inClass (topS 32) 8
theorem cs_date : FnScope ["self", "number", "year", "day", "month", "size"] ["self", "number"] (defScope c_date) := ⟨rfl, rfl, rfl, by decide +kernel, rfl, by decide +kernel, by decide +kernel⟩
abbrev c_weekday_of : Stmt := inClass (topS 32) 9
theorem cs_weekday_of : FnScope ["self", "number"] ["self", "number"] (defScope c_weekday_of) := ⟨rfl, rfl, rfl, by decide +kernel, rfl, by decide +kernel, by decide +kernel⟩
abbrev s_count_below : Stmt := topS 31
theorem cs_count_below : FnScope ["numbers", "bound", "low", "high", "half"] ["numbers", "bound"] (defScope s_count_below) := ⟨rfl, rfl, rfl, by decide +kernel, rfl, by decide +kernel, by decide +kernel⟩
section
variable {P : Program} {w : World} {K : PySem.W.Frag} {mg : Str → Option Value} {base : Heap} {C : Addr} {cl : Nat → Addr}
theorem at_starts {c : Ca} {n : Nat} (h : n < c.cycle.toNat + 1) : atI (startsL c) (n : Int) = some (.int (c.startN n)) :=
  atI_nat (by unfold startsL; rw [List.getElem?_map, List.getElem?_range h]; rfl)
theorem cm_cycle_days {f : Addr} {fd : FuncData} (F : Fun K "cycle_days" "Calendar.cycle_days" c_cycle_days f fd) (T : CalT K C) : FnOk P w K mg base (L2.CX P w) 1 f fd ["self"] (spM K C cl fCycleDays) := by
  refine F.okX cs_cycle_days (fun vs H Q E h => ?_) (fun cdv A outer s H vs Q E hr h => ?_)
  · obtain ⟨a, c, ws, r, rfl, hc, hs, h, _⟩ := h
    match ws, h with
    | [], _ => rfl
  · obtain ⟨a, c, ws, r, rfl, hc, hs, h, o⟩ := h
    match ws, h with
    | [], h =>
    obtain rfl := (Option.some.inj h).symm
    have hcal := hc
    obtain ⟨dx, tm, ty, dl, ts, kvs, st, h1, h2, h3, h4, h5, h6, h7⟩ := hc
    obtain rfl := h7 rfl
    refine ⟨_, pss_one (ps_ret (pe_ix ix_list (pe_fld (pv 0) rfl) (pe_fld (pv 0) rfl) (fun _ _ => rfl))), ?_⟩
    have k := hs.ok
    have hcy := k.cy
    refine s_ret (v := .int c.cyc) (ev_op (ev_fld (ev_var rfl) h1 T.cls T.starts calF_starts) (y := .int ((c.cycle.toNat : Nat) : Int)) (ev_is (ev_fld (ev_var rfl) h1 T.cls T.cycle calF_cycle) (by rw [Int.toNat_of_nonneg (by omega)])) (rv_ixL h6 (at_starts (Nat.lt_succ_self _)))) fun H2 e2 => o H2 e2
theorem cm_is_long {f : Addr} {fd : FuncData} (F : Fun K "is_long" "Calendar.is_long" c_is_long f fd) (T : CalT K C) : FnOk P w K mg base (L2.CX P w) 1 f fd ["self", "year"] (spB false K C cl fIsLong) := by
  refine F.okX cs_is_long (fun vs H Q E h => ?_) (fun cdv A outer s H vs Q E hr h => ?_)
  · obtain ⟨a, c, ws, r, rfl, hc, hs, h, _⟩ := h
    match ws, h with
    | [.int y], _ => rfl
  · obtain ⟨a, c, ws, r, rfl, hc, hs, h, o⟩ := h
    match ws, h with
    | [.int y], h =>
    obtain rfl := (Option.some.inj h).symm
    have hcal := hc
    obtain ⟨dx, tm, ty, dl, ts, kvs, st, h1, h2, h3, h4, h5, h6, h7⟩ := hc
    refine ⟨_, pss_one (ps_ret (pe_cmp (pc_din (Nat.lt_of_le_of_lt (Nat.add_le_add_left (by decide) _) hr.units) (pe_op op_mod (pv 1) (pe_fld (pv 0) rfl)) (pe_fld (pv 0) rfl)) (by rfl))), ?_⟩
    have k := hs.ok
    have hcy := k.cy
    refine s_ret (v := .bl (c.long y)) (ev_is (ev_din (k := .inl (y % c.cycle)) (ev_op (z := .int (y % c.cycle)) (ev_var rfl) (ev_fld (ev_var rfl) h1 T.cls T.cycle calF_cycle) (rv_I (by show (0 : Int) < _; omega))) (ev_fld (ev_var rfl) h1 T.cls T.longs calF_longs) h4) (by rw [h5]; rfl)) fun H2 e2 => o H2 e2
theorem cm_weekday_of {f : Addr} {fd : FuncData} (F : Fun K "weekday_of" "Calendar.weekday_of" c_weekday_of f fd) (T : CalT K C) : FnOk P w K mg base (L2.CX P w) 1 f fd ["self", "number"] (spM K C cl fWeekday) := by
  refine F.okX cs_weekday_of (fun vs H Q E h => ?_) (fun cdv A outer s H vs Q E hr h => ?_)
  · obtain ⟨a, c, ws, r, rfl, hc, hs, h, _⟩ := h
    match ws, h with
    | [.int n], _ => rfl
  · obtain ⟨a, c, ws, r, rfl, hc, hs, h, o⟩ := h
    match ws, h with
    | [.int n], h =>
    obtain rfl := (Option.some.inj h).symm
    have hcal := hc
    obtain ⟨dx, tm, ty, dl, ts, kvs, st, h1, h2, h3, h4, h5, h6, h7⟩ := hc
    obtain rfl := h7 rfl
    refine ⟨_, pss_one (ps_ret (pe_op op_mod (pe_op op_add (pv 1) (pe_fld (pv 0) rfl)) (pe_fld (pv 0) rfl))), ?_⟩
    have k := hs.ok
    have hwk := k.wk
    refine s_ret (v := .int (c.weekday n)) (ev_op (x := .int (n + c.fw)) (ev_op (ev_var rfl) (ev_fld (ev_var rfl) h1 T.cls T.fw calF_fw) rv_I0) (ev_fld (ev_var rfl) h1 T.cls T.week calF_week) (rv_I (by show (0 : Int) < _; omega))) fun H2 e2 => o H2 e2
theorem cm_year_days {f : Addr} {fd : FuncData} (F : Fun K "year_days" "Calendar.year_days" c_year_days f fd) (T : CalT K C) (mL : Mt P w K mg base 1 C "is_long" (spB false K C cl fIsLong) []) : FnOk P w K mg base (L2.CX P w) 2 f fd ["self", "year"] (spB false K C cl fYearDays) := by
  refine F.okX cs_year_days (fun vs H Q E h => ?_) (fun cdv A outer s H vs Q E hr h => ?_)
  · obtain ⟨a, c, ws, r, rfl, hc, hs, h, _⟩ := h
    match ws, h with
    | [.int y], _ => rfl
  · obtain ⟨a, c, ws, r, rfl, hc, hs, h, o⟩ := h
    match ws, h with
    | [.int y], h =>
    obtain rfl := (Option.some.inj h).symm
    have hcal := hc
    obtain ⟨dx, tm, ty, dl, ts, kvs, st, h1, h2, h3, h4, h5, h6, h7⟩ := hc
    refine ⟨_, pss_cons (ps_if (pt_val (pe_mk mL hr (by decide) passL (pv 0) (pa_cons (pv 1) pa_nil))) (pss_one (ps_ret (pe_op op_add (pe_fld (pv 0) rfl) pe_int))) pss_nil) (pss_one (ps_ret (pe_fld (pv 0) rfl))), ?_⟩
    refine q_when (b := c.long y) (et_B (ev_M (ev_var rfl) (ea_cons (ev_var rfl) ea_nil) hcal hs (fun _ _ _ _ => rfl) rfl)) (fun hb H1 e1 => ?_) (fun hb H1 e1 => ?_)
    · refine s_ret (v := .int (c.plain + 1)) (ev_op (ev_fld (ev_var rfl) (e1 _ _ h1) T.cls T.plain calF_plain) ev_c rv_I0) fun H2 e2 => ?_
      have o : Out cl H Q E (.ok (.int (c.yearDays y))) := o
      unfold Ca.yearDays at o
      rw [if_pos hb] at o
      exact o H2 (e1.trans e2)
    · refine s_ret (v := .int c.plain) (ev_fld (ev_var rfl) (e1 _ _ h1) T.cls T.plain calF_plain) fun H2 e2 => ?_
      have o : Out cl H Q E (.ok (.int (c.yearDays y))) := o
      unfold Ca.yearDays at o
      rw [if_neg (by rw [hb]; decide)] at o
      exact o H2 (e1.trans e2)
theorem cm_first_of {f : Addr} {fd : FuncData} (F : Fun K "first_of" "Calendar.first_of" c_first_of f fd) (T : CalT K C) (mC : Mt P w K mg base 1 C "cycle_days" (spM K C cl fCycleDays) []) (nd : mg "divmod" = none) : FnOk P w K mg base (L2.CX P w) 2 f fd ["self", "year"] (spM K C cl fFirstOf) := by
  refine F.okX cs_first_of (fun vs H Q E h => ?_) (fun cdv A outer s H vs Q E hr h => ?_)
  · obtain ⟨a, c, ws, r, rfl, hc, hs, h, _⟩ := h
    match ws, h with
    | [.int y], _ => rfl
  · obtain ⟨a, c, ws, r, rfl, hc, hs, h, o⟩ := h
    match ws, h with
    | [.int y], h =>
    obtain rfl := (Option.some.inj h).symm
    have hcal := hc
    obtain ⟨dx, tm, ty, dl, ts, kvs, st, h1, h2, h3, h4, h5, h6, h7⟩ := hc
    obtain rfl := h7 rfl
    refine ⟨_, pss_cons (ps_asg (pe_callB call_divmod (by rfl) nd (by decide +kernel) (pa_cons (pv 1) (pa_cons (pe_fld (pv 0) rfl) pa_nil))) (pg_tup rfl (pgs_cons (pg_name (i := 2) cs_first_of.nd rfl (.inl rfl)) (pgs_cons (pg_name (i := 3) cs_first_of.nd rfl (.inl rfl)) pgs_nil)))) (pss_one (ps_ret (pe_op op_add (pe_op op_mul (pv 2) (pe_mk0 mC hr (by decide) passL (pv 0))) (pe_ix ix_list (pe_fld (pv 0) rfl) (pv 3) (fun _ _ => rfl))))), ?_⟩
    have k := hs.ok
    have hcy := k.cy
    have hsm := hs.cy
    refine q_pair (eu_divmod (i := y) (j := c.cycle) (ev_var rfl) (ev_fld (ev_var rfl) h1 T.cls T.cycle calF_cycle) (by show CDiv _ _; unfold CDiv; omega)) fun H1 e1 => ?_
    have r0 := Int.emod_nonneg y (show c.cycle ≠ 0 by omega)
    have r1 := Int.emod_lt_of_pos y (show 0 < c.cycle by omega)
    have cp := Ca.cyc_pos k
    have cs := hs.cyc
    refine s_ret (v := .int (c.firstOf y)) (ev_op (x := .int (y / c.cycle * c.cyc)) (y := .int (c.startN (y % c.cycle).toNat)) (ev_op (ev_var rfl) (ev_M (ev_var rfl) ea_nil (hcal.ex e1) hs (fun _ _ _ _ => rfl) rfl) (rv_I (.inr ⟨by omega, by omega⟩))) (ev_op (y := .int (((y % c.cycle).toNat : Nat) : Int)) (ev_fld (ev_var rfl) (e1 _ _ h1) T.cls T.starts calF_starts) (ev_is (ev_var rfl) (by rw [Int.toNat_of_nonneg r0])) (rv_ixL (ex_l e1 h6) (at_starts (by omega)))) rv_I0) fun H2 e2 => o H2 (e1.trans e2)
theorem cm_month_days {f : Addr} {fd : FuncData} (F : Fun K "month_days" "Calendar.month_days" c_month_days f fd) (T : CalT K C) (mL : Mt P w K mg base 1 C "is_long" (spB false K C cl fIsLong) []) (nl : mg "len" = none) (xD : Exc1 K mg "BadDay" (cl 1)) : FnOk P w K mg base (L2.CX P w) 2 f fd ["self", "year", "month"] (spM K C cl fMonthDays) := by
  refine F.okX cs_month_days (fun vs H Q E h => ?_) (fun cdv A outer s H vs Q E hr h => ?_)
  · obtain ⟨a, c, ws, r, rfl, hc, hs, h, _⟩ := h
    match ws, h with
    | [.int y, .int m], _ => rfl
  · obtain ⟨a, c, ws, r, rfl, hc, hs, h, o⟩ := h
    match ws, h with
    | [.int y, .int m], h =>
    obtain rfl := (Option.some.inj h).symm
    have hcal := hc
    obtain ⟨dx, tm, ty, dl, ts, kvs, st, h1, h2, h3, h4, h5, h6, h7⟩ := hc
    obtain rfl := h7 rfl
    refine ⟨_, pss_cons (ps_if (pt_not (pt_chain op_le op_lt pe_int (pv 2) (pe_callB call_len_seq (by rfl) nl (by decide +kernel) (pa_cons (pe_fld (pv 0) rfl) pa_nil)))) (pss_one (ps_raiseX xD)) pss_nil) (pss_cons (ps_if (PW.pt (pw_and (pt_cmpR op_eq (pv 2) (pe_fld (pv 0) rfl) (nomark _)) (pw_and1 (pt_val (pe_mk mL hr (by decide) passL (pv 0) (pa_cons (pv 1) pa_nil)))))) (pss_one (ps_ret (pe_op op_add (pe_ix ix_tup (pe_fld (pv 0) rfl) (pv 2) (fun _ _ => rfl)) pe_int))) pss_nil) (pss_one (ps_ret (pe_ix ix_tup (pe_fld (pv 0) rfl) (pv 2) (fun _ _ => rfl))))), ?_⟩
    have hl := hs.len
    refine q_when (b := !(decide ((0 : Int) ≤ m) && decide (m < (c.months.length : Int)))) (et_not (et_test (et_chain ev_c (ev_var rfl) (fun _ => ev_lenT (ev_fld (ev_var rfl) h1 T.cls T.months calF_months) h2) rv_I0 (fun _ => ?_)))) (fun hb H1 e1 => ?_) (fun hb H1 e1 => ?_)
    · rw [List.length_map]
      exact rv_I0
    · rw [Bool.not_eq_true', Bool.and_eq_false_iff, decide_eq_false_iff_not, decide_eq_false_iff_not] at hb
      rw [if_neg (by omega)] at o
      exact o H1 e1
    · rw [Bool.not_eq_false', Bool.and_eq_true, decide_eq_true_eq, decide_eq_true_eq] at hb
      obtain ⟨m0, m1⟩ := hb
      rw [if_pos ⟨m0, m1⟩] at o
      obtain ⟨n, rfl⟩ : ∃ n : Nat, m = (n : Int) := ⟨m.toNat, by omega⟩
      rw [Int.toNat_natCast] at o
      have hat : atI (c.months.map V.int) (n : Int) = some (.int (c.months.getD n 0)) := at_map (by omega)
      have hq := h1
      refine q_when (b := decide (V.int (n : Int) = V.int c.lm) && c.long y) (et_and (et_test (ev_op (ev_var rfl) (ev_fld (ev_var rfl) (e1 _ _ h1) T.cls T.lm calF_lm) (rv_eq rfl))) fun _ => et_B (ev_M (ev_var rfl) (ea_cons (ev_var rfl) ea_nil) (hcal.weak.ex e1) hs (fun _ _ _ _ => rfl) rfl)) (fun hb2 H2 e2 => ?_) (fun hb2 H2 e2 => ?_)
      · rw [Bool.and_eq_true, decide_eq_true_eq] at hb2
        have hm : (n : Int) = c.lm := by injection hb2.1
        refine s_ret (v := .int (c.months.getD n 0 + 1)) (ev_op (x := .int (c.months.getD n 0)) (ev_op (ev_fld (ev_var rfl) (e2 _ _ (e1 _ _ h1)) T.cls T.months calF_months) (ev_var rfl) (rv_ixT (ex_t (e1.trans e2) h2) hat)) ev_c rv_I0) fun H3 e3 => ?_
        have e : c.md y n = c.months.getD n 0 + 1 := if_pos ⟨hm, hb2.2⟩
        rw [e] at o
        exact o H3 ((e1.trans e2).trans e3)
      · refine s_ret (v := .int (c.months.getD n 0)) (ev_op (ev_fld (ev_var rfl) (e2 _ _ (e1 _ _ h1)) T.cls T.months calF_months) (ev_var rfl) (rv_ixT (ex_t (e1.trans e2) h2) hat)) fun H3 e3 => ?_
        have e : c.md y n = c.months.getD n 0 := if_neg (fun z => by
          rw [z.2, Bool.and_true, decide_eq_false_iff_not] at hb2
          exact hb2 (by rw [z.1]))
        rw [e] at o
        exact o H3 ((e1.trans e2).trans e3)
/-- how many of rising numbers are below a bound -/
def spCount (K : PySem.W.Frag) : Sp := fun vs H Q _ => ∃ (p : Addr) (ns : List Int) (b : Int), vs = [.ref p, .int b] ∧ SqL K H p (ns.map V.int) ∧ ns.length < 100000000 ∧ ns.Pairwise (· ≤ ·) ∧
  ∀ k : Nat, k ≤ ns.length → (∀ i : Nat, i < k → ns.getD i 0 < b) → (∀ i : Nat, k ≤ i → i < ns.length → b ≤ ns.getD i 0) → ∀ H', Ex H H' → Q (.int k) H'
theorem pair_getD {ns : List Int} (h : ns.Pairwise (· ≤ ·)) {i j : Nat} (hij : i ≤ j) (hj : j < ns.length) : ns.getD i 0 ≤ ns.getD j 0 := by
  rw [List.getD_eq_getElem?_getD, List.getD_eq_getElem?_getD, List.getElem?_eq_getElem (show i < ns.length by omega), List.getElem?_eq_getElem hj]
  rcases Nat.lt_or_eq_of_le hij with e | e
  · exact List.pairwise_iff_getElem.mp h i j (by omega) hj e
  · subst e
    exact Int.le_refl _
theorem ok_count_below {f : Addr} {fd : FuncData} (F : Fun K "count_below" "count_below" s_count_below f fd) (nl : mg "len" = none) : FnOk P w K mg base (L2.CX P w) 1 f fd ["numbers", "bound"] (spCount K) := by
  refine F.okX cs_count_below (fun vs H Q E h => ?_) (fun cdv A outer s H vs Q E hr h => ?_)
  · obtain ⟨p, ns, b, rfl, _⟩ := h
    rfl
  · obtain ⟨p, ns, b, rfl, hS, hn, hp, q⟩ := h
    refine ⟨_, pss_cons (ps_set (i := 2) cs_count_below.nd rfl (.inl rfl) pe_int) (pss_cons (ps_set (i := 3) cs_count_below.nd rfl (.inl rfl) (pe_callB call_len_seq (by rfl) nl (by decide +kernel) (pa_cons (pv 0) pa_nil)))
      (pss_cons (ps_while (passes_of rfl) (pt_cmpR op_lt (pv 2) (pv 3) (nomark _)) (pss_cons (ps_set (i := 4) cs_count_below.nd rfl (.inl rfl) (pe_op op_fdiv (pe_op op_add (pv 2) (pv 3)) pe_int))
        (pss_one (ps_if (pt_cmpR op_lt (pe_ix ix_list (pv 0) (pv 4) (fun _ _ => rfl)) (pv 1) (nomark _)) (pss_one (ps_set (i := 2) cs_count_below.nd rfl (.inl rfl) (pe_op op_add (pv 4) pe_int))) (pss_one (ps_set (i := 3) cs_count_below.nd rfl (.inl rfl) (pv 4)))))))
      (pss_one (ps_ret (pv 2))))), ?_⟩
    refine q_asg ev_c fun H1 e1 => ?_
    refine q_asg (v := .int ((ns.length : Nat) : Int)) (ev_is (ev_lenL (ev_var rfl) (ex_l e1 hS)) (by rw [List.length_map])) fun H2 e2 => ?_
    refine q_while (fun m σ' H' => ∃ (lo hi : Nat) (l4 : Option V), σ' = [some (.ref p), some (.int b), some (.int (lo : Int)), some (.int (hi : Int)), l4] ∧ Ex H H' ∧ lo ≤ hi ∧ hi ≤ ns.length ∧ (∀ i : Nat, i < lo → ns.getD i 0 < b) ∧ (∀ i : Nat, hi ≤ i → i < ns.length → b ≤ ns.getD i 0) ∧ m = hi - lo)
      ns.length ⟨0, ns.length, none, rfl, e1.trans e2, Nat.zero_le _, Nat.le_refl _, fun i h => by omega, fun i a e => by omega, rfl⟩ fun m σ' H' hW => ?_
    obtain ⟨lo, hi, l4, rfl, eH, hlh, hh, b1, b2, rfl⟩ := hW
    refine ⟨decide ((lo : Int) < (hi : Int)), by walk_at "et", fun hb H3 e3 => ?_, fun hb H3 e3 => ?_⟩
    · have hb := of_decide_eq_true hb
      refine ⟨_, fun σ2 H2 h => h, ?_⟩
      refine q_asg (v := .int (((lo + hi) / 2 : Nat) : Int)) (ev_is (ev_op (x := .int ((lo : Int) + (hi : Int))) (z := .int (((lo : Int) + (hi : Int)) / 2)) (ev_op (ev_var rfl) (ev_var rfl) rv_I0) ev_c (rv_I (C := CDiv) (by show CDiv _ _; unfold CDiv; omega))) (congrArg V.int (by omega))) fun H4 e4 => ?_
      have hx : (lo + hi) / 2 < ns.length := by omega
      refine s_if (b := decide (ns.getD ((lo + hi) / 2) 0 < b)) (et_test (ev_op (x := .int (ns.getD ((lo + hi) / 2) 0)) (ev_op (ev_var rfl) (ev_var rfl) (rv_ixL (ex_l ((eH.trans e3).trans e4) hS) (at_map hx))) (ev_var rfl) rv_I0)) (fun hc H5 e5 => ?_) (fun hc H5 e5 => ?_)
      · refine s_asg (v := .int (((lo + hi) / 2 + 1 : Nat) : Int)) (ev_is (ev_op (z := .int ((((lo + hi) / 2 : Nat) : Int) + 1)) (ev_var rfl) ev_c rv_I0) (congrArg V.int (by omega))) fun H6 e6 => ?_
        refine ⟨hi - ((lo + hi) / 2 + 1), by omega, (lo + hi) / 2 + 1, hi, _, rfl, ((((eH.trans e3).trans e4).trans e5).trans e6), by omega, hh, fun i hi' => ?_, b2, rfl⟩
        have := of_decide_eq_true hc
        have := pair_getD hp (i := i) (j := (lo + hi) / 2) (by omega) hx
        omega
      · refine s_asg (v := .int (((lo + hi) / 2 : Nat) : Int)) (ev_var rfl) fun H6 e6 => ?_
        refine ⟨(lo + hi) / 2 - lo, by omega, lo, (lo + hi) / 2, _, rfl, ((((eH.trans e3).trans e4).trans e5).trans e6), by omega, by omega, b1, fun i a e => ?_, rfl⟩
        have := of_decide_eq_false hc
        have := pair_getD hp (i := (lo + hi) / 2) (j := i) a e
        omega
    · have hb := of_decide_eq_false hb
      have e : lo = hi := by omega
      subst e
      exact s_ret (v := .int (lo : Int)) (ev_var rfl) fun H4 e4 => q lo hh b1 b2 H4 ((eH.trans e3).trans e4)
theorem starts_ints (c : Ca) : startsL c = ((List.range (c.cycle.toNat + 1)).map c.startN).map V.int := by
  unfold startsL
  rw [List.map_map]
  rfl
theorem starts_getD (c : Ca) {i : Nat} (h : i < c.cycle.toNat + 1) : ((List.range (c.cycle.toNat + 1)).map c.startN).getD i 0 = c.startN i := by
  rw [List.getD_eq_getElem?_getD, List.getElem?_map, List.getElem?_range h]
  rfl
theorem starts_rise {c : Ca} (k : c.Ok) : ((List.range (c.cycle.toNat + 1)).map c.startN).Pairwise (· ≤ ·) := by
  rw [List.pairwise_iff_getElem]
  intro i j hi hj hij
  rw [List.length_map, List.length_range] at hi hj
  have h := start_mono k hij (by have := k.cy; omega)
  rw [List.getElem_map, List.getElem_map, List.getElem_range, List.getElem_range]
  omega
theorem ev_count {σ : L2.St} {H : Hp} {ta : TA} {p : Addr} {c : Ca} {b : Int} (k : Small c) (h : EvA ta σ H [.ref p, .int b]) (hs : SqL K H p (startsL c)) :
    Ev (tCall (spCount K) [] E0 ta) σ H (.int (((List.range (c.cycle.toNat + 1)).countP fun i => decide (c.startN i < b) : Nat) : Int)) := fun H1 e Q q =>
  h H1 e _ fun H2 e2 => ⟨p, (List.range (c.cycle.toNat + 1)).map c.startN, b, rfl, by rw [← starts_ints]; exact ex_l (e.trans e2) hs, by rw [List.length_map, List.length_range]; have := k.cy; omega, starts_rise k.ok, fun n n0 n1 n2 H3 e3 => by
    rw [List.length_map, List.length_range] at n0 n2
    have g := year_count k.ok b n0 (fun i hi => by have := n1 i hi; rw [starts_getD c (by omega)] at this; exact this) (fun i a z => by have := n2 i a z; rw [starts_getD c z] at this; exact this)
    rw [← g] at *
    have q3 := q H3 (e2.trans e3)
    rw [g] at q3 ⊢
    exact q3⟩
theorem cm_year_of {f : Addr} {fd : FuncData} (F : Fun K "year_of" "Calendar.year_of" c_year_of f fd) (T : CalT K C) (mC : Mt P w K mg base 1 C "cycle_days" (spM K C cl fCycleDays) []) (cB : Cal P w K mg base 1 "count_below" (spCount K) []) (nd : mg "divmod" = none) : FnOk P w K mg base (L2.CX P w) 2 f fd ["self", "number"] (spM K C cl fYearOf) := by
  refine F.okX cs_year_of (fun vs H Q E h => ?_) (fun cdv A outer s H vs Q E hr h => ?_)
  · obtain ⟨a, c, ws, r, rfl, hc, hs, h, _⟩ := h
    match ws, h with
    | [.int n], _ => rfl
  · obtain ⟨a, c, ws, r, rfl, hc, hs, h, o⟩ := h
    match ws, h with
    | [.int n], h =>
    obtain rfl := (Option.some.inj h).symm
    have hcal := hc
    obtain ⟨dx, tm, ty, dl, ts, kvs, st, h1, h2, h3, h4, h5, h6, h7⟩ := hc
    obtain rfl := h7 rfl
    refine ⟨_, pss_cons (ps_asg (pe_callB call_divmod (by rfl) nd (by decide +kernel) (pa_cons (pv 1) (pa_cons (pe_mk0 mC hr (by decide) passL (pv 0)) pa_nil))) (pg_tup rfl (pgs_cons (pg_name (i := 2) cs_year_of.nd rfl (.inl rfl)) (pgs_cons (pg_name (i := 3) cs_year_of.nd rfl (.inl rfl)) pgs_nil)))) (pss_one (ps_ret (pe_op op_sub (pe_op op_add (pe_op op_mul (pv 2) (pe_fld (pv 0) rfl)) (pe_k cB hr (by decide) passL (pa_cons (pe_fld (pv 0) rfl) (pa_cons (pe_op op_add (pv 3) pe_int) pa_nil)))) pe_int))), ?_⟩
    have k := hs.ok
    have hcy := k.cy
    have hsm := hs.cy
    have cp := Ca.cyc_pos k
    have cs := hs.cyc
    refine q_pair (eu_divmod (i := n) (j := c.cyc) (ev_var rfl) (ev_M (ev_var rfl) ea_nil hcal hs (fun _ _ _ _ => rfl) rfl) (by show CDiv _ _; unfold CDiv; omega)) fun H1 e1 => ?_
    refine s_ret (v := .int (yearOf c n)) (ev_op (x := .int (n / c.cyc * c.cycle + (((List.range (c.cycle.toNat + 1)).countP fun i => decide (c.startN i < n % c.cyc + 1) : Nat) : Int))) (y := .int 1) (ev_op (x := .int (n / c.cyc * c.cycle)) (ev_op (ev_var rfl) (ev_fld (ev_var rfl) (e1 _ _ h1) T.cls T.cycle calF_cycle) (rv_I (.inr ⟨by omega, by omega⟩)))
      (ev_count hs (ea_cons (ev_fld (ev_var rfl) (e1 _ _ h1) T.cls T.starts calF_starts) (ea_cons (ev_op (ev_var rfl) ev_c rv_I0) ea_nil)) (ex_l e1 h6)) rv_I0) ev_c rv_I0) fun H2 e2 => o H2 (e1.trans e2)
theorem cm_date {f : Addr} {fd : FuncData} (F : Fun K "date" "Calendar.date" c_date f fd) (T : CalT K C) (mY : Mt P w K mg base 2 C "year_of" (spM K C cl fYearOf) []) (mF : Mt P w K mg base 2 C "first_of" (spM K C cl fFirstOf) []) (mM : Mt P w K mg base 2 C "month_days" (spM K C cl fMonthDays) []) : FnOk P w K mg base (L2.CX P w) 3 f fd ["self", "number"] (spM K C cl fDate) := by
  refine F.okX cs_date (fun vs H Q E h => ?_) (fun cdv A outer s H vs Q E hr h => ?_)
  · obtain ⟨a, c, ws, r, rfl, hc, hs, h, _⟩ := h
    match ws, h with
    | [.int n], _ => rfl
  · obtain ⟨a, c, ws, r, rfl, hc, hs, h, o⟩ := h
    match ws, h with
    | [.int n], h =>
    obtain rfl := (Option.some.inj h).symm
    have hcal := hc
    obtain ⟨dx, tm, ty, dl, ts, kvs, st, h1, h2, h3, h4, h5, h6, h7⟩ := hc
    obtain rfl := h7 rfl
    refine ⟨_, pss_cons (ps_set (i := 2) cs_date.nd rfl (.inl rfl) (pe_mk mY hr (by decide) passL (pv 0) (pa_cons (pv 1) pa_nil))) (pss_cons (ps_set (i := 3) cs_date.nd rfl (.inl rfl) (pe_op op_sub (pv 1) (pe_mk mF hr (by decide) passL (pv 0) (pa_cons (pv 2) pa_nil)))) (pss_cons (ps_set (i := 4) cs_date.nd rfl (.inl rfl) pe_int) (pss_cons (ps_set (i := 5) cs_date.nd rfl (.inl rfl) (pe_mk mM hr (by decide) passL (pv 0) (pa_cons (pv 2) (pa_cons (pv 4) pa_nil)))) (pss_cons (ps_while (passes_of rfl) (pt_cmpR op_ge (pv 3) (pv 5) (nomark _)) (pss_cons (ps_aug (i := 3) cs_date.nd rfl (.inl rfl) (pv 5) ip_sub) (pss_cons (ps_aug (i := 4) cs_date.nd rfl (.inl rfl) pe_int ip_add) (pss_one (ps_set (i := 5) cs_date.nd rfl (.inl rfl) (pe_mk mM hr (by decide) passL (pv 0) (pa_cons (pv 2) (pa_cons (pv 4) pa_nil)))))))) (pss_one (ps_ret (pe_tup (pa_cons (pv 2) (pa_cons (pv 4) (pa_cons (pv 3) pa_nil)))))))))), ?_⟩
    have k := hs.ok
    have D := date_at k n
    have hmd : ∀ j : Nat, j < c.months.length → fMonthDays c [.int (yearOf c n), .int (j : Int)] = some (.ok (.int (c.md (yearOf c n) j))) := fun j hj => by
      show some (if 0 ≤ (j : Int) ∧ (j : Int) < (c.months.length : Int) then Rs.ok (.int (c.md (yearOf c n) (j : Int).toNat)) else .err 1) = _
      rw [if_pos ⟨by omega, by omega⟩, Int.toNat_natCast]
    have hL : 0 < c.months.length := List.length_pos_iff.mpr k.some
    refine q_asg (v := .int (yearOf c n)) (ev_M (ev_var rfl) (ea_cons (ev_var rfl) ea_nil) hcal hs (fun _ _ _ _ => rfl) rfl) fun H1 e1 => ?_
    refine q_asg (v := .int (n - c.firstOf (yearOf c n))) (ev_op (ev_var rfl) (ev_M (ev_var rfl) (ea_cons (ev_var rfl) ea_nil) (hcal.ex e1) hs (fun _ _ _ _ => rfl) rfl) rv_I0) fun H2 e2 => ?_
    refine q_asg (v := .int ((0 : Nat) : Int)) ev_c fun H3 e3 => ?_
    refine q_asg (v := .int (c.md (yearOf c n) 0)) (ev_M (ev_var rfl) (ea_cons (ev_var rfl) (ea_cons (ev_var rfl) ea_nil)) (hcal.ex ((e1.trans e2).trans e3)) hs (fun _ _ _ _ => rfl) (hmd 0 hL)) fun H4 e4 => ?_
    refine q_while (fun m σ' H' => ∃ j : Nat, σ' = [some (.ref a), some (.int n), some (.int (yearOf c n)), some (.int (n - c.firstOf (yearOf c n) - c.ahead (yearOf c n) j)), some (.int (j : Int)), some (.int (c.md (yearOf c n) j))] ∧ Ex H H' ∧ j ≤ dateM c n ∧ m = dateM c n - j)
      (dateM c n) ⟨0, (by
        have e : c.ahead (yearOf c n) 0 = 0 := rfl
        rw [e, Int.sub_zero]
        rfl), ((e1.trans e2).trans e3).trans e4, Nat.zero_le _, rfl⟩ fun m σ' H' hW => ?_
    obtain ⟨j, rfl, eH, hj, rfl⟩ := hW
    have hjl : j < c.months.length := by have := D.m1; omega
    have es : c.ahead (yearOf c n) (j + 1) = c.ahead (yearOf c n) j + c.md (yearOf c n) j := rfl
    refine ⟨decide (c.md (yearOf c n) j ≤ n - c.firstOf (yearOf c n) - c.ahead (yearOf c n) j), by walk_at "et", fun hb H5 e5 => ?_, fun hb H5 e5 => ?_⟩
    · have hb := of_decide_eq_true hb
      have hlt : j < dateM c n := by
        rcases Nat.lt_or_eq_of_le hj with z | z
        · exact z
        · exfalso
          have d1 := D.d1
          have nm := D.num
          rw [← z] at d1 nm
          omega
      refine ⟨_, fun σ2 H2 h => h, ?_⟩
      refine q_aug (a := n - c.firstOf (yearOf c n) - c.ahead (yearOf c n) j) rfl (ev_var rfl) fun H6 e6 => ?_
      refine q_aug (a := (j : Int)) rfl ev_c fun H7 e7 => ?_
      refine s_asg (v := .int (c.md (yearOf c n) (j + 1))) (ev_M (ws := [.int (yearOf c n), .int (((j + 1 : Nat)) : Int)]) (ev_var rfl) (ea_cons (ev_var rfl) (ea_cons (ev_is (v := .int ((j : Int) + 1)) (ev_var rfl) (congrArg V.int (by omega))) ea_nil)) (hcal.ex (((eH.trans e5).trans e6).trans e7)) hs (fun _ _ _ _ => rfl) (hmd (j + 1) (by have := D.m1; omega))) fun H8 e8 => ?_
      refine ⟨dateM c n - (j + 1), by omega, j + 1, ?_, (((eH.trans e5).trans e6).trans e7).trans e8, hlt, rfl⟩
      rw [es, show n - c.firstOf (yearOf c n) - (c.ahead (yearOf c n) j + c.md (yearOf c n) j) = n - c.firstOf (yearOf c n) - c.ahead (yearOf c n) j - c.md (yearOf c n) j by omega, show ((j + 1 : Nat) : Int) = (j : Int) + 1 by omega]
      rfl
    · have hb := of_decide_eq_false hb
      have ej : j = dateM c n := by
        rcases Nat.lt_or_eq_of_le hj with z | z
        · exfalso
          have q : c.ahead (yearOf c n) (j + 1) ≤ c.ahead (yearOf c n) (dateM c n) := by
            rcases Nat.lt_or_eq_of_le (show j + 1 ≤ dateM c n from z) with y | y
            · exact Int.le_of_lt (Ca.ahead_mono k _ y (Nat.le_of_lt D.m1))
            · rw [y]; exact Int.le_refl _
          have nm := D.num
          have d0 := D.d0
          omega
        · exact z
      subst ej
      refine s_retU (xs := [.int (yearOf c n), .int (dateM c n : Nat), .int (dateD c n)]) (eu_tup (ea_cons (ev_var rfl) (ea_cons (ev_var rfl) (ea_cons (ev_var rfl) ea_nil))) (by show 3 ≤ 100000; decide)) fun p H6 hp e6 h6 => ?_
      exact o p H6 (fresh_back (eH.trans e5) hp) ((eH.trans e5).trans e6) h6
end
end Rw
namespace Rw
open PySem PySem.Spec PyProof.Rows L2 Evl Cy
local macro_rules | `(tactic| walk_at "sq") => `(tactic| first | assumption | exact SqL.of (by assumption) | exact SqT.of (by assumption))
local macro_rules | `(tactic| walk_at "at") => `(tactic| first | exact atI_nat (j := 0) rfl | exact atI_nat (j := 1) rfl | exact atI_nat (j := 2) rfl | exact atI_nat (j := 3) rfl)
local macro_rules | `(tactic| walk_at "rv") => `(tactic| first
  | with_reducible exact rv_I0
  | ((with_reducible refine' rv_I ?k1); (case k1 => first | (show (0 : Int) < _; omega) | exact ⟨by omega, by omega⟩ | exact .inr ⟨by omega, by omega⟩ | exact .inl ⟨by omega, by omega⟩ | exact ⟨by decide, by decide, by decide⟩))
  | ((with_reducible refine' rv_eq ?k1); (case k1 => exact rfl))
  | ((with_reducible refine' rv_ne ?k1); (case k1 => exact rfl))
  | (refine' rv_ixL ?k1 ?k2; (case k1 => walk_at "sq"); (case k2 => walk_at "at"))
  | (refine' rv_ixT ?k1 ?k2; (case k1 => walk_at "sq"); (case k2 => walk_at "at")))
local macro_rules | `(tactic| walk_at "rc") => `(tactic| first | exact rc_int1 | exact rc_int1b | exact rc_abs)
local macro_rules | `(tactic| walk_at "ea") => `(tactic| first
  | with_reducible exact ea_nil
  | ((with_reducible refine' ea_cons ?k1 ?k2); (case k1 => walk_at "ev"); (case k2 => walk_at "ea")))
local macro_rules | `(tactic| walk_at "ev") => `(tactic| first
  | with_reducible exact ev_c
  | ((with_reducible refine' ev_var ?k1); (case k1 => exact rfl))
  | ((with_reducible refine' ev_op ?k1 ?k2 ?k3); (case k1 => walk_at "ev"); (case k2 => walk_at "ev"); (case k3 => walk_at "rv"))
  | ((with_reducible refine' et_chain ?k1 ?k2 ?k3 ?k4 ?k5); (case k1 => walk_at "ev"); (case k2 => walk_at "ev"); (case k3 => (intro _; walk_at "ev")); (case k4 => walk_at "rv"); (case k5 => (intro _; walk_at "rv")))
  | ((with_reducible refine' ev_cb ?k1 ?k2); (case k1 => walk_at "ea"); (case k2 => walk_at "rc")))
local macro_rules | `(tactic| walk_at "et") => `(tactic| first
  | ((with_reducible refine' et_test ?k1); (case k1 => walk_at "ev"))
  | ((with_reducible refine' et_B ?k1); (case k1 => walk_at "ev"))
  | ((with_reducible refine' et_and ?k1 ?k2); (case k1 => walk_at "et"); (case k2 => (intro _; walk_at "et")))
  | ((with_reducible refine' et_or ?k1 ?k2); (case k1 => walk_at "et"); (case k2 => (intro _; walk_at "et")))
  | ((with_reducible refine' et_not ?k1); (case k1 => walk_at "et")))
local macro_rules | `(tactic| walk_at "ff") => `(tactic| first | exact rfl | assumption)
local macro_rules | `(tactic| walk_at "ev") => `(tactic| first
  | with_reducible exact ev_c
  | ((with_reducible refine' ev_var ?k1); (case k1 => exact rfl))
  | ((with_reducible refine' ev_op ?k1 ?k2 ?k3); (case k1 => walk_at "ev"); (case k2 => walk_at "ev"); (case k3 => walk_at "rv"))
  | ((with_reducible refine' et_chain ?k1 ?k2 ?k3 ?k4 ?k5); (case k1 => walk_at "ev"); (case k2 => walk_at "ev"); (case k3 => (intro _; walk_at "ev")); (case k4 => walk_at "rv"); (case k5 => (intro _; walk_at "rv")))
  | ((with_reducible refine' ev_cb ?k1 ?k2); (case k1 => walk_at "ea"); (case k2 => walk_at "rc"))
  | ((with_reducible refine' ev_F ?k1 ?k2); (case k1 => walk_at "ea"); (case k2 => walk_at "ff"))
  | ((with_reducible refine' ev_two ?k1 ?k2 ?k3); (case k1 => walk_at "ev"); (case k2 => omega); (case k3 => omega)))
abbrev c_init : Stmt := inClass (topS 32) 0
theorem cs_init : FnScope ["self", "months", "long_month", "cycle", "long_years", "week", "first_weekday", "year"] ["self", "months", "long_month", "cycle", "long_years", "week", "first_weekday"] (defScope c_init) := ⟨rfl, rfl, rfl, by decide +kernel, rfl, by decide +kernel, by decide +kernel⟩
section
variable {P : Program} {w : World} {K : PySem.W.Frag} {mg : Str → Option Value} {base : Heap} {C : Addr} {cl : Nat → Addr}
/-- a calendar whose table of starts was not there before -/
def CalN (K : PySem.W.Frag) (C : Addr) (H H' : Hp) (a : Addr) (c : Ca) : Prop := ∃ dx tm ty dl ts kvs st, H' a = some (.ins C dx (calF c tm ty dl ts)) ∧ SqT K H' tm (c.months.map V.int) ∧ SqT K H' ty (c.ly.map V.int) ∧ H' dl = some (.dK kvs) ∧ (∀ i : Int, (valV kvs (.inl i)).isSome = decide (i ∈ c.ly)) ∧ SqL K H' ts st ∧ (true = true → st = startsL c) ∧ (∀ b o, b ≠ a → H b = some o → b ≠ ts) ∧ H' ts = some (.lst st)
theorem CalN.p {K : PySem.W.Frag} {C : Addr} {H H' : Hp} {a : Addr} {c : Ca} (h : CalN K C H H' a c) : CalP K C H' a c := by
  obtain ⟨dx, tm, ty, dl, ts, kvs, st, h1, h2, h3, h4, h5, h6, h7, _⟩ := h
  exact ⟨dx, tm, ty, dl, ts, kvs, st, h1, h2, h3, h4, h5, h6, h7⟩
/-- a new calendar, of what can be -/
def spNew (K : PySem.W.Frag) (C : Addr) : Sp := fun vs H Q _ => ∃ (x dx pm py : Addr) (c : Ca), vs = [.ref x, .ref pm, .int c.lm, .int c.cycle, .ref py, .int c.week, .int c.fw] ∧ H x = some (.ins C dx []) ∧ SqA K H pm (c.months.map V.int) ∧ SqA K H py (c.ly.map V.int) ∧ c.ly.length < 40000 ∧ Small c ∧
  ∀ H', CalN K C H H' x c → ExB x H H' → Q .non H'
theorem cm_init {f : Addr} {fd : FuncData} (F : L2.FunD K "__init__" "Calendar.__init__" (defArgs c_init) (defBody c_init) (defScope c_init) [.int 0] [] f fd) (T : CalT K C) (mY : Mt P w K mg base 2 C "year_days" (spB false K C cl fYearDays) []) (nt : mg "tuple" = none) (nmin : mg "min" = none) (nl : mg "len" = none) (na : mg "any" = none) (ns : mg "sum" = none) (nr : mg "range" = none) (xC : Exc1 K mg "BadCalendar" (cl 0)) :
    FnOk P w K mg base (L2.CX P w) 3 f fd ["self", "months", "long_month", "cycle", "long_years", "week", "first_weekday"] (spNew K C) := by
  refine F.ok cs_init (fun vs H Q E h => ?_) (fun cdv A outer s H vs Q E hr h => ?_)
  · obtain ⟨x, dx, pm, py, c, rfl, _⟩ := h
    rfl
  · obtain ⟨x, dx, pm, py, c, rfl, hx, hpm, hpy, hyl, hs, q⟩ := h
    refine ⟨_, pss_cons (ps_fld (pv 0) (pe_callTy call_tuple_of (by rfl) nt (by decide +kernel) (pa_cons (pv 1) pa_nil)) rfl) (pss_cons (ps_fld (pv 0) (pv 2) rfl) (pss_cons (ps_fld (pv 0) (pv 3) rfl) (pss_cons (ps_fld (pv 0) (pe_callTy call_tuple_of (by rfl) nt (by decide +kernel) (pa_cons (pv 4) pa_nil)) rfl) (pss_cons (ps_fld (pv 0) (pv 5) rfl) (pss_cons (ps_fld (pv 0) (pv 6) rfl) (pss_cons (ps_if (PW.pt (pw_or (pt_cmpR (op_eqD hr.units) (pe_fld (pv 0) rfl) (pe_tup pa_nil) (nomark _)) (pw_or (pt_cmpR op_lt (pe_callB (cr_minT rfl) (by rfl) nmin (by decide +kernel) (pa_cons (pe_fld (pv 0) rfl) pa_nil)) pe_int (nomark _)) (pw_or (pt_cmpR op_lt (pv 3) pe_int (nomark _)) (pw_or (pt_cmpR op_lt (pv 5) pe_int (nomark _)) (pw_or1 (pt_not (pt_chain op_le op_lt pe_int (pv 6) (pv 5))))))))) (pss_one (ps_raiseX xC)) pss_nil) (pss_cons (ps_if (PW.pt (pw_or (pt_not (pt_chain op_le op_lt pe_int (pv 2) (pe_callB call_len_seq (by rfl) nl (by decide +kernel) (pa_cons (pe_fld (pv 0) rfl) pa_nil)))) (pw_or1 (pt_val (pe_callB (cr_any rfl) (by rfl) na (by decide +kernel) (pa_cons (pe_lc (own := [("year", 7)]) (g := gName 7) (tt := tYes) rfl cs_init.nd (pi_tup (pe_fld (pv 0) rfl)) (blkOk_by (own := [("year", 7)]) (N := ["self", "months", "long_month", "cycle", "long_years", "week", "first_weekday", "year"]) (sc := defScope c_init) (by decide +kernel)) (fun _ _ _ _ _ => pg_name (i := 7) cs_init.nd rfl (Or.inl rfl)) (fun _ _ _ _ _ => pts_nil) (fun _ _ _ _ _ => pe_not (pe_chain op_le op_lt pe_int (pv 7) (pv 3)))) pa_nil)))))) (pss_one (ps_raiseX xC)) pss_nil) (pss_cons (ps_fld (pv 0) (pe_dc (own := [("year", 7)]) (g := gName 7) (tt := tYes) rfl cs_init.nd (pi_tup (pe_fld (pv 0) rfl)) (blkOk_by (own := [("year", 7)]) (N := ["self", "months", "long_month", "cycle", "long_years", "week", "first_weekday", "year"]) (sc := defScope c_init) (by decide +kernel)) (fun _ _ _ _ _ => pg_name (i := 7) cs_init.nd rfl (Or.inl rfl)) (fun _ _ _ _ _ => pts_nil) (fun _ _ _ _ _ => pv 7) (fun _ _ _ _ _ => pe_bl)) rfl) (pss_cons (ps_fld (pv 0) (pe_callB (cr_sumT rfl) (by rfl) ns (by decide +kernel) (pa_cons (pe_fld (pv 0) rfl) pa_nil)) rfl) (pss_cons (ps_fld (pv 0) (pe_lst (pa_cons pe_int pa_nil)) rfl) (pss_one (ps_for (passes_of rfl) rfl (pi_range1 rfl nr (pa_cons (pv 3) pa_nil)) (pg_name (i := 7) cs_init.nd rfl (.inl rfl)) (pss_one (ps_expr (pe_bm PySem.F.plainAttrs_list PySem.F.slot_list_append PySem.F.type_list_append mt_append (pe_fld (pv 0) rfl) (pa_cons (pe_op op_add (pe_ix ix_list (pe_fld (pv 0) rfl) (pv 7) (fun _ _ => rfl)) (pe_mk mY hr (by decide) passL (pv 0) (pa_cons (pv 7) pa_nil))) pa_nil)))))))))))))))), ?_⟩
    have k := hs.ok
    have hcy := k.cy
    have hsm := hs.cy
    -- self.months
    refine q_fldX (ev_tupOf (ev_var rfl) hpm) (ev_var rfl) hx T.cls T.months (by show 0 < 1000; decide) (fun y H1 H2 r g e => by obtain ⟨q, rfl, r⟩ := r; exact ⟨q, rfl, sqT_b e g r⟩) fun y G1 b1 x1 r => ?_
    obtain ⟨tm, rfl, t1⟩ := r
    refine q_fldB (y := .int c.lm) (ev_var rfl) (ev_var rfl) x1 T.cls T.lm (by show 1 < 1000; decide) fun G2 b2 x2 => ?_
    have t2 := sqT_b b2 x1 t1
    refine q_fldB (y := .int c.cycle) (ev_var rfl) (ev_var rfl) x2 T.cls T.cycle (by show 2 < 1000; decide) fun G3 b3 x3 => ?_
    have t3 := sqT_b b3 x2 t2
    have B3 := (b1.trans b2).trans b3
    refine q_fldX (ev_tupOf (ev_var rfl) (SqA.b B3 hx hpy)) (ev_var rfl) x3 T.cls T.ly (by show 3 < 1000; decide) (fun y H1 H2 r g e => by obtain ⟨q, rfl, r⟩ := r; exact ⟨q, rfl, sqT_b e g r⟩) fun y G4 b4 x4 r => ?_
    obtain ⟨ty, rfl, u4⟩ := r
    have t4 := sqT_b b4 x3 t3
    refine q_fldB (y := .int c.week) (ev_var rfl) (ev_var rfl) x4 T.cls T.week (by show 4 < 1000; decide) fun G5 b5 x5 => ?_
    refine q_fldB (y := .int c.fw) (ev_var rfl) (ev_var rfl) x5 T.cls T.fw (by show 5 < 1000; decide) fun G6 b6 x6 => ?_
    have t6 := sqT_b b6 x5 (sqT_b b5 x4 t4)
    have u6 := sqT_b b6 x5 (sqT_b b5 x4 u4)
    have B6 := ((B3.trans b4).trans b5).trans b6
    refine q_when (b := false) ?_ (fun z => nomatch z) fun _ G7 e7 => ?_
    · refine et_is (et_or (a := false) (b := false) (et_test (ev_noTup (ev_fld (ev_var rfl) x6 T.cls T.months rfl) t6 k.some)) fun _ => et_or (a := false) (b := false) (et_min (ev_fld (ev_var rfl) x6 T.cls T.months rfl) t6 k.some k.pos)
        fun _ => et_or (a := false) (b := false) (et_is (et_test (ev_op (ev_var rfl) ev_c rv_I0)) (decide_eq_false (by omega))) fun _ => et_or (a := false) (b := false) (et_is (et_test (ev_op (ev_var rfl) ev_c rv_I0)) (decide_eq_false (by have := k.wk; omega)))
        fun _ => et_is (et_not (et_test (et_chain ev_c (ev_var rfl) (fun _ => ev_var rfl) rv_I0 (fun _ => rv_I0)))) (by rw [decide_eq_true k.fw0, decide_eq_true k.fw1]; rfl)) rfl
    have x7 := e7 _ _ x6
    have t7 := ex_t e7 t6
    have u7 := ex_t e7 u6
    have B7 : ExB x H G7 := B6.ex e7
    refine q_when (b := false) ?_ (fun z => nomatch z) fun _ G8 e8 => ?_
    · refine et_is (et_or (a := false) (b := false) (et_is (et_not (et_test (et_chain (b := decide ((0 : Int) ≤ c.lm)) (b' := decide (c.lm < (((c.months.map V.int).length : Nat) : Int))) ev_c (ev_var rfl) (fun _ => ev_lenT (ev_fld (ev_var rfl) x7 T.cls T.months rfl) t7) rv_I0 (fun _ => rv_I0)))) ?_)
        fun _ => et_is (et_B (ev_anyN (bs := c.ly.map fun y => !(decide ((0 : Int) ≤ y) && decide (y < c.cycle))) (el_mapT (ev_fld (ev_var rfl) x7 T.cls T.ly rfl) u7 (by rw [List.length_map]; omega) (fun x => rfl) (by rw [List.length_map, List.length_map, List.length_map]) fun i z y HH ee hx hy => ?_))) ?_) rfl
      · rw [List.length_map, decide_eq_true k.lm0, decide_eq_true k.lm1]
        rfl
      · rw [List.getElem?_map] at hx
        rw [List.getElem?_map, List.getElem?_map] at hy
        cases e : c.ly[i]? with
        | none =>
          rw [e] at hx
          cases hx
        | some n =>
          rw [e] at hx hy
          obtain rfl : V.int n = z := Option.some.inj hx
          obtain rfl : V.bl (!(decide ((0 : Int) ≤ n) && decide (n < c.cycle))) = y := Option.some.inj hy
          exact ev_notV (et_chain ev_c (ev_var rfl) (fun _ => ev_var rfl) rv_I0 (fun _ => rv_I0))
      · rw [List.any_eq_false]
        intro b hb
        obtain ⟨n, hn, rfl⟩ := List.mem_map.mp hb
        have g := k.ly n hn
        rw [decide_eq_true g.1, decide_eq_true g.2]
        decide
    have x8 := e8 _ _ x7
    have t8 := ex_t e8 t7
    have u8 := ex_t e8 u7
    have B8 : ExB x H G8 := B7.ex e8
    refine q_fldX (ev_dictTrue (ev_fld (ev_var rfl) x8 T.cls T.ly rfl) u8 (by omega) (fun x => rfl) (fun x => rfl)) (ev_var rfl) x8 T.cls T.longs (by show 6 < 1000; decide) (fun y H1 H2 r g e => by
      obtain ⟨d, kvs, rfl, r1, r2⟩ := r
      exact ⟨d, kvs, rfl, e _ _ (fun z => by rw [z, g] at r1; cases r1) r1, r2⟩) fun y G9 b9 x9 r => ?_
    obtain ⟨dl, kvs, rfl, d9, dk⟩ := r
    have t9 := sqT_b b9 x8 t8
    refine q_fldB (y := .int c.plain) (ev_sumT (ev_fld (ev_var rfl) x9 T.cls T.months rfl) t9) (ev_var rfl) x9 T.cls T.plain (by show 7 < 1000; decide) fun G10 b10 x10 => ?_
    have dne : dl ≠ x := fun z => by rw [z, x9] at d9; cases d9
    have d10 := b10 _ _ dne d9
    have u10 := sqT_b b10 x9 (sqT_b b9 x8 u8)
    have t10 := sqT_b b10 x9 t9
    have B10 := (B8.trans b9).trans b10
    refine q_fldX (ev_newL (el_lst (vs := [.int 0]) (ea_cons ev_c ea_nil) (by show 1 ≤ 100000; decide))) (ev_var rfl) x10 T.cls T.starts (by show 8 < 1000; decide) (fun y H1 H2 r g e => by
      obtain ⟨q, rfl, r1, r2⟩ := r
      exact ⟨q, rfl, e _ _ (fun z => by rw [z, g] at r1; cases r1) r1, r2⟩) fun y G11 b11 x11 r => ?_
    obtain ⟨ts, rfl, s11, s0⟩ := r
    have B11 := B10.trans b11
    have old : ∀ b o, b ≠ x → H b = some o → b ≠ ts := fun b o hb e z => by
      have g := B10 b o hb e
      rw [z, s0] at g
      cases g
    have tne : x ≠ ts := fun z => by rw [z, s0] at x10; cases x10
    have x11 : G11 x = some (.ins C dx (calF c tm ty dl ts)) := x11
    refine s_forR1 (n := c.cycle) (ea_cons (ev_var rfl) ea_nil) ⟨by omega, by omega⟩ (fun i σ' G => ExB x H G ∧ G x = some (.ins C dx (calF c tm ty dl ts)) ∧ SqT K G tm (c.months.map V.int) ∧ SqT K G ty (c.ly.map V.int) ∧ G dl = some (.dK kvs) ∧ G ts = some (.lst ((List.range (i + 1)).map fun j => V.int (c.startN j))) ∧
      ∃ l7, σ' = [some (.ref x), some (.ref pm), some (.int c.lm), some (.int c.cycle), some (.ref py), some (.int c.week), some (.int c.fw), l7]) (fun G12 e12 => ⟨B11.ex e12, e12 _ _ x11, ex_t e12 (sqT_b b11 x10 t10), ex_t e12 (sqT_b b11 x10 u10), e12 _ _ (b11 _ _ dne d10), e12 _ _ s11, _, rfl⟩) (fun i σ' G hi hP => ?_) (fun σ' G hP => ?_)
    · obtain ⟨g1, g2, g3, g4, g5, g6, l7, rfl⟩ := hP
      have hw : CalB false K C G x c := ⟨dx, tm, ty, dl, ts, kvs, _, g2, g3, g4, g5, dk, SqL.of g6, fun z => nomatch z⟩
      have hlen : ((List.range (i + 1)).map fun j => V.int (c.startN j)).length = i + 1 := by rw [List.length_map, List.length_range]
      refine s_app (l := ts) (v := .int (c.startN (i + 1))) g6 (ev_fld (ev_var rfl) g2 T.cls T.starts rfl) (ev_op (x := .int (c.startN i)) (y := .int (c.yearDays (i : Int))) (ev_op (ev_fld (ev_var rfl) g2 T.cls T.starts rfl) (ev_var rfl) (rv_ixL (SqL.of g6) (atI_nat (by rw [List.getElem?_map, List.getElem?_range (by omega)]; rfl))))
        (ev_M (ev_var rfl) (ea_cons (ev_var rfl) ea_nil) hw hs (fun _ _ _ _ => rfl) rfl) rv_I0) (by rw [hlen]; omega) fun H1 e1 => ?_
      refine ⟨fun b o hb e => ?_, ?_, sqT_u (ex_t e1 g3) (e1 _ _ g6), sqT_u (ex_t e1 g4) (e1 _ _ g6), ?_, ?_, _, rfl⟩
      · rw [upd_ne (old b o hb e)]
        exact e1 _ _ (g1 b o hb e)
      · rw [upd_ne tne]
        exact e1 _ _ g2
      · rw [upd_ne (fun z => by rw [z, g6] at g5; cases g5)]
        exact e1 _ _ g5
      · rw [upd_same, List.range_succ (n := i + 1), List.map_append]
        rfl
    · obtain ⟨g1, g2, g3, g4, g5, g6, l7, rfl⟩ := hP
      exact q G ⟨dx, tm, ty, dl, ts, kvs, _, g2, g3, g4, g5, dk, SqL.of g6, fun _ => rfl, old, g6⟩ g1
end
end Rw
namespace Rw
open PySem PySem.Spec PyProof.Rows L2 Evl Cy
local macro_rules | `(tactic| walk_at "sq") => `(tactic| first | assumption | exact SqL.of (by assumption) | exact SqT.of (by assumption))
local macro_rules | `(tactic| walk_at "at") => `(tactic| first | exact atI_nat (j := 0) rfl | exact atI_nat (j := 1) rfl | exact atI_nat (j := 2) rfl | exact atI_nat (j := 3) rfl)
local macro_rules | `(tactic| walk_at "rv") => `(tactic| first
  | with_reducible exact rv_I0
  | ((with_reducible refine' rv_I ?k1); (case k1 => first | (show (0 : Int) < _; omega) | exact ⟨by omega, by omega⟩ | exact .inr ⟨by omega, by omega⟩ | exact .inl ⟨by omega, by omega⟩ | exact ⟨by decide, by decide, by decide⟩))
  | ((with_reducible refine' rv_eq ?k1); (case k1 => exact rfl))
  | ((with_reducible refine' rv_ne ?k1); (case k1 => exact rfl))
  | (refine' rv_ixL ?k1 ?k2; (case k1 => walk_at "sq"); (case k2 => walk_at "at"))
  | (refine' rv_ixT ?k1 ?k2; (case k1 => walk_at "sq"); (case k2 => walk_at "at")))
local macro_rules | `(tactic| walk_at "rc") => `(tactic| first | exact rc_int1 | exact rc_int1b | exact rc_abs)
local macro_rules | `(tactic| walk_at "ea") => `(tactic| first
  | with_reducible exact ea_nil
  | ((with_reducible refine' ea_cons ?k1 ?k2); (case k1 => walk_at "ev"); (case k2 => walk_at "ea")))
local macro_rules | `(tactic| walk_at "ev") => `(tactic| first
  | with_reducible exact ev_c
  | ((with_reducible refine' ev_var ?k1); (case k1 => exact rfl))
  | ((with_reducible refine' ev_op ?k1 ?k2 ?k3); (case k1 => walk_at "ev"); (case k2 => walk_at "ev"); (case k3 => walk_at "rv"))
  | ((with_reducible refine' et_chain ?k1 ?k2 ?k3 ?k4 ?k5); (case k1 => walk_at "ev"); (case k2 => walk_at "ev"); (case k3 => (intro _; walk_at "ev")); (case k4 => walk_at "rv"); (case k5 => (intro _; walk_at "rv")))
  | ((with_reducible refine' ev_cb ?k1 ?k2); (case k1 => walk_at "ea"); (case k2 => walk_at "rc")))
local macro_rules | `(tactic| walk_at "et") => `(tactic| first
  | ((with_reducible refine' et_test ?k1); (case k1 => walk_at "ev"))
  | ((with_reducible refine' et_B ?k1); (case k1 => walk_at "ev"))
  | ((with_reducible refine' et_and ?k1 ?k2); (case k1 => walk_at "et"); (case k2 => (intro _; walk_at "et")))
  | ((with_reducible refine' et_or ?k1 ?k2); (case k1 => walk_at "et"); (case k2 => (intro _; walk_at "et")))
  | ((with_reducible refine' et_not ?k1); (case k1 => walk_at "et")))
local macro_rules | `(tactic| walk_at "ff") => `(tactic| first | exact rfl | assumption)
local macro_rules | `(tactic| walk_at "ev") => `(tactic| first
  | with_reducible exact ev_c
  | ((with_reducible refine' ev_var ?k1); (case k1 => exact rfl))
  | ((with_reducible refine' ev_op ?k1 ?k2 ?k3); (case k1 => walk_at "ev"); (case k2 => walk_at "ev"); (case k3 => walk_at "rv"))
  | ((with_reducible refine' et_chain ?k1 ?k2 ?k3 ?k4 ?k5); (case k1 => walk_at "ev"); (case k2 => walk_at "ev"); (case k3 => (intro _; walk_at "ev")); (case k4 => walk_at "rv"); (case k5 => (intro _; walk_at "rv")))
  | ((with_reducible refine' ev_cb ?k1 ?k2); (case k1 => walk_at "ea"); (case k2 => walk_at "rc"))
  | ((with_reducible refine' ev_F ?k1 ?k2); (case k1 => walk_at "ea"); (case k2 => walk_at "ff"))
  | ((with_reducible refine' ev_two ?k1 ?k2 ?k3); (case k1 => walk_at "ev"); (case k2 => omega); (case k3 => omega)))
abbrev s_cal : Stmt := topS 38
def calN : List Str := ["dice", "months", "cycle", "week", "years", "k"]
theorem sc_cal : FnScope calN ["dice"] (defScope s_cal) := ⟨rfl, rfl, rfl, by decide +kernel, rfl, by decide +kernel, by decide +kernel⟩
section
variable {P : Program} {w : World} {K : PySem.W.Frag} {mg : Str → Option Value} {base : Heap} {C : Addr} {cl : Nat → Addr}
def spLawCal (K : PySem.W.Frag) (C : Addr) : Sp := fun vs H Q _ => ∃ (d : Addr) (a b c : Int), vs = [.ref d] ∧ H d = some (.lst [.int a, .int b, .int c]) ∧
  ∀ (x : Addr) (c : Ca) H', c.Ok → Tiny c → CalN K C H H' x c → H x = none → Rel d H H' → Q (.ref x) H'
theorem sp_roll (d : Addr) (m : Int) (h0 : 0 < m) (h1 : m < 1000000) : ∀ (H : Hp) (Q : VK) (a b c : Int), H d = some (.lst [.int a, .int b, .int c]) → (∀ (v a' b' c' : Int) H', 0 ≤ v → v < m → ExB d H H' → H' d = some (.lst [.int a', .int b', .int c']) → Q (.int v) H') → spRoll [.ref d, .int m] H Q E0 :=
  fun H Q a b c h k => ⟨d, a, b, c, m, rfl, h, h0, h1, fun v a' b' c' H' v0 v1 eB hd => k v a' b' c' H' v0 v1 eB hd⟩
theorem rd_r {d : Addr} {H H1 : Hp} {σ : L2.St} {i : Nat} {m : Int} {Q : VK} {tm : TE} (r : Rel d H H1) (hσ : σ[i]? = some (some (.ref d))) (hm : Ev tm σ H1 (.int m)) (h0 : 0 < m) (h1 : m < 1000000) (cont : ∀ v H2, 0 ≤ v → v < m → Rel d H H2 → Rel d H1 H2 → Q (.int v) H2) :
    tCall spRoll [] E0 (tCons (tVar i) (tCons tm tNil)) σ H1 Q := rd_rollR r hσ hm h0 h1 cont spRoll (sp_roll d m h0 h1)
theorem ok_cal {f : Addr} {fd : FuncData} (F : Fun K "_law_calendar" "_law_calendar" s_cal f fd) (cR : Cal P w K mg base 1 "_law_roll" spRoll []) (cN : Nw P w K mg base 3 "Calendar" C (spNew K C) []) (nl : mg "len" = none) (nr : mg "range" = none) :
    FnOk P w K mg base (L2.CX P w) 5 f fd ["dice"] (spLawCal K C) := by
  refine F.okX sc_cal (fun vs H Q E h => ?_) (fun cdv A outer s H vs Q E hr h => ?_)
  · obtain ⟨d, a, b, c, rfl, _⟩ := h
    rfl
  · obtain ⟨d, a, b, c, rfl, hd, q⟩ := h
    refine ⟨_, pss_cons (ps_setLc (own := [("k", 5)]) (i := 1) (g := gName 5) (tt := tYes) rfl sc_cal.nd rfl rfl (sw_true rfl rfl rfl (by decide +kernel)) (pi_range1 rfl nr (pa_cons (pe_op op_add pe_int (pe_k cR hr (by decide) passL (pa_cons (pv 0) (pa_cons pe_int pa_nil)))) pa_nil)) (blkOk_by (own := [("k", 5)]) (N := calN) (sc := defScope s_cal) (by decide +kernel)) (fun _ _ _ _ _ => pg_name (i := 5) sc_cal.nd rfl (Or.inl rfl)) (fun _ _ _ _ _ => pts_nil) (fun _ _ _ _ _ => (pe_op op_add pe_int (pe_k cR hr (by decide) passL (pa_cons (pv 0) (pa_cons pe_int pa_nil)))))) (pss_cons (ps_par (i := 2) (j := 3) rfl sc_cal.nd rfl rfl (by decide) rfl rfl (pa_cons (pe_op op_add pe_int (pe_k cR hr (by decide) passL (pa_cons (pv 0) (pa_cons pe_int pa_nil)))) (pa_cons (pe_op op_add pe_int (pe_k cR hr (by decide) passL (pa_cons (pv 0) (pa_cons pe_int pa_nil)))) pa_nil)) rfl) (pss_cons (ps_setLc (own := [("k", 5)]) (i := 4) (g := gName 5) (tt := _) rfl sc_cal.nd rfl rfl (sw_true rfl rfl rfl (by decide +kernel)) (pi_range1 rfl nr (pa_cons (pv 2) pa_nil)) (blkOk_by (own := [("k", 5)]) (N := calN) (sc := defScope s_cal) (by decide +kernel)) (fun _ _ _ _ _ => pg_name (i := 5) sc_cal.nd rfl (Or.inl rfl)) (fun _ _ _ _ _ => pts_one (pt_cmpR op_eq (pe_k cR hr (by decide) passL (pa_cons (pv 0) (pa_cons pe_int pa_nil))) pe_int (nomark _))) (fun _ _ _ _ _ => (pv 5))) (pss_one (ps_ret (pe_nw cN hr (by decide) passL (pa_cons (pv 1) (pa_cons (pe_k cR hr (by decide) passL (pa_cons (pv 0) (pa_cons (pe_callB call_len_seq (by rfl) nl (by decide +kernel) (pa_cons (pv 1) pa_nil)) pa_nil))) (pa_cons (pv 2) (pa_cons (pv 4) (pa_cons (pv 3) (pa_cons (pe_k cR hr (by decide) passL (pa_cons (pv 0) (pa_cons (pv 3) pa_nil))) pa_nil))))))))))), ?_⟩
    have r0 : Rel d H H := ⟨fun _ _ _ h => h, _, _, _, hd⟩
    -- months
    refine rd_r r0 rfl ev_c (by decide) (by decide) fun n0 H1 a0 a1 r1 _ => ⟨1, n0, rfl, rfl, 1 + n0, rfl, by omega, by omega, fun L1 hL1 => ?_⟩
    have L1H := r1.back hL1
    have L1d := r1.ne hL1
    refine lc_range (lo := 0) (n := (1 + n0).toNat) (fun i H' => Rel d H H' ∧ ∃ ms : List Int, ms.length = i ∧ (∀ m ∈ ms, 2 ≤ m ∧ m ≤ 5) ∧ H' L1 = some (.lst (ms.map V.int))) ⟨r1.mut L1H L1d, [], rfl, fun m hm => (by cases hm), upd_same⟩ (fun i H' hi hP => ?_) (fun H2 hP => ?_)
    · obtain ⟨r2, ms, m1, m2, m3⟩ := hP
      refine ⟨rfl, ?_⟩
      simp only [tYes, ↓reduceIte]
      refine rd_r r2 rfl ev_c (by decide) (by decide) fun v H3 v0 v1 r3 r3' => ⟨2, v, rfl, rfl, ms.map V.int, r3'.1 _ _ L1d m3, ?_, r3.mut L1H L1d, ms ++ [2 + v], ?_, ?_, ?_⟩
      · rw [List.length_map, m1]
        exact sz_lt (by omega)
      · rw [List.length_append, m1]
        rfl
      · intro m hm
        rcases List.mem_append.mp hm with hm | hm
        · exact m2 m hm
        · rw [List.mem_singleton.mp hm]
          omega
      · rw [upd_same, List.map_append]
        rfl
    obtain ⟨r2, ms, m1, m2, m3⟩ := hP
    -- cycle, week
    refine rd_r r2 rfl ev_c (by decide) (by decide) fun n1 H3 b0 b1 r3 s3 => ⟨1, n1, rfl, rfl, rd_r r3 rfl ev_c (by decide) (by decide) fun n2 H4 c0 c1 r4 s4 => ⟨1, n2, rfl, rfl, _, _, rfl, ?_⟩⟩
    have m4 := s4.1 _ _ L1d (s3.1 _ _ L1d m3)
    -- years
    refine ⟨_, rfl, 1 + n1, rfl, by omega, by omega, fun L2 hL2 => ?_⟩
    have L2H := r4.back hL2
    have L2d := r4.ne hL2
    have L12 : L1 ≠ L2 := fun z => by rw [z, hL2] at m4; cases m4
    refine lc_range (lo := 0) (n := (1 + n1).toNat) (fun i H' => Rel d H H' ∧ H' L1 = some (.lst (ms.map V.int)) ∧ ∃ ys : List Int, ys.length ≤ i ∧ (∀ y ∈ ys, 0 ≤ y ∧ y < (i : Int)) ∧ ys.Pairwise (· < ·) ∧ H' L2 = some (.lst (ys.map V.int))) ⟨r4.mut L2H L2d, (by rw [upd_ne L12]; exact m4), [], Nat.le_refl _, fun y hy => (by cases hy), List.Pairwise.nil, upd_same⟩ (fun i H' hi hP => ?_) (fun H5 hP => ?_)
    · obtain ⟨r5, m5, ys, y1, y2, y3, y4⟩ := hP
      refine ⟨rfl, ?_⟩
      refine rd_r r5 rfl ev_c (by decide) (by decide) fun v H6 v0 v1 r6 s6 => ⟨rfl, decide (V.int v = V.int 0), rfl, ?_⟩
      have m6 := s6.1 _ _ L1d m5
      have y6 := s6.1 _ _ L2d y4
      cases hv : decide (V.int v = V.int 0) with
      | true =>
        simp only [↓reduceIte]
        refine ⟨_, rfl, ys.map V.int, y6, sz_lt (by rw [List.length_map]; omega), r6.mut L2H L2d, (by rw [upd_ne L12]; exact m6), ys ++ [(0 : Int) + (i : Int)], ?_, ?_, ?_, ?_⟩
        · rw [List.length_append]
          show _ + 1 ≤ _
          omega
        · intro y hy
          rcases List.mem_append.mp hy with hy | hy
          · have := y2 y hy
            omega
          · rw [List.mem_singleton.mp hy]
            omega
        · rw [List.pairwise_append]
          refine ⟨y3, List.pairwise_singleton _ _, fun a ha b hb => ?_⟩
          rw [List.mem_singleton.mp hb]
          have := y2 a ha
          omega
        · rw [upd_same, List.map_append]
          rfl
      | false =>
        simp only [Bool.false_eq_true, ↓reduceIte]
        exact ⟨r6, m6, ys, by omega, fun y hy => by have := y2 y hy; omega, y3, y6⟩
    obtain ⟨r5, m5, ys, y1, y2, y3, y4⟩ := hP
    have hl : (ms.map V.int).length = (1 + n0).toNat := by rw [List.length_map, m1]
    refine ⟨_, rfl, rd_r r5 rfl (ev_lenL (ev_var rfl) (SqL.of m5)) (by rw [hl]; omega) (by rw [hl]; omega) fun lm H6 l0 l1 r6 s6 => ⟨_, rfl, _, rfl, _, rfl, rd_r r6 rfl (m := 1 + n2) (ev_var rfl) (by omega) (by omega) fun fw H7 f0 f1 r7 s7 => ?_⟩⟩
    intro x dx nx nd ne
    have m7 := s7.1 _ _ L1d (s6.1 _ _ L1d m5)
    have y7 := s7.1 _ _ L2d (s6.1 _ _ L2d y4)
    have hx := r7.back nx
    have hdx := r7.back nd
    have xd := r7.ne nx
    have rm : Rel d H (upd (upd H7 dx (.own x)) x (.ins C dx [])) := (r7.mut hdx (r7.ne nd)).mut hx xd
    have stay : ∀ (b : Addr) (l : List V), H7 b = some (.lst l) → upd (upd H7 dx (.own x)) x (.ins C dx []) b = some (.lst l) := fun b l e => by
      rw [upd_ne (fun z => by rw [z, nx] at e; cases e), upd_ne (fun z => by rw [z, nd] at e; cases e)]
      exact e
    rw [hl] at l1
    have ok : (⟨ms, lm, 1 + n1, ys, 1 + n2, fw⟩ : Ca).Ok := ⟨fun z => by
        have z : ms = [] := z
        rw [z] at m1
        simp at m1
        omega, fun m hm => by have := m2 m hm; omega, l0, by
        show lm < (ms.length : Int)
        rw [m1]
        omega, by show (1 : Int) ≤ 1 + n1; omega, fun y hy => by
        have := y2 y hy
        show 0 ≤ y ∧ y < 1 + n1
        omega, by show (1 : Int) ≤ 1 + n2; omega, f0, f1⟩
    have ty : Tiny ⟨ms, lm, 1 + n1, ys, 1 + n2, fw⟩ := ⟨by show ms.length ≤ 3; omega, m2, by show 1 + n1 ≤ 3; omega, by show 1 + n2 ≤ 4; omega, y3⟩
    refine ⟨x, dx, L1, L2, ⟨ms, lm, 1 + n1, ys, 1 + n2, fw⟩, rfl, upd_same, .inl (SqL.of (stay _ _ m7)), .inl (SqL.of (stay _ _ y7)), ?_, ty.small ok, fun H' hC eB => ⟨rfl, ?_⟩⟩
    · show ys.length < 40000
      omega
    · refine q x _ H' ok ty ?_ hx ⟨fun b o hb e => eB b o (fun z => by rw [z, hx] at e; cases e) (rm.1 b o hb e), ?_⟩
      · obtain ⟨dx2, tm, ty2, dl, ts, kvs, st, h1, h2, h3, h4, h5, h6, h7, h8, h9⟩ := hC
        refine ⟨dx2, tm, ty2, dl, ts, kvs, st, h1, h2, h3, h4, h5, h6, h7, fun b o hb e => ?_, h9⟩
        by_cases bd : b = d
        · obtain ⟨a', b', c', g⟩ := rm.2
          exact h8 b _ hb (by rw [bd]; exact g)
        · exact h8 b o hb (rm.1 b o bd e)
      · obtain ⟨a', b', c', g⟩ := rm.2
        exact ⟨a', b', c', eB _ _ (Ne.symm xd) g⟩
end
end Rw
namespace Rw
open PySem PySem.Spec PyProof.Rows L2 Evl Cy
local macro_rules | `(tactic| walk_at "sq") => `(tactic| first | assumption | exact SqL.of (by assumption) | exact SqT.of (by assumption))
local macro_rules | `(tactic| walk_at "at") => `(tactic| first | exact atI_nat (j := 0) rfl | exact atI_nat (j := 1) rfl | exact atI_nat (j := 2) rfl | exact atI_nat (j := 3) rfl)
local macro_rules | `(tactic| walk_at "rv") => `(tactic| first
  | with_reducible exact rv_I0
  | ((with_reducible refine' rv_I ?k1); (case k1 => first | (show (0 : Int) < _; omega) | exact ⟨by omega, by omega⟩ | exact .inr ⟨by omega, by omega⟩ | exact .inl ⟨by omega, by omega⟩ | exact ⟨by decide, by decide, by decide⟩))
  | ((with_reducible refine' rv_eq ?k1); (case k1 => exact rfl))
  | ((with_reducible refine' rv_ne ?k1); (case k1 => exact rfl))
  | (refine' rv_ixL ?k1 ?k2; (case k1 => walk_at "sq"); (case k2 => walk_at "at"))
  | (refine' rv_ixT ?k1 ?k2; (case k1 => walk_at "sq"); (case k2 => walk_at "at")))
local macro_rules | `(tactic| walk_at "rc") => `(tactic| first | exact rc_int1 | exact rc_int1b | exact rc_abs)
local macro_rules | `(tactic| walk_at "ea") => `(tactic| first
  | with_reducible exact ea_nil
  | ((with_reducible refine' ea_cons ?k1 ?k2); (case k1 => walk_at "ev"); (case k2 => walk_at "ea")))
local macro_rules | `(tactic| walk_at "ev") => `(tactic| first
  | with_reducible exact ev_c
  | ((with_reducible refine' ev_var ?k1); (case k1 => exact rfl))
  | ((with_reducible refine' ev_op ?k1 ?k2 ?k3); (case k1 => walk_at "ev"); (case k2 => walk_at "ev"); (case k3 => walk_at "rv"))
  | ((with_reducible refine' et_chain ?k1 ?k2 ?k3 ?k4 ?k5); (case k1 => walk_at "ev"); (case k2 => walk_at "ev"); (case k3 => (intro _; walk_at "ev")); (case k4 => walk_at "rv"); (case k5 => (intro _; walk_at "rv")))
  | ((with_reducible refine' ev_cb ?k1 ?k2); (case k1 => walk_at "ea"); (case k2 => walk_at "rc")))
local macro_rules | `(tactic| walk_at "et") => `(tactic| first
  | ((with_reducible refine' et_test ?k1); (case k1 => walk_at "ev"))
  | ((with_reducible refine' et_B ?k1); (case k1 => walk_at "ev"))
  | ((with_reducible refine' et_and ?k1 ?k2); (case k1 => walk_at "et"); (case k2 => (intro _; walk_at "et")))
  | ((with_reducible refine' et_or ?k1 ?k2); (case k1 => walk_at "et"); (case k2 => (intro _; walk_at "et")))
  | ((with_reducible refine' et_not ?k1); (case k1 => walk_at "et")))
local macro_rules | `(tactic| walk_at "ff") => `(tactic| first | exact rfl | assumption)
local macro_rules | `(tactic| walk_at "ev") => `(tactic| first
  | with_reducible exact ev_c
  | ((with_reducible refine' ev_var ?k1); (case k1 => exact rfl))
  | ((with_reducible refine' ev_op ?k1 ?k2 ?k3); (case k1 => walk_at "ev"); (case k2 => walk_at "ev"); (case k3 => walk_at "rv"))
  | ((with_reducible refine' et_chain ?k1 ?k2 ?k3 ?k4 ?k5); (case k1 => walk_at "ev"); (case k2 => walk_at "ev"); (case k3 => (intro _; walk_at "ev")); (case k4 => walk_at "rv"); (case k5 => (intro _; walk_at "rv")))
  | ((with_reducible refine' ev_cb ?k1 ?k2); (case k1 => walk_at "ea"); (case k2 => walk_at "rc"))
  | ((with_reducible refine' ev_F ?k1 ?k2); (case k1 => walk_at "ea"); (case k2 => walk_at "ff"))
  | ((with_reducible refine' ev_two ?k1 ?k2 ?k3); (case k1 => walk_at "ev"); (case k2 => omega); (case k3 => omega)))
abbrev s_rows : Stmt := topS 39
def rowN : List Str := ["calendar", "first", "last", "found", "number", "year", "sizes", "whole_now", "place", "month", "day", "weekday", "k", "size"]
theorem sc_rows : FnScope rowN ["calendar", "first", "last"] (defScope s_rows) := ⟨rfl, rfl, rfl, by decide +kernel, rfl, by decide +kernel, by decide +kernel⟩
/-- what the law tells of the day n, the d-th of the month m of the year y -/
def rowV (c : Ca) (n y : Int) (m : Nat) (d : Int) : List V := [.int n, .int y, .int (m : Int), .int d, .int (c.md y m - 1 - d), .int (n - c.firstOf y), .int (c.yearDays y - 1 - (n - c.firstOf y)), .int (c.weekday n)]
/-- the rows at ts are those of the days from n on -/
def RowsAt (c : Ca) (H : Hp) (n : Int) (ts : List Addr) : Prop := ∀ (i : Nat) (t : Addr), ts[i]? = some t → ∃ y m d, c.At (n + i) y m d ∧ H t = some (.tup (rowV c (n + i) y m d))
theorem RowsAt.ex {c : Ca} {H H' : Hp} {n : Int} {ts : List Addr} (r : RowsAt c H n ts) (e : Ex H H') : RowsAt c H' n ts := fun i t h => let ⟨y, m, d, a, b⟩ := r i t h; ⟨y, m, d, a, e _ _ b⟩
theorem RowsAt.mut {c : Ca} {H : Hp} {n : Int} {ts : List Addr} {p : Addr} {l : List V} {o : HO} (r : RowsAt c H n ts) (hp : H p = some (.lst l)) : RowsAt c (upd H p o) n ts := fun i t h => by
  obtain ⟨y, m, d, a, b⟩ := r i t h
  exact ⟨y, m, d, a, by rw [upd_ne (fun z => by rw [z, hp] at b; cases b)]; exact b⟩
theorem RowsAt.app {c : Ca} {H : Hp} {n y d : Int} {m : Nat} {ts : List Addr} {t : Addr} (r : RowsAt c H n ts) (a : c.At (n + ts.length) y m d) (h : H t = some (.tup (rowV c (n + ts.length) y m d))) : RowsAt c H n (ts ++ [t]) := fun i u e => by
  rcases Nat.lt_or_ge i ts.length with q | q
  · rw [List.getElem?_append_left q] at e
    exact r i u e
  · rw [List.getElem?_append_right q] at e
    have z : i - ts.length = 0 := by
      rcases Nat.eq_zero_or_pos (i - ts.length) with y | y
      · exact y
      · rw [List.getElem?_eq_none (by show 1 ≤ _; exact y)] at e
        cases e
    have ei : i = ts.length := by omega
    subst ei
    rw [Nat.sub_self] at e
    obtain rfl : t = u := Option.some.inj e
    exact ⟨y, m, d, a, h⟩
theorem q_par {σ : L2.St} {H : Hp} {ta : TA} {i j : Nat} {x y : V} {D : Ends} {tz : TS} (h : EvA ta σ H [x, y]) (k : ∀ H1, Ex H H1 → tz D ((σ.set i (some x)).set j (some y)) H1) : tSeq (tPar i j ta) tz D σ H := h H (Ex.refl H) _ fun H1 e => ⟨x, y, rfl, k H1 e⟩
theorem s_par {σ : L2.St} {H : Hp} {ta : TA} {i j : Nat} {x y : V} {D : Ends} (h : EvA ta σ H [x, y]) (k : ∀ H1, Ex H H1 → D.nx ((σ.set i (some x)).set j (some y)) H1) : tPar i j ta D σ H := h H (Ex.refl H) _ fun H1 e => ⟨x, y, rfl, k H1 e⟩
theorem sizes_getD (c : Ca) (y : Int) {m : Nat} (h : m < c.months.length) : ((List.range c.months.length).map fun m => c.md y m).getD m 0 = c.md y m := by
  rw [List.getD_eq_getElem?_getD, List.getElem?_map, List.getElem?_range h]
  rfl
theorem sizes_sum (c : Ca) (y : Int) : ∀ n : Nat, ((List.range n).map fun m => c.md y m).sum = c.ahead y n
  | 0 => rfl
  | n + 1 => by
    rw [List.range_succ, List.map_append, List.sum_append, sizes_sum c y n]
    show _ = c.ahead y n + c.md y n
    simp
theorem first_le2 {c : Ca} (k : c.Ok) {y z : Int} (h : y ≤ z) : c.firstOf y ≤ c.firstOf z := by
  rcases Int.lt_or_eq_of_le h with e | e
  · exact Int.le_of_lt (Ca.first_lt k e)
  · rw [e]; exact Int.le_refl _
section
variable {P : Program} {w : World} {K : PySem.W.Frag} {mg : Str → Option Value} {base : Heap} {C : Addr} {cl : Nat → Addr}
def spRows (K : PySem.W.Frag) (C : Addr) : Sp := fun vs H Q _ => ∃ (a : Addr) (c : Ca) (f l : Nat), vs = [.ref a, .int (f : Int), .int (l : Int)] ∧ CalP K C H a c ∧ Small c ∧ f ≤ l ∧ l ≤ 1000 ∧ c.firstOf l < 50000 ∧
  ∀ p ts H', H p = none → Ex H H' → H' p = some (.lst (ts.map V.ref)) → (ts.length : Int) = c.firstOf l - c.firstOf f → RowsAt c H' (c.firstOf f) ts → Q (.ref p) H'
theorem ok_rows {f : Addr} {fd : FuncData} (F : Fun K "_law_rows" "_law_rows" s_rows f fd) (T : CalT K C) (nl : mg "len" = none) (nr : mg "range" = none) (ni : mg "int" = none) (ns : mg "sum" = none) (ne : mg "enumerate" = none) :
    FnOk P w K mg base (L2.CX P w) 5 f fd ["calendar", "first", "last"] (spRows K C) := by
  refine F.okX sc_rows (fun vs H Q E h => ?_) (fun cdv A outer s H vs Q E hr h => ?_)
  · obtain ⟨a, c, f, l, rfl, _⟩ := h
    rfl
  · obtain ⟨a, c, fi, la, rfl, hc, hs, hfl, hl, hn, q⟩ := h
    refine ⟨_, pss_cons (ps_par (i := 3) (j := 4) rfl sc_rows.nd rfl rfl (by decide) rfl rfl (pa_cons (pe_lst pa_nil) (pa_cons pe_int pa_nil)) rfl) (pss_cons (ps_for (passes_of rfl) rfl (pi_range2 rfl nr (pa_cons pe_int (pa_cons (pv 1) pa_nil))) (pg_name (i := 5) sc_rows.nd rfl (.inr rfl)) (pss_one (ps_set (i := 4) sc_rows.nd rfl (.inl rfl) (pe_op op_add (pe_op op_add (pv 4) (pe_callB (cr_sumT rfl) (by rfl) ns (by decide +kernel) (pa_cons (pe_fld (pv 0) rfl) pa_nil))) (pe_callTy call_int1 (by rfl) ni (by decide +kernel) (pa_cons (pe_cmpR op_in_seq (pe_op op_mod (pv 5) (pe_fld (pv 0) rfl)) (pe_fld (pv 0) rfl) (by rfl)) pa_nil)))))) (pss_cons (ps_for (passes_of rfl) rfl (pi_range2 rfl nr (pa_cons (pv 1) (pa_cons (pv 2) pa_nil))) (pg_name (i := 5) sc_rows.nd rfl (.inr rfl)) (pss_cons (ps_setLc (own := [("k", 12), ("size", 13)]) (i := 6) (g := gTup K 2 (gCons (gName 12) (gCons (gName 13) gNil))) (tt := tYes) rfl sc_rows.nd rfl rfl (sw_true rfl rfl rfl (by decide +kernel)) (pi_enumT ne (pa_cons (pe_fld (pv 0) rfl) pa_nil)) (blkOk_by (own := [("k", 12), ("size", 13)]) (N := rowN) (sc := defScope s_rows) (by decide +kernel)) (fun _ _ _ _ _ => pg_tup rfl (pgs_cons (pg_name (i := 12) sc_rows.nd rfl (Or.inl rfl)) (pgs_cons (pg_name (i := 13) sc_rows.nd rfl (Or.inl rfl)) pgs_nil))) (fun _ _ _ _ _ => pts_nil) (fun _ _ _ _ _ => (pe_op op_add (pv 13) (pe_callTy call_int1 (by rfl) ni (by decide +kernel) (pa_cons (pe_and (pe_cmpR op_eq (pv 12) (pe_fldK (K := K) (pv 0) rfl) (nomark _)) (pe_one (pe_cmpR (op_inK (K := K)) (pe_op op_mod (pv 5) (pe_fldK (K := K) (pv 0) rfl)) (pe_fldK (K := K) (pv 0) rfl) (by rfl)))) pa_nil))))) (pss_cons (ps_par (i := 7) (j := 8) rfl sc_rows.nd rfl rfl (by decide) rfl rfl (pa_cons (pe_callB (cr_sum rfl) (by rfl) ns (by decide +kernel) (pa_cons (pv 6) pa_nil)) (pa_cons pe_int pa_nil)) rfl) (pss_one (ps_for (passes_of rfl) rfl (pi_range1 rfl nr (pa_cons (pe_callB call_len_seq (by rfl) nl (by decide +kernel) (pa_cons (pv 6) pa_nil)) pa_nil)) (pg_name (i := 9) sc_rows.nd rfl (.inl rfl)) (pss_one (ps_for (passes_of rfl) rfl (pi_range1 rfl nr (pa_cons (pe_ix ix_list (pv 6) (pv 9) (fun _ _ => rfl)) pa_nil)) (pg_name (i := 10) sc_rows.nd rfl (.inl rfl)) (pss_cons (ps_set (i := 11) sc_rows.nd rfl (.inl rfl) (pe_op op_mod (pe_op op_add (pv 4) (pe_fld (pv 0) rfl)) (pe_fld (pv 0) rfl))) (pss_cons (ps_expr (pe_bm PySem.F.plainAttrs_list PySem.F.slot_list_append PySem.F.type_list_append mt_append (pv 3) (pa_cons (pe_tup (pa_cons (pv 4) (pa_cons (pv 5) (pa_cons (pv 9) (pa_cons (pv 10) (pa_cons (pe_op op_sub (pe_op op_sub (pe_ix ix_list (pv 6) (pv 9) (fun _ _ => rfl)) pe_int) (pv 10)) (pa_cons (pv 8) (pa_cons (pe_op op_sub (pe_op op_sub (pv 7) pe_int) (pv 8)) (pa_cons (pv 11) pa_nil))))))))) pa_nil))) (pss_one (ps_par (i := 4) (j := 8) rfl sc_rows.nd rfl rfl (by decide) rfl rfl (pa_cons (pe_op op_add (pv 4) pe_int) (pa_cons (pe_op op_add (pv 8) pe_int) pa_nil)) rfl))))))))))) (pss_one (ps_ret (pv 3))))), ?_⟩
    have k := hs.ok
    obtain ⟨dx, tm, ty, dl, ts0, kvs, st, h1, h2, h3, h4, h5, h6, h7⟩ := hc
    have hcy := k.cy
    have hlen := hs.len
    have F0 : c.firstOf 0 = 0 := Ca.first_zero k
    refine ⟨by decide, fun p hp => ⟨_, _, rfl, ?_⟩⟩
    have eP : Ex H (upd H p (.lst [])) := Ex.new hp
    have hP0 : upd H p (.lst []) p = some (.lst []) := upd_same
    generalize upd H p (.lst []) = G0 at eP hP0
    -- days of the years ahead
    refine q_forR2 (lo := 0) (n := (fi : Int)) (ea_cons ev_c (ea_cons (ev_var rfl) ea_nil)) ⟨by decide, by decide, by omega, by omega⟩
      (fun i σ' H' => ∃ l5, σ' = [some (.ref a), some (.int (fi : Int)), some (.int (la : Int)), some (.ref p), some (.int (c.firstOf (i : Int))), l5, none, none, none, none, none, none, none, none] ∧ Ex H H' ∧ H' p = some (.lst []))
      (fun H1 e1 => ⟨none, by rw [show ((0 : Nat) : Int) = 0 from rfl, F0]; rfl, eP.trans e1, e1 _ _ hP0⟩) (fun i σ' H' hi hW => ?_) (fun σ' H' hW => ?_)
    · obtain ⟨l5, rfl, eH, hp'⟩ := hW
      refine s_asg (v := .int (c.firstOf ((i + 1 : Nat) : Int))) (ev_is (ev_op (x := .int (c.firstOf (i : Int) + c.plain)) (y := .int (if inV (.int (((0 : Int) + (i : Int)) % c.cycle)) (c.ly.map V.int) = true then 1 else 0)) (ev_op (ev_var rfl) (ev_sumT (ev_fld (ev_var rfl) (eH _ _ h1) T.cls T.months rfl) (ex_t eH h2)) rv_I0)
        (ev_cb (ea_cons (ev_op (ev_op (z := .int (((0 : Int) + (i : Int)) % c.cycle)) (ev_var rfl) (ev_fld (ev_var rfl) (eH _ _ h1) T.cls T.cycle rfl) (rv_I (by show (0 : Int) < _; omega))) (ev_fld (ev_var rfl) (eH _ _ h1) T.cls T.ly rfl) (rv_isT (ex_t eH h3) rfl (flat_ints _))) ea_nil) rc_int1b) rv_I0) ?_) fun H1 e1 => ?_
      · have s := Ca.first_succ k (i : Int)
        rw [inV_ints, show ((i + 1 : Nat) : Int) = (i : Int) + 1 by omega, s, Int.zero_add]
        unfold Ca.yearDays Ca.long
        refine congrArg V.int ?_
        by_cases z : (i : Int) % c.cycle ∈ c.ly
        · rw [decide_eq_true z, if_pos rfl, if_pos rfl]
          omega
        · rw [decide_eq_false z, if_neg Bool.false_ne_true, if_neg Bool.false_ne_true]
          omega
      · exact ⟨_, rfl, eH.trans e1, e1 _ _ hp'⟩
    obtain ⟨l5, rfl, eH, hp'⟩ := hW
    rw [show (((fi : Int) - 0).toNat : Nat) = fi by omega]
    -- the years
    refine q_forR2 (lo := (fi : Int)) (n := (la : Int)) (ea_cons (ev_var rfl) (ea_cons (ev_var rfl) ea_nil)) ⟨by omega, by omega, by omega, by omega⟩
      (fun i σ' H' => ∃ ts l5 l6 l7 l8 l9 l10 l11 l12 l13, σ' = [some (.ref a), some (.int (fi : Int)), some (.int (la : Int)), some (.ref p), some (.int (c.firstOf ((fi : Int) + (i : Int)))), l5, l6, l7, l8, l9, l10, l11, l12, l13] ∧ Ex H H' ∧ H' p = some (.lst (ts.map V.ref)) ∧ (ts.length : Int) = c.firstOf ((fi : Int) + (i : Int)) - c.firstOf fi ∧ RowsAt c H' (c.firstOf fi) ts)
      (fun H1 e1 => ⟨[], _, _, _, _, _, _, _, _, _, by rw [show (fi : Int) + ((0 : Nat) : Int) = (fi : Int) by omega], eH.trans e1, e1 _ _ hp', by rw [show (fi : Int) + ((0 : Nat) : Int) = (fi : Int) by omega]; simp, fun i t e => by simp at e⟩) (fun i σ' H' hi hW => ?_) (fun σ' H' hW => ?_)
    · obtain ⟨ts, l5', l6, l7, l8, l9, l10, l11, l12, l13, rfl, eH2, g1, g2, g3⟩ := hW
      obtain ⟨y, hy⟩ : ∃ y : Int, (fi : Int) + (i : Int) = y := ⟨_, rfl⟩
      have yla : y + 1 ≤ (la : Int) := by omega
      have fy1 := first_le2 k yla
      have f00 := first_le2 k (show (0 : Int) ≤ (fi : Int) by omega)
      have s := Ca.first_succ k y
      have hy2 : (fi : Int) + ((i + 1 : Nat) : Int) = y + 1 := by omega
      rw [hy] at g2
      rw [hy2]
      have hmi := eH2 _ _ h1
      -- the months' sizes
      refine q_asgL (xs := ((List.range c.months.length).map fun m => c.md y m).map V.int) (el_enT (ev_fld (ev_var rfl) hmi T.cls T.months rfl) (ex_t eH2 h2) (by rw [List.length_map]; omega) (fun x y => rfl) (by rw [List.length_map, List.length_map, List.length_map, List.length_range]) fun n x z HH ee hx hz => ?_) fun sz H3 hsz e3 h3' => ?_
      · rw [List.getElem?_map] at hx
        rw [List.getElem?_map] at hz
        cases en : c.months[n]? with
        | none =>
          rw [en] at hx
          cases hx
        | some mn =>
          have hnl : n < c.months.length := (List.getElem?_eq_some_iff.mp en).1
          rw [en] at hx
          rw [List.getElem?_map, List.getElem?_range hnl] at hz
          obtain rfl : V.int mn = x := Option.some.inj hx
          obtain rfl : V.int (c.md y n) = z := Option.some.inj hz
          refine ev_is (ev_op (x := .int mn) (y := .int (if (decide (V.int (n : Int) = V.int c.lm) && inV (.int (((fi : Int) + (i : Int)) % c.cycle)) (c.ly.map V.int)) = true then 1 else 0)) (ev_var rfl) (ev_cb (ea_cons (ev_andV (ev_op (ev_var rfl) (ev_fld (ev_var rfl) (ee _ _ hmi) T.cls T.lm rfl) (rv_eq rfl))
            (fun _ => ev_op (ev_op (z := .int (((fi : Int) + (i : Int)) % c.cycle)) (ev_var rfl) (ev_fld (ev_var rfl) (ee _ _ hmi) T.cls T.cycle rfl) (rv_I (by show (0 : Int) < _; omega))) (ev_fld (ev_var rfl) (ee _ _ hmi) T.cls T.ly rfl) (rv_isT (ex_t ee (ex_t eH2 h3)) rfl (flat_ints _)))) ea_nil) rc_int1b) rv_I0) ?_
          rw [inV_ints, hy]
          unfold Ca.md Ca.long
          rw [show c.months.getD n 0 = mn by rw [List.getD_eq_getElem?_getD, en]; rfl]
          refine congrArg V.int ?_
          by_cases z1 : (n : Int) = c.lm
          · rw [decide_eq_true (show V.int (n : Int) = V.int c.lm by rw [z1]), Bool.true_and]
            by_cases z2 : y % c.cycle ∈ c.ly
            · rw [decide_eq_true z2, if_pos rfl, if_pos ⟨z1, rfl⟩]
            · rw [decide_eq_false z2, if_neg Bool.false_ne_true, if_neg (fun z => by cases z.2)]
              omega
          · rw [decide_eq_false (show ¬ V.int (n : Int) = V.int c.lm from fun z => z1 (by injection z)), Bool.false_and, if_neg Bool.false_ne_true, if_neg (fun z => z1 z.1)]
            omega
      have psz : p ≠ sz := fun z => by rw [← z, g1] at hsz; cases hsz
      have g1' := e3 _ _ g1
      have eH3 := eH2.trans e3
      have aheadN : c.ahead y c.months.length = c.yearDays y := Ca.ahead_all k y
      refine q_par (x := .int (c.yearDays y)) (y := .int 0) (ea_cons (ev_is (ev_sumL (ev_var rfl) (SqL.of h3')) (by rw [sizes_sum, aheadN])) (ea_cons ev_c ea_nil)) fun H4 e4 => ?_
      have hn1 : (((List.range c.months.length).map fun m => c.md y m).map V.int).length = c.months.length := by rw [List.length_map, List.length_map, List.length_range]
      refine s_forR1 (n := (c.months.length : Int)) (ea_cons (ev_is (ev_lenL (ev_var rfl) (ex_l e4 (SqL.of h3'))) (by rw [hn1])) ea_nil) ⟨by omega, by omega⟩
        (fun m σ' G => ∃ ts l9 l10 l11 l12 l13, σ' = [some (.ref a), some (.int (fi : Int)), some (.int (la : Int)), some (.ref p), some (.int (c.firstOf y + c.ahead y m)), some (.int ((fi : Int) + (i : Int))), some (.ref sz), some (.int (c.yearDays y)), some (.int (c.ahead y m)), l9, l10, l11, l12, l13] ∧ Ex H G ∧
          G sz = some (.lst (((List.range c.months.length).map fun m => c.md y m).map V.int)) ∧ G p = some (.lst (ts.map V.ref)) ∧ (ts.length : Int) = c.firstOf y + c.ahead y m - c.firstOf fi ∧ RowsAt c G (c.firstOf fi) ts)
        (fun H5 e5 => ⟨ts, _, _, _, _, _, (by
          have e0 : c.ahead y 0 = 0 := rfl
          rw [e0, Int.add_zero, hy]
          rfl), (eH3.trans e4).trans e5, e5 _ _ (e4 _ _ h3'), e5 _ _ (e4 _ _ g1'), (by
          have e0 : c.ahead y 0 = 0 := rfl
          rw [e0, Int.add_zero]
          exact g2), ((g3.ex e3).ex e4).ex e5⟩) (fun m σ' G hm hW => ?_) (fun σ' G hW => ?_)
      · obtain ⟨ts', l9', l10', l11', l12', l13', rfl, q1, q2, q3, q4, q5⟩ := hW
        have hml : m < c.months.length := by omega
        have mdp := Ca.md_pos k y hml
        have a0 : 0 ≤ c.ahead y m := by
          rcases Nat.eq_zero_or_pos m with z | z
          · rw [z]; exact Int.le_refl _
          · have := Ca.ahead_mono k y z (Nat.le_of_lt hml)
            have e0 : c.ahead y 0 = 0 := rfl
            omega
        have a1 : c.ahead y (m + 1) ≤ c.yearDays y := by
          rw [← aheadN]
          rcases Nat.lt_or_eq_of_le (show m + 1 ≤ c.months.length from hml) with z | z
          · exact Int.le_of_lt (Ca.ahead_mono k y z (Nat.le_refl _))
          · rw [z]; exact Int.le_refl _
        have a2 : c.ahead y (m + 1) = c.ahead y m + c.md y m := rfl
        have fy0 := first_le2 k (show (0 : Int) ≤ y by omega)
        have hat : ∀ j : Nat, j < c.months.length → atI (((List.range c.months.length).map fun m => c.md y m).map V.int) (j : Int) = some (.int (c.md y j)) := fun j hj => by
          have g := at_map (ns := (List.range c.months.length).map fun m => c.md y m) (i := j) (by rw [List.length_map, List.length_range]; exact hj)
          rw [sizes_getD c y hj] at g
          exact g
        refine s_forR1 (n := c.md y m) (ea_cons (ev_op (ev_var rfl) (ev_var rfl) (rv_ixL (SqL.of q2) (hat m hml))) ea_nil) ⟨by omega, by omega⟩
          (fun d σ' G => ∃ ts l10 l11 l12 l13, σ' = [some (.ref a), some (.int (fi : Int)), some (.int (la : Int)), some (.ref p), some (.int (c.firstOf y + c.ahead y m + (d : Int))), some (.int ((fi : Int) + (i : Int))), some (.ref sz), some (.int (c.yearDays y)), some (.int (c.ahead y m + (d : Int))), some (.int (m : Int)), l10, l11, l12, l13] ∧ Ex H G ∧
            G sz = some (.lst (((List.range c.months.length).map fun m => c.md y m).map V.int)) ∧ G p = some (.lst (ts.map V.ref)) ∧ (ts.length : Int) = c.firstOf y + c.ahead y m + (d : Int) - c.firstOf fi ∧ RowsAt c G (c.firstOf fi) ts)
          (fun H5 e5 => ⟨ts', _, _, _, _, (by rw [show ((0 : Nat) : Int) = 0 from rfl, Int.add_zero, Int.add_zero]; rfl), q1.trans e5, e5 _ _ q2, e5 _ _ q3, (by rw [show ((0 : Nat) : Int) = 0 from rfl, Int.add_zero]; exact q4), q5.ex e5⟩) (fun d σ' G hd hW => ?_) (fun σ' G hW => ?_)
        · obtain ⟨ts2, l10, l11, l12, l13, rfl, r1, r2, r3, r4, r5⟩ := hW
          have hat2 : c.At (c.firstOf y + c.ahead y m + (d : Int)) y m (d : Int) := ⟨hml, by omega, hd, rfl⟩
          have hwk := k.wk
          refine q_asg (v := .int (c.weekday (c.firstOf y + c.ahead y m + (d : Int)))) (ev_op (x := .int (c.firstOf y + c.ahead y m + (d : Int) + c.fw)) (ev_op (ev_var rfl) (ev_fld (ev_var rfl) (r1 _ _ h1) T.cls T.fw rfl) rv_I0) (ev_fld (ev_var rfl) (r1 _ _ h1) T.cls T.week rfl) (rv_I (by show (0 : Int) < _; omega))) fun H6 e6 => ?_
          have hl2 : (ts2.map V.ref).length < 100000 := by rw [List.length_map]; omega
          refine q_appU (ys := rowV c (c.firstOf y + c.ahead y m + (d : Int)) y m (d : Int)) (e6 _ _ r3) (ev_var rfl) (eu_tup (ea_cons (ev_var rfl) (ea_cons (ev_is (v := .int ((fi : Int) + (i : Int))) (ev_var rfl) (by rw [hy])) (ea_cons (ev_var rfl) (ea_cons (ev_var rfl)
            (ea_cons (ev_op (x := .int (c.md y m - 1)) (ev_op (x := .int (c.md y m)) (ev_op (ev_var rfl) (ev_var rfl) (rv_ixL (SqL.of (e6 _ _ r2)) (hat m hml))) ev_c rv_I0) (ev_var rfl) rv_I0) (ea_cons (ev_is (v := .int (c.ahead y m + (d : Int))) (ev_var rfl) (congrArg V.int (by omega)))
            (ea_cons (ev_is (v := .int (c.yearDays y - 1 - (c.ahead y m + (d : Int)))) (ev_op (x := .int (c.yearDays y - 1)) (ev_op (ev_var rfl) ev_c rv_I0) (ev_var rfl) rv_I0) (congrArg V.int (by omega))) (ea_cons (ev_var rfl) ea_nil)))))))) (by show 8 ≤ 100000; decide)) hl2 fun t H7 ht e7 h7t => ?_
          have tp : t ≠ p := fun z => by
            have g := e6 _ _ r3
            rw [← z, ht] at g
            cases g
          have hp7 := e7 _ _ (e6 _ _ r3)
          have eH7 : Ex H (upd H7 p (.lst (ts2.map V.ref ++ [.ref t]))) := Ex.mut ((r1.trans e6).trans e7) hp
          have num : c.firstOf fi + (ts2.length : Int) = c.firstOf y + c.ahead y m + (d : Int) := by omega
          have ra : RowsAt c H7 (c.firstOf fi) (ts2 ++ [t]) := ((r5.ex e6).ex e7).app (y := y) (m := m) (d := (d : Int)) (by rw [num]; exact hat2) (by rw [num]; exact h7t)
          refine s_par (x := .int (c.firstOf y + c.ahead y m + ((d + 1 : Nat) : Int))) (y := .int (c.ahead y m + ((d + 1 : Nat) : Int))) (ea_cons (ev_is (v := .int (c.firstOf y + c.ahead y m + (d : Int) + 1)) (ev_op (ev_var rfl) ev_c rv_I0) (congrArg V.int (by omega))) (ea_cons (ev_is (v := .int (c.ahead y m + (d : Int) + 1)) (ev_op (ev_var rfl) ev_c rv_I0) (congrArg V.int (by omega))) ea_nil)) fun H8 e8 => ?_
          refine ⟨ts2 ++ [t], _, _, _, _, rfl, eH7.trans e8, e8 _ _ (by rw [upd_ne (Ne.symm psz)]; exact e7 _ _ (e6 _ _ r2)), e8 _ _ (by rw [upd_same, List.map_append]; rfl), ?_, (ra.mut hp7).ex e8⟩
          rw [List.length_append]
          show ((ts2.length + 1 : Nat) : Int) = _
          omega
        · obtain ⟨ts2, l10, l11, l12, l13, rfl, r1, r2, r3, r4, r5⟩ := hW
          have ez : ((c.md y m).toNat : Int) = c.md y m := Int.toNat_of_nonneg (by omega)
          rw [ez, Int.add_assoc, ← a2] at r4
          rw [ez, Int.add_assoc, ← a2]
          exact ⟨ts2, _, _, _, _, _, rfl, r1, r2, r3, r4, r5⟩
      · obtain ⟨ts', l9', l10', l11', l12', l13', rfl, q1, q2, q3, q4, q5⟩ := hW
        have en : c.firstOf (y + 1) = c.firstOf y + c.ahead y ((c.months.length : Int)).toNat := by rw [Int.toNat_natCast, aheadN, s]
        rw [en]
        exact ⟨ts', _, _, _, _, _, _, _, _, _, rfl, q1, q3, q4, q5⟩
    · obtain ⟨ts, l5', l6, l7, l8, l9, l10, l11, l12, l13, rfl, eH2, g1, g2, g3⟩ := hW
      have eL : (fi : Int) + ((((la : Int) - (fi : Int)).toNat : Nat) : Int) = (la : Int) := by omega
      rw [eL] at g2
      exact s_ret (v := .ref p) (ev_var rfl) fun H5 e5 => q p ts H5 hp (eH2.trans e5) (e5 _ _ g1) g2 (g3.ex e5)
end
end Rw
namespace Rw
open PySem PySem.Spec PyProof.Rows L2 Evl Cy
local macro_rules | `(tactic| walk_at "sq") => `(tactic| first | assumption | exact SqL.of (by assumption) | exact SqT.of (by assumption))
local macro_rules | `(tactic| walk_at "at") => `(tactic| first | exact atI_nat (j := 0) rfl | exact atI_nat (j := 1) rfl | exact atI_nat (j := 2) rfl | exact atI_nat (j := 3) rfl)
local macro_rules | `(tactic| walk_at "rv") => `(tactic| first
  | with_reducible exact rv_I0
  | ((with_reducible refine' rv_I ?k1); (case k1 => first | (show (0 : Int) < _; omega) | exact ⟨by omega, by omega⟩ | exact .inr ⟨by omega, by omega⟩ | exact .inl ⟨by omega, by omega⟩ | exact ⟨by decide, by decide, by decide⟩))
  | ((with_reducible refine' rv_eq ?k1); (case k1 => exact rfl))
  | ((with_reducible refine' rv_ne ?k1); (case k1 => exact rfl))
  | (refine' rv_ixL ?k1 ?k2; (case k1 => walk_at "sq"); (case k2 => walk_at "at"))
  | (refine' rv_ixT ?k1 ?k2; (case k1 => walk_at "sq"); (case k2 => walk_at "at")))
local macro_rules | `(tactic| walk_at "rc") => `(tactic| first | exact rc_int1 | exact rc_int1b | exact rc_abs)
local macro_rules | `(tactic| walk_at "ea") => `(tactic| first
  | with_reducible exact ea_nil
  | ((with_reducible refine' ea_cons ?k1 ?k2); (case k1 => walk_at "ev"); (case k2 => walk_at "ea")))
local macro_rules | `(tactic| walk_at "ev") => `(tactic| first
  | with_reducible exact ev_c
  | ((with_reducible refine' ev_var ?k1); (case k1 => exact rfl))
  | ((with_reducible refine' ev_op ?k1 ?k2 ?k3); (case k1 => walk_at "ev"); (case k2 => walk_at "ev"); (case k3 => walk_at "rv"))
  | ((with_reducible refine' et_chain ?k1 ?k2 ?k3 ?k4 ?k5); (case k1 => walk_at "ev"); (case k2 => walk_at "ev"); (case k3 => (intro _; walk_at "ev")); (case k4 => walk_at "rv"); (case k5 => (intro _; walk_at "rv")))
  | ((with_reducible refine' ev_cb ?k1 ?k2); (case k1 => walk_at "ea"); (case k2 => walk_at "rc")))
local macro_rules | `(tactic| walk_at "et") => `(tactic| first
  | ((with_reducible refine' et_test ?k1); (case k1 => walk_at "ev"))
  | ((with_reducible refine' et_B ?k1); (case k1 => walk_at "ev"))
  | ((with_reducible refine' et_and ?k1 ?k2); (case k1 => walk_at "et"); (case k2 => (intro _; walk_at "et")))
  | ((with_reducible refine' et_or ?k1 ?k2); (case k1 => walk_at "et"); (case k2 => (intro _; walk_at "et")))
  | ((with_reducible refine' et_not ?k1); (case k1 => walk_at "et")))
local macro_rules | `(tactic| walk_at "ff") => `(tactic| first | exact rfl | assumption)
local macro_rules | `(tactic| walk_at "ev") => `(tactic| first
  | with_reducible exact ev_c
  | ((with_reducible refine' ev_var ?k1); (case k1 => exact rfl))
  | ((with_reducible refine' ev_op ?k1 ?k2 ?k3); (case k1 => walk_at "ev"); (case k2 => walk_at "ev"); (case k3 => walk_at "rv"))
  | ((with_reducible refine' et_chain ?k1 ?k2 ?k3 ?k4 ?k5); (case k1 => walk_at "ev"); (case k2 => walk_at "ev"); (case k3 => (intro _; walk_at "ev")); (case k4 => walk_at "rv"); (case k5 => (intro _; walk_at "rv")))
  | ((with_reducible refine' ev_cb ?k1 ?k2); (case k1 => walk_at "ea"); (case k2 => walk_at "rc"))
  | ((with_reducible refine' ev_F ?k1 ?k2); (case k1 => walk_at "ea"); (case k2 => walk_at "ff"))
  | ((with_reducible refine' ev_two ?k1 ?k2 ?k3); (case k1 => walk_at "ev"); (case k2 => omega); (case k3 => omega)))
abbrev d_init : Stmt := inClass (topS 15) 0
theorem ds_init : FnScope ["self", "calendar", "number"] ["self", "calendar", "number"] (defScope d_init) := ⟨rfl, rfl, rfl, by decide +kernel, rfl, by decide +kernel, by decide +kernel⟩
def dayF (a : Addr) (c : Ca) (n : Int) : List (Str × V) := [("calendar", .ref a), ("number", .int n), ("year", .int (yearOf c n)), ("month", .int (dateM c n : Nat)), ("day", .int (dateD c n)), ("weekday", .int (c.weekday n)), ("year_day", .int (n - c.firstOf (yearOf c n)))]
structure DayT (K : PySem.W.Frag) (D : Addr) : Prop where
  cls : Cls K D
  cal : NoAttr K D "calendar"
  num : NoAttr K D "number"
  year : NoAttr K D "year"
  month : NoAttr K D "month"
  day : NoAttr K D "day"
  wd : NoAttr K D "weekday"
  yd : NoAttr K D "year_day"
theorem CalB.keep {b : Bool} {K : PySem.W.Frag} {C D : Addr} {H H' : Hp} {a x dx : Addr} {fs : List (Str × V)} {c : Ca} (h : CalB b K C H a c) (e : ExB x H H') (hx : H x = some (.ins D dx fs)) (ne : a ≠ x) : CalB b K C H' a c := by
  obtain ⟨dc, tm, ty, dl, ts, kvs, st, h1, h2, h3, h4, h5, h6, h7⟩ := h
  exact ⟨dc, tm, ty, dl, ts, kvs, st, e _ _ ne h1, sqT_b e hx h2, sqT_b e hx h3, e _ _ (fun z => by rw [z, hx] at h4; cases h4) h4, h5, sqL_b e hx h6, h7⟩
section
variable {P : Program} {w : World} {K : PySem.W.Frag} {mg : Str → Option Value} {base : Heap} {C D : Addr} {cl : Nat → Addr}
def spDay (K : PySem.W.Frag) (C D : Addr) : Sp := fun vs H Q _ => ∃ (x dx a : Addr) (n : Int) (c : Ca), vs = [.ref x, .ref a, .int n] ∧ H x = some (.ins D dx []) ∧ CalP K C H a c ∧ Small c ∧ ∀ H', H' x = some (.ins D dx (dayF a c n)) → ExB x H H' → Q .non H'
theorem dm_init {f : Addr} {fd : FuncData} (F : Fun K "__init__" "Day.__init__" d_init f fd) (T : DayT K D) (mD : Mt P w K mg base 3 C "date" (spM K C cl fDate) []) (mW : Mt P w K mg base 1 C "weekday_of" (spM K C cl fWeekday) []) (mF : Mt P w K mg base 2 C "first_of" (spM K C cl fFirstOf) []) :
    FnOk P w K mg base (L2.CX P w) 4 f fd ["self", "calendar", "number"] (spDay K C D) := by
  refine F.okX ds_init (fun vs H Q E h => ?_) (fun cdv A outer s H vs Q E hr h => ?_)
  · obtain ⟨x, dx, a, n, c, rfl, _⟩ := h
    rfl
  · obtain ⟨x, dx, a, n, c, rfl, hx, hc, hs, q⟩ := h
    refine ⟨_, pss_cons (ps_fld (pv 0) (pv 1) rfl) (pss_cons (ps_fld (pv 0) (pv 2) rfl) (pss_cons (ps_asg (pe_mk mD hr (by decide) passL (pv 1) (pa_cons (pv 2) pa_nil)) (pg_tup rfl (pgs_cons (pg_fldT (pv 0)) (pgs_cons (pg_fldT (pv 0)) (pgs_cons (pg_fldT (pv 0)) pgs_nil))))) (pss_cons (ps_fld (pv 0) (pe_mk mW hr (by decide) passL (pv 1) (pa_cons (pv 2) pa_nil)) rfl) (pss_one (ps_fld (pv 0) (pe_op op_sub (pv 2) (pe_mk mF hr (by decide) passL (pv 1) (pa_cons (pe_fld (pv 0) rfl) pa_nil))) rfl))))), ?_⟩
    have ax : a ≠ x := fun z => by
      obtain ⟨dc, tm, ty, dl, ts, kvs, st, h1, _⟩ := hc
      rw [z, hx] at h1
      cases h1
    refine q_fldB (y := .ref a) (ev_var rfl) (ev_var rfl) hx T.cls T.cal (by show 0 < 1000; decide) fun G1 b1 x1 => ?_
    have c1 := hc.keep b1 hx ax
    refine q_fldB (y := .int n) (ev_var rfl) (ev_var rfl) x1 T.cls T.num (by show 1 < 1000; decide) fun G2 b2 x2 => ?_
    have c2 := c1.keep b2 x1 ax
    have hv : EvU (tMeth C "date" (spM K C cl fDate) [] E0 (tVar 1) (tCons (tVar 2) tNil)) (start ["self", "calendar", "number"] [.ref x, .ref a, .int n]) G2 [.int (yearOf c n), .int (dateM c n : Nat), .int (dateD c n)] := eu_M (ev_var rfl) (ea_cons (ev_var rfl) ea_nil) c2 hs (fun _ _ _ _ => rfl) rfl
    refine hv G2 (Ex.refl G2) _ fun p G3 hp e3 h3 => ?_
    have x3 := e3 _ _ x2
    refine ⟨p, _, rfl, SqT.of h3, rfl, _, _, rfl, _, rfl, x, D, dx, _, rfl, x3, T.cls, T.year, (by show 2 < 1000; decide), _, _, rfl, _, rfl, x, D, dx, _, rfl, upd_same, T.cls, T.month, (by show 3 < 1000; decide), _, _, rfl, _, rfl, x, D, dx, _, rfl, upd_same, T.cls, T.day, (by show 4 < 1000; decide), rfl, ?_⟩
    have b3 : ExB x G2 (upd (upd (upd G3 x (.ins D dx (putF "year" (.int (yearOf c n)) (putF "number" (.int n) (putF "calendar" (.ref a) []))))) x (.ins D dx (putF "month" (.int (dateM c n : Nat)) (putF "year" (.int (yearOf c n)) (putF "number" (.int n) (putF "calendar" (.ref a) [])))))) x (.ins D dx (putF "day" (.int (dateD c n)) (putF "month" (.int (dateM c n : Nat)) (putF "year" (.int (yearOf c n)) (putF "number" (.int n) (putF "calendar" (.ref a) []))))))) := (((ExB.of e3).upd).upd).upd
    have x4 := upd_same (H := (upd (upd G3 x (.ins D dx (putF "year" (.int (yearOf c n)) (putF "number" (.int n) (putF "calendar" (.ref a) []))))) x (.ins D dx (putF "month" (.int (dateM c n : Nat)) (putF "year" (.int (yearOf c n)) (putF "number" (.int n) (putF "calendar" (.ref a) []))))))) (a := x) (o := (.ins D dx (putF "day" (.int (dateD c n)) (putF "month" (.int (dateM c n : Nat)) (putF "year" (.int (yearOf c n)) (putF "number" (.int n) (putF "calendar" (.ref a) [])))))))
    generalize (upd (upd (upd G3 x (.ins D dx (putF "year" (.int (yearOf c n)) (putF "number" (.int n) (putF "calendar" (.ref a) []))))) x (.ins D dx (putF "month" (.int (dateM c n : Nat)) (putF "year" (.int (yearOf c n)) (putF "number" (.int n) (putF "calendar" (.ref a) [])))))) x (.ins D dx (putF "day" (.int (dateD c n)) (putF "month" (.int (dateM c n : Nat)) (putF "year" (.int (yearOf c n)) (putF "number" (.int n) (putF "calendar" (.ref a) []))))))) = G4 at b3 x4 ⊢
    have c4 := c2.keep b3 x2 ax
    refine q_fldB (y := .int (c.weekday n)) (ev_M (ev_var rfl) (ea_cons (ev_var rfl) ea_nil) c4 hs (fun _ _ _ _ => rfl) rfl) (ev_var rfl) x4 T.cls T.wd (by show 5 < 1000; decide) fun G5 b5 x5 => ?_
    have c5 := c4.keep b5 x4 ax
    refine s_fldB (y := .int (n - c.firstOf (yearOf c n))) (ev_op (ev_var rfl) (ev_M (ws := [.int (yearOf c n)]) (ev_var rfl) (ea_cons (ev_fld (ev_var rfl) x5 T.cls T.year rfl) ea_nil) c5 hs (fun _ _ _ _ => rfl) rfl) rv_I0) (ev_var rfl) x5 T.cls T.yd (by show 6 < 1000; decide) fun G6 b6 x6 => ?_
    exact q G6 x6 (b1.trans (b2.trans (b3.trans (b5.trans b6))))
end
end Rw
namespace Rw
/-- a for whose turns never end it badly -/
theorem forK_ok {α τ : Type} {b : α → τ → (τ → Bool) → (τ → Bool) → Bool} {k : τ → Bool} (Inv : List α → τ → Prop) (step : ∀ x rest s kn, Inv (x :: rest) s → (∀ s', Inv rest s' → kn s' = true) → b x s kn k = true) (fin : ∀ s, Inv [] s → k s = true) : ∀ (xs : List α) (s : τ), Inv xs s → forK b k xs s = true
  | [], s, h => fin s h
  | x :: xs, s, h => step x xs s _ h fun s' h' => forK_ok Inv step fin xs s' h'
/-- rising lists of the same numbers are one -/
theorem rise_ext : ∀ {l m : List Int}, l.Pairwise (· < ·) → m.Pairwise (· < ·) → (∀ x, x ∈ l ↔ x ∈ m) → l = m
  | [], [], _, _, _ => rfl
  | [], b :: m, _, _, h => by have := (h b).mpr List.mem_cons_self; cases this
  | a :: l, [], _, _, h => by have := (h a).mp List.mem_cons_self; cases this
  | a :: l, b :: m, hl, hm, h => by
    obtain ⟨l1, l2⟩ := List.pairwise_cons.mp hl
    obtain ⟨m1, m2⟩ := List.pairwise_cons.mp hm
    have e : a = b := by
      rcases List.mem_cons.mp ((h a).mp List.mem_cons_self) with z | z
      · exact z
      · rcases List.mem_cons.mp ((h b).mpr List.mem_cons_self) with y | y
        · exact y.symm
        · have := m1 a z; have := l1 b y; omega
    subst e
    rw [rise_ext l2 m2 fun x => ⟨fun hx => ?_, fun hx => ?_⟩]
    · rcases List.mem_cons.mp ((h x).mp (List.mem_cons_of_mem _ hx)) with z | z
      · have := l1 x hx; omega
      · exact z
    · rcases List.mem_cons.mp ((h x).mpr (List.mem_cons_of_mem _ hx)) with z | z
      · have := m1 x hx; omega
      · exact z
theorem rise_rng (lo hi : Int) : (rng lo hi).Pairwise (· < ·) := by
  unfold rng
  rw [List.pairwise_map]
  exact (List.pairwise_lt_range (n := (hi - lo).toNat)).imp fun h => by omega
theorem rise_filter {l : List Int} (h : l.Pairwise (· < ·)) (p : Int → Bool) : (l.filter p).Pairwise (· < ·) := h.sublist (List.filter_sublist)
/-- so many numbers from a on by steps -/
def steps (a w : Int) (k : Nat) : List Int := (List.range k).map fun i => a + ((i : Nat) : Int) * w
theorem steps_len {a w : Int} {k : Nat} : (steps a w k).length = k := by unfold steps; rw [List.length_map, List.length_range]
theorem steps_head {a w : Int} {k : Nat} (h : 0 < k) : (steps a w k).headD 0 = a := by
  cases k with
  | zero => omega
  | succ k =>
    unfold steps
    rw [List.range_succ_eq_map]
    simp
theorem steps_rise {a w : Int} {k : Nat} (h : 0 < w) : (steps a w k).Pairwise (· < ·) := by
  unfold steps
  rw [List.pairwise_map]
  refine (List.pairwise_lt_range (n := k)).imp fun {i j} q => ?_
  have : ((i : Nat) : Int) * w < ((j : Nat) : Int) * w := Int.mul_lt_mul_of_pos_right (by omega) h
  omega
theorem steps_mem {a w x : Int} {k : Nat} : x ∈ steps a w k ↔ ∃ i : Nat, i < k ∧ x = a + (i : Int) * w := by
  unfold steps
  rw [List.mem_map]
  constructor
  · rintro ⟨i, hi, rfl⟩
    exact ⟨i, List.mem_range.mp hi, rfl⟩
  · rintro ⟨i, hi, rfl⟩
    exact ⟨i, List.mem_range.mpr hi, rfl⟩
theorem filter_steps {lo hi a w : Int} {k : Nat} {p : Int → Bool} (hw : 0 < w) (h : ∀ x, (lo ≤ x ∧ x < hi ∧ p x = true) ↔ ∃ i : Nat, i < k ∧ x = a + (i : Int) * w) : (rng lo hi).filter p = steps a w k := by
  refine rise_ext (rise_filter (rise_rng _ _) _) (steps_rise hw) fun x => ?_
  rw [List.mem_filter, rng_mem, steps_mem, ← h]
  exact ⟨fun ⟨⟨a, b⟩, c⟩ => ⟨a, b, c⟩, fun ⟨a, b, c⟩ => ⟨⟨a, b⟩, c⟩⟩
end Rw
namespace Rw
open PySem PySem.Spec PyProof.Rows L2 Evl Cy
/-- rows of days by their numbers -/
def kRow (K : PySem.W.Frag) (c : Ca) : Ty Int := ⟨fun H v n => ∃ t y m d, v = .ref t ∧ c.At n y m d ∧ SqT K H t (rowV c n y m d), fun e ⟨t, y, m, d, h1, h2, h3⟩ => ⟨t, y, m, d, h1, h2, ex_t e h3⟩⟩
section
variable {K : PySem.W.Frag} {α β γ δ R τ : Type} {E E' : XK} {cl : Nat → Addr} {M : List Addr} {σ : L2.St} {I I' H H' : Hp} {S S' S1 S2 S3 : List Cell} {te ta tb tc to : TE} {tt : TT} {tr : TA} {t : Ty α} {u : Ty β} {w' : Ty γ} {x : α} {y : β} {v : V} {xs : List α} {C D : Addr} {c : Ca} {n : Int}
theorem o_row0 : Op2 (rIxT K) (kRow K c) n kI 0 kI n := fun M v w H l a b Q q => by
  obtain ⟨t, y, m, d, rfl, ha, hs⟩ := a
  obtain rfl : w = .int 0 := b
  exact ⟨t, _, 0, .int n, rfl, rfl, ex_t del_le hs, rfl, q _ H (Ex.refl H) rfl⟩
theorem o_row1 (k : c.Ok) : Op2 (rIxT K) (kRow K c) n kI 1 kI (yearOf c n) := fun M v w H l a b Q q => by
  obtain ⟨t, y, m, d, rfl, ha, hs⟩ := a
  obtain rfl : w = .int 1 := b
  refine ⟨t, _, 1, .int y, rfl, rfl, ex_t del_le hs, rfl, q _ H (Ex.refl H) ?_⟩
  show V.int y = V.int _
  obtain ⟨y1, y2⟩ := yearOf_spec k n
  rw [Ca.year_one k (ha.year k).1 (ha.year k).2 y1 y2]
theorem o_row7 : Op2 (rIxT K) (kRow K c) n kI 7 kI (c.weekday n) := fun M v w H l a b Q q => by
  obtain ⟨t, y, m, d, rfl, ha, hs⟩ := a
  obtain rfl : w = .int 7 := b
  exact ⟨t, _, 7, _, rfl, rfl, ex_t del_le hs, rfl, q _ H (Ex.refl H) rfl⟩

theorem hB1 {i : Int} : ∀ (H : Hp) (vs : List V), aC kI a0 H vs (i, ()) → vs = [.int i] := fun H vs ⟨v, r, e, h1, h2⟩ => by rw [e, show v = .int i from h1, show r = [] from h2]
theorem hB2 {i j : Int} : ∀ (H : Hp) (vs : List V), aC kI (aC kI a0) H vs (i, j, ()) → vs = [.int i, .int j] := fun H vs ⟨v, r, e, h1, h2⟩ => by rw [e, show v = .int i from h1, hB1 H r h2]
theorem hB3 {i j k : Int} : ∀ (H : Hp) (vs : List V), aC kI (aC kI (aC kI a0)) H vs (i, j, k, ()) → vs = [.int i, .int j, .int k] := fun H vs ⟨v, r, e, h1, h2⟩ => by rw [e, show v = .int i from h1, hB2 H r h2]
theorem hB0 : ∀ (H : Hp) (vs : List V), a0 H vs () → vs = [] := fun H vs h => h
theorem rsI {i : Int} : RsT K (.ok (.int i)) kI i := fun H => rfl
theorem rs3 {i j k : Int} : RsT K (.tup [.int i, .int j, .int k]) (k3 K kI kI kI) (i, j, k) := fun H p h => ⟨p, _, _, _, rfl, h, rfl, rfl, rfl⟩
theorem em_oldE {f : Ca → List V → Option Rs} {ws dvs : List V} {B : AR γ} {b : γ} {e : Nat} (h : Ea E cl M tr σ I S (aC (kCal K C) B) (.ok (c, b)) S') (hB : ∀ H vs, B H vs b → vs = ws) (hf : f c (ws ++ dvs) = some (.err e)) : Em E cl M (tCall (spM K C cl f) dvs E tr) σ I S kN (.er e) S' :=
  ⟨h.ad, fun H1 i w Q _ qe => ea_of h H1 i w _ fun vs H2 e2 w2 r2 => by
    obtain ⟨v, rs, rfl, ⟨a, rfl, hc, hs⟩, hb⟩ := r2
    obtain rfl := hB _ _ hb
    exact ⟨a, c, rs ++ dvs, _, rfl, hc.ex del_le, hs, hf, fun H3 e3 => qe e H3 rfl (e2.trans (ex_del e3)) (w2.ex e3)⟩⟩
theorem em_calWeek (T : CalT K C) (ho : Em E cl M to σ I S (kCal K C) (.ok c) S') : Em E cl M (tFld K to "week") σ I S kI (.ok c.week) S' :=
  em_mk ho.ad fun H1 i w Q q => em_of ho H1 i w _ fun v H2 e w2 r => by
    obtain ⟨a, rfl, ⟨dx, tm, ty, dl, ts, kvs, st, h1, _⟩, _⟩ := r
    exact ⟨a, C, dx, _, _, rfl, (del_some.mp h1).2, T.cls, T.week, rfl, q _ H2 e w2 rfl⟩
/-- what may change are lists and tables alone -/
def LT (M : List Addr) (S : List Cell) : Prop := (∀ m ∈ M, m ∈ ads S) ∧ ∀ c ∈ S, ∀ I o, c.r I o c.x → (∃ l, o = .lst l) ∨ ∃ p, o = .tbl p
theorem lt_nil : LT [] [] := ⟨fun _ h => h, fun c h => by cases h⟩
theorem lt_cons {c : Cell} (h : LT M S) (k : ∀ I o, c.r I o c.x → (∃ l, o = .lst l) ∨ ∃ p, o = .tbl p) : LT (c.a :: M) (c :: S) :=
  ⟨fun m hm => by rcases List.mem_cons.mp hm with z | z; exact List.mem_cons.mpr (.inl z); exact List.mem_cons_of_mem _ (h.1 m z), fun z hz => by rcases List.mem_cons.mp hz with e | e; rw [e]; exact k; exact h.2 z e⟩
theorem lt_dice {d : Addr} {z : Dice} : ∀ I o, (cDice d z).r I o (cDice d z).x → (∃ l, o = .lst l) ∨ ∃ p, o = .tbl p := fun I o h => .inl ⟨_, h⟩
theorem lt_tab {P : Addr} {p : Str} : ∀ I o, (cTab P p).r I o (cTab P p).x → (∃ l, o = .lst l) ∨ ∃ p, o = .tbl p := fun I o ⟨ps, h, _⟩ => .inr ⟨ps, h⟩
theorem LT.not {w : Holds M S H} (h : LT M S) {a : Addr} {o : HO} (e : H a = some o) (n1 : ∀ l, o ≠ .lst l) (n2 : ∀ p, o ≠ .tbl p) : a ∉ M := fun z => by
  obtain ⟨c, hc, rfl⟩ := List.mem_map.mp (h.1 a z)
  obtain ⟨_, u, hu, ru⟩ := w.at_ c hc
  rw [e] at hu
  obtain rfl := Option.some.inj hu
  rcases h.2 c hc _ _ ru with ⟨l, q⟩ | ⟨p, q⟩
  · exact n1 l q
  · exact n2 p q
theorem LT.sqT {w : Holds M S H} (h : LT M S) {a : Addr} {vs : List V} (e : SqT K H a vs) : SqT K (del M H) a vs := by
  rcases e with (e | ⟨o, e⟩) | e
  · exact .inl (.inl (del_at (h.not (w := w) e (fun _ z => nomatch z) (fun _ z => nomatch z)) e))
  · exact .inl (.inr ⟨o, del_at (h.not (w := w) e (fun _ z => nomatch z) (fun _ z => nomatch z)) e⟩)
  · exact .inr e
theorem all_rows {I : Hp} {ts : List Addr} : ∀ (n : Int), (∀ (i : Nat) (t : Addr), ts[i]? = some t → (kRow K c).r I (.ref t) (n + (i : Int))) → All2 ((kRow K c).r I) (ts.map V.ref) ((List.range ts.length).map fun i => n + ((i : Nat) : Int)) := by
  induction ts with
  | nil => intro n h; exact .nil
  | cons t ts ih =>
    intro n h
    rw [List.length_cons, List.range_succ_eq_map, List.map_cons, List.map_cons, List.map_map]
    refine .cons (h 0 t rfl) ?_
    have g := ih (n + 1) fun i u hu => by
      have z := h (i + 1) u (by simpa using hu)
      rw [show n + 1 + (i : Int) = n + ((i + 1 : Nat) : Int) by omega]
      exact z
    have e : (fun i => n + ((i : Nat) : Int)) ∘ Nat.succ = fun i => n + 1 + ((i : Nat) : Int) := by
      funext i
      show n + ((i + 1 : Nat) : Int) = _
      omega
    rw [e]
    exact g
theorem em_rows {l : Nat} (h : Ea E cl M tr σ I S (aC (kCal K C) (aC kI (aC kI a0))) (.ok (c, 0, (l : Int), ())) S') (lt : LT M S') (hl : l ≤ 1000) (hf : c.firstOf l < 50000) : Em E cl M (tCall (spRows K C) [] E' tr) σ I S (kL K (kRow K c)) (.ok (rng 0 (c.firstOf l))) S' :=
  em_mk h.ad fun H1 i w Q q => ea_of h H1 i w _ fun vs H2 e2 w2 r2 => by
    obtain ⟨v, rs, rfl, ⟨a, rfl, hc, hs⟩, hb⟩ := r2
    obtain rfl := hB2 _ _ hb
    refine ⟨a, c, 0, l, rfl, hc.ex del_le, hs, Nat.zero_le _, hl, hf, fun p ts H3 hp e3 h3 hn rows => q _ H3 (e2.trans (ex_del e3)) (w2.ex e3) ⟨p, ts.map V.ref, rfl, sq_of (del_at (fresh_not w2.live hp) h3), ?_⟩⟩
    have f0 : c.firstOf ((0 : Nat) : Int) = 0 := Ca.first_zero hs.ok
    rw [f0] at hn rows
    have w3 := w2.ex e3
    have g := all_rows (K := K) (c := c) (I := del M H3) (ts := ts) 0 fun i t ht => by
      obtain ⟨y, m, d, h1, h2⟩ := rows i t ht
      exact ⟨t, y, m, d, rfl, h1, st_of (del_at (lt.not (w := w3) h2 (fun _ z => nomatch z) (fun _ z => nomatch z)) h2)⟩
    unfold rng
    rw [show (c.firstOf l - 0).toNat = ts.length by omega]
    exact g
/-- calendar = _law_calendar(dice) -/
theorem g_lawcal {P : R → Prop} {D : Ends} {tz : TS} {i j n : Nat} {d : Addr} {z : Dice} {k : Ca → Dice → R} (w : Holds M S H) (lt : ∀ z', LT M (S.set n (cDice d z'))) (hk : S[n]? = some (cDice d z)) (hσ : σ[j]? = some (some (.ref d))) (o : ∀ c z', c.Ok → Tiny c → P (k c z'))
    (g : ∀ c z' a H2, c.Ok → Tiny c → P (k c z') → Gr M S H H2 → Holds M (S.set n (cDice d z')) H2 → (kCal K C).r (del M H2) (.ref a) c → tz D (σ.set i (some (.ref a))) H2) : tSeq (tAsg (tCall (spLawCal K C) [] E' (tCons (tVar j) tNil)) (gName i)) tz D σ H := by
  obtain ⟨_, u, h1, hu⟩ := w.at_ _ (List.mem_of_getElem? hk)
  obtain rfl : u = .lst [.int z.1, .int z.2.1, .int z.2.2] := hu
  refine ⟨.ref d, hσ, d, z.1, z.2.1, z.2.2, rfl, h1, fun x c H2 k tiny hc hx rel => ?_⟩
  obtain ⟨eB, a, b, e, h2⟩ := rel
  obtain ⟨w2, e2⟩ := dice_put (z' := (a, b, e)) w hk eB h2
  refine g c (a, b, e) x H2 k tiny (o c _ k tiny) (.of w e2) w2 ⟨x, rfl, ?_, Tiny.small k tiny⟩
  obtain ⟨dx, tm, ty, dl, ts, kvs, st, g1, g2, g3, g4, g5, g6, g7, g8, g9⟩ := hc
  have lt2 := lt (a, b, e)
  have tsM : ts ∉ M := fun z => by
    cases q : H ts with
    | none => exact w.live ts z q
    | some o => exact g8 ts o (fun y => by rw [y, hx] at q; cases q) q rfl
  exact ⟨dx, tm, ty, dl, ts, kvs, st, del_at (lt2.not (w := w2) g1 (fun _ z => nomatch z) (fun _ z => nomatch z)) g1, lt2.sqT (w := w2) g2, lt2.sqT (w := w2) g3, del_at (lt2.not (w := w2) g4 (fun _ z => nomatch z) (fun _ z => nomatch z)) g4, g5, sq_of (del_at tsM g9), g7⟩
end
/-! ### a dict of numbers in the making -/
def putN (l : List (Int × Int)) (k v : Int) : List (Int × Int) := if (l.any fun q => decide (q.1 = k)) = true then l.map (fun q => if q.1 = k then (q.1, v) else q) else l ++ [(k, v)]
def pairV (q : Int × Int) : Key × V := (.inl q.1, .int q.2)
theorem putK_pair (l : List (Int × Int)) (k v : Int) : putK (l.map pairV) (.inl k) (.int v) = (putN l k v).map pairV := by
  unfold putK putN
  have e : ((l.map pairV).any fun kv => decide (kv.1 = (.inl k : Key))) = (l.any fun q => decide (q.1 = k)) := by
    rw [List.any_map]
    congr 1
    funext q
    show decide ((Sum.inl q.1 : Key) = .inl k) = decide (q.1 = k)
    simp
  rw [e]
  split
  · rw [List.map_map, List.map_map]
    congr 1
    funext q
    show (if (Sum.inl q.1 : Key) = .inl k then ((Sum.inl q.1 : Key), V.int v) else pairV q) = pairV (if q.1 = k then (q.1, v) else q)
    by_cases h : q.1 = k
    · rw [if_pos (by rw [h]), if_pos h]
      rfl
    · rw [if_neg (fun z => h (Sum.inl.inj z)), if_neg h]
  · rw [List.map_append]
    rfl
theorem valV_pair (l : List (Int × Int)) (k : Int) : valV (l.map pairV) (.inl k) = (l.lookup k).map V.int := by
  induction l with
  | nil => rfl
  | cons q l ih =>
    rw [List.map_cons]
    by_cases h : q.1 = k
    · rw [valV_pos (by show (Sum.inl q.1 : Key) = _; rw [h]), List.lookup_cons]
      rw [show (k == q.1) = true by simp [h]]
      rfl
    · rw [valV_neg (by show ¬ (Sum.inl q.1 : Key) = .inl k; exact fun z => h (Sum.inl.inj z)), ih, List.lookup_cons]
      rw [show (k == q.1) = false by simp; exact fun z => h z.symm]
def cD (p : Addr) (l : List (Int × Int)) : Cell := ⟨p, List (Int × Int), fun _ o l => o = .dK (l.map pairV), fun _ h => h, l⟩
/-- the same, as it stays -/
def kDN : Ty (List (Int × Int)) := ⟨fun H v l => ∃ p, v = .ref p ∧ H p = some (.dK (l.map pairV)), fun e ⟨p, a, b⟩ => ⟨p, a, e _ _ b⟩⟩
section
variable {K : PySem.W.Frag} {α β γ δ R τ : Type} {E E' : XK} {cl : Nat → Addr} {M : List Addr} {σ : L2.St} {I I' H H' : Hp} {S S' S1 S2 S3 : List Cell} {te ta tb tc to : TE} {tt : TT} {tr : TA} {t : Ty α} {u : Ty β} {x : α} {y : β} {v : V} {xs : List α} {P : R → Prop} {D : Ends} {tz : TS} {p : Addr} {l : List (Int × Int)}
/-- a, b = {}, None: a in the making -/
theorem g_parD {i j : Nat} (w : Holds M S H) (c : ∀ p H2, H p = none → Gr M S H H2 → Holds (p :: M) (cD p [] :: S) H2 → Ex (del M H) (del (p :: M) H2) → tz D ((σ.set i (some (.ref p))).set j (some v)) H2) : tSeq (tPar i j (tCons tDNewK (tCons (tC v) tNil))) tz D σ H := fun p hp => by
  have e0 : Ex H (upd H p (.dK [])) := Ex.new hp
  exact ⟨_, v, rfl, c p _ hp ⟨ex_del e0, ex_del e0⟩ (w.new (c := cD p []) hp e0 upd_same rfl) ((del_new hp).trans (ex_del e0))⟩
/-- d[k] = e, d the n-th of what may change -/
theorem g_setD {n : Nat} {j v : Int} {k : List (Int × Int) → R} (w : Holds M S H) (o : P (lt (putN l j v) k)) (h : Em E cl M te σ (del M H) S kI (.ok v) S) (ha : Em E cl M ta σ (del M H) S (kPtr p) (.ok ()) S) (hb : Em E cl M tb σ (del M H) S kI (.ok j) S) (hk : S[n]? = some (cD p l)) (hz : l.length < 100000)
    (c : ∀ l' H2, l' = putN l j v → P (k l') → Gr M S H H2 → Holds M (S.set n (cD p l')) H2 → tz D σ H2) : tSeq (tAsg te (gSub ta tb rSetD)) tz D σ H :=
  em_of h H (Ex.refl _) w _ fun v1 H1 e1 w1 r1 => em_of ha H1 (w.grow e1) w1 _ fun v2 H2 e2 w2 r2 => em_of hb H2 ((w.grow e1).trans (w1.grow e2)) w2 _ fun v3 H3 e3 w3 r3 => by
    obtain rfl : v1 = .int v := r1
    obtain rfl : v2 = .ref p := r2
    obtain rfl : v3 = .int j := r3
    obtain ⟨pM, o3, h3, ro⟩ := w3.at_ _ (List.mem_of_getElem? hk)
    obtain rfl : o3 = .dK (l.map pairV) := ro
    have pS : p ∈ ads S := List.mem_map.mpr ⟨_, List.mem_of_getElem? hk, rfl⟩
    have pM : p ∈ M := pM
    refine ⟨p, _, rfl, DPut.k (k := .inl j) h3 (by rw [List.length_map]; exact sz_lt hz), ?_⟩
    rw [putK_pair]
    exact c _ _ rfl o ⟨by rw [del_upd pS]; exact (e1.trans e2).trans e3, by rw [del_upd pM]; exact ((w.grow e1).trans (w1.grow e2)).trans (w2.grow e3)⟩ (w3.put (c' := cD p (putN l j v)) hk rfl rfl)
theorem g_setDL {n : Nat} {j v : Int} {k : List (Int × Int) → R} (w : Holds M S H) (o : P (lt (putN l j v) k)) (h : Em E cl M te σ (del M H) S kI (.ok v) S) (ha : Em E cl M ta σ (del M H) S (kPtr p) (.ok ()) S) (hb : Em E cl M tb σ (del M H) S kI (.ok j) S) (hk : S[n]? = some (cD p l)) (hz : l.length < 100000)
    (c : ∀ l' H2, l' = putN l j v → P (k l') → Gr M S H H2 → Holds M (S.set n (cD p l')) H2 → D.nx σ H2) : tAsg te (gSub ta tb rSetD) D σ H :=
  g_setD (tz := fun _ σ H => D.nx σ H) (D := { D with nx := D.nx }) w o h ha hb hk hz c
/-- it stays as it is from now on -/
theorem cellD_end (w : Holds (p :: M) (cD p l :: S) H) (n : p ∉ M) : kDN.r (del M H) (.ref p) l := by
  obtain ⟨_, o, h, r⟩ := w.at_ _ List.mem_cons_self
  obtain rfl : o = .dK (l.map pairV) := r
  exact ⟨p, rfl, del_at n h⟩
theorem em_dgetN {k v : Int} (ha : Em E cl M ta σ I S kDN (.ok l) S1) (hb : Em E cl M tb σ I S1 kI (.ok k) S2) (h : l.lookup k = some v) : Em E cl M (tDGet ta tb) σ I S kI (.ok v) S2 :=
  em_mk (hb.ad.trans ha.ad) fun H1 i w Q q => em_of ha H1 i w _ fun v1 H2 e1 w1 r1 => em_of hb H2 (i.trans (w.grow e1)) w1 _ fun v2 H3 e2 w2 r2 => by
    obtain ⟨p, rfl, hp⟩ := kDN.up (w1.grow e2) r1
    obtain rfl : v2 = .int k := r2
    refine ⟨p, .int v, rfl, ?_, q _ H3 (ads_tr ha.ad e1 e2) w2 rfl⟩
    have g := DGet.k (k := (.inl k : Key)) (del_some.mp hp).2
    rw [valV_pair, h] at g
    exact g
def topOf (l : List Int) : Int := l.foldl max (l.headD 0)
theorem fold_max : ∀ (l : List Int) (a : Int), a ≤ l.foldl max a ∧ (∀ x ∈ l, x ≤ l.foldl max a) ∧ (l.foldl max a = a ∨ l.foldl max a ∈ l)
  | [], a => ⟨Int.le_refl _, fun x h => (by cases h), .inl rfl⟩
  | b :: l, a => by
    obtain ⟨h1, h2, h3⟩ := fold_max l (max a b)
    rw [List.foldl_cons]
    refine ⟨by omega, fun x hx => ?_, ?_⟩
    · rcases List.mem_cons.mp hx with z | z
      · rw [z]; omega
      · exact h2 x z
    · rcases h3 with z | z
      · rw [z]
        rcases Int.le_total a b with q | q
        · right; rw [Int.max_eq_right q]; exact List.mem_cons_self
        · left; exact Int.max_eq_left q
      · exact .inr (List.mem_cons_of_mem _ z)
theorem topOf_is {l : List Int} {m : Int} (h : m ∈ l) (k : ∀ n ∈ l, n ≤ m) : topOf l = m := by
  unfold topOf
  obtain ⟨h1, h2, h3⟩ := fold_max l (l.headD 0)
  have a := h2 m h
  have hd : l.headD 0 ∈ l := by cases l with
    | nil => cases h
    | cons a l => exact List.mem_cons_self
  have b : l.foldl max (l.headD 0) ≤ m := by
    rcases h3 with z | z
    · rw [z]; exact k _ hd
    · exact k _ z
  omega
theorem em_topVal (ha : Em E cl M ta σ I S kDN (.ok l) S1) (h : 0 < l.length) : Em E cl M (tTopVal ta) σ I S kI (.ok (topOf (l.map (·.2)))) S1 :=
  em_mk ha.ad fun H1 i w Q q => em_of ha H1 i w _ fun v1 H2 e1 w1 r1 => by
    obtain ⟨p, rfl, hp⟩ := r1
    refine ⟨p, l.map pairV, l.map (·.2), rfl, (del_some.mp hp).2, by rw [List.map_map, List.map_map]; rfl, by rw [List.length_map]; exact h, fun m hm k => ?_⟩
    rw [topOf_is hm k] at q
    exact q _ H2 e1 w1 rfl
theorem em_slP {a : Ty α} {b : Ty β} {c : Ty γ} {z : γ} (ha : Em E cl M ta σ I S (k3 K a b c) (.ok (x, y, z)) S') : Em E cl M (tSl (rSlT K) ta tNoPart (tPart (tC (.int 2)))) σ I S (k2 K a b) (.ok (x, y)) S' :=
  em_mk ha.ad fun H1 i w Q q => em_of ha H1 i w _ fun v1 H2 e1 w1 r1 => by
    obtain ⟨p, v1, v2, v3, rfl, hp, h1, h2, h3⟩ := r1
    refine ⟨2, rfl, p, _, rfl, ex_t del_le hp, fun z => absurd (show HT.sIx 3 3 (some 2) = 3 from z.2) (by decide), fun q2 hq => q _ _ (e1.trans (ex_del (Ex.new hq))) (w1.ex (Ex.new hq)) ⟨q2, v1, v2, rfl, st_of (del_at (fresh_not w1.live hq) upd_same), a.up (ex_del (Ex.new hq)) h1, b.up (ex_del (Ex.new hq)) h2⟩⟩
theorem g_par3 {a b e : Nat} {x1 : α} {x2 : β} {x3 : γ} {t3 : Ty γ} {k : α → β → γ → R} (w : Holds M S H) (o : P (lt x1 fun a => lt x2 fun b => lt x3 fun c => k a b c)) (h : Ea E cl M tr σ (del M H) S (aC t (aC u (aC t3 a0))) (.ok (x1, x2, x3, ())) S') (c : ∀ y1 y2 y3 v1 v2 v3 H2, y1 = x1 → y2 = x2 → y3 = x3 → P (k y1 y2 y3) → Gr M S H H2 → Holds M S' H2 → t.r (del M H2) v1 y1 → u.r (del M H2) v2 y2 → t3.r (del M H2) v3 y3 → tz D (((σ.set a (some v1)).set b (some v2)).set e (some v3)) H2) : tSeq (tPar3 a b e tr) tz D σ H :=
  ea_of h H (Ex.refl _) w _ fun vs H2 e w2 r => by
    obtain ⟨v1, r1, rfl, g1, v2, r2, rfl, g2, v3, r3, rfl, g3, rfl⟩ := r
    exact ⟨v1, v2, v3, rfl, c x1 x2 x3 v1 v2 v3 H2 rfl rfl rfl o (.of w e) w2 g1 g2 g3⟩
theorem g_tup3 {a b e : Nat} {x1 : α} {x2 : β} {x3 : γ} {t3 : Ty γ} {k : α → β → γ → R} (w : Holds M S H) (o : P (lt x1 fun a => lt x2 fun b => lt x3 fun c => k a b c)) (h : Ea E cl M tr σ (del M H) S (aC t (aC u (aC t3 a0))) (.ok (x1, x2, x3, ())) S') (c : ∀ y1 y2 y3 v1 v2 v3 H2, y1 = x1 → y2 = x2 → y3 = x3 → P (k y1 y2 y3) → Gr M S H H2 → Holds M S' H2 → t.r (del M H2) v1 y1 → u.r (del M H2) v2 y2 → t3.r (del M H2) v3 y3 → tz D (((σ.set a (some v1)).set b (some v2)).set e (some v3)) H2) : tSeq (tAsg (tTup tr) (gTup K 3 (gCons (gName a) (gCons (gName b) (gCons (gName e) gNil))))) tz D σ H :=
  ea_of h H (Ex.refl _) w _ fun vs H2 e w2 r => by
    obtain ⟨v1, r1, rfl, g1, v2, r2, rfl, g2, v3, r3, rfl, g3, rfl⟩ := r
    refine ⟨by show 3 ≤ sizeLine; decide, fun p hp => ⟨p, _, rfl, SqT.of upd_same, rfl, v1, _, rfl, v2, _, rfl, v3, _, rfl, rfl, ?_⟩⟩
    have e2 : Ex H2 (upd H2 p (.tup [v1, v2, v3])) := Ex.new hp
    exact c x1 x2 x3 v1 v2 v3 _ rfl rfl rfl o (.of w (e.trans (ex_del e2))) (w2.ex e2) (t.up (ex_del e2) g1) (u.up (ex_del e2) g2) (t3.up (ex_del e2) g3)
theorem g_tup2 {i j : Nat} {kk : α → β → R} (w : Holds M S H) (o : P (lt x fun a => lt y fun b => kk a b)) (h : Ea E cl M tr σ (del M H) S (aC t (aC u a0)) (.ok (x, y, ())) S') (c : ∀ x' y' v1 v2 H2, x' = x → y' = y → P (kk x' y') → Gr M S H H2 → Holds M S' H2 → t.r (del M H2) v1 x' → u.r (del M H2) v2 y' → tz D ((σ.set i (some v1)).set j (some v2)) H2) : tSeq (tAsg (tTup tr) (gTup K 2 (gCons (gName i) (gCons (gName j) gNil)))) tz D σ H :=
  ea_of h H (Ex.refl _) w _ fun vs H2 e w2 r => by
    obtain ⟨v1, r1, rfl, g1, v2, r2, rfl, g2, rfl⟩ := r
    refine ⟨by show 2 ≤ sizeLine; decide, fun p hp => ⟨p, _, rfl, SqT.of upd_same, rfl, v1, _, rfl, v2, _, rfl, rfl, ?_⟩⟩
    have e2 : Ex H2 (upd H2 p (.tup [v1, v2])) := Ex.new hp
    exact c x y v1 v2 _ rfl rfl o (.of w (e.trans (ex_del e2))) (w2.ex e2) (t.up (ex_del e2) g1) (u.up (ex_del e2) g2)
theorem g_tupD {i j : Nat} (w : Holds M S H) (c : ∀ p H2, H p = none → Gr M S H H2 → Holds (p :: M) (cD p [] :: S) H2 → Ex (del M H) (del (p :: M) H2) → tz D ((σ.set i (some (.ref p))).set j (some v)) H2) : tSeq (tAsg (tTup (tCons tDNewK (tCons (tC v) tNil))) (gTup K 2 (gCons (gName i) (gCons (gName j) gNil)))) tz D σ H := fun p hp => by
  have e0 : Ex H (upd H p (.dK [])) := Ex.new hp
  refine ⟨by show 2 ≤ sizeLine; decide, fun q hq => ⟨q, _, rfl, SqT.of upd_same, rfl, _, _, rfl, v, _, rfl, rfl, ?_⟩⟩
  have e1 : Ex (upd H p (.dK [])) (upd (upd H p (.dK [])) q (.tup [.ref p, v])) := Ex.new hq
  have e2 := e0.trans e1
  exact c p _ hp ⟨ex_del e2, ex_del e2⟩ (w.new (c := cD p []) hp e2 (e1 _ _ upd_same) rfl) ((del_new hp).trans (ex_del e2))
theorem opt_r {x : Option α} {d : α} {v : V} {I : Hp} (h : x.isSome = true) (r : (kO t).r I v x) : t.r I v (x.getD d) := by
  cases x with
  | none => cases h
  | some y => exact r.1
theorem head_at {l : List Int} (h : (!decide (l = [])) = true) : l[0]? = some (l.headD 0) := by
  cases l with
  | nil => simp at h
  | cons a l => rfl
end
theorem all_intsR {H : Hp} (ns : List Int) : All2 (kI.r H) (ns.map V.int) ns := by
  induction ns with
  | nil => exact .nil
  | cons n ns ih => exact .cons rfl ih
theorem _root_.L2.Room.u1 {k : Nat} {A : Around} (r : Room k A) : A.units + 1 < cLine := by have := r.un; omega
theorem _root_.L2.Room.u65 {k : Nat} {A : Around} (r : Room k A) : A.units + 65 < cLine := by have := r.un; omega
/-! ### bounds -/
theorem first_grow {c : Ca} (k : c.Ok) (tiny : Tiny c) (y : Int) : c.firstOf y + 2 ≤ c.firstOf (y + 1) ∧ c.firstOf (y + 1) ≤ c.firstOf y + 16 := by
  have s := Ca.first_succ k y
  have p1 : 2 ≤ c.plain := by
    cases e : c.months with
    | nil => exact absurd e k.some
    | cons m ms =>
      have g := Ca.sum_pos ms fun x hx => k.pos x (by rw [e]; exact List.mem_cons_of_mem _ hx)
      have h := (tiny.mon m (by rw [e]; exact List.mem_cons_self)).1
      unfold Ca.plain
      rw [e, List.sum_cons]
      omega
  have p2 : c.plain ≤ 15 := by
    have g := sum_top 5 c.months fun m hm => (tiny.mon m hm).2
    have l := tiny.len
    unfold Ca.plain
    omega
  have y1 : c.plain ≤ c.yearDays y ∧ c.yearDays y ≤ c.plain + 1 := by
    unfold Ca.yearDays
    split <;> omega
  omega
theorem first7 {c : Ca} (k : c.Ok) (tiny : Tiny c) : 4 ≤ c.firstOf 2 ∧ c.firstOf 5 + 4 ≤ c.firstOf 7 ∧ c.firstOf 7 ≤ 112 := by
  have f0 := Ca.first_zero k
  have g0 := first_grow k tiny 0
  have g1 := first_grow k tiny 1
  have g2 := first_grow k tiny 2
  have g3 := first_grow k tiny 3
  have g4 := first_grow k tiny 4
  have g5 := first_grow k tiny 5
  have g6 := first_grow k tiny 6
  simp only [show (0 : Int) + 1 = 1 by rfl, show (1 : Int) + 1 = 2 by rfl, show (2 : Int) + 1 = 3 by rfl, show (3 : Int) + 1 = 4 by rfl, show (4 : Int) + 1 = 5 by rfl, show (5 : Int) + 1 = 6 by rfl, show (6 : Int) + 1 = 7 by rfl] at *
  omega
theorem dictOf_fn {l : List Int} {f : Int → Int} {k : Int} (h : k ∈ l) : dictOf (l.map fun n => (n, f n)) k = some (f k) := by
  unfold dictOf
  cases e : (l.map fun n => (n, f n)).reverse.find? (fun q => decide (q.1 = k)) with
  | none =>
    rw [List.find?_eq_none] at e
    exact absurd (decide_eq_true rfl) (e (k, f k) (List.mem_reverse.mpr (List.mem_map.mpr ⟨k, h, rfl⟩)))
  | some q =>
    have a := List.find?_some e
    have b := List.mem_reverse.mp (List.mem_of_find?_eq_some e)
    obtain ⟨n, _, rfl⟩ := List.mem_map.mp b
    have a : n = k := of_decide_eq_true a
    rw [a]
    rfl
theorem dictOf_none {l : List Int} {f : Int → Int} {k : Int} (h : k ∉ l) : dictOf (l.map fun n => (n, f n)) k = none := by
  unfold dictOf
  rw [Option.map_eq_none_iff, List.find?_eq_none]
  intro q hq
  obtain ⟨n, hn, rfl⟩ := List.mem_map.mp (List.mem_reverse.mp hq)
  intro z
  have z : n = k := of_decide_eq_true z
  exact h (z ▸ hn)
theorem ix_tupK {X : Cx} {K : PySem.W.Frag} (h : X.K = K := by rfl) : IxR X (rIxT K) := by
  subst h
  exact ix_tup
/-- the loop over the one cell of the script, its dice and the table of lambdas -/
theorem q_dice {K : PySem.W.Frag} {a PT : Addr} {LQ : Str} {ns : List Int} {σ : L2.St} {H : Hp} {ta : TA} {D : Ends} {tu tz : TS} {j : Nat} (hv : EvA ta σ H [.ref a, .int 1]) (hS : SqL K H a (ns.map V.int)) (hT : H PT = some (.tbl #[])) (Sg : L2.St → Prop) (s0 : Sg σ)
    (hs : ∀ d z σ' H', Sg σ' → Holds [d, PT] [cDice d z, cTab PT LQ] H' → ∀ Nx : L2.St → Hp → Prop, (∀ z' σ2 H2, Sg σ2 → Gr [d, PT] [cDice d z, cTab PT LQ] H' H2 → Holds [d, PT] [cDice d z', cTab PT LQ] H2 → Nx σ2 H2) → tu { D with nx := Nx, ct := Nx, bk := tz D } (σ'.set j (some (.ref d))) H')
    (hd : ∀ M S σ' H', Sg σ' → Holds M S H' → tz D σ' H') :
    tSeq (tFor (iList K (tCall (spRounds K) [] E0 ta)) (gName j) tu) tz D σ H :=
  hv H (Ex.refl H) _ fun H1 e1 => ⟨a, ns, rfl, ex_l e1 hS, fun r d x y z H2 hr hd0 hne e2 h2 h3 => by
    have hP : H2 PT = some (.tbl #[]) := e2 _ _ (e1 _ _ hT)
    have dP : d ≠ PT := fun q => by rw [q, hP] at h3; cases h3
    have rP : r ≠ PT := fun q => by rw [q, hP] at h2; cases h2
    have w0 : Holds [d, PT] [cDice d (x, y, z), cTab PT LQ] H2 := by
      refine ⟨fun c hc => ?_, by simp [ads, cDice, cTab, dP], fun m hm => ?_⟩
      · rcases List.mem_cons.mp hc with q | q
        · rw [q]; exact ⟨List.mem_cons_self, _, h3, rfl⟩
        · rw [List.mem_singleton.mp q]
          refine ⟨by simp [cTab], _, hP, #[], rfl, by first | trivial | decide, fun pos cv z => ?_⟩
          cases z
      · rcases List.mem_cons.mp hm with q | q
        · rw [q, h3]; exact fun z => nomatch z
        · rw [List.mem_singleton.mp q, hP]; exact fun z => nomatch z
    have rM : r ∉ [d, PT] := by simp [hne, rP]
    have keep : ∀ H', Ex (del [d, PT] H2) (del [d, PT] H') → H' r = some (.lst [.ref d]) := fun H' e => (del_some.mp (e r _ (del_some.mpr ⟨rM, h2⟩))).2
    refine ⟨r, rfl, ⟨_, SqL.of h2⟩, for_list (xs := [.ref d]) (fun _ σ' H' => Sg σ' ∧ Ex (del [d, PT] H2) (del [d, PT] H') ∧ ∃ z, Holds [d, PT] [cDice d z, cTab PT LQ] H') ⟨s0, Ex.refl _, _, w0⟩ (fun i σ' H' _ p => SqL.of (keep H' p.2.1)) (fun i v σ' H' hi p => ?_) (fun σ' H' p => ?_)⟩
    · obtain rfl : v = .ref d := by
        cases i with
        | zero => exact (Option.some.inj hi).symm
        | succ i => simp at hi
      obtain ⟨p1, p2, z, p3⟩ := p
      exact hs d z σ' H' p1 p3 _ fun z' σ2 H3 g1 g2 g3 => ⟨g1, p2.trans g2.im, z', g3⟩
    · obtain ⟨p1, p2, z, p3⟩ := p
      exact hd _ _ σ' H' p1 p3⟩
theorem lookup_putN (l : List (Int × Int)) (k v j : Int) : (putN l k v).lookup j = if j = k then some v else l.lookup j := by
  have a := valV_pair (putN l k v) j
  rw [← putK_pair, valV_put, valV_pair] at a
  by_cases h : j = k
  · rw [if_pos (by rw [h])] at a
    rw [if_pos h]
    cases e : (putN l k v).lookup j with
    | none => rw [e] at a; cases a
    | some y => rw [e] at a; have a := Option.some.inj a; injection a with a; rw [a]
  · rw [if_neg (fun z => h (Sum.inl.inj z))] at a
    rw [if_neg h]
    cases e : (putN l k v).lookup j with
    | none => rw [e] at a; cases e2 : l.lookup j with
      | none => rfl
      | some y => rw [e2] at a; cases a
    | some y => rw [e] at a; cases e2 : l.lookup j with
      | none => rw [e2] at a; cases a
      | some z => rw [e2] at a; have a := Option.some.inj a; injection a with a; rw [a]
theorem len_putN (l : List (Int × Int)) (k v : Int) : (putN l k v).length ≤ l.length + 1 := by
  unfold putN
  split
  · rw [List.length_map]; omega
  · rw [List.length_append]; exact Nat.le_refl _
section
variable {K : PySem.W.Frag} {α : Type} {t : Ty α} {E : XK} {cl : Nat → Addr} {M : List Addr} {σ : L2.St} {I : Hp} {S : List Cell}
/-- a list against the bare one -/
theorem em_lcK {β : Type} {u : Ty β} {r : Re β} {S' : List Cell} {wi : TI} {g : TG} {tt : L2.St → TT} {te : L2.St → TE} {vs : List Nat} (h : Em E cl M (tLc wi g (tt σ) (te σ) vs) σ I S u r S') : Em E cl M (tLcK wi g tt te vs) σ I S u r S' := ⟨h.ad, h.run⟩
theorem some_r {v : V} {x : α} (r : t.r I v x) (nn : v ≠ .non) : (kO t).r I v (some x) := ⟨r, nn⟩
theorem none_r : (kO t).r I .non none := rfl
theorem em_noneL : Em E cl M (tLst tNil) σ I S (kL K t) (.ok []) S := em_lst K em_nilL (by simp)
theorem o_neNil : Op2 (rNeD K) (kL K t) ([] : List α) (kL K t) [] kB false := fun M v1 v2 H l a b Q q => by
  obtain ⟨p, vs, rfl, hp, ha⟩ := a
  obtain ⟨p2, vs2, rfl, hp2, ha2⟩ := b
  cases ha
  cases ha2
  exact ⟨.list [], .list [], .lst (ex_l del_le hp) .nil, .lst (ex_l del_le hp2) .nil, rfl, rfl, q _ H (Ex.refl H) rfl⟩
theorem told_r {X : Cx} {k i : Nat} {ag : L2.St → Prop} {params : Arguments} {body : Expr} {scope : Scope} {tb : XK → TE} (h4 : LamX.LamS X.env.scope scope) (h5 : ∀ (pm cv ctv : Value), bindArgs (PySem.W.kla_fn "<lambda>" (X.env.qual ++ "<lambda>") params body scope (cloFrom X.env.cells scope.names []) pm cv ctv) ⟨[], []⟩ = pure [])
    (h6 : ∀ (f cc : Addr) (A : Around) (outer : List Env) (s : Shared) (H : Hp) (E : XK), Room k (A.deeper (LamX.lamEnv X scope s.heap.objs.size f cc)) → PE (LamX.lamCx X A outer s H E scope f cc) body (tb E)) (hi : i < 11) (h9 : ∀ E M S σ' I', Ex I I' → ag σ' → Em E cl M (tb E) σ' I' S kN (.er i) S) :
    ∀ f cc I', Ex I I' → I' f = some (LamC f (X.env.qual ++ "<lambda>") params body scope (cloFrom X.env.cells scope.names []) cc) → I' cc = some (LamX.CodeO cc (X.env.qual ++ "<lambda>")) → (kTold X cl k ag).r I' (.ref f) (kindName i) := fun f cc I' e h2 h3 =>
  ⟨f, cc, params, body, scope, tb, i, rfl, h2, h3, h4, h5, h6 f cc, hi, rfl, fun E M S σ' I2 e2 => h9 E M S σ' I2 (e.trans e2)⟩
end
/-- where _law_told stands -/
def ToldF (K : PySem.W.Frag) (mg : Str → Option Value) : Prop := ∃ (g : Addr) (oc kV dc pm cdv ct : Value) (od an : Option Addr) (osl : Array (Option Value)), mg "_law_told" = some (.ref g) ∧ PySem.W.keepIn K (.ref g) = true ∧
  K.lookup g = some ⟨oc, od, .func (PySem.W.fnOf "_law_told" "_law_told" (defArgs sTold) (defBody sTold) (defScope sTold) .none kV dc pm an cdv ct), osl⟩ ∧ PySem.W.codeIn K cdv "_law_told" = true ∧ Binds K (PySem.W.fnOf "_law_told" "_law_told" (defArgs sTold) (defBody sTold) (defScope sTold) .none kV dc pm an cdv ct) ["what"] []
theorem Gr.back {M : List Addr} {S S1 : List Cell} {H H1 : Hp} {p : Addr} (w : Holds M S H) (g : Gr M S H H1) (w1 : Holds M S1 H1) (h : H1 p = none) : H p = none := by
  cases e : H p with
  | none => rfl
  | some o =>
    have pM : p ∉ M := fun z => w1.live p z h
    have := (del_some.mp (g.im p o (del_some.mpr ⟨pM, e⟩))).2
    rw [h] at this
    cases this
theorem Gr.lone2 {M : List Addr} {S : List Cell} {c : Cell} {H H1 H2 : Hp} (hp : H c.a = none) (a : Gr M S H H1) (b : Gr (c.a :: M) (c :: S) H1 H2) : Gr M S H H2 := by
  have go : ∀ A, Ex (del A H) (del A H1) → Ex (del (c.a :: A) H1) (del (c.a :: A) H2) → Ex (del A H) (del A H2) := fun A e f x o h => by
    obtain ⟨n, hx⟩ := del_some.mp h
    have n2 : x ∉ c.a :: A := fun z => by
      rcases List.mem_cons.mp z with z | z
      · rw [z, hp] at hx; cases hx
      · exact n z
    have g := (del_some.mp (e x o h)).2
    exact del_some.mpr ⟨n, (del_some.mp (f x o (del_some.mpr ⟨n2, g⟩))).2⟩
  exact ⟨go _ a.fr b.fr, go _ a.im b.im⟩
theorem small3 : Small ⟨[3], 0, 1, [], 2, 0⟩ := by
  refine ⟨⟨by decide, ?_, by decide, by decide, by decide, ?_, by decide, by decide, by decide⟩, by decide, by decide, by decide +kernel, by decide⟩
  · intro m hm
    rw [List.mem_singleton.mp hm]
    decide
  · intro y hy
    cases hy
def Pt (b : Bool) : Prop := b = true
end Rw
namespace Rw
open PySem PySem.Spec PyProof.Rows L2 Evl Cy
/-- a day, by its calendar and its number -/
def kDay (K : PySem.W.Frag) (C D : Addr) : Ty (Ca × Int) := ⟨fun H v x => ∃ p dx a, v = .ref p ∧ H p = some (.ins D dx (dayF a x.1 x.2)) ∧ CalP K C H a x.1 ∧ Small x.1, fun e ⟨p, dx, a, h1, h2, h3, h4⟩ => ⟨p, dx, a, h1, e _ _ h2, h3.ex e, h4⟩⟩
/-- the number of a date -/
def numAt (c : Ca) (y : Int) (m : Nat) (d : Int) : Int := c.firstOf y + c.ahead y m + d
section
variable {K : PySem.W.Frag} {α β γ δ R τ : Type} {E E' : XK} {cl : Nat → Addr} {M : List Addr} {σ : L2.St} {I I' H H' : Hp} {S S' S1 S2 S3 : List Cell} {te ta tb tc to : TE} {tt : TT} {tr : TA} {t : Ty α} {u : Ty β} {w' : Ty γ} {v : V} {C D : Addr} {c : Ca} {n : Int} {x : Ca × Int}
theorem em_dFld {nm : Str} {y : Int} (hc : Cls K D) (hn : NoAttr K D nm) (hl : ∀ a, (dayF a c n).lookup nm = some (.int y)) (h : Em E cl M to σ I S (kDay K C D) (.ok (c, n)) S') : Em E cl M (tFld K to nm) σ I S kI (.ok y) S' :=
  em_mk h.ad fun H1 i w Q q => em_of h H1 i w _ fun v H2 e w2 r => by
    obtain ⟨p, dx, a, rfl, h1, _⟩ := r
    exact ⟨p, D, dx, _, _, rfl, (del_some.mp h1).2, hc, hn, hl a, q _ H2 e w2 rfl⟩
theorem em_dNum (T : DayT K D) (h : Em E cl M to σ I S (kDay K C D) (.ok (c, n)) S') : Em E cl M (tFld K to "number") σ I S kI (.ok n) S' := em_dFld T.cls T.num (fun _ => rfl) h
theorem em_dYear (T : DayT K D) (h : Em E cl M to σ I S (kDay K C D) (.ok (c, n)) S') : Em E cl M (tFld K to "year") σ I S kI (.ok (yearOf c n)) S' := em_dFld T.cls T.year (fun _ => rfl) h
theorem em_dMonth (T : DayT K D) (h : Em E cl M to σ I S (kDay K C D) (.ok (c, n)) S') : Em E cl M (tFld K to "month") σ I S kI (.ok ((dateM c n : Nat) : Int)) S' := em_dFld T.cls T.month (fun _ => rfl) h
theorem em_dDay (T : DayT K D) (h : Em E cl M to σ I S (kDay K C D) (.ok (c, n)) S') : Em E cl M (tFld K to "day") σ I S kI (.ok (dateD c n)) S' := em_dFld T.cls T.day (fun _ => rfl) h
theorem em_dWd (T : DayT K D) (h : Em E cl M to σ I S (kDay K C D) (.ok (c, n)) S') : Em E cl M (tFld K to "weekday") σ I S kI (.ok (c.weekday n)) S' := em_dFld T.cls T.wd (fun _ => rfl) h
theorem em_dYd (T : DayT K D) (h : Em E cl M to σ I S (kDay K C D) (.ok (c, n)) S') : Em E cl M (tFld K to "year_day") σ I S kI (.ok (n - c.firstOf (yearOf c n))) S' := em_dFld T.cls T.yd (fun _ => rfl) h
theorem em_dCal (T : DayT K D) (h : Em E cl M to σ I S (kDay K C D) (.ok (c, n)) S') : Em E cl M (tFld K to "calendar") σ I S (kCal K C) (.ok c) S' :=
  em_mk h.ad fun H1 i w Q q => em_of h H1 i w _ fun v H2 e w2 r => by
    obtain ⟨p, dx, a, rfl, h1, h2, h3⟩ := r
    exact ⟨p, D, dx, _, _, rfl, (del_some.mp h1).2, T.cls, T.cal, rfl, q _ H2 e w2 ⟨a, rfl, h2, h3⟩⟩
theorem em_calMonths (T : CalT K C) (ho : Em E cl M to σ I S (kCal K C) (.ok c) S') : Em E cl M (tFld K to "months") σ I S (kT K kI) (.ok c.months) S' :=
  em_mk ho.ad fun H1 i w Q q => em_of ho H1 i w _ fun v H2 e w2 r => by
    obtain ⟨a, rfl, ⟨dx, tm, ty, dl, ts, kvs, st, h1, h2, _⟩, _⟩ := r
    exact ⟨a, C, dx, _, _, rfl, (del_some.mp h1).2, T.cls, T.months, rfl, q _ H2 e w2 ⟨tm, _, rfl, h2, all_intsR _⟩⟩
theorem em_calFw (T : CalT K C) (ho : Em E cl M to σ I S (kCal K C) (.ok c) S') : Em E cl M (tFld K to "first_weekday") σ I S kI (.ok c.fw) S' :=
  em_mk ho.ad fun H1 i w Q q => em_of ho H1 i w _ fun v H2 e w2 r => by
    obtain ⟨a, rfl, ⟨dx, tm, ty, dl, ts, kvs, st, h1, _⟩, _⟩ := r
    exact ⟨a, C, dx, _, _, rfl, (del_some.mp h1).2, T.cls, T.fw, rfl, q _ H2 e w2 rfl⟩
/-- Day(calendar, number) -/
theorem em_mkDay (h : Ea E cl M tr σ I S (aC (kCal K C) (aC kI a0)) (.ok (c, n, ())) S') : Em E cl M (tMake D (spDay K C D) [] E' tr) σ I S (kDay K C D) (.ok (c, n)) S' :=
  em_mk h.ad fun H1 i w Q q => ea_of h H1 i w _ fun vs H2 e2 w2 r2 => by
    obtain ⟨v, rs, rfl, ⟨a, rfl, hc, hs⟩, hb⟩ := r2
    obtain rfl := hB1 _ _ hb
    refine fun x dx nx nd ne => ?_
    have eN : Ex H2 (upd (upd H2 dx (.own x)) x (.ins D dx [])) := (Ex.new nd).trans (Ex.new (by rw [upd_ne (Ne.symm ne)]; exact nx))
    refine ⟨x, dx, a, n, c, rfl, upd_same, (hc.ex del_le).ex eN, hs, fun H' hx' eB => ⟨rfl, ?_⟩⟩
    have e3 : Ex H2 H' := fun b o e => eB b o (fun z => by rw [z, nx] at e; cases e) (eN _ _ e)
    exact q _ H' (e2.trans (ex_del e3)) (w2.ex e3) ⟨x, dx, a, rfl, del_at (fun z => w2.live _ z nx) hx', hc.ex (ex_del e3), hs⟩
theorem o_divmod {i j : Int} (h : CDiv i j) : OpN (fun xs H Q => ∃ i j, xs = [.int i, .int j] ∧ CDiv i j ∧ ∀ p, H p = none → Q (.ref p) (upd H p (.tup [.int (i / j), .int (i % j)]))) (aC kI (aC kI a0)) (i, j, ()) (k2 K kI kI) (i / j, i % j) := fun M us H l a Q q => by
  obtain rfl := hB2 _ _ a
  exact ⟨i, j, rfl, h, fun p hp => q _ _ (Ex.new hp) ⟨p, _, _, rfl, st_of (del_at (fresh_not l hp) upd_same), rfl, rfl⟩⟩
theorem o_min2 {i j : Int} : OpN (fun xs H Q => ∃ i j, xs = [V.int i, V.int j] ∧ Q (.int (if j < i then j else i)) H) (aC kI (aC kI a0)) (i, j, ()) kI (if j < i then j else i) := fun M us H l a Q q => by
  obtain rfl := hB2 _ _ a
  exact ⟨i, j, rfl, q _ H (Ex.refl H) rfl⟩
theorem o_max2 {i j : Int} : OpN (fun xs H Q => ∃ i j, xs = [V.int i, V.int j] ∧ Q (.int (if j > i then j else i)) H) (aC kI (aC kI a0)) (i, j, ()) kI (if j > i then j else i) := fun M us H l a Q q => by
  obtain rfl := hB2 _ _ a
  exact ⟨i, j, rfl, q _ H (Ex.refl H) rfl⟩
/-- a range that is kept -/
def kRng : Ty (Int × Int) := ⟨fun H v x => ∃ a, v = .ref a ∧ H a = some (.rng x.1 x.2), fun e ⟨a, h1, h2⟩ => ⟨a, h1, e _ _ h2⟩⟩
theorem o_range2 {i j : Int} : OpN (fun vs H Q => ∃ i j, vs = [V.int i, V.int j] ∧ ∀ p, H p = none → Q (.ref p) (upd H p (.rng i j))) (aC kI (aC kI a0)) (i, j, ()) kRng (i, j) := fun M us H l a Q q => by
  obtain rfl := hB2 _ _ a
  exact ⟨i, j, rfl, fun p hp => q _ _ (Ex.new hp) ⟨p, rfl, del_at (fresh_not l hp) upd_same⟩⟩
theorem ei_RV {lo n : Int} (h : Em E cl M te σ I S kRng (.ok (lo, n)) S') (b : -(2 ^ 62) ≤ lo ∧ lo < 2 ^ 62 ∧ -(2 ^ 62) ≤ n ∧ n < 2 ^ 62) : Ei E cl M (iRngV te) σ I S kI (rng lo n) S' :=
  ⟨h.ad, fun H1 i w R q => em_of h H1 i w _ fun v H2 e w2 r => by
    obtain ⟨a, rfl, ha⟩ := r
    refine ⟨a, lo, n, rfl, (del_some.mp ha).2, b, q _ H2 (fun _ => True) _ e w2 (by rw [rng_len]; exact walk_range) (fun _ _ => trivial) ?_⟩
    intro i H v H' x hx e2 y
    obtain ⟨rfl, rfl⟩ := y
    exact ⟨Ex.refl _, fun M' l e3 => by rw [(rng_at hx).1]; rfl⟩⟩
theorem o_ixLI {xs : List α} {x : α} {i : Int} (h : atI xs i = some x) : Op2 (rIxL K) (kL K t) xs kI i t x := fun M u w H l a b Q q => by
  obtain ⟨p, vs, rfl, hp, ha⟩ := a
  obtain rfl : w = .int i := b
  obtain ⟨j, hj, hx⟩ : ∃ j, ixN xs.length i = some j ∧ xs[j]? = some x := by
    unfold atI at h
    cases hj : ixN xs.length i with
    | none => rw [hj] at h; cases h
    | some j => rw [hj] at h; exact ⟨j, rfl, h⟩
  obtain ⟨v, hv, hr⟩ := ha.at2 hx
  refine ⟨p, vs, i, v, rfl, rfl, ex_l del_le hp, ?_, q v H (Ex.refl H) hr⟩
  unfold atI
  rw [ha.len]
  show (ixN xs.length i).bind _ = _
  rw [hj]
  exact hv
theorem ob_day {m : Str} (hl : ∀ a c n, (dayF a c n).lookup m = none) : Ob (kDay K C D) D m := fun H v x ⟨p, dx, a, e, h, _⟩ => ⟨p, dx, _, e, h, hl _ _ _⟩
theorem ob_cal {m : Str} (hl : ∀ c tm ty dl ts, (calF c tm ty dl ts).lookup m = none) : Ob (kCal K C) C m := fun H v x ⟨a, e, ⟨dx, tm, ty, dl, ts, kvs, st, h1, _⟩, _⟩ => ⟨a, dx, _, e, h1, hl _ _ _ _ _⟩
end
end Rw
namespace Rw
open PySem PySem.Spec PyProof.Rows L2 Evl Cy
/-- built-ins of the text's own names -/
structure BD (mg : Str → Option Value) : Prop where
  len : mg "len" = none
  min : mg "min" = none
  max : mg "max" = none
  range : mg "range" = none
  divmod : mg "divmod" = none
  sum : mg "sum" = none
  int : mg "int" = none
  abs : mg "abs" = none
def Pr {β : Type} (z r : Re β) : Prop := z = r
section
variable {K : PySem.W.Frag} {α β γ δ R τ : Type} {E E' : XK} {cl : Nat → Addr} {M : List Addr} {σ : L2.St} {I I' H H' : Hp} {S S' S1 S2 S3 : List Cell} {te ta tb tc to : TE} {tt : TT} {tr : TA} {t : Ty α} {u : Ty β} {w' : Ty γ} {v : V} {C D : Addr} {c : Ca} {n : Int} {x : α} {y : β}
theorem fMd_ok {y m : Int} (h : 0 ≤ m ∧ m < (c.months.length : Int)) : fMonthDays c ([.int y, .int m] ++ []) = some (.ok (.int (c.md y m.toNat))) := by
  show some (if _ then _ else _) = _
  rw [if_pos h]
theorem em_oldMw {m : Str} {f : Ca → List V → Option Rs} {z : V} {ws dvs : List V} {B : AR γ} {b : γ} (ho : Em E cl M to σ I S (kCal K C) (.ok c) S1) (h : Ea E cl M tr σ I S1 B (.ok b) S') (hB : ∀ H vs, B H vs b → vs = ws) (hm : ∀ tm ty dl ts, (calF c tm ty dl ts).lookup m = none) (hf : f c (ws ++ dvs) = some (.ok z)) (hr : ∀ H, u.r H z y) : Em E cl M (tMeth C m (spB false K C cl f) dvs E' to tr) σ I S u (.ok y) S' :=
  em_mk (h.ad.trans ho.ad) fun H1 i w Q q => em_of ho H1 i w _ fun v H2 e w2 r2 => by
    obtain ⟨a, rfl, hc, hs⟩ := r2
    have hc2 : CalP K C H2 a c := hc.ex del_le
    obtain ⟨dx, tm, ty, dl, ts, kvs, st, h1, hrest⟩ := hc2
    refine ⟨a, dx, _, rfl, h1, hm _ _ _ _, ea_of h H2 (i.trans (w.grow e)) w2 _ fun vs H3 e3 w3 r3 => ?_⟩
    obtain rfl := hB _ _ r3
    have hc3 : CalP K C H3 a c := (hc.ex (w2.grow e3)).ex del_le
    exact ⟨a, c, vs ++ dvs, _, rfl, hc3.weak, hs, hf, fun H4 e4 => q z H4 ((ads_tr ho.ad e e3).trans (ex_del e4)) (w3.ex e4) (hr _)⟩
/-- the last argument may raise -/
theorem em_consR {r : Re γ} {w : Ty γ} {ta tb : TE} (h : Em E cl M ta σ I S t (.ok x) S1) (k : Em E cl M tb σ I S1 w r S2) : Ea E cl M (tCons ta (tCons tb tNil)) σ I S (aC t (aC w a0)) (r.bind fun y => .ok (x, y, ())) S2 :=
  ⟨k.ad.trans h.ad, fun H1 i w Q q qe => em_of h H1 i w _ fun v H2 e w1 r1 => k.run H2 (i.trans (w.grow e)) w1 _ (fun y v2 H3 ey e2 w2 r2 => q (x, y, ()) [v, v2] H3 (by rw [ey]; rfl) (ads_tr h.ad e e2) w2 ⟨v, _, rfl, t.up (w1.grow e2) r1, v2, _, rfl, r2, rfl⟩)
    (fun j H3 ej e2 w2 => qe j H3 (by rw [ej]; rfl) (ads_tr h.ad e e2) w2)⟩
theorem em_mkDayR {r : Re Int} (h : Ea E cl M tr σ I S (aC (kCal K C) (aC kI a0)) (r.bind fun n => .ok (c, n, ())) S') : Em E cl M (tMake D (spDay K C D) [] E' tr) σ I S (kDay K C D) (r.bind fun n => .ok (c, n)) S' := by
  cases r with
  | ok n => exact em_mkDay h
  | er k => exact ⟨h.ad, fun H1 i w Q q qe => h.run H1 i w _ (fun x vs H2 z => nomatch z) fun j H2 ej e2 w2 => qe j H2 (by cases ej; rfl) e2 w2⟩
theorem em_chainR {r r' : R2} {b : Bool} {rz : Re γ} {b' : γ → Bool} {w : Ty γ} (ha : Em E cl M ta σ I S t (.ok x) S1) (hb : Em E cl M tb σ I S1 u (.ok y) S2) (hc : b = true → Em E cl M tc σ I S2 w rz S2) (ho : Op2 r t x u y kB b) (ho' : ∀ z, rz = .ok z → Op2 r' u y w z kB (b' z)) : Em E cl M (tChain r r' ta tb tc) σ I S kB (cond b (rz.bind fun z => .ok (b' z)) (.ok false)) S2 :=
  ⟨hb.ad.trans ha.ad, fun H1 i w Q q qe => em_of ha H1 i w _ fun v1 H2 e1 w1 r1 => em_of hb H2 (i.trans (w.grow e1)) w1 _ fun v2 H3 e2 w2 r2 =>
    ho M v1 v2 H3 w2.live (t.up (w1.grow e2) r1) r2 _ fun v H4 e3 r3 => by
      have e13 := (ads_tr ha.ad e1 e2).trans (ex_del e3)
      refine ⟨b, r3, ?_⟩
      cases b with
      | true =>
        rw [if_pos rfl]
        have a2 : ads S2 = ads S := hb.ad.trans ha.ad
        have w3 := w2.ex e3
        refine (hc rfl).run H4 (i.trans (w.grow e13)) (w2.ex e3) _ (fun z v4 H5 ez e4 w4 r4 => ?_) (fun k H5 ek e4 w4 => qe k H5 (by rw [ek]; rfl) (ads_tr a2 e13 e4) w4)
        exact ho' z ez M v2 v4 H5 w4.live (u.up ((ex_del e3).trans (w3.grow e4)) r2) r4 Q fun v5 H6 e5 r5 => q (b' z) v5 H6 (by rw [ez]; rfl) ((ads_tr a2 e13 e4).trans (ex_del e5)) (w4.ex e5) r5
      | false =>
        rw [if_neg Bool.false_ne_true]
        exact q false _ H4 rfl e13 (w2.ex e3) rfl⟩
theorem gt_testR {r : Re Bool} (h : Em E cl M te σ I S kB r S') : Et E cl M (tTest te) σ I S r S' := ⟨h.ad, fun H1 i w Q q qe => h.run H1 i w _ (fun b v H2 eb e w' r => ⟨b, r, q b H2 eb e w'⟩) qe⟩
theorem gt_notR {r : Re Bool} (h : Et E cl M tt σ I S r S') : Et E cl M (tNot tt) σ I S (r.bind fun b => .ok (!b)) S' := ⟨h.ad, fun H1 i w Q q qe => h.run H1 i w _ (fun b H2 eb e w' => q (!b) H2 (by rw [eb]; rfl) e w') (fun k H2 ek e w' => qe k H2 (by rw [ek]; rfl) e w')⟩
/-- a test that may raise, of a def that may -/
theorem g_ifX {P : Re β → Prop} {A B : Re β} {r : Re Bool} {tu tw tz : TS} {D : Ends} (w : Holds M S H) (o : P (lr r fun b => cond b A B)) (h : Et E cl M tt σ (del M H) S r S') (c1 : r = .ok true → P A → ∀ H2, Gr M S H H2 → Holds M S' H2 → tu { D with nx := tz D } σ H2) (c2 : r = .ok false → P B → ∀ H2, Gr M S H H2 → Holds M S' H2 → tw { D with nx := tz D } σ H2)
    (c3 : ∀ k H2, r = .er k → P (.er k) → Gr M S H H2 → Holds M S' H2 → E (.ref (cl k)) none H2) : tSeq (tIfS tt tu tw) tz D σ H :=
  h.run H (Ex.refl _) w _ (fun b H2 eb e w2 => by
    subst eb
    cases b with
    | true => exact c1 rfl o H2 (.of w e) w2
    | false => exact c2 rfl o H2 (.of w e) w2) fun k H2 ek e w2 => c3 k H2 ek (by subst ek; exact o) (.of w e) w2
/-- x += e -/
theorem g_aug {i : Nat} {P : R → Prop} {k : Int → R} {a b z : Int} {tip : TIp} {tz : TS} {D : Ends} (w : Holds M S H) (o : P (lt z k)) (hσ : σ[i]? = some (some (.int a))) (h : Em E cl M te σ (del M H) S kI (.ok b) S') (ht : ∀ H Q, Q (.int z) H → tip (.int a) (.int b) H Q) (c : ∀ x' H2, x' = z → P (k x') → Gr M S H H2 → Holds M S' H2 → tz D (σ.set i (some (.int x'))) H2) : tSeq (tAug i te tip) tz D σ H :=
  ⟨_, hσ, em_of h H (Ex.refl _) w _ fun v H2 e w2 r => by
    obtain rfl : v = .int b := r
    exact ht H2 _ (c z H2 rfl o (.of w e) w2)⟩
theorem g_augL {i : Nat} {P : R → Prop} {k : Int → R} {a b z : Int} {tip : TIp} {D : Ends} (w : Holds M S H) (o : P (lt z k)) (hσ : σ[i]? = some (some (.int a))) (h : Em E cl M te σ (del M H) S kI (.ok b) S') (ht : ∀ H Q, Q (.int z) H → tip (.int a) (.int b) H Q) (c : ∀ x' H2, x' = z → P (k x') → Gr M S H H2 → Holds M S' H2 → D.nx (σ.set i (some (.int x'))) H2) : tAug i te tip D σ H :=
  ⟨_, hσ, em_of h H (Ex.refl _) w _ fun v H2 e w2 r => by
    obtain rfl : v = .int b := r
    exact ht H2 _ (c z H2 rfl o (.of w e) w2)⟩
theorem hold0 {H : Hp} {M : List Addr} (l : ∀ m ∈ M, H m ≠ none) : Holds M [] H := ⟨fun c hc => (by cases hc), List.nodup_nil, l⟩
end
end Rw
namespace Rw
open PySem PySem.Spec PyProof.Rows L2 Evl Cy
section
variable {P : Program} {w : World} {K : PySem.W.Frag} {mg : Str → Option Value} {base : Heap} {C D : Addr} {cl : Nat → Addr}
theorem args_m0 {x : Ca × Int} : ∀ (H : Hp) (v : V) (vs : List V), (kDay K C D).r H v x → a0 H vs () → aC (kDay K C D) a0 H (v :: (vs ++ [])) (x, ()) := fun H v vs r h => by
  obtain rfl : vs = [] := h
  exact ⟨v, [], rfl, r, rfl⟩

abbrev s_month_number : Stmt := inClass (topS 15) 3
def month_numberN : List Str := ["self"]
theorem sc_month_number : FnScope month_numberN ["self"] (defScope s_month_number) := ⟨rfl, rfl, rfl, by decide +kernel, rfl, by decide +kernel, by decide +kernel⟩
def f_month_number : (Ca × Int) × Unit → Re Int := fun a => match a with
  | ((c0, n0), _) =>
    (.ok (((yearOf c0 n0) * ((Ca.months c0).length : Int)) + ((dateM c0 n0 : Nat) : Int)))
def pre_month_number : (Ca × Int) × Unit → Prop := fun a => match a with
  | ((c0, n0), _) => True
abbrev sp_month_number (K : PySem.W.Frag) (C D : Addr) (cl : Nat → Addr) : Sp := spD (aC (kDay K C D) a0) pre_month_number f_month_number kI cl
theorem ok_month_number {f : Addr} {fd : FuncData} (F : Fun K "month_number" "Day.month_number" s_month_number f fd) (TC : CalT K C) (TD : DayT K D) (B : BD mg)  : FnOk P w K mg base (L2.CX P w) 1 f fd ["self"] (sp_month_number K C D cl) := by
  refine F.okX sc_month_number (fun vs H Q E h => ?_) (fun cdv A outer s H vs Q E hr h => ?_)
  · obtain ⟨M, a, live, hA, _⟩ := h
    obtain ⟨v0, _, rfl, r0, rfl⟩ := hA
    rfl
  · obtain ⟨M, ⟨⟨c0, n0⟩, _⟩, live, hA, hpre, qok, qer⟩ := h
    obtain ⟨v0, _, rfl, r0, rfl⟩ := hA
    have sm0 : Small c0 := by obtain ⟨_, _, _, _, _, _, z⟩ := r0; exact z
    have ok0 := sm0.ok
    have wk0 := ok0.wk
    have wl0 := sm0.wk
    have len0 := sm0.len
    obtain ⟨dm0, d00, d10, dn0⟩ := date_at ok0 n0
    have w0 : Holds M [] H := hold0 live
    have o0 : Pr (f_month_number ((c0, n0), ())) ((.ok (((yearOf c0 n0) * ((Ca.months c0).length : Int)) + ((dateM c0 n0 : Nat) : Int)))) := rfl
    refine ⟨_, pss_one (ps_ret (pe_op op_add (pe_op op_mul (pe_fld (pv 0) rfl) (pe_callB call_len_seq (by rfl) B.len (by decide +kernel) (pa_cons (pe_fld (pe_fld (pv 0) rfl) rfl) pa_nil))) (pe_fld (pv 0) rfl))), ?_⟩
    refine g_ret (E := E) (cl := cl) (t := kI) (x := (((yearOf c0 n0) * ((Ca.months c0).length : Int)) + ((dateM c0 n0 : Nat) : Int))) w0 (em_op (em_op (em_dYear TD (em_var (t := (kDay K C D)) (v := v0) (x := (c0, n0)) rfl r0)) (em_cb (em_cons (em_calMonths TC (em_dCal TD (em_var (t := (kDay K C D)) (v := v0) (x := (c0, n0)) rfl r0))) em_nil) o_lenT) (o_IC (by first | exact .inl ⟨by omega, by omega⟩ | exact .inr ⟨by omega, by omega⟩))) (em_dMonth TD (em_var (t := (kDay K C D)) (v := v0) (x := (c0, n0)) rfl r0)) o_I) (fun v_1 H_2 g_3 w_4 r_5 => ?_)
    exact qok _ v_1 H_2 o0 (show Ex H _ from Gr.fr g_3) r_5

theorem f_month_number_is {c : Ca} {n : Int} : f_month_number ((c, n), ()) = .ok (yearOf c n * (List.length (Ca.months c) : Int) + ((dateM c n : Nat) : Int)) := rfl






end
end Rw
namespace Rw
open PySem PySem.Spec PyProof.Rows L2 Evl Cy
section
variable {K : PySem.W.Frag} {α β γ δ R τ : Type} {E E' : XK} {cl : Nat → Addr} {M : List Addr} {σ : L2.St} {I I' H H' : Hp} {S S' S1 S2 S3 : List Cell} {te ta tb tc to : TE} {tt : TT} {tr : TA} {t : Ty α} {u : Ty β} {w' : Ty γ} {v : V} {C D : Addr} {c : Ca} {n : Int} {x : α} {y : β}
theorem em_mdR {y m : Int} (ho : Em E cl M to σ I S (kCal K C) (.ok c) S1) (h : Ea E cl M tr σ I S1 (aC kI (aC kI a0)) (.ok (y, m, ())) S') : Em E cl M (tMeth C "month_days" (spM K C cl fMonthDays) [] E to tr) σ I S kI (if 0 ≤ m ∧ m < (c.months.length : Int) then .ok (c.md y m.toNat) else .er 1) S' := by
  by_cases hm : 0 ≤ m ∧ m < (c.months.length : Int)
  · rw [if_pos hm]
    exact em_oldM ho h hB2 (fun _ _ _ _ => rfl) (fMd_ok hm) rsI
  · rw [if_neg hm]
    refine ⟨h.ad.trans ho.ad, fun H1 i w Q q qe => em_of ho H1 i w _ fun v H2 e w2 r2 => ?_⟩
    obtain ⟨a, rfl, hc, hs⟩ := r2
    have hc2 : CalP K C H2 a c := hc.ex del_le
    obtain ⟨dx, tm, ty, dl, ts, kvs, st, h1, hrest⟩ := hc2
    refine ⟨a, dx, _, rfl, h1, rfl, ea_of h H2 (i.trans (w.grow e)) w2 _ fun vs H3 e3 w3 r3 => ?_⟩
    obtain rfl := hB2 _ _ r3
    have hc3 : CalP K C H3 a c := (hc.ex (w2.grow e3)).ex del_le
    refine ⟨a, c, [.int y, .int m], .err 1, rfl, hc3, hs, ?_, fun H4 e4 => qe 1 H4 rfl ((ads_tr ho.ad e e3).trans (ex_del e4)) (w3.ex e4)⟩
    show some (if _ then _ else _) = _
    rw [if_neg hm]
theorem args_m {A : AR β} {b : β} : ∀ (H : Hp) (v : V) (vs : List V), t.r H v x → A H vs b → aC t A H (v :: (vs ++ [])) (x, b) := fun H v vs r h => ⟨v, vs ++ [], rfl, r, by rw [List.append_nil]; exact h⟩
theorem at_in {xs : List Int} {i : Int} (h : 0 - (xs.length : Int) ≤ i ∧ i < (xs.length : Int)) : atI xs i = some ((atI xs i).getD 0) := by
  have k : ∀ j : Nat, j < xs.length → (some j).bind (fun j => xs[j]?) = some (((some j).bind fun j => xs[j]?).getD 0) := fun j hj => by
    show xs[j]? = some (xs[j]?.getD 0)
    rw [List.getElem?_eq_getElem hj]
    rfl
  unfold atI ixN
  by_cases h0 : 0 ≤ i
  · rw [if_pos h0, if_pos h.2]
    exact k _ (by omega)
  · rw [if_neg h0, if_pos (by omega)]
    exact k _ (by omega)
end
end Rw
namespace Rw
open PySem PySem.Spec PyProof.Rows L2 Evl Cy
section
variable {P : Program} {w : World} {K : PySem.W.Frag} {mg : Str → Option Value} {base : Heap} {C D : Addr} {cl : Nat → Addr}

theorem num_in {c : Ca} {y m d : Int} (h : ((cond (decide ((0 : Int) ≤ d)) (Re.bind (if 0 ≤ m ∧ m < (List.length (Ca.months c) : Int) then .ok (Ca.md c y (m).toNat) else .er 1) fun z => .ok (decide (d < z))) (.ok false)).bind fun b => .ok (!b)) = Re.ok false) : 0 ≤ m ∧ m < (c.months.length : Int) := by
  by_cases hm : 0 ≤ m ∧ m < (c.months.length : Int)
  · exact hm
  · rw [if_neg hm] at h
    by_cases hd : 0 ≤ d
    · rw [decide_eq_true hd] at h
      cases h
    · rw [decide_eq_false hd] at h
      cases h

abbrev s_number_of : Stmt := inClass (topS 32) 6
def number_ofN : List Str := ["self", "year", "month", "day", "ahead", "earlier"]
theorem sc_number_of : FnScope number_ofN ["self", "year", "month", "day"] (defScope s_number_of) := ⟨rfl, rfl, rfl, by decide +kernel, rfl, by decide +kernel, by decide +kernel⟩
def f_number_of : Ca × Int × Int × Int × Unit → Re Int := fun a => match a with
  | (c0, x1, x2, x3, _) =>
    lr ((cond (decide ((0 : Int) ≤ x3)) (Re.bind (if 0 ≤ x2 ∧ x2 < (List.length (Ca.months c0) : Int) then .ok (Ca.md c0 x1 (x2).toNat) else .er 1) fun z => .ok (decide (x3 < z))) (.ok false)).bind fun b => .ok (!b)) fun b => cond b (.er 1)
    (lt (((rng 0 x2).map (fun x_29 => (Ca.md c0 x1 (x_29).toNat))).sum) fun ahead_40 =>
    (.ok (((Ca.firstOf c0 x1) + ahead_40) + x3)))
def pre_number_of : Ca × Int × Int × Int × Unit → Prop := fun a => match a with
  | (c0, x1, x2, x3, _) => True
abbrev sp_number_of (K : PySem.W.Frag) (C D : Addr) (cl : Nat → Addr) : Sp := spD (aC (kCal K C) (aC kI (aC kI (aC kI a0)))) pre_number_of f_number_of kI cl
theorem ok_number_of {f : Addr} {fd : FuncData} (F : Fun K "number_of" "Calendar.number_of" s_number_of f fd) (TC : CalT K C) (TD : DayT K D) (B : BD mg) (mMD : Mt P w K mg base 2 C "month_days" (spM K C cl fMonthDays) []) (mFO : Mt P w K mg base 2 C "first_of" (spM K C cl fFirstOf) []) (xBadDay : Exc1 K mg "BadDay" (cl 1)) : FnOk P w K mg base (L2.CX P w) 3 f fd ["self", "year", "month", "day"] (sp_number_of K C D cl) := by
  refine F.okX sc_number_of (fun vs H Q E h => ?_) (fun cdv A outer s H vs Q E hr h => ?_)
  · obtain ⟨M, a, live, hA, _⟩ := h
    obtain ⟨v0, _, rfl, r0, v1, _, rfl, r1, v2, _, rfl, r2, v3, _, rfl, r3, rfl⟩ := hA
    rfl
  · obtain ⟨M, ⟨c0, x1, x2, x3, _⟩, live, hA, hpre, qok, qer⟩ := h
    obtain ⟨v0, _, rfl, r0, v1, _, rfl, r1, v2, _, rfl, r2, v3, _, rfl, r3, rfl⟩ := hA
    obtain rfl : v1 = (.int x1) := r1
    obtain rfl : v2 = (.int x2) := r2
    obtain rfl : v3 = (.int x3) := r3
    have sm0 : Small c0 := by obtain ⟨_, _, _, z⟩ := r0; exact z
    have ok0 := sm0.ok
    have wk0 := ok0.wk
    have wl0 := sm0.wk
    have len0 := sm0.len
    have lm00 := ok0.lm0
    have lm10 := ok0.lm1
    have w0 : Holds M [] H := hold0 live
    have o0 : Pr (f_number_of (c0, x1, x2, x3, ())) (lr ((cond (decide ((0 : Int) ≤ x3)) (Re.bind (if 0 ≤ x2 ∧ x2 < (List.length (Ca.months c0) : Int) then .ok (Ca.md c0 x1 (x2).toNat) else .er 1) fun z => .ok (decide (x3 < z))) (.ok false)).bind fun b => .ok (!b)) fun b => cond b (.er 1)
(lt (((rng 0 x2).map (fun x_29 => (Ca.md c0 x1 (x_29).toNat))).sum) fun ahead_40 =>
(.ok (((Ca.firstOf c0 x1) + ahead_40) + x3)))) := rfl
    refine ⟨_, pss_cons (ps_if (pt_not (pt_chain op_le op_lt pe_int (pv 3) (pe_mk mMD hr (by decide) (passE (E := E)) (pv 0) (pa_cons (pv 1) (pa_cons (pv 2) pa_nil))))) (pss_one (ps_raiseX xBadDay)) pss_nil) (pss_cons (ps_set (i := 4) sc_number_of.nd rfl (.inl rfl) (pe_callB (cr_sum rfl) (by rfl) B.sum (by decide +kernel) (pa_cons (pe_lc (own := [("earlier", 5)]) (g := gName 5) (tt := tYes) rfl sc_number_of.nd (pi_range1 rfl B.range (pa_cons (pv 2) pa_nil)) (blkOk_by (own := [("earlier", 5)]) (N := number_ofN) (sc := defScope s_number_of) (by decide +kernel)) (fun _ _ _ _ _ => pg_name (i := 5) sc_number_of.nd rfl (Or.inl rfl)) (fun _ _ _ _ _ => pts_nil) (fun _ _ _ _ _ => (pe_mk mMD hr (by decide) passL (pv 0) (pa_cons (pv 1) (pa_cons (pv 5) pa_nil))))) pa_nil))) (pss_one (ps_ret (pe_op op_add (pe_op op_add (pe_mk mFO hr (by decide) passL (pv 0) (pa_cons (pv 1) pa_nil)) (pv 4)) (pv 3))))), ?_⟩
    refine g_ifX (E := E) (cl := cl) (r := ((cond (decide ((0 : Int) ≤ x3)) (Re.bind (if 0 ≤ x2 ∧ x2 < (List.length (Ca.months c0) : Int) then .ok (Ca.md c0 x1 (x2).toNat) else .er 1) fun z => .ok (decide (x3 < z))) (.ok false)).bind fun b => .ok (!b))) w0 o0 (gt_notR (gt_testR (em_chainR em_int (em_var (t := kI) (v := .int x3) (x := x3) rfl rfl) (fun _ => em_mdR (em_var (t := kCal K C) (v := v0) (x := c0) rfl r0) (em_cons (em_var (t := kI) (v := .int x1) (x := x1) rfl rfl) (em_cons (em_var (t := kI) (v := .int x2) (x := x2) rfl rfl) em_nil))) o_IB (fun _ _ => o_IB)))) (fun hb_2 o_3 H_1 g_4 w_5 => ?_) (fun hb_7 o_8 H_6 g_9 w_10 => ?_) (fun k_11 H_12 e_13 o_14 g_15 w_16 => ?_)
    · exact qer 1 _ o_3 (show Ex H _ from Gr.fr g_4)
    · have mIn : 0 ≤ x2 ∧ x2 < (List.length (Ca.months c0) : Int) := num_in hb_7
      have r_17 := (kCal K C).up g_9.im r0
      refine g_asg (E := E) (cl := cl) (i := 4) (t := kI) (x := (((rng 0 x2).map (fun x_29 => (Ca.md c0 x1 (x_29).toNat))).sum)) w_10 o_8 (em_cb (em_cons (em_eq (em_lc (K := K) (u := kI) (fun _ => true) (fun x_29 => (Ca.md c0 x1 (x_29).toNat)) (ei_R1 (em_cons (em_var (t := kI) (v := (.int x2)) (x := x2) rfl rfl) em_nil) (by refine ⟨by omega, by omega⟩)) (by rw [rng_len]; omega) eg_name (fun _ _ _ b => by obtain ⟨_, rfl, rfl⟩ := b; rfl) (fun _ _ _ _ _ _ _ _ => gt_yes) (fun M_35 S_36 I_30 x_29 s_34 e_31 m_32 c_39 b_33 => by obtain ⟨_, rfl, rfl⟩ := b_33; rw [rng_mem] at m_32; exact (em_oldM (y := (Ca.md c0 x1 (x_29).toNat)) (em_var (t := (kCal K C)) (v := v0) (x := c0) rfl ((kCal K C).up e_31 r_17)) (em_cons (em_var (t := kI) (v := (.int x1)) (x := x1) rfl rfl) (em_cons (em_var (t := kI) (v := (.int x_29)) (x := x_29) rfl rfl) em_nil)) hB2 (fun _ _ _ _ => rfl) (fMd_ok (by omega)) rsI))) (by rw [filter_yes])) em_nil) o_sumL) (fun ahead_40 v_41 H_42 hx_43 o_44 g_45 w_46 r_47 => ?_)
      have r_48 := (kCal K C).up g_45.im r_17
      obtain rfl : v_41 = (.int ahead_40) := r_47
      refine g_ret (E := E) (cl := cl) (t := kI) (x := (((Ca.firstOf c0 x1) + ahead_40) + x3)) w_46 (em_op (em_op (em_oldM (y := (Ca.firstOf c0 x1)) (em_var (t := (kCal K C)) (v := v0) (x := c0) rfl r_48) (em_cons (em_var (t := kI) (v := (.int x1)) (x := x1) rfl rfl) em_nil) hB1 (fun _ _ _ _ => rfl) rfl rsI) (em_var (t := kI) (v := (.int ahead_40)) (x := ahead_40) rfl rfl) o_I) (em_var (t := kI) (v := (.int x3)) (x := x3) rfl rfl) o_I) (fun v_49 H_50 g_51 w_52 r_53 => ?_)
      exact qok _ v_49 H_50 o_44 (show Ex H _ from Gr.fr ((g_9.then g_45 rfl).then g_51 rfl)) r_53
    · exact qer _ _ o_14 (show Ex H _ from Gr.fr g_15)

theorem ahead_rng {c : Ca} {y m : Int} (h : 0 ≤ m) : ((rng 0 m).map fun x => c.md y x.toNat).sum = c.ahead y m.toNat := by
  rw [← sizes_sum]
  unfold rng
  rw [List.map_map, show m - 0 = m by omega]
  congr 1
  apply List.map_congr_left
  intro k _
  show c.md y ((0 : Int) + (k : Int)).toNat = _
  congr 1
  omega
theorem number_ok {c : Ca} {y m d : Int} (h : 0 ≤ m ∧ m < (c.months.length : Int) ∧ 0 ≤ d ∧ d < c.md y m.toNat) : f_number_of (c, y, m, d, ()) = .ok (numAt c y m.toNat d) := by
  unfold f_number_of
  simp only [lr, Re.bind, if_pos (show 0 ≤ m ∧ m < (c.months.length : Int) from ⟨h.1, h.2.1⟩), decide_eq_true h.2.2.1, decide_eq_true h.2.2.2, cond_true, Bool.not_true, cond_false, lt, numAt, ahead_rng h.1]
theorem number_no {c : Ca} {y m d : Int} (h : ¬ (0 ≤ m ∧ m < (c.months.length : Int) ∧ 0 ≤ d ∧ d < c.md y m.toNat)) : f_number_of (c, y, m, d, ()) = .er 1 := by
  unfold f_number_of
  by_cases hd : 0 ≤ d
  · by_cases hm : 0 ≤ m ∧ m < (c.months.length : Int)
    · have hd2 : ¬ d < c.md y m.toNat := fun z => h ⟨hm.1, hm.2, hd, z⟩
      simp only [lr, Re.bind, if_pos hm, decide_eq_true hd, decide_eq_false hd2, cond_true, Bool.not_false]
    · simp only [lr, Re.bind, if_neg hm, decide_eq_true hd, cond_true]
  · simp only [lr, Re.bind, decide_eq_false hd, cond_false, Bool.not_false, cond_true]

abbrev s_day_of : Stmt := topS 16
def day_ofN : List Str := ["calendar", "year", "month", "day"]
theorem sc_day_of : FnScope day_ofN ["calendar", "year", "month", "day"] (defScope s_day_of) := ⟨rfl, rfl, rfl, by decide +kernel, rfl, by decide +kernel, by decide +kernel⟩
def f_day_of : Ca × Int × Int × Int × Unit → Re (Ca × Int) := fun a => match a with
  | (c0, x1, x2, x3, _) =>
    (Re.bind (f_number_of (c0, x1, x2, x3, ())) fun n => .ok (c0, n))
def pre_day_of : Ca × Int × Int × Int × Unit → Prop := fun a => match a with
  | (c0, x1, x2, x3, _) => True
abbrev sp_day_of (K : PySem.W.Frag) (C D : Addr) (cl : Nat → Addr) : Sp := spD (aC (kCal K C) (aC kI (aC kI (aC kI a0)))) pre_day_of f_day_of (kDay K C D) cl
theorem ok_day_of {f : Addr} {fd : FuncData} (F : Fun K "day_of" "day_of" s_day_of f fd) (TC : CalT K C) (TD : DayT K D) (B : BD mg) (mNO : Mt P w K mg base 3 C "number_of" (sp_number_of K C D cl) []) (nD : Nw P w K mg base 4 "Day" D (spDay K C D) []) : FnOk P w K mg base (L2.CX P w) 6 f fd ["calendar", "year", "month", "day"] (sp_day_of K C D cl) := by
  refine F.okX sc_day_of (fun vs H Q E h => ?_) (fun cdv A outer s H vs Q E hr h => ?_)
  · obtain ⟨M, a, live, hA, _⟩ := h
    obtain ⟨v0, _, rfl, r0, v1, _, rfl, r1, v2, _, rfl, r2, v3, _, rfl, r3, rfl⟩ := hA
    rfl
  · obtain ⟨M, ⟨c0, x1, x2, x3, _⟩, live, hA, hpre, qok, qer⟩ := h
    obtain ⟨v0, _, rfl, r0, v1, _, rfl, r1, v2, _, rfl, r2, v3, _, rfl, r3, rfl⟩ := hA
    obtain rfl : v1 = (.int x1) := r1
    obtain rfl : v2 = (.int x2) := r2
    obtain rfl : v3 = (.int x3) := r3
    have sm0 : Small c0 := by obtain ⟨_, _, _, z⟩ := r0; exact z
    have ok0 := sm0.ok
    have wk0 := ok0.wk
    have wl0 := sm0.wk
    have len0 := sm0.len
    have lm00 := ok0.lm0
    have lm10 := ok0.lm1
    have w0 : Holds M [] H := hold0 live
    have o0 : Pr (f_day_of (c0, x1, x2, x3, ())) ((Re.bind (f_number_of (c0, x1, x2, x3, ())) fun n => .ok (c0, n))) := rfl
    refine ⟨_, pss_one (ps_ret (pe_nw nD hr (by decide) passL (pa_cons (pv 0) (pa_cons (pe_mk mNO hr (by decide) (passE (E := E)) (pv 0) (pa_cons (pv 1) (pa_cons (pv 2) (pa_cons (pv 3) pa_nil)))) pa_nil)))), ?_⟩
    refine g_retX (E := E) (cl := cl) (t := (kDay K C D)) (r := (Re.bind (f_number_of (c0, x1, x2, x3, ())) fun n => .ok (c0, n))) w0 (em_mkDayR (em_consR (em_var (t := (kCal K C)) (v := v0) (x := c0) rfl r0) (em_meth (b := (x1, x2, x3, ())) (em_var (t := (kCal K C)) (v := v0) (x := c0) rfl r0) (ob_cal fun _ _ _ _ _ => rfl) (em_cons (em_var (t := kI) (v := (.int x1)) (x := x1) rfl rfl) (em_cons (em_var (t := kI) (v := (.int x2)) (x := x2) rfl rfl) (em_cons (em_var (t := kI) (v := (.int x3)) (x := x3) rfl rfl) em_nil))) args_m trivial))) (fun x_59 v_54 H_55 e_60 g_56 w_57 r_58 => ?_) (fun k_61 H_62 e_63 g_64 w_65 => ?_)
    · exact qok _ v_54 H_55 (Eq.trans o0 e_60) (show Ex H _ from Gr.fr g_56) r_58
    · exact qer _ _ (Eq.trans o0 e_63) (show Ex H _ from Gr.fr g_64)

theorem day_of_ok {c : Ca} {y m d : Int} (h : 0 ≤ m ∧ m < (c.months.length : Int) ∧ 0 ≤ d ∧ d < c.md y m.toNat) : f_day_of (c, y, m, d, ()) = .ok (c, numAt c y m.toNat d) := by
  show Re.bind (f_number_of _) _ = _
  rw [number_ok h]
  rfl

end
end Rw
namespace Rw
open PySem PySem.Spec PyProof.Rows L2 Evl Cy
section
variable {P : Program} {w : World} {K : PySem.W.Frag} {mg : Str → Option Value} {base : Heap} {C D : Addr} {cl : Nat → Addr}

abbrev s_months_on : Stmt := topS 17
def months_onN : List Str := ["day", "many", "held", "year", "month", "size"]
theorem sc_months_on : FnScope months_onN ["day", "many", "held"] (defScope s_months_on) := ⟨rfl, rfl, rfl, by decide +kernel, rfl, by decide +kernel, by decide +kernel⟩
def f_months_on : (Ca × Int) × Int × Bool × Unit → Re (Ca × Int) := fun a => match a with
  | ((c0, n0), x1, x2, _) =>
    lt (((yearOf c0 n0 * (List.length (Ca.months c0) : Int) + ((dateM c0 n0 : Nat) : Int)) + x1) / ((Ca.months c0).length : Int), ((yearOf c0 n0 * (List.length (Ca.months c0) : Int) + ((dateM c0 n0 : Nat) : Int)) + x1) % ((Ca.months c0).length : Int)) fun p_1 =>
    lt (Ca.md c0 p_1.1 (p_1.2).toNat) fun size_9 =>
    cond ((decide (size_9 ≤ (dateD c0 n0))) && (!x2))
    ((.er 1))
    ((.ok (c0, (numAt c0 p_1.1 (p_1.2).toNat (if (size_9 - (1 : Int)) < (dateD c0 n0) then (size_9 - (1 : Int)) else (dateD c0 n0))))))
def pre_months_on : (Ca × Int) × Int × Bool × Unit → Prop := fun a => match a with
  | ((c0, n0), x1, x2, _) => True
abbrev sp_months_on (K : PySem.W.Frag) (C D : Addr) (cl : Nat → Addr) : Sp := spD (aC (kDay K C D) (aC kI (aC kB a0))) pre_months_on f_months_on (kDay K C D) cl
theorem ok_months_on {f : Addr} {fd : FuncData} (F : L2.FunD K "months_on" "months_on" (defArgs s_months_on) (defBody s_months_on) (defScope s_months_on) [.bl true] [] f fd) (TC : CalT K C) (TD : DayT K D) (B : BD mg) (d_month_number : Mt P w K mg base 1 D "month_number" (sp_month_number K C D cl) []) (mMD : Mt P w K mg base 2 C "month_days" (spM K C cl fMonthDays) []) (c_day_of : Cal P w K mg base 6 "day_of" (sp_day_of K C D cl) []) (xBadDay : Exc1 K mg "BadDay" (cl 1)) : FnOk P w K mg base (L2.CX P w) 7 f fd ["day", "many", "held"] (sp_months_on K C D cl) := by
  refine F.ok sc_months_on (fun vs H Q E h => ?_) (fun cdv A outer s H vs Q E hr h => ?_)
  · obtain ⟨M, a, live, hA, _⟩ := h
    obtain ⟨v0, _, rfl, r0, v1, _, rfl, r1, v2, _, rfl, r2, rfl⟩ := hA
    rfl
  · obtain ⟨M, ⟨⟨c0, n0⟩, x1, x2, _⟩, live, hA, hpre, qok, qer⟩ := h
    obtain ⟨v0, _, rfl, r0, v1, _, rfl, r1, v2, _, rfl, r2, rfl⟩ := hA
    obtain rfl : v1 = (.int x1) := r1
    obtain rfl : v2 = (.bl x2) := r2
    have sm0 : Small c0 := by obtain ⟨_, _, _, _, _, _, z⟩ := r0; exact z
    have ok0 := sm0.ok
    have wk0 := ok0.wk
    have wl0 := sm0.wk
    have len0 := sm0.len
    obtain ⟨dm0, d00, d10, dn0⟩ := date_at ok0 n0
    have w0 : Holds M [] H := hold0 live
    have o0 : Pr (f_months_on ((c0, n0), x1, x2, ())) (lt (((yearOf c0 n0 * (List.length (Ca.months c0) : Int) + ((dateM c0 n0 : Nat) : Int)) + x1) / ((Ca.months c0).length : Int), ((yearOf c0 n0 * (List.length (Ca.months c0) : Int) + ((dateM c0 n0 : Nat) : Int)) + x1) % ((Ca.months c0).length : Int)) fun p_1 =>
lt (Ca.md c0 p_1.1 (p_1.2).toNat) fun size_9 =>
cond ((decide (size_9 ≤ (dateD c0 n0))) && (!x2))
((.er 1))
((.ok (c0, (numAt c0 p_1.1 (p_1.2).toNat (if (size_9 - (1 : Int)) < (dateD c0 n0) then (size_9 - (1 : Int)) else (dateD c0 n0))))))) := rfl
    refine ⟨_, pss_cons (ps_asg (pe_callB call_divmod (by rfl) B.divmod (by decide +kernel) (pa_cons (pe_op op_add (pe_mk0 d_month_number hr (by decide) passL (pv 0)) (pv 1)) (pa_cons (pe_callB call_len_seq (by rfl) B.len (by decide +kernel) (pa_cons (pe_fld (pe_fld (pv 0) rfl) rfl) pa_nil)) pa_nil))) (pg_tup rfl (pgs_cons (pg_name (i := 3) sc_months_on.nd rfl (.inl rfl)) (pgs_cons (pg_name (i := 4) sc_months_on.nd rfl (.inl rfl)) pgs_nil)))) (pss_cons (ps_set (i := 5) sc_months_on.nd rfl (.inl rfl) (pe_mk mMD hr (by decide) passL (pe_fld (pv 0) rfl) (pa_cons (pv 3) (pa_cons (pv 4) pa_nil)))) (pss_cons (ps_if (PW.pt (pw_and (pt_cmpR op_ge (pe_fld (pv 0) rfl) (pv 5) (nomark _)) (pw_and1 (pt_not (pt_val (pv 2)))))) (pss_one (ps_raiseX xBadDay)) (pss_nil)) (pss_one (ps_ret (pe_k c_day_of hr (by decide) passL (pa_cons (pe_fld (pv 0) rfl) (pa_cons (pv 3) (pa_cons (pv 4) (pa_cons (pe_callB (call_min2 rfl) (by rfl) B.min (by decide +kernel) (pa_cons (pe_fld (pv 0) rfl) (pa_cons (pe_op op_sub (pv 5) pe_int) pa_nil))) pa_nil))))))))), ?_⟩
    refine g_asgG (E := E) (cl := cl) (t := k2 K kI kI) (x := (((yearOf c0 n0 * (List.length (Ca.months c0) : Int) + ((dateM c0 n0 : Nat) : Int)) + x1) / ((Ca.months c0).length : Int), ((yearOf c0 n0 * (List.length (Ca.months c0) : Int) + ((dateM c0 n0 : Nat) : Int)) + x1) % ((Ca.months c0).length : Int))) w0 eg_2 o0 (em_cb (em_cons (em_op (em_methP (y := (yearOf c0 n0 * (List.length (Ca.months c0) : Int) + ((dateM c0 n0 : Nat) : Int))) (b := ()) (em_var (t := (kDay K C D)) (v := v0) (x := (c0, n0)) rfl r0) (ob_day fun _ _ _ => rfl) em_nil args_m0 trivial rfl) (em_var (t := kI) (v := (.int x1)) (x := x1) rfl rfl) o_I) (em_cons (em_cb (em_cons (em_calMonths TC (em_dCal TD (em_var (t := (kDay K C D)) (v := v0) (x := (c0, n0)) rfl r0))) em_nil) o_lenT) em_nil)) (o_divmod (by exact ⟨by omega, by omega⟩))) (fun p_1 σ_2 H_3 hx_4 o_5 g_6 w_7 b => ?_)
    have r_8 := (kDay K C D).up g_6.im r0
    obtain ⟨_, _, rfl, rfl, rfl⟩ := b
    have m0 : 0 ≤ p_1.2 ∧ p_1.2 < (List.length (Ca.months c0) : Int) := by rw [hx_4]; exact ⟨Int.emod_nonneg _ (by omega), Int.emod_lt_of_pos _ (by omega)⟩
    refine g_asg (E := E) (cl := cl) (i := 5) (t := kI) (x := (Ca.md c0 p_1.1 (p_1.2).toNat)) w_7 o_5 (em_oldM (y := (Ca.md c0 p_1.1 (p_1.2).toNat)) (em_dCal TD (em_var (t := (kDay K C D)) (v := v0) (x := (c0, n0)) rfl r_8)) (em_cons (em_var (t := kI) (v := (.int p_1.1)) (x := p_1.1) rfl rfl) (em_cons (em_var (t := kI) (v := (.int p_1.2)) (x := p_1.2) rfl rfl) em_nil)) hB2 (fun _ _ _ _ => rfl) (fMd_ok (by exact m0)) rsI) (fun size_9 v_10 H_11 hx_12 o_13 g_14 w_15 r_16 => ?_)
    have r_17 := (kDay K C D).up g_14.im r_8
    obtain rfl : v_10 = (.int size_9) := r_16
    refine g_when (E := E) (cl := cl) (b := ((decide (size_9 ≤ (dateD c0 n0))) && (!x2))) w_15 o_13 (gt_and (gt_test (em_op (em_dDay TD (em_var (t := (kDay K C D)) (v := v0) (x := (c0, n0)) rfl r_17)) (em_var (t := kI) (v := (.int size_9)) (x := size_9) rfl rfl) o_IB)) (fun h_18 => (gt_not (gt_B (em_var (t := kB) (v := (.bl x2)) (x := x2) rfl rfl))))) (fun hb_21 o_22 H_20 g_23 w_24 => ?_) (fun hb_26 o_27 H_25 g_28 w_29 => ?_)
    · simp only [decide_eq_true_eq, decide_eq_false_iff_not, Bool.and_eq_true, Bool.or_eq_true, Bool.and_eq_false_iff, Bool.or_eq_false_iff, Bool.not_eq_true', Bool.not_eq_false'] at hb_21
      have r_30 := (kDay K C D).up g_23.im r_17
      exact qer 1 _ o_22 (show Ex H _ from Gr.fr ((g_6.then g_14 rfl).then g_23 rfl))
    · simp only [decide_eq_true_eq, decide_eq_false_iff_not, Bool.and_eq_true, Bool.or_eq_true, Bool.and_eq_false_iff, Bool.or_eq_false_iff, Bool.not_eq_true', Bool.not_eq_false'] at hb_26
      have r_31 := (kDay K C D).up g_28.im r_17
      refine g_ret (E := E) (cl := cl) (t := (kDay K C D)) (x := (c0, (numAt c0 p_1.1 (p_1.2).toNat (if (size_9 - (1 : Int)) < (dateD c0 n0) then (size_9 - (1 : Int)) else (dateD c0 n0))))) w_29 (em_callP (y := (c0, (numAt c0 p_1.1 (p_1.2).toNat (if (size_9 - (1 : Int)) < (dateD c0 n0) then (size_9 - (1 : Int)) else (dateD c0 n0))))) (a := (c0, p_1.1, p_1.2, (if (size_9 - (1 : Int)) < (dateD c0 n0) then (size_9 - (1 : Int)) else (dateD c0 n0)), ())) (em_cons (em_dCal TD (em_var (t := (kDay K C D)) (v := v0) (x := (c0, n0)) rfl r_31)) (em_cons (em_var (t := kI) (v := (.int p_1.1)) (x := p_1.1) rfl rfl) (em_cons (em_var (t := kI) (v := (.int p_1.2)) (x := p_1.2) rfl rfl) (em_cons (em_cb (em_cons (em_dDay TD (em_var (t := (kDay K C D)) (v := v0) (x := (c0, n0)) rfl r_31)) (em_cons (em_op (em_var (t := kI) (v := (.int size_9)) (x := size_9) rfl rfl) em_int o_I) em_nil)) o_min2) em_nil)))) args_id trivial (day_of_ok (by have q := Ca.md_pos ok0 p_1.1 (m := (p_1.2).toNat) (by omega); rw [← hx_12] at q ⊢; exact ⟨m0.1, m0.2, by split <;> omega, by split <;> omega⟩))) (fun v_32 H_33 g_34 w_35 r_36 => ?_)
      exact qok _ v_32 H_33 o_27 (show Ex H _ from Gr.fr (((g_6.then g_14 rfl).then g_28 rfl).then g_34 rfl)) r_36

/-- so many months on, held at the end -/
def monOn (c : Ca) (n k : Int) : Int := (fun p : Int × Int => (fun size : Int => numAt c p.1 p.2.toNat (if size - 1 < dateD c n then size - 1 else dateD c n)) (c.md p.1 p.2.toNat)) ((yearOf c n * (List.length (Ca.months c) : Int) + ((dateM c n : Nat) : Int) + k) / (List.length (Ca.months c) : Int), (yearOf c n * (List.length (Ca.months c) : Int) + ((dateM c n : Nat) : Int) + k) % (List.length (Ca.months c) : Int))
/-- the month that one comes to is too short -/
def monShort (c : Ca) (n k : Int) : Bool := (fun p : Int × Int => decide (c.md p.1 p.2.toNat ≤ dateD c n)) ((yearOf c n * (List.length (Ca.months c) : Int) + ((dateM c n : Nat) : Int) + k) / (List.length (Ca.months c) : Int), (yearOf c n * (List.length (Ca.months c) : Int) + ((dateM c n : Nat) : Int) + k) % (List.length (Ca.months c) : Int))
theorem months_is {c : Ca} {n k : Int} {b : Bool} : f_months_on ((c, n), k, b, ()) = cond (monShort c n k && !b) (.er 1) (.ok (c, monOn c n k)) := rfl
theorem months_ok {c : Ca} {n k : Int} : f_months_on ((c, n), k, true, ()) = .ok (c, monOn c n k) := by
  rw [months_is, Bool.not_true, Bool.and_false]
  rfl
theorem args_mo {K : PySem.W.Frag} {C D : Addr} {x : Ca × Int} {k : Int} : ∀ (H : Hp) (vs : List V), aC (kDay K C D) (aC kI a0) H vs (x, k, ()) → aC (kDay K C D) (aC kI (aC kB a0)) H (vs ++ [.bl true]) (x, k, true, ()) := fun H vs ⟨v, r, e, h1, v2, r2, e2, h2, h3⟩ => by
  obtain rfl : r2 = [] := h3
  subst e2
  subst e
  exact ⟨v, _, rfl, h1, v2, _, rfl, h2, .bl true, [], rfl, rfl, rfl⟩

end
end Rw
namespace Rw
open PySem PySem.Spec PyProof.Rows L2 Evl Cy
section
variable {P : Program} {w : World} {K : PySem.W.Frag} {mg : Str → Option Value} {base : Heap} {C D : Addr} {cl : Nat → Addr}




end
end Rw
namespace Rw
open PySem PySem.Spec PyProof.Rows L2 Evl
theorem meets_str_eq_ref (a : Str) (t : Tok) (x : Addr) : Meets (Builtin.«str.__eq__» ⟨[.str a t, .ref x], []⟩) (fun A R s => (∃ C dx, s.heap.get? x = some (PySem.W.instObj C dx)) ∧ R (.ok (.ret .notImplemented)) s) := by
  intro prog w A R s h
  obtain ⟨⟨C, dx, h1⟩, q⟩ := h
  obtain ⟨hp, g, d, tk, os⟩ := s
  unfold Builtin.«str.__eq__»
  wp_walk
  exact q
section
variable {M : Model} {prog : Program} {w : World} {A : Around} {E : Value → Shared → Prop} {s : Shared} {K : PySem.W.Frag} {x C dx : Addr} {ox : Obj} {od : Option Obj} {b : Str} {t : Tok}
theorem isSame_strR {R : Bool → Shared → Prop} (h : R false s) : wpAny M A (isSame (.ref x) (.str b t)) R E s := wpAny_of_eq (rfl : isSame (.ref x) (.str b t) = pure false) h
theorem entry_str {Q : Fin → Shared → Prop} (hq : Q (.done (.ret .notImplemented)) s) : wpAny M A (Builtin.«object.__eq__» ⟨[.ref x, .str b t], []⟩) Q E s := by
  unfold Builtin.«object.__eq__»
  repeat (first | with_reducible refine isSame_strR ?_ | wp_step)
  exact hq
theorem call_objEqS {Q : Value → Shared → Prop} (X : K.In s.heap) (I : PySem.W.InstAt s.heap x ox C od) (hm : PySem.W.mroIn K C (.type "object") = some true) (hq : Q .notImplemented s) :
    wpAny (model prog w) A (call (.builtin "object.__eq__") [.ref x, .str b t]) Q E s :=
  wpAny_call (codeAny_call_builtin F.cmp_object.eq.plain F.cmpEntry_eq (PySem.W.check_slot F.cmpKind_eq F.cmpSplit_eq (I.type.andThen (PySem.W.looks_mroIn X hm)) (F.cmpArgs_eq _ _) (entry_str hq)))
theorem sub_strC : PySem.W.subIn K (.type "str") (.ref C) = some false := by
  have e : fastBuiltinMro "str" = some [.type "str", .type "object"] := by decide +kernel
  show (fastBuiltinMro "str").map (·.contains (.ref C)) = some false
  rw [e]
  first
    | rfl
    | simp
theorem rc_strI (hu : A.units < cLine) (X : K.In s.heap) (I : PySem.W.InstAt s.heap x ox C od) (hx : s.heap.get? x = some (PySem.W.instObj C dx)) (hm : PySem.W.mroIn K C (.type "object") = some true) (hs : PySem.W.findIn K (.ref C) "__eq__" = some (some (.builtin "object.__eq__"))) :
    SeqAt.RcAt A s (.ref x) (.str b t) false := fun prog w E Q h => by
  have one : wpAny (model prog w) A (tryCompare (.ref x) "__eq__" (.str b t)) (fun r s' => r = none ∧ s' = s) E s := by
    unfold tryCompare
    exact wpAny_bind (HN.ifBound_objEq X I hs (call_objEqS X I hm (wpAny_pure ⟨rfl, rfl⟩)))
  have two : wpAny (model prog w) A (tryCompare (.str b t) "__eq__" (.ref x)) (fun r s' => r = none ∧ s' = s) E s :=
    wpAny_tryCompare_declines (typeIs_str s b t) F.slot_str_eq_refl (call_meets F.slot_str_eq_refl (typeIs_str s b t) F.entry_str_eq (F.args_str_eq_2 _ _) (meets_str_eq_ref b t x) ⟨⟨C, dx, hx⟩, rfl, rfl, rfl⟩)
  simp only [richCompare, cmpInfo_Eq, oneThing_ref]
  refine wpAny_holding (wpAny_bind (wpAny_cRoomFor hu ?_))
  refine wpAny_bind (I.type.here ?_)
  refine wpAny_bind (wpAny_typeOf (typeIs_str s b t) ?_)
  split
  · refine wpAny_bind ((PySem.W.looks_subIn X sub_strC).here ?_)
    simp only [Bool.false_eq_true, if_false, Bool.not_false, if_true]
    refine wpAny_bind (m := tryCompare (.ref x) _ (.str b t)) (wpAny_mono one (fun r s1 z => ?_) fun _ _ e => e)
    obtain ⟨z1, z2⟩ := z
    subst z1
    subst z2
    refine wpAny_bind (m := tryCompare (.str b t) _ (.ref x)) (wpAny_mono two (fun r s2 z => ?_) fun _ _ e => e)
    obtain ⟨z1, z2⟩ := z
    subst z1
    subst z2
    exact wpAny_bind (wpAny_rule (wpAny_bind (wpAny_of_eq (rfl : isSame (.ref x) (.str b t) = pure false) (wpAny_pure h))))
  · rename_i q
    exact absurd (by simp) q
end
/-- an instance without an __eq__ of its own -/
structure NoEq (K : PySem.W.Frag) (C : Addr) : Prop where
  mro : PySem.W.mroIn K C (.type "object") = some true
  find : PySem.W.findIn K (.ref C) "__eq__" = some (some (.builtin "object.__eq__"))
/-- a text, or such an instance, against a text -/
def rEqIS (K : PySem.W.Frag) : R2 := fun x y H Q => ∃ b : Str, y = .str b ∧ ((∃ a : Str, x = .str a ∧ Q (.bl (decide (a = b))) H) ∨ ∃ p C dx fs, x = .ref p ∧ H p = some (.ins C dx fs) ∧ NoEq K C ∧ Q (.bl false) H)
theorem op_eqIS {X : Cx} (hu : X.A.units < cLine) : OpR X (compareOp .Eq) (rEqIS X.K) := by
  intro pins s σ H x y v u Q I rx ry h
  obtain ⟨b, rfl, h⟩ := h
  rcases h with ⟨a, rfl, q⟩ | ⟨p, C, dx, fs, rfl, hp, ne, q⟩
  · refine op_eq pins s σ H _ _ v u Q I rx ry ⟨rfl, ?_⟩
    rw [show decide (V.str a = V.str b) = decide (a = b) by simp]
    exact q
  · obtain ⟨t, rfl⟩ := ry
    obtain rfl : v = Value.ref p := rx
    obtain ⟨mA, O, _⟩ := ins_get I.hok hp
    obtain ⟨od, J, _⟩ := O.look
    show wpAny _ _ (richCompare .Eq _ _) _ _ _
    exact rc_strI hu I.kIn J O.obj ne.mro ne.find _ _ _ _ ⟨.bl false, H, I, rfl, q⟩
end Rw
namespace Rw
open PySem PySem.Spec PyProof.Rows L2 Evl Cy
/-- a day's row -/
def rowI (c : Ca) (n : Int) : List Int := [n, yearOf c n, ((dateM c n : Nat) : Int), dateD c n, c.md (yearOf c n) (dateM c n) - 1 - dateD c n, n - c.firstOf (yearOf c n), c.yearDays (yearOf c n) - 1 - (n - c.firstOf (yearOf c n)), c.weekday n]
def kR (K : PySem.W.Frag) (c : Ca) : Ty Int := ⟨fun H v n => (kT K kI).r H v (rowI c n), fun e h => (kT K kI).up e h⟩
/-- an answer, or the word of what was raised -/
def kRe {α : Type} (u : Ty α) : Ty (Re α) := ⟨fun H v r => match r with | .ok y => u.r H v y | .er i => v = .str (kindName i) ∧ i < 11, fun {H H' v r} e h => by
  cases r with
  | ok y => exact u.up e h
  | er i => exact h⟩
/-- a lambda that is told -/
def kLam {α : Type} (X : Cx) (cl : Nat → Addr) (k : Nat) (ag : L2.St → Prop) (u : Ty α) : Ty (Re α) := ⟨fun I v z => ∃ (f cc : Addr) (params : Arguments) (body : Expr) (scope : Scope) (tb : XK → TE), v = .ref f ∧ I f = some (LamC f (X.env.qual ++ "<lambda>") params body scope (cloFrom X.env.cells scope.names []) cc) ∧ I cc = some (LamX.CodeO cc (X.env.qual ++ "<lambda>")) ∧
    LamX.LamS X.env.scope scope ∧ (∀ (pm cv ctv : Value), bindArgs (PySem.W.kla_fn "<lambda>" (X.env.qual ++ "<lambda>") params body scope (cloFrom X.env.cells scope.names []) pm cv ctv) ⟨[], []⟩ = pure []) ∧
    (∀ (A : Around) (outer : List Env) (s : Shared) (H : Hp) (E : XK), Room k (A.deeper (LamX.lamEnv X scope s.heap.objs.size f cc)) → PE (LamX.lamCx X A outer s H E scope f cc) body (tb E)) ∧ (∀ i, z = .er i → i < 11) ∧
    ∀ E M S σ' I', Ex I I' → ag σ' → Em E cl M (tb E) σ' I' S u z S,
  fun e ⟨f, cc, params, body, scope, tb, h1, h2, h3, h4, h5, h6, h7, h9⟩ => ⟨f, cc, params, body, scope, tb, h1, e _ _ h2, e _ _ h3, h4, h5, h6, h7, fun E M S σ' I' e2 => h9 E M S σ' I' (e.trans e2)⟩⟩
theorem lam_r {α : Type} {u : Ty α} {z : Re α} {I : Hp} {cl : Nat → Addr} {X : Cx} {k : Nat} {ag : L2.St → Prop} {params : Arguments} {body : Expr} {scope : Scope} {tb : XK → TE} (h4 : LamX.LamS X.env.scope scope) (h5 : ∀ (pm cv ctv : Value), bindArgs (PySem.W.kla_fn "<lambda>" (X.env.qual ++ "<lambda>") params body scope (cloFrom X.env.cells scope.names []) pm cv ctv) ⟨[], []⟩ = pure [])
    (h6 : ∀ (f cc : Addr) (A : Around) (outer : List Env) (s : Shared) (H : Hp) (E : XK), Room k (A.deeper (LamX.lamEnv X scope s.heap.objs.size f cc)) → PE (LamX.lamCx X A outer s H E scope f cc) body (tb E)) (hi : ∀ i, z = .er i → i < 11) (h9 : ∀ E M S σ' I', Ex I I' → ag σ' → Em E cl M (tb E) σ' I' S u z S) :
    ∀ f cc I', Ex I I' → I' f = some (LamC f (X.env.qual ++ "<lambda>") params body scope (cloFrom X.env.cells scope.names []) cc) → I' cc = some (LamX.CodeO cc (X.env.qual ++ "<lambda>")) → (kLam X cl k ag u).r I' (.ref f) z := fun f cc I' e h2 h3 =>
  ⟨f, cc, params, body, scope, tb, rfl, h2, h3, h4, h5, h6 f cc, hi, fun E M S σ' I2 e2 => h9 E M S σ' I2 (e.trans e2)⟩
section
variable {K : PySem.W.Frag} {α β γ δ R τ : Type} {E E' : XK} {cl : Nat → Addr} {M : List Addr} {σ : L2.St} {I I' H H' : Hp} {S S' S1 S2 S3 : List Cell} {te ta tb tc to : TE} {tt : TT} {tr : TA} {t : Ty α} {u : Ty β} {w' : Ty γ} {v : V} {C D : Addr} {c : Ca} {n : Int} {x : α} {y : β}
theorem em_toldR {X : Cx} {k : Nat} {ag : L2.St → Prop} {z : Re β} (ha : Ea E' cl M tr σ I S (aC (kLam X cl k ag u) a0) (.ok (z, ())) S') (hag : ag σ) : Em E' cl M (tToldC X cl k tr) σ I S (kRe u) (.ok z) S' :=
  em_mk ha.ad fun H1 i w Q q => ea_of ha H1 i w _ fun vs H2 e w2 r => by
    obtain ⟨v, rs, rfl, ⟨f, cc, params, body, scope, tb, rfl, h2, h3, h4, h5, h6, h7, h9⟩, rfl⟩ := r
    exact ⟨f, cc, params, body, scope, tb, rfl, (del_some.mp h2).2, (del_some.mp h3).2, h4, h5, h6, (h9 (ETold cl Q) M S' σ (del M H2) (Ex.refl _) hag).run H2 (Ex.refl _) w2 Q (fun y v H3 ez e3 w3 r3 => q v H3 (ads_tr ha.ad e e3) w3 (by subst ez; exact r3)) fun k H3 ek e3 w3 => ⟨k, h7 k ek, rfl, q _ H3 (ads_tr ha.ad e e3) w3 (by subst ek; exact ⟨rfl, h7 _ rfl⟩)⟩⟩
theorem re_ok {z : Re β} {y : β} (e : z = .ok y) (r : (kRe u).r I v z) : u.r I v y := by subst e; exact r
theorem re_er {z : Re β} {i : Nat} (e : z = .er i) (r : (kRe u).r I v z) : v = .str (kindName i) := by subst e; exact r.1
theorem em_reS {z : Re β} {i : Nat} (e : z = .er i) (h : Em E cl M te σ I S (kRe u) (.ok z) S') : Em E cl M te σ I S kSo (.ok (kindName i)) S' :=
  em_mk h.ad fun H1 i1 w Q q => em_of h H1 i1 w _ fun v H2 e2 w2 r => q v H2 e2 w2 (by subst e; exact ⟨r.1, kind_ok _ r.2⟩)
theorem em_reS0 {z : Re β} {i : Nat} (e : z = .er i) (h : Em E cl M te σ I S (kRe u) (.ok z) S') : Em E cl M te σ I S kS (.ok (kindName i)) S' :=
  em_mk h.ad fun H1 i1 w Q q => em_of h H1 i1 w _ fun v H2 e2 w2 r => q v H2 e2 w2 (by subst e; exact r.1)
/-- rows -/
theorem kR_of (k : c.Ok) (h : (kRow K c).r H v n) : (kR K c).r H v n := by
  obtain ⟨t, y, m, d, rfl, ha, hs⟩ := h
  obtain ⟨rfl, rfl, rfl⟩ := ha.one k (date_at k n)
  exact ⟨t, _, rfl, hs, all_intsR (rowI c n)⟩
theorem em_rowsK (k : c.Ok) {xs : List Int} (h : Em E cl M te σ I S (kL K (kRow K c)) (.ok xs) S') : Em E cl M te σ I S (kL K (kR K c)) (.ok xs) S' :=
  em_mk h.ad fun H1 i w Q q => em_of h H1 i w _ fun v H2 e w2 r => q v H2 e w2 (by
    obtain ⟨p, vs, rfl, hp, ha⟩ := r
    exact ⟨p, vs, rfl, hp, ha.imp fun _ _ => kR_of k⟩)
theorem o_rowK {i : Int} {j : Nat} {z : Int} (h : (rowI c n)[j]? = some z) (hi : i = (j : Int)) : Op2 (rIxT K) (kR K c) n kI i kI z := fun M u w H l a b Q q =>
  o_ixT (K := K) (t := kI) (xs := rowI c n) h hi M u w H l a b Q q
def dR (k : Unit) : Dq K (kR K c) 1 := ⟨fun n => .tuple ((rowI c n).map PyData.int), fun h => (dT dI).dp h, fun n => (dT (K := K) (t := kI) dI).dep (rowI c n), fun n m => by
  rw [show (PyData.eqv (.tuple ((rowI c n).map PyData.int)) (.tuple ((rowI c m).map PyData.int)) = true ↔ rowI c n = rowI c m) from (dT (K := K) (t := kI) dI).eq (rowI c n) (rowI c m)]
  constructor
  · intro h
    exact (List.cons.inj h).1
  · intro h
    rw [h]⟩
theorem em_row1 (ha : Em E cl M ta σ I S (kR K c) (.ok n) S') : Em E cl M (tSl (rSlT K) ta (tPart (tC (.int 1))) tNoPart) σ I S (kT K kI) (.ok ((rowI c n).drop 1)) S' :=
  em_mk ha.ad fun H1 i w Q q => em_of ha H1 i w _ fun v1 H2 e1 w1 r1 => by
    obtain ⟨p, vs, rfl, hp, h⟩ := r1
    obtain rfl := all_ints h
    refine ⟨1, rfl, p, _, rfl, ex_t del_le hp, fun z => absurd (show (1 : Nat) = 0 from z.1) (by decide), fun q2 hq => q _ _ (e1.trans (ex_del (Ex.new hq))) (w1.ex (Ex.new hq)) ⟨q2, _, rfl, st_of (del_at (fresh_not w1.live hq) upd_same), show All2 (kI.r _) (((rowI c n).drop 1).map V.int) _ from all_intsR _⟩⟩
theorem em_row14 (ha : Em E cl M ta σ I S (kR K c) (.ok n) S') : Em E cl M (tSl (rSlT K) ta (tPart (tC (.int 1))) (tPart (tC (.int 4)))) σ I S (kT K kI) (.ok (((rowI c n).drop 1).take 3)) S' :=
  em_mk ha.ad fun H1 i w Q q => em_of ha H1 i w _ fun v1 H2 e1 w1 r1 => by
    obtain ⟨p, vs, rfl, hp, h⟩ := r1
    obtain rfl := all_ints h
    refine ⟨1, rfl, 4, rfl, p, _, rfl, ex_t del_le hp, fun z => absurd (show (1 : Nat) = 0 from z.1) (by decide), fun q2 hq => q _ _ (e1.trans (ex_del (Ex.new hq))) (w1.ex (Ex.new hq)) ⟨q2, _, rfl, st_of (del_at (fresh_not w1.live hq) upd_same), show All2 (kI.r _) ((((rowI c n).drop 1).take 3).map V.int) _ from all_intsR _⟩⟩
theorem rng_get {f i : Int} (h : 0 ≤ i ∧ i < f) : (rng 0 f)[i.toNat]? = some i := by
  unfold rng
  rw [List.getElem?_map, List.getElem?_range (by omega)]
  show some ((0 : Int) + ((i.toNat : Nat) : Int)) = some i
  congr 1
  omega
theorem o_ixR {f i : Int} (h : 0 ≤ i ∧ i < f) : Op2 (rIxL K) (kL K (kR K c)) (rng 0 f) kI i (kR K c) i := o_ixL (n := i.toNat) (rng_get h) (by omega)
/-- free == 'day', then that word, or the day's number -/
theorem em_mine {j : Nat} {z : Re (Ca × Int)} (T : DayT K D) (ne : NoEq K D) (hσ : σ[j]? = some (some v)) (r : (kRe (kDay K C D)).r I v z) (hz : ∀ i, z = .er i → i = 1) :
    Em E cl M (tIf (tTest (tOp (rEqIS K) (tVar j) (tC (.str "day")))) (tC (.str "day")) (tFld K (tVar j) "number")) σ I S (kRe kI) (.ok (z.bind fun x => .ok x.2)) S :=
  em_mk rfl fun H1 i w Q q => by
    have r1 := (kRe (kDay K C D)).up i r
    cases z with
    | er k =>
      obtain rfl := hz k rfl
      obtain ⟨rfl, _⟩ := r1
      exact ⟨_, hσ, "day", rfl, .inl ⟨_, rfl, decide (kindName 1 = "day"), rfl, by
        rw [show decide (kindName 1 = "day") = true by decide +kernel]
        dsimp only
        rw [if_pos rfl]
        exact q _ H1 (Ex.refl _) w ⟨by show V.str "day" = V.str (kindName 1); rfl, by decide⟩⟩⟩
    | ok x =>
      obtain ⟨p, dx, a, rfl, h1, _⟩ := r1
      exact ⟨_, hσ, "day", rfl, .inr ⟨p, D, dx, _, rfl, (del_some.mp h1).2, ne, false, rfl, by
        dsimp only
        rw [if_neg Bool.false_ne_true]
        exact ⟨_, hσ, p, D, dx, _, _, rfl, (del_some.mp h1).2, T.cls, T.num, rfl, q _ H1 (Ex.refl _) w rfl⟩⟩⟩
instance reDec {α : Type} [DecidableEq α] : DecidableEq (Re α) := fun a b => match a, b with
  | .ok x, .ok y => if h : x = y then isTrue (by rw [h]) else isFalse (fun e => h (by cases e; rfl))
  | .er i, .er j => if h : i = j then isTrue (by rw [h]) else isFalse (fun e => h (by cases e; rfl))
  | .ok _, .er _ => isFalse (fun e => nomatch e)
  | .er _, .ok _ => isFalse (fun e => nomatch e)
/-- numbers or the word 'day' compared -/
theorem o_neRe {a b : Re Int} (ha : ∀ i, a = .er i → i = 1) (hb : ∀ i, b = .er i → i = 1) : Op2 rNe (kRe kI) a (kRe kI) b kB (!decide (a = b)) := fun M v1 v2 H l r1 r2 Q q => by
  cases a with
  | ok i =>
    obtain rfl : v1 = .int i := r1
    cases b with
    | ok j =>
      obtain rfl : v2 = .int j := r2
      exact ⟨rfl, q _ H (Ex.refl H) (by show V.bl _ = V.bl _; congr 1 <;> simp)⟩
    | er j =>
      obtain ⟨rfl, _⟩ := r2
      exact ⟨rfl, q _ H (Ex.refl H) (by show V.bl _ = V.bl _; congr 1 <;> simp)⟩
  | er i =>
    obtain rfl := ha i rfl
    obtain ⟨rfl, _⟩ := r1
    cases b with
    | ok j =>
      obtain rfl : v2 = .int j := r2
      exact ⟨rfl, q _ H (Ex.refl H) (by show V.bl _ = V.bl _; congr 1 <;> simp)⟩
    | er j =>
      obtain rfl := hb j rfl
      obtain ⟨rfl, _⟩ := r2
      exact ⟨rfl, q _ H (Ex.refl H) (by show V.bl _ = V.bl _; congr 1 <;> simp)⟩
theorem em_ok {t : Ty α} (h : Em E cl M te σ I S t (.ok x) S') : Em E cl M te σ I S (kRe t) (.ok (.ok x)) S' := em_ty h fun _ _ r => r
theorem em_day : Em E cl M (tC (.str "day")) σ I S (kRe (α := α) t) (.ok (.er 1)) S := em_c ⟨rfl, by decide⟩
/-- lists as they were just made -/
def kX (t : Ty α) : Ty (List α) := ⟨fun H v xs => ∃ p vs, v = .ref p ∧ H p = some (.lst vs) ∧ All2 (t.r H) vs xs, fun e ⟨p, vs, a, b, c⟩ => ⟨p, vs, a, e _ _ b, all2_up t e c⟩⟩
theorem em_lstX {xs : List α} (h : Ea E cl M tr σ I S (aL t) (.ok xs) S') (hl : xs.length ≤ 100000) : Em E cl M (tLst tr) σ I S (kX t) (.ok xs) S' :=
  em_mk h.ad fun H1 i w Q q => ea_of h H1 i w _ fun vs H2 e w1 r => ⟨sz_of (by rw [r.len]; exact hl), fun p hp => q _ _ (e.trans (ex_del (Ex.new hp))) (w1.ex (Ex.new hp)) ⟨p, vs, rfl, del_at (fresh_not w1.live hp) upd_same, all2_up t (ex_del (Ex.new hp)) r⟩⟩
theorem o_catX {xs ys : List α} (hl : xs.length + ys.length ≤ 100000) : Op2 rCat (kX t) xs (kX t) ys (kL K t) (xs ++ ys) := fun M u w H l a b Q q => by
  obtain ⟨p, vs, rfl, hp, ha⟩ := a
  obtain ⟨p2, ws, rfl, hp2, hb⟩ := b
  exact ⟨p, p2, vs, ws, rfl, rfl, (del_some.mp hp).2, (del_some.mp hp2).2, sz_of (by rw [ha.len, hb.len]; exact hl), fun q2 hq => q _ _ (Ex.new hq) ⟨q2, _, rfl, sq_of (del_at (fresh_not l hq) upd_same), all2_up t (ex_del (Ex.new hq)) (ha.app hb)⟩⟩
end
end Rw
namespace Rw
open PySem PySem.Spec PyProof.Rows L2 Evl Cy
/-- a day's month, counted from the year nought -/
def mnOf (c : Ca) (n : Int) : Int := yearOf c n * (List.length (Ca.months c) : Int) + ((dateM c n : Nat) : Int)
theorem cond_er {α : Type} {b : Bool} {i k : Nat} {r : Re α} (h : cond b (.er k) r = .er i) (hk : k < 11) (hr : r = .er i → i < 11) : i < 11 := by
  cases b with
  | true => cases h; exact hk
  | false => exact hr h
theorem months_er {c : Ca} {n k : Int} {b : Bool} {i : Nat} (h : f_months_on ((c, n), k, b, ()) = .er i) : i = 1 := by
  rw [months_is] at h
  cases e : (monShort c n k && !b) with
  | true => rw [e] at h; cases h; rfl
  | false => rw [e] at h; cases h
theorem date_ok {c : Ca} (k : c.Ok) (n : Int) : 0 ≤ ((dateM c n : Nat) : Int) ∧ ((dateM c n : Nat) : Int) < (List.length (Ca.months c) : Int) ∧ 0 ≤ dateD c n ∧ dateD c n < c.md (yearOf c n) (((dateM c n : Nat) : Int)).toNat := by
  obtain ⟨a, b, d, _⟩ := date_at k n
  exact ⟨by omega, by omega, b, d⟩
theorem first12 {c : Ca} (k : c.Ok) (tiny : Tiny c) : 12 ≤ c.firstOf 6 ∧ c.firstOf 6 ≤ 96 ∧ c.firstOf 6 ≤ c.firstOf 12 ∧ c.firstOf 12 ≤ 192 := by
  have f0 := Ca.first_zero k
  have g0 := first_grow k tiny 0
  have g1 := first_grow k tiny 1
  have g2 := first_grow k tiny 2
  have g3 := first_grow k tiny 3
  have g4 := first_grow k tiny 4
  have g5 := first_grow k tiny 5
  have g6 := first_grow k tiny 6
  have g7 := first_grow k tiny 7
  have g8 := first_grow k tiny 8
  have g9 := first_grow k tiny 9
  have g10 := first_grow k tiny 10
  have g11 := first_grow k tiny 11
  simp only [show (0 : Int) + 1 = 1 by rfl, show (1 : Int) + 1 = 2 by rfl, show (2 : Int) + 1 = 3 by rfl, show (3 : Int) + 1 = 4 by rfl, show (4 : Int) + 1 = 5 by rfl, show (5 : Int) + 1 = 6 by rfl, show (6 : Int) + 1 = 7 by rfl, show (7 : Int) + 1 = 8 by rfl, show (8 : Int) + 1 = 9 by rfl, show (9 : Int) + 1 = 10 by rfl, show (10 : Int) + 1 = 11 by rfl, show (11 : Int) + 1 = 12 by rfl] at *
  omega
theorem rng_app {a b d : Int} (h1 : a ≤ b) (h2 : b ≤ d) : rng a d = rng a b ++ rng b d := by
  unfold rng
  rw [show (d - a).toNat = (b - a).toNat + (d - b).toNat by omega, List.range_add, List.map_append, List.map_map]
  congr 1
  apply List.map_congr_left
  intro k _
  show a + ((((b - a).toNat + k : Nat)) : Int) = b + (k : Int)
  omega
theorem filter_cut {a b lo hi : Int} {p q : Int → Bool} (h1 : a ≤ lo) (h2 : lo ≤ hi) (h3 : hi ≤ b) (hp : ∀ x, a ≤ x → x < b → p x = (decide (lo ≤ x ∧ x < hi) && q x)) : (rng a b).filter p = (rng lo hi).filter q := by
  rw [rng_app h1 (Int.le_trans h2 h3), rng_app h2 h3, List.filter_append, List.filter_append]
  have e1 : (rng a lo).filter p = [] := by
    rw [List.filter_eq_nil_iff]
    intro x hx
    rw [rng_mem] at hx
    rw [hp x hx.1 (by omega), decide_eq_false (by omega)]
    simp
  have e3 : (rng hi b).filter p = [] := by
    rw [List.filter_eq_nil_iff]
    intro x hx
    rw [rng_mem] at hx
    rw [hp x (by omega) hx.2, decide_eq_false (by omega)]
    simp
  have e2 : (rng lo hi).filter p = (rng lo hi).filter q := by
    apply List.filter_congr
    intro x hx
    rw [rng_mem] at hx
    rw [hp x (by omega) (by omega), decide_eq_true ⟨hx.1, hx.2⟩, Bool.true_and]
  rw [e1, e2, e3, List.nil_append, List.append_nil]
/-- a month's days -/
theorem month_is {c : Ca} (k : c.Ok) {y : Int} {m : Nat} (hm : m < c.months.length) (x : Int) : (yearOf c x = y ∧ dateM c x = m) ↔ (numAt c y m 0 ≤ x ∧ x < numAt c y m 0 + c.md y m) := by
  constructor
  · rintro ⟨rfl, rfl⟩
    obtain ⟨a, b, d, e⟩ := date_at k x
    unfold numAt
    omega
  · intro h
    unfold numAt at h
    have a : c.At x y m (x - c.firstOf y - c.ahead y m) := ⟨hm, by omega, by omega, by omega⟩
    obtain ⟨e1, e2, _⟩ := (date_at k x).one k a
    exact ⟨e1, e2⟩
theorem num_date {c : Ca} (k : c.Ok) {y d : Int} {m : Nat} (hm : m < c.months.length) (h0 : 0 ≤ d) (h1 : d < c.md y m) : yearOf c (numAt c y m d) = y ∧ dateM c (numAt c y m d) = m ∧ dateD c (numAt c y m d) = d := by
  have a : c.At (numAt c y m d) y m d := ⟨hm, h0, h1, rfl⟩
  exact (date_at k _).one k a
/-- a year's months lie in it -/
theorem month_in {c : Ca} (k : c.Ok) {y : Int} {m : Nat} (hm : m < c.months.length) : c.firstOf y ≤ numAt c y m 0 ∧ numAt c y m 0 + c.md y m ≤ c.firstOf (y + 1) := by
  have p := Ca.md_pos k y hm
  have a : c.At (numAt c y m 0) y m 0 := ⟨hm, Int.le_refl _, by omega, rfl⟩
  have b : c.At (numAt c y m 0 + c.md y m - 1) y m (c.md y m - 1) := ⟨hm, by omega, by omega, by unfold numAt; omega⟩
  have := a.year k
  have := b.year k
  omega
theorem year_rng {c : Ca} (k : c.Ok) {n l : Int} (h0 : 0 ≤ n) (h1 : n < c.firstOf l) : 0 ≤ yearOf c n ∧ yearOf c n < l := by
  obtain ⟨a, b⟩ := yearOf_spec k n
  have f0 := Ca.first_zero k
  constructor
  · rcases Int.lt_or_le (yearOf c n) 0 with q | q
    · have := first_le2 k (show yearOf c n + 1 ≤ 0 by omega)
      omega
    · exact q
  · rcases Int.lt_or_le (yearOf c n) l with q | q
    · exact q
    · have := first_le2 k q
      omega
theorem nrm {tz : TS} {D : Ends} {σ σ' : L2.St} {H : Hp} (h : σ = σ') (k : tz D σ' H) : tz D σ H := by rw [h]; exact k
/-- what follows is shown once -/
theorem g_ifR {tt : TT} {tu tw tz : TS} {D : Ends} {σ : L2.St} {H : Hp} (Rel : L2.St → Hp → Prop) (hr : ∀ σ' H', Rel σ' H' → tz D σ' H') (hb : (∀ σ' H', Rel σ' H' → tz D σ' H') → tSeq (tIfS tt tu tw) tz D σ H) : tSeq (tIfS tt tu tw) tz D σ H := hb hr
theorem call_len_seqK {X : Cx} {K : PySem.W.Frag} (h : X.K = K := by rfl) : CallR X (.builtin "len") (fun xs H Q => ∃ p ys, xs = [.ref p] ∧ (SqL K H p ys ∨ SqT K H p ys) ∧ Q (.int ys.length) H) := by
  subst h
  exact call_len_seq
theorem o_ixLG {K : PySem.W.Frag} {α : Type} {t : Ty α} {xs : List α} {i : Int} {z : α} (h : 0 ≤ i ∧ i < (xs.length : Int)) : Op2 (rIxL K) (kL K t) xs kI i t (xs.getD i.toNat z) :=
  o_ixL (n := i.toNat) (by rw [List.getD_eq_getElem?_getD, List.getElem?_eq_getElem (show i.toNat < xs.length by omega)]; rfl) (by omega)
end Rw

namespace Rw
open PySem PySem.Spec PyProof.Rows L2 Evl
/-! ### objects of the program's own classes, by their fields -/
def kOb {β : Type} (C : Addr) (R : Hp → List (Str × V) → β → Prop) (up : ∀ {H H' : Hp} {fs : List (Str × V)} {b : β}, Ex H H' → R H fs b → R H' fs b) : Ty β :=
  ⟨fun H v b => ∃ x dx fs, v = .ref x ∧ H x = some (.ins C dx fs) ∧ R H fs b, fun e ⟨x, dx, fs, a, b, c⟩ => ⟨x, dx, fs, a, e _ _ b, up e c⟩⟩
/-- an object in the making, or one that changes: its fields as they stand -/
def cIns (x D dx : Addr) (fs : List (Str × V)) : Cell := ⟨x, List (Str × V), fun _ o l => o = .ins D dx l, fun _ h => h, fs⟩
def UpA {α : Type} (A : AR α) : Prop := ∀ {H H' : Hp} {vs : List V} {a : α}, Ex H H' → A H vs a → A H' vs a
theorem up_a0 : UpA a0 := fun _ h => h
theorem up_aC {α β : Type} {t : Ty α} {A : AR β} (u : UpA A) : UpA (aC t A) := fun e ⟨v, r, h1, h2, h3⟩ => ⟨v, r, h1, t.up e h2, u e h3⟩
/-- __init__ of a class whose objects change no more: its arguments, what it asks, what it makes -/
def spIni {α β : Type} (C : Addr) (A : AR α) (pre : α → Prop) (f : α → Re β) (R : Hp → List (Str × V) → β → Prop) (cl : Nat → Addr) : Sp := fun vs H Q E => ∃ M x dx ws a, vs = .ref x :: ws ∧ x ∈ M ∧ (∀ m ∈ M, H m ≠ none) ∧ H x = some (.ins C dx []) ∧ A (del M H) ws a ∧ pre a ∧
  (∀ b fs H', f a = .ok b → H' x = some (.ins C dx fs) → Ex (del [x] H) (del [x] H') → R (del M H') fs b → Q .non H') ∧ (∀ k H', f a = .er k → Ex (del [x] H) (del [x] H') → E (.ref (cl k)) none H')
theorem putF_le {f : Str} {v : V} {n : Nat} : ∀ {fs : List (Str × V)}, fs.length ≤ n → (putF f v fs).length ≤ n + 1
  | [], _ => by show 1 ≤ _; omega
  | (g, y) :: r, h => by
    unfold putF
    split
    · exact Nat.le_succ_of_le h
    · cases n with
      | zero => simp at h
      | succ n => exact Nat.succ_le_succ (putF_le (by simpa using h))
section
variable {K : PySem.W.Frag} {α β γ δ R τ : Type} {E E' : XK} {cl : Nat → Addr} {M : List Addr} {σ : L2.St} {I I' H H' : Hp} {S S' S1 S2 S3 : List Cell} {te ta tb tc to tv : TE} {tt : TT} {tr : TA} {t : Ty α} {u : Ty β} {C x dx : Addr} {fs : List (Str × V)} {nm : Str} {v : V} {D : Ends} {tz : TS}
theorem em_mkOb {α' : Type} {A : AR α'} {B : AR γ} {a : α'} {b' : γ} {pre : α' → Prop} {f : α' → Re β} {Rr : Hp → List (Str × V) → β → Prop} {up : ∀ {H H' : Hp} {fs : List (Str × V)} {b : β}, Ex H H' → Rr H fs b → Rr H' fs b} {dvs : List V}
    (h : Ea E' cl M tr σ I S B (.ok b') S') (hA : ∀ H vs, B H vs b' → A H (vs ++ dvs) a) (uA : UpA A) (hp : pre a) : Em E' cl M (tMake C (spIni C A pre f Rr cl) dvs E' tr) σ I S (kOb C Rr up) (f a) S' :=
  ⟨h.ad, fun H1 i w Q q qe => ea_of h H1 i w _ fun vs H2 e2 w2 r2 => by
    refine fun x dx nx nd ne => ?_
    have eN : Ex H2 (upd (upd H2 dx (.own x)) x (.ins C dx [])) := (Ex.new nd).trans (Ex.new (by rw [upd_ne (Ne.symm ne)]; exact nx))
    have xM : x ∉ M := fun z => w2.live _ z nx
    have e3 : ∀ H', Ex (del [x] (upd (upd H2 dx (.own x)) x (.ins C dx []))) (del [x] H') → Ex H2 H' := fun H' eB b o e => by
      have hb : b ≠ x := fun z => by rw [z, nx] at e; cases e
      exact (del_some.mp (eB b o (del_some.mpr ⟨by simp [hb], eN _ _ e⟩))).2
    refine ⟨x :: M, x, dx, vs ++ dvs, a, rfl, List.mem_cons_self, fun m hm => ?_, upd_same, uA ((del_new nx).trans (ex_del eN)) (hA _ _ r2), hp, fun b fs H' hf hx eB hR => ⟨rfl, ?_⟩, fun k H' hf eB => ?_⟩
    · rcases List.mem_cons.mp hm with z | z
      · rw [z, upd_same]; exact fun z => nomatch z
      · cases h2 : H2 m with
        | none => exact absurd h2 (w2.live m z)
        | some o => rw [eN m o h2]; exact fun z => nomatch z
    · exact q b _ H' hf (e2.trans (ex_del (e3 H' eB))) (w2.ex (e3 H' eB)) ⟨x, dx, fs, rfl, del_at xM hx, up del_free hR⟩
    · exact qe k H' hf (e2.trans (ex_del (e3 H' eB))) (w2.ex (e3 H' eB))⟩
theorem em_mkObP {α' : Type} {A : AR α'} {B : AR γ} {a : α'} {b' : γ} {y : β} {pre : α' → Prop} {f : α' → Re β} {Rr : Hp → List (Str × V) → β → Prop} {up : ∀ {H H' : Hp} {fs : List (Str × V)} {b : β}, Ex H H' → Rr H fs b → Rr H' fs b} {dvs : List V}
    (h : Ea E cl M tr σ I S B (.ok b') S') (hA : ∀ H vs, B H vs b' → A H (vs ++ dvs) a) (uA : UpA A) (hp : pre a) (hf : f a = .ok y) : Em E cl M (tMake C (spIni C A pre f Rr cl) dvs E' tr) σ I S (kOb C Rr up) (.ok y) S' :=
  em_mk h.ad fun H1 i w Q q => ea_of h H1 i w _ fun vs H2 e2 w2 r2 => by
    refine fun x dx nx nd ne => ?_
    have eN : Ex H2 (upd (upd H2 dx (.own x)) x (.ins C dx [])) := (Ex.new nd).trans (Ex.new (by rw [upd_ne (Ne.symm ne)]; exact nx))
    have xM : x ∉ M := fun z => w2.live _ z nx
    have e3 : ∀ H', Ex (del [x] (upd (upd H2 dx (.own x)) x (.ins C dx []))) (del [x] H') → Ex H2 H' := fun H' eB b o e => by
      have hb : b ≠ x := fun z => by rw [z, nx] at e; cases e
      exact (del_some.mp (eB b o (del_some.mpr ⟨by simp [hb], eN _ _ e⟩))).2
    refine ⟨x :: M, x, dx, vs ++ dvs, a, rfl, List.mem_cons_self, fun m hm => ?_, upd_same, uA ((del_new nx).trans (ex_del eN)) (hA _ _ r2), hp, fun b fs H' hf' hx eB hR => ⟨rfl, ?_⟩, fun k H' hf' eB => ?_⟩
    · rcases List.mem_cons.mp hm with z | z
      · rw [z, upd_same]; exact fun z => nomatch z
      · cases h2 : H2 m with
        | none => exact absurd h2 (w2.live m z)
        | some o => rw [eN m o h2]; exact fun z => nomatch z
    · rw [hf] at hf'
      cases hf'
      exact q _ H' (e2.trans (ex_del (e3 H' eB))) (w2.ex (e3 H' eB)) ⟨x, dx, fs, rfl, del_at xM hx, up del_free hR⟩
    · rw [hf] at hf'; cases hf'
/-- o.nm of an object -/
theorem em_obF {b : β} {y : α} {Rr : Hp → List (Str × V) → β → Prop} {up : ∀ {H H' : Hp} {fs : List (Str × V)} {b : β}, Ex H H' → Rr H fs b → Rr H' fs b} (hc : Cls K C) (hn : NoAttr K C nm) (hl : ∀ H fs, Rr H fs b → ∃ v, fs.lookup nm = some v ∧ t.r H v y) (h : Em E cl M to σ I S (kOb C Rr up) (.ok b) S') : Em E cl M (tFld K to nm) σ I S t (.ok y) S' :=
  em_mk h.ad fun H1 i w Q q => em_of h H1 i w _ fun v H2 e w2 r => by
    obtain ⟨x, dx, fs, rfl, h1, h2⟩ := r
    obtain ⟨v, h3, h4⟩ := hl _ _ h2
    exact ⟨x, C, dx, fs, v, rfl, (del_some.mp h1).2, hc, hn, h3, q v H2 e w2 h4⟩
/-- self.nm, self in the making -/
theorem em_cellF {n : Nat} {y : α} (ho : Em E cl M to σ I S (kPtr x) (.ok ()) S) (hk : S[n]? = some (cIns x C dx fs)) (hc : Cls K C) (hn : NoAttr K C nm) (hl : fs.lookup nm = some v) (r : t.r I v y) : Em E cl M (tFld K to nm) σ I S t (.ok y) S :=
  em_mk ho.ad fun H1 i w Q q => em_of ho H1 i w _ fun v' H2 e w2 r' => by
    obtain rfl : v' = .ref x := r'
    obtain ⟨_, o, h1, h2⟩ := w2.at_ _ (List.mem_of_getElem? hk)
    obtain rfl : o = .ins C dx fs := h2
    exact ⟨x, C, dx, fs, v, rfl, h1, hc, hn, hl, q v H2 e w2 (t.up (i.trans (w.grow e)) r)⟩
/-- self.nm = e -/
theorem g_fld {n : Nat} {y : α} (w : Holds M S H) (h : Em E cl M tv σ (del M H) S t (.ok y) S1) (ho : Em E cl M to σ (del M H) S1 (kPtr x) (.ok ()) S1) (hk : S1[n]? = some (cIns x C dx fs)) (hc : Cls K C) (hn : NoAttr K C nm) (hl : fs.length < 1000)
    (k : ∀ v H2, Gr M S H H2 → Holds M (S1.set n (cIns x C dx (putF nm v fs))) H2 → t.r (del M H2) v y → tz D σ H2) : tSeq (sFld K to tv nm) tz D σ H :=
  em_of h H (Ex.refl _) w _ fun v H2 e w2 r => em_of ho H2 (w.grow e) w2 _ fun v' H3 e3 w3 r' => by
    obtain rfl : v' = .ref x := r'
    obtain ⟨hM, o, h1, h2⟩ := w3.at_ _ (List.mem_of_getElem? hk)
    obtain rfl : o = .ins C dx fs := h2
    have w4 : Holds M (S1.set n (cIns x C dx (putF nm v fs))) (upd H3 x (.ins C dx (putF nm v fs))) := w3.put (c := cIns x C dx fs) (c' := cIns x C dx (putF nm v fs)) hk rfl rfl
    have xs : x ∈ ads S := by
      have : x ∈ ads S1 := List.mem_map.mpr ⟨_, List.mem_of_getElem? hk, rfl⟩
      rw [h.ad] at this
      exact this
    have e4 : Ex (del (ads S) H3) (del (ads S) (upd H3 x (.ins C dx (putF nm v fs)))) := by rw [del_upd xs]; exact Ex.refl _
    have e03 : Ex (del (ads S) H) (del (ads S) H3) := ads_tr h.ad e e3
    refine ⟨x, C, dx, fs, rfl, h1, hc, hn, hl, k v _ (.of w (e03.trans e4)) w4 ?_⟩
    rw [del_upd (show x ∈ M from hM)]
    exact t.up (w2.grow e3) r
theorem g_fldL {n : Nat} {y : α} (w : Holds M S H) (h : Em E cl M tv σ (del M H) S t (.ok y) S1) (ho : Em E cl M to σ (del M H) S1 (kPtr x) (.ok ()) S1) (hk : S1[n]? = some (cIns x C dx fs)) (hc : Cls K C) (hn : NoAttr K C nm) (hl : fs.length < 1000)
    (k : ∀ v H2, Gr M S H H2 → Holds M (S1.set n (cIns x C dx (putF nm v fs))) H2 → t.r (del M H2) v y → D.nx σ H2) : sFld K to tv nm D σ H :=
  g_fld (tz := fun D σ H => D.nx σ H) (D := D) w h ho hk hc hn hl k
theorem pe_GI {X : Cx} {pos : Pos} {x : Str} {i : Int} (h : ∃ t, X.mg x = some (.int i t)) (hg : Gl X x := by rfl) (hd : (x == "__debug__") = false := by rfl) : PE X (.Name x pos) (tC (.int i)) :=
  let ⟨t, e⟩ := h
  pe_glob hg e ⟨t, rfl⟩ hd
theorem o_tupT {K : PySem.W.Frag} {α : Type} {t : Ty α} {xs : List α} : OpN (fun xs H Q => ∃ p ys, xs = [.ref p] ∧ ((SqL K H p ys ∧ ∀ l, H l = none → Q (.ref l) (upd H l (.tup ys))) ∨ (SqT K H p ys ∧ Q (.ref p) H))) (aC (kT K t) a0) (xs, ()) (kT K t) xs := fun M us H l a Q q => by
  obtain ⟨v, r, rfl, ⟨p, vs, rfl, hp, ha⟩, rfl⟩ := a
  exact ⟨p, vs, rfl, .inr ⟨ex_t del_le hp, q _ H (Ex.refl H) ⟨p, vs, rfl, hp, ha⟩⟩⟩
theorem o_tup2 {K : PySem.W.Frag} {α β : Type} {t : Ty α} {u : Ty β} {x : α × β} : OpN (fun xs H Q => ∃ p ys, xs = [.ref p] ∧ ((SqL K H p ys ∧ ∀ l, H l = none → Q (.ref l) (upd H l (.tup ys))) ∨ (SqT K H p ys ∧ Q (.ref p) H))) (aC (k2 K t u) a0) (x, ()) (k2 K t u) x := fun M us H l a Q q => by
  obtain ⟨v, r, rfl, ⟨p, v1, v2, rfl, hp, ha⟩, rfl⟩ := a
  exact ⟨p, _, rfl, .inr ⟨ex_t del_le hp, q _ H (Ex.refl H) ⟨p, v1, v2, rfl, hp, ha⟩⟩⟩
end
end Rw
namespace Rw
open PySem PySem.Spec PyProof.Rows L2 Evl
section
variable {K : PySem.W.Frag} {α β γ δ R τ : Type} {E E' : XK} {cl : Nat → Addr} {M : List Addr} {σ : L2.St} {I I' H H' : Hp} {S S' S1 S2 S3 : List Cell} {te ta tb tc to tv : TE} {tt : TT} {tr tk : TA} {t : Ty α} {u : Ty β} {w' : Ty γ} {C x dx : Addr} {D : Ends} {tz : TS}
theorem cond_ok {b : Bool} {x y : α} : cond b (Re.ok x) (Re.ok y) = Re.ok (cond b x y) := by cases b <;> rfl
theorem args_mG {t : Ty α} {A : AR β} {x : α} {b : β} : ∀ (H : Hp) (v : V) (vs : List V), t.r H v x → A H vs b → aC t A H (v :: (vs ++ [])) (x, b) := fun H v vs r h => ⟨v, vs ++ [], rfl, r, by rw [List.append_nil]; exact h⟩
theorem em_2T {x y : α} (h : Em E cl M te σ I S (k2 K t t) (.ok (x, y)) S') : Em E cl M te σ I S (kT K t) (.ok [x, y]) S' :=
  em_ty h fun H v ⟨p, a, b, e, s, ra, rb⟩ => ⟨p, [a, b], e, s, .cons ra (.cons rb .nil)⟩
theorem em_3T {x y z : α} (h : Em E cl M te σ I S (k3 K t t t) (.ok (x, y, z)) S') : Em E cl M te σ I S (kT K t) (.ok [x, y, z]) S' :=
  em_ty h fun H v ⟨p, a, b, c, e, s, ra, rb, rc⟩ => ⟨p, [a, b, c], e, s, .cons ra (.cons rb (.cons rc .nil))⟩
theorem o_catT {xs ys : List α} (h : xs ≠ []) (hl : xs.length + ys.length ≤ 100000) : Op2 (rCatT K) (kT K t) xs (kT K t) ys (kT K t) (xs ++ ys) := fun M v1 v2 H l a b Q q => by
  obtain ⟨p, vs, rfl, hp, ha⟩ := a
  obtain ⟨p2, vs2, rfl, hp2, ha2⟩ := b
  exact ⟨p, p2, vs, vs2, rfl, rfl, ex_t del_le hp, ex_t del_le hp2, (fun z => by subst z; cases ha; exact h rfl), sz_of (by rw [ha.len, ha2.len]; exact hl), (fun z => by subst z; cases ha2; exact q _ H (Ex.refl H) ⟨p, vs, rfl, hp, by rw [List.append_nil]; exact ha⟩), fun _ q2 hq => q _ _ (Ex.new hq) ⟨q2, _, rfl, st_of (del_at (fresh_not l hq) upd_same), all2_up t (ex_del (Ex.new hq)) (ha.app ha2)⟩⟩
theorem o_catL {xs ys : List α} (hl : xs.length + ys.length ≤ 100000) (hX : ∀ (M : List Addr) (H : Hp) (v : V), (kL K t).r (del M H) v xs → ∃ p vs, v = .ref p ∧ H p = some (.lst vs) ∧ All2 (t.r (del M H)) vs xs) (hY : ∀ (M : List Addr) (H : Hp) (v : V), (kL K t).r (del M H) v ys → ∃ p vs, v = .ref p ∧ H p = some (.lst vs) ∧ All2 (t.r (del M H)) vs ys) : Op2 rCat (kL K t) xs (kL K t) ys (kL K t) (xs ++ ys) := fun M u w H l a b Q q => by
  obtain ⟨p, vs, rfl, hp, ha⟩ := hX _ _ _ a
  obtain ⟨p2, ws, rfl, hp2, hb⟩ := hY _ _ _ b
  exact ⟨p, p2, vs, ws, rfl, rfl, hp, hp2, sz_of (by rw [ha.len, hb.len]; exact hl), fun q2 hq => q _ _ (Ex.new hq) ⟨q2, _, rfl, sq_of (del_at (fresh_not l hq) upd_same), all2_up t (ex_del (Ex.new hq)) (ha.app hb)⟩⟩
theorem em_kXL {xs : List α} (h : Em E cl M te σ I S (kX t) (.ok xs) S') : Em E cl M te σ I S (kL K t) (.ok xs) S' :=
  em_ty h fun H v ⟨p, vs, e, s, r⟩ => ⟨p, vs, e, sq_of s, r⟩
theorem o_tupL {K : PySem.W.Frag} {α : Type} {t : Ty α} {xs : List α} : OpN (fun xs H Q => ∃ p ys, xs = [.ref p] ∧ ((SqL K H p ys ∧ ∀ l, H l = none → Q (.ref l) (upd H l (.tup ys))) ∨ (SqT K H p ys ∧ Q (.ref p) H))) (aC (kL K t) a0) (xs, ()) (kT K t) xs := fun M us H l a Q q => by
  obtain ⟨v, r, rfl, ⟨p, vs, rfl, hp, ha⟩, rfl⟩ := a
  exact ⟨p, vs, rfl, .inl ⟨ex_l del_le hp, mk_tup l ha q⟩⟩
/-! ### least and greatest -/
def minOf (l : List Int) : Int := l.foldl min (l.headD 0)
theorem fold_min : ∀ (l : List Int) (a : Int), l.foldl min a ≤ a ∧ (∀ x ∈ l, l.foldl min a ≤ x) ∧ (l.foldl min a = a ∨ l.foldl min a ∈ l)
  | [], a => ⟨Int.le_refl _, fun x h => (by cases h), .inl rfl⟩
  | b :: l, a => by
    obtain ⟨h1, h2, h3⟩ := fold_min l (min a b)
    rw [List.foldl_cons]
    refine ⟨by omega, fun x hx => ?_, ?_⟩
    · rcases List.mem_cons.mp hx with z | z
      · rw [z]; omega
      · exact h2 x z
    · rcases h3 with z | z
      · rw [z]
        rcases Int.le_total a b with q | q
        · left; exact Int.min_eq_left q
        · right; rw [Int.min_eq_right q]; exact List.mem_cons_self
      · exact .inr (List.mem_cons_of_mem _ z)
theorem minOf_is {l : List Int} {m : Int} (h : m ∈ l) (k : ∀ n ∈ l, m ≤ n) : minOf l = m := by
  unfold minOf
  obtain ⟨h1, h2, h3⟩ := fold_min l (l.headD 0)
  have a := h2 m h
  have hd : l.headD 0 ∈ l := by cases l with
    | nil => cases h
    | cons a l => exact List.mem_cons_self
  have b : m ≤ l.foldl min (l.headD 0) := by
    rcases h3 with z | z
    · rw [z]; exact k _ hd
    · exact k _ z
  omega
theorem minOf_mem {l : List Int} (h : 0 < l.length) : minOf l ∈ l ∧ ∀ n ∈ l, minOf l ≤ n := by
  unfold minOf
  obtain ⟨h1, h2, h3⟩ := fold_min l (l.headD 0)
  refine ⟨?_, h2⟩
  rcases h3 with z | z
  · rw [z]
    cases l with
    | nil => cases h
    | cons a l => exact List.mem_cons_self
  · exact z
theorem topOf_mem {l : List Int} (h : 0 < l.length) : topOf l ∈ l ∧ ∀ n ∈ l, n ≤ topOf l := by
  unfold topOf
  obtain ⟨h1, h2, h3⟩ := fold_max l (l.headD 0)
  refine ⟨?_, h2⟩
  rcases h3 with z | z
  · rw [z]
    cases l with
    | nil => cases h
    | cons a l => exact List.mem_cons_self
  · exact z
theorem o_minT {ns : List Int} (h : 0 < ns.length) : OpN (rMinT K) (aC (kT K kI) a0) (ns, ()) kI (minOf ns) := fun M us H l a Q q => by
  obtain ⟨v, r, rfl, ⟨p, vs, rfl, hp, ha⟩, rfl⟩ := a
  exact ⟨p, ns, rfl, ex_t del_le (by rw [← all_ints ha]; exact hp), h, fun m h1 h2 => q _ H (Ex.refl H) (by rw [minOf_is h1 h2]; rfl)⟩
theorem o_minL {ns : List Int} (h : 0 < ns.length) : OpN (rMin K) (aC (kL K kI) a0) (ns, ()) kI (minOf ns) := fun M us H l a Q q => by
  obtain ⟨v, r, rfl, ⟨p, vs, rfl, hp, ha⟩, rfl⟩ := a
  exact ⟨p, ns, rfl, ex_l del_le (by rw [← all_ints ha]; exact hp), h, fun m h1 h2 => q _ H (Ex.refl H) (by rw [minOf_is h1 h2]; rfl)⟩
theorem o_maxL {ns : List Int} (h : 0 < ns.length) : OpN (rMax K) (aC (kL K kI) a0) (ns, ()) kI (topOf ns) := fun M us H l a Q q => by
  obtain ⟨v, r, rfl, ⟨p, vs, rfl, hp, ha⟩, rfl⟩ := a
  exact ⟨p, ns, rfl, ex_l del_le (by rw [← all_ints ha]; exact hp), h, fun m h1 h2 => q _ H (Ex.refl H) (by rw [topOf_is h1 h2]; rfl)⟩
theorem o_sumT {ns : List Int} : OpN (rSumT K) (aC (kT K kI) a0) (ns, ()) kI ns.sum := fun M us H l a Q q => by
  obtain ⟨v, r, rfl, ⟨p, vs, rfl, hp, ha⟩, rfl⟩ := a
  exact ⟨p, ns, rfl, ex_t del_le (by rw [← all_ints ha]; exact hp), q _ H (Ex.refl H) rfl⟩
theorem em_ckw {ns : List Int} {d : Int} (h : Ea E cl M tr σ I S (aC (kL K kI) a0) (.ok (ns, ())) S1) (h2 : Ea E cl M tk σ I S1 (aC kI a0) (.ok (d, ())) S2) : Em E cl M (tCKw (rMaxD K) tr tk) σ I S kI (.ok (maxD d ns)) S2 :=
  em_mk (h2.ad.trans h.ad) fun H1 i w Q q => ea_of h H1 i w _ fun us H2 e2 w2 r2 => ea_of h2 H2 (i.trans (w.grow e2)) w2 _ fun zs H3 e3 w3 r3 => by
    obtain ⟨v, r, rfl, hv, rfl⟩ := r2
    obtain ⟨p, vs, rfl, hp, ha⟩ := (kL K kI).up (w2.grow e3) hv
    obtain ⟨z, r', rfl, rfl, rfl⟩ := r3
    exact ⟨p, ns, d, rfl, rfl, ex_l del_le (by rw [← all_ints ha]; exact hp), q _ H3 (ads_tr h.ad e2 e3) w3 rfl⟩
theorem o_negI {i : Int} : Op1 (rU fun i => .int (-i)) kI i kI (-i) := fun M v H l a Q q => by
  obtain rfl : v = .int i := a
  exact ⟨i, rfl, q _ H (Ex.refl H) rfl⟩
/-! ### x in a list, a list's count -/
theorem op_notInK {X : Cx} (h : X.K = K := by rfl) : OpR X (compareOp .NotIn) (rIn K true) := by
  subst h
  exact op_notIn_seq
theorem inV_int {i : Int} : ∀ {xs : List Int} {vs : List V} {H : Hp}, All2 (kI.r H) vs xs → (vs.all flatV = true ∧ inV (.int i) vs = decide (i ∈ xs))
  | [], vs, H, h => by cases h; exact ⟨rfl, rfl⟩
  | x :: xs, vs, H, h => by
    cases h with
    | cons a t =>
      obtain ⟨p, q⟩ := inV_int (i := i) t
      cases a
      refine ⟨by rw [List.all_cons, p]; rfl, ?_⟩
      show (eqV (.int x) (.int i) || inV (.int i) _) = _
      rw [q]
      show (decide (x = i) || _) = _
      by_cases e : x = i
      · rw [decide_eq_true e, Bool.true_or, decide_eq_true (by rw [e]; exact List.mem_cons_self)]
      · rw [decide_eq_false e, Bool.false_or]
        congr 1
        rw [List.mem_cons]
        simp [Ne.symm e, eq_comm]
theorem o_inI {neg : Bool} {i : Int} {xs : List Int} : Op2 (rIn K neg) kI i (kL K kI) xs kB (if neg then !decide (i ∈ xs) else decide (i ∈ xs)) := fun M v1 v2 H l a b Q q => by
  obtain ⟨p, vs, rfl, hp, ha⟩ := b
  obtain rfl : v1 = .int i := a
  obtain ⟨f1, f2⟩ := inV_int (i := i) ha
  refine ⟨p, vs, rfl, .inl (ex_l del_le hp), rfl, f1, ?_⟩
  rw [f2]
  exact q _ H (Ex.refl H) rfl
theorem o_inIT {neg : Bool} {i : Int} {xs : List Int} : Op2 (rIn K neg) kI i (kT K kI) xs kB (if neg then !decide (i ∈ xs) else decide (i ∈ xs)) := fun M v1 v2 H l a b Q q => by
  obtain ⟨p, vs, rfl, hp, ha⟩ := b
  obtain rfl : v1 = .int i := a
  obtain ⟨f1, f2⟩ := inV_int (i := i) ha
  refine ⟨p, vs, rfl, .inr (ex_t del_le hp), rfl, f1, ?_⟩
  rw [f2]
  exact q _ H (Ex.refl H) rfl
def cntI (i : Int) (ns : List Int) : Int := ((ns.countP fun n => decide (n = i) : Nat) : Int)
def rCntI (K : PySem.W.Frag) : V → List V → Hp → VK → Prop := fun x xs H Q => ∃ (a : Addr) (ns : List Int) (i : Int), x = .ref a ∧ xs = [.int i] ∧ SqL K H a (ns.map V.int) ∧ Q (.int (cntI i ns)) H
theorem vals_cnt {i : Int} {y : Value} (ry : RelV (.int i) y) : ∀ {ns : List Int} {us : List Value}, Vals (ns.map V.int) us → us.countP (eqU (.int i)) = ns.countP (fun n => decide (n = i))
  | [], us, h => by cases h; rfl
  | n :: ns, us, h => by
    cases h with
    | cons a t =>
      rename_i u us'
      rw [List.countP_cons, List.countP_cons, vals_cnt ry t, eqU_of a rfl]
      show _ + (if decide (n = i) = true then 1 else 0) = _
      rfl
theorem mt_cntI {X : Cx} : MtR X "list.count" (rCntI X.K) := fun pn sh st Hh v0 vs0 v1 us0 Q0 IV rv0 rvs hh => by
  obtain ⟨a, ns, i, rfl, rfl, hs, q⟩ := hh
  cases rv0
  cases rvs with
  | cons ry rt =>
    rename_i uy ut
    cases rt
    obtain ⟨its, rr, ⟨⟨c0, d0, da0, sl0⟩, n0, ho, hc0, hd0, hda⟩, hlen⟩ := IV.list hs
    simp only at hc0 hda
    subst hc0 hda
    have fl : (ns.map V.int).all flatV = true := by simp [flatV]
    refine call_meets PySem.F.slot_list_count ⟨_, ho, rfl⟩ PySem.F.entry_list_count (PySem.F.args_list_count_2 _ _) (SeqAt.list_countAt a its.toArray n0 d0 sl0 uy (eqU (.int i))) ⟨ho, fun u' hu' => mem_eqAt ry rfl rr fl u' (by simpa using hu'), ?_⟩
    refine ⟨.int (cntI i ns), Hh, IV.tok _, ⟨sh.toks, ?_⟩, q⟩
    unfold cntI
    rw [← vals_cnt ry rr]
theorem em_cntI {ns : List Int} {i : Int} (h : Em E cl M te σ I S (kL K kI) (.ok ns) S1) (h2 : Ea E cl M tr σ I S1 (aC kI a0) (.ok (i, ())) S2) : Em E cl M (tBM K "list" (rCntI K) te tr) σ I S kI (.ok (cntI i ns)) S2 :=
  em_mk (h2.ad.trans h.ad) fun H1 i1 w Q q => em_of h H1 i1 w _ fun v H2 e2 w2 r2 => by
    obtain ⟨p, vs, rfl, hp, ha⟩ := r2
    refine ⟨.inl ⟨rfl, vs, ex_l del_le hp⟩, ea_of h2 H2 (i1.trans (w.grow e2)) w2 _ fun us H3 e3 w3 r3 => ?_⟩
    obtain ⟨z, r', rfl, rfl, rfl⟩ := r3
    exact ⟨p, ns, i, rfl, rfl, ex_l ((w2.grow e3).trans del_le) (by rw [← all_ints ha]; exact hp), q _ H3 (ads_tr h.ad e2 e3) w3 rfl⟩
end
end Rw
namespace Rw
open PySem PySem.Spec PyProof.Rows L2 Evl
section
variable {K : PySem.W.Frag} {α β γ δ R τ : Type} {E E' : XK} {cl : Nat → Addr} {M : List Addr} {σ : L2.St} {I I' H H' : Hp} {S S' S1 S2 S3 : List Cell} {te ta tb tc to tv : TE} {tt : TT} {tr tk : TA} {t : Ty α} {u : Ty β} {p x dx : Addr} {D : Ends} {tz : TS} {l : List (Int × Int)} {P : R → Prop}
theorem g_newD {i : Nat} (w : Holds M S H) (c : ∀ p H2, H p = none → Gr M S H H2 → Holds (p :: M) (cD p [] :: S) H2 → Ex (del M H) (del (p :: M) H2) → tz D (σ.set i (some (.ref p))) H2) : tSeq (tAsg tDNewK (gName i)) tz D σ H := fun p hp => by
  have e0 : Ex H (upd H p (.dK [])) := Ex.new hp
  exact c p _ hp ⟨ex_del e0, ex_del e0⟩ (w.new (c := cD p []) hp e0 upd_same rfl) ((del_new hp).trans (ex_del e0))
theorem g_appL {n : Nat} {p : Addr} {acc0 acc : List α} {x : α} {k : List α → R} (w : Holds M S H) (o : P (lt (acc ++ [x]) k)) (ha : Em E cl M ta σ (del M H) S (kPtr p) (.ok ()) S) (h : Em E cl M te σ (del M H) S t (.ok x) S') (hk0 : S[n]? = some (cL p t acc0)) (hk : S'[n]? = some (cL p t acc)) (hz : acc.length < 100000)
    (c : ∀ acc' H2, acc' = acc ++ [x] → P (k acc') → Gr M S H H2 → Holds M (S'.set n (cL p t acc')) H2 → D.nx σ H2) : tDrop (tBM K "list" rAppend ta (tCons te tNil)) D σ H :=
  g_app (tz := fun D' σ' H' => D.nx σ' H') (D := D) w o ha h hk0 hk hz c
theorem em_cellGet {n : Nat} {k d : Int} (ha : Em E cl M ta σ I S (kPtr p) (.ok ()) S) (hb : Em E cl M tb σ I S kI (.ok k) S) (hc : Em E cl M tc σ I S kI (.ok d) S) (hk : S[n]? = some (cD p l)) : Em E cl M (tDGet2 ta tb tc) σ I S kI (.ok ((l.lookup k).getD d)) S :=
  em_mk rfl fun H1 i w Q q => em_of ha H1 i w _ fun v1 H2 e1 w1 r1 => by
    obtain rfl : v1 = .ref p := r1
    obtain ⟨_, o2, h2, ro⟩ := w1.at_ _ (List.mem_of_getElem? hk)
    obtain rfl : o2 = .dK (l.map pairV) := ro
    refine ⟨p, rfl, .inl ⟨_, .inl h2⟩, em_of hb H2 (i.trans (w.grow e1)) w1 _ fun v2 H3 e2 w2 r2 => em_of hc H3 ((i.trans (w.grow e1)).trans (w1.grow e2)) w2 _ fun v3 H4 e3 w3 r3 => ?_⟩
    obtain rfl : v2 = .int k := r2
    obtain rfl : v3 = .int d := r3
    obtain ⟨_, o4, h4, ro4⟩ := w3.at_ _ (List.mem_of_getElem? hk)
    obtain rfl : o4 = .dK (l.map pairV) := ro4
    refine ⟨valV (l.map pairV) (.inl k), DGet.k (k := .inl k) h4, ?_⟩
    rw [valV_pair]
    refine q _ H4 ((e1.trans e2).trans e3) w3 ?_
    cases l.lookup k with
    | none => rfl
    | some y => rfl
/-- two dicts of numbers that hold the same: never unlike -/
theorem o_neDic {l2 : List (Int × Int)} (hl : l.length = l2.length) (h : ∀ q ∈ l, l2.lookup q.1 = some q.2) : Op2 rNeDA kDN l kDN l2 kB false := fun M v1 v2 H lv a b Q q => by
  obtain ⟨p1, rfl, h1⟩ := a
  obtain ⟨p2, rfl, h2⟩ := b
  refine ⟨p1, p2, _, _, rfl, rfl, (del_some.mp h1).2, (del_some.mp h2).2, by rw [List.length_map, List.length_map]; exact hl, fun z hz => ?_, q _ H (Ex.refl H) rfl⟩
  obtain ⟨y, hy, rfl⟩ := List.mem_map.mp hz
  refine ⟨?_, rfl⟩
  show valV (l2.map pairV) (.inl y.1) = some (.int y.2)
  rw [valV_pair, h y hy]
  rfl
/-- dict(pairs) -/
def dictP (l : List (Int × Int)) : List (Int × Int) := l.foldl (fun acc q => putN acc q.1 q.2) []
theorem merge_pair : ∀ (l acc : List (Int × Int)), mergeK (acc.map pairV) (l.map pairV) = (l.foldl (fun acc q => putN acc q.1 q.2) acc).map pairV
  | [], acc => rfl
  | q :: l, acc => by
    rw [List.map_cons, List.foldl_cons]
    show mergeK (putK (acc.map pairV) (.inl q.1) (.int q.2)) (l.map pairV) = _
    rw [putK_pair]
    exact merge_pair l _
theorem pairs_r {I : Hp} : ∀ {l : List (Int × Int)} {vs : List V}, All2 ((k2 K kI kI).r I) vs l → ∃ ps : List Addr, vs = ps.map V.ref ∧ Paired (fun p (kv : Key × V) => SqT K I p [kV kv.1, kv.2]) ps (l.map pairV)
  | [], vs, h => by cases h; exact ⟨[], rfl, .nil⟩
  | q :: l, vs, h => by
    cases h with
    | cons a t =>
      obtain ⟨ps, rfl, hp⟩ := pairs_r t
      obtain ⟨p, u, w, rfl, hs, ru, rw_⟩ := a
      obtain rfl : u = .int q.1 := ru
      obtain rfl : w = .int q.2 := rw_
      exact ⟨p :: ps, rfl, .cons hs hp⟩
theorem paired_up {H H' : Hp} (e : Ex H H') {ps : List Addr} {ks : List (Key × V)} (h : Paired (fun p (kv : Key × V) => SqT K H p [kV kv.1, kv.2]) ps ks) : Paired (fun p (kv : Key × V) => SqT K H' p [kV kv.1, kv.2]) ps ks := by
  induction h with
  | nil => exact .nil
  | cons a _ ih => exact .cons (ex_t e a) ih
theorem o_dictPr : OpN (fun xs H Q => ∃ (a : Addr) (ps : List Addr) (kvs : List (Key × V)), xs = [.ref a] ∧ SqL K H a (ps.map V.ref) ∧ Paired (fun p kv => SqT K H p [kV kv.1, kv.2]) ps kvs ∧ ∀ p, H p = none → Q (.ref p) (upd H p (.dK (mergeK [] kvs)))) (aC (kL K (k2 K kI kI)) a0) (l, ()) kDN (dictP l) := fun M us H lv a Q q => by
  obtain ⟨v, r, rfl, ⟨p, vs, rfl, hp, ha⟩, rfl⟩ := a
  obtain ⟨ps, rfl, hps⟩ := pairs_r ha
  refine ⟨p, ps, _, rfl, ex_l del_le hp, paired_up del_le hps, fun p2 hp2 => q _ _ (Ex.new hp2) ⟨p2, rfl, ?_⟩⟩
  have e : mergeK [] (l.map pairV) = (dictP l).map pairV := merge_pair l []
  rw [e]
  exact del_at (fresh_not lv hp2) upd_same
end
end Rw
namespace Rw
open PySem PySem.Spec PyProof.Rows L2 Evl
section
variable {K : PySem.W.Frag} {α β γ δ R τ : Type} {E : XK} {cl : Nat → Addr} {M : List Addr} {σ : L2.St} {I I' H H' : Hp} {S S' S1 S2 S3 : List Cell} {te ta tb tc to : TE} {tt : TT} {tr : TA} {t : Ty α} {u : Ty β} {w' : Ty γ} {x : α} {y : β} {v : V} {xs : List α}
theorem em_lcEX {wi : TI} {g : TG} {vs : List Nat} {B : Hp → α → L2.St → Prop} {ct : α → τ → Bool × τ} {f : α → τ → β × τ} {Sx : τ → List Cell} {s0 : τ} (hi : Ei E cl M wi σ I S t xs (Sx s0)) (hz : xs.length ≤ 100000 - 1) (hS : ∀ s, ads (Sx s) = ads (Sx s0))
    (hg : Eg g t (wipe σ vs) B) (hw : ∀ I x σ', B I x σ' → wipe σ' vs = wipe σ vs)
    (ht : ∀ D acc I' x s σ', Ex I I' → x ∈ xs → B I' x σ' → Et E cl (D :: M) tt σ' I' (cL D u acc :: Sx s) (.ok (ct x s).1) (cL D u acc :: Sx (ct x s).2))
    (he : ∀ D acc I' x s σ', Ex I I' → x ∈ xs → (ct x s).1 = true → B I' x σ' → Em E cl (D :: M) te σ' I' (cL D u acc :: Sx (ct x s).2) u (.ok (f x (ct x s).2).1) (cL D u acc :: Sx (f x (ct x s).2).2)) :
    Em E cl M (tLc wi g tt te vs) σ I S (kX u) (.ok (runE ct f xs s0).1) (Sx (runE ct f xs s0).2) := by
  refine em_mk ((hS _).trans hi.ad) fun H0 i0 w0 Q q => hi.run H0 i0 w0 _ fun J H2 G Y e2 w2 wk gG gY D hD => ?_
  let acc : Nat → List β := fun i => (runE ct f (xs.take i) s0).1
  let st : Nat → τ := fun i => (runE ct f (xs.take i) s0).2
  let Pv : Nat → Hp → Prop := fun i H' => Holds (D :: M) (cL D u (acc i) :: Sx (st i)) H' ∧ Ex (del (D :: ads (Sx s0)) (upd H2 D (.lst []))) (del (D :: ads (Sx s0)) H')
  have dM : D ∉ M := fresh_not w2.live hD
  have toM : ∀ {i H'}, Pv i H' → Ex (del M H2) (del (D :: M) H') := fun {i H'} p => by
    refine ex_lone (o := .lst []) hD (ex_sub (A := D :: ads (Sx s0)) (fun a h => ?_) p.2)
    rcases List.mem_cons.mp h with z | z
    · rw [z]; exact List.mem_cons_self
    · exact List.mem_cons_of_mem _ (w2.sub a z)
  have stop : ∀ i, i < xs.length → ∃ x, xs[i]? = some x := fun i hi => ⟨xs[i], by simp [hi]⟩
  have accLen : ∀ i, (acc i).length ≤ i := by
    intro i
    have : ∀ (l : List α) (s : τ), (runE ct f l s).1.length ≤ l.length := by
      intro l
      induction l with
      | nil => intro s; exact Nat.le_refl _
      | cons a l ih =>
        intro s
        simp only [runE]
        split
        · simp only [List.length_cons]
          exact Nat.succ_le_succ (ih _)
        · exact Nat.le_succ_of_le (ih _)
    exact Nat.le_trans (this _ _) (by rw [List.length_take]; omega)
  refine lc_it wk Pv ⟨?_, Ex.refl _⟩ (fun i H' hi p => gG H' ((toM p).trans del_le2)) (fun i v H Hy hi p y => ?_) (fun H' p => ?_)
  · have e0 : acc 0 = [] := by show (runE ct f (xs.take 0) s0).1 = []; rw [List.take_zero]; rfl
    have e1 : st 0 = s0 := by show (runE ct f (xs.take 0) s0).2 = s0; rw [List.take_zero]; rfl
    show Holds (D :: M) (cL D u (acc 0) :: Sx (st 0)) _
    rw [e0, e1]
    exact w2.new (c := cL D u []) hD (Ex.new hD) upd_same ⟨[], rfl, .nil⟩
  · obtain ⟨x, hx⟩ := stop i hi
    have xm : x ∈ xs := List.mem_of_getElem? hx
    obtain ⟨eH, rv⟩ := gY i H v Hy x hx ((toM p).trans del_le2) y
    have rx := rv (D :: M) p.1.live (toM p)
    have wy := p.1.ex eH
    have i1 : Ex I (del (D :: M) Hy) := ((i0.trans (w0.grow e2)).trans (toM p)).trans (ex_del eH)
    refine hg v Hy x _ rx del_le _ fun σ' b => ⟨hw _ x σ' b, ?_⟩
    have tk : xs.take (i + 1) = xs.take i ++ [x] := by rw [List.take_add_one, hx]; rfl
    have nx : runE ct f (xs.take (i + 1)) s0 = (if (ct x (st i)).1 = true then (acc i ++ [(f x (ct x (st i)).2).1], (f x (ct x (st i)).2).2) else (acc i, (ct x (st i)).2)) := by rw [tk, runE_app]
    have fr : Ex (del (D :: ads (Sx s0)) (upd H2 D (.lst []))) (del (D :: ads (Sx s0)) Hy) := p.2.trans (ex_del eH)
    have same : ∀ s, ads (cL D u (acc i) :: Sx s) = D :: ads (Sx s0) := fun s => by show D :: ads (Sx s) = _; rw [hS s]
    refine et_of (ht D (acc i) _ x (st i) σ' i1 xm b) Hy (Ex.refl _) wy _ fun H3 e3 w3 => ?_
    rw [same] at e3
    cases hc : (ct x (st i)).1 with
    | true =>
      rw [if_pos rfl]
      have i3 : Ex (del (D :: M) Hy) (del (D :: M) H3) := wy.grow (by rw [same]; exact e3)
      refine em_of (he D (acc i) _ x _ σ' i1 xm hc b) H3 i3 w3 _ fun vy H4 e4 w4 r4 => ?_
      rw [same] at e4
      obtain ⟨_, o4, h4, ys, rfl, a4⟩ := w4.at_ _ List.mem_cons_self
      refine ⟨ys, h4, ?_, ?_, ?_⟩
      · rw [All2.len a4]
        exact sz_lt (by have := accLen i; show (acc i).length < _; omega)
      · have a1 : acc (i + 1) = acc i ++ [(f x (ct x (st i)).2).1] := by show (runE ct f (xs.take (i + 1)) s0).1 = _; rw [nx]; simp [hc]
        have s1 : st (i + 1) = (f x (ct x (st i)).2).2 := by show (runE ct f (xs.take (i + 1)) s0).2 = _; rw [nx]; simp [hc]
        show Holds (D :: M) (cL D u (acc (i + 1)) :: Sx (st (i + 1))) _
        rw [a1, s1]
        exact w4.put (k := 0) (c := cL D u (acc i)) (c' := cL D u (acc i ++ [(f x (ct x (st i)).2).1])) rfl rfl ⟨_, rfl, a4.app (.one r4)⟩
      · rw [show del (D :: ads (Sx s0)) (upd H4 D (.lst (ys ++ [vy]))) = del (D :: ads (Sx s0)) H4 from del_upd List.mem_cons_self]
        exact (fr.trans e3).trans e4
    | false =>
      rw [if_neg Bool.false_ne_true]
      refine ⟨?_, fr.trans e3⟩
      have a1 : acc (i + 1) = acc i := by show (runE ct f (xs.take (i + 1)) s0).1 = _; rw [nx]; simp [hc]
      have s1 : st (i + 1) = (ct x (st i)).2 := by show (runE ct f (xs.take (i + 1)) s0).2 = _; rw [nx]; simp [hc]
      rw [a1, s1]
      exact w3
  · have al : acc xs.length = (runE ct f xs s0).1 := by show (runE ct f (xs.take xs.length) s0).1 = _; rw [List.take_length]
    have sl : st xs.length = (runE ct f xs s0).2 := by show (runE ct f (xs.take xs.length) s0).2 = _; rw [List.take_length]
    obtain ⟨pw, pe⟩ := p
    rw [al, sl] at pw
    obtain ⟨_, o4, h4, ys, rfl, a4⟩ := pw.at_ _ List.mem_cons_self
    refine q _ H' ?_ (pw.drop (c := cL D u _) dM) ⟨D, ys, rfl, del_at dM h4, all2_up u del_le2 a4⟩
    rw [← hi.ad]
    rw [← hi.ad] at e2
    exact e2.trans ((ex_lone (M := ads (Sx s0)) hD pe).trans del_le2)
theorem em_lcX {wi : TI} {g : TG} {vs : List Nat} {B : Hp → α → L2.St → Prop} (c : α → Bool) (f : α → β) (hi : Ei E cl M wi σ I S t xs S1) (hz : xs.length ≤ 100000 - 1) (hg : Eg g t (wipe σ vs) B) (hw : ∀ I x σ', B I x σ' → wipe σ' vs = wipe σ vs)
    (ht : ∀ M' S' I' x σ', Ex I I' → x ∈ xs → B I' x σ' → Et E cl M' tt σ' I' S' (.ok (c x)) S') (he : ∀ M' S' I' x σ', Ex I I' → x ∈ xs → c x = true → B I' x σ' → Em E cl M' te σ' I' S' u (.ok (f x)) S') :
    Em E cl M (tLc wi g tt te vs) σ I S (kX u) (.ok ((xs.filter c).map f)) S1 := by
  have h := em_lcEX (u := u) (te := te) (tt := tt) (ct := fun x (s : Unit) => (c x, s)) (f := fun x (s : Unit) => (f x, s)) (Sx := fun _ => S1) (s0 := ()) hi hz (fun _ => rfl) hg hw (fun D acc I' x s σ' a b d => ht _ _ I' x σ' a b d) (fun D acc I' x s σ' a b d z => he _ _ I' x σ' a b d z)
  rw [runE_pure] at h
  exact h
end
theorem q_dice2 {K : PySem.W.Frag} {a PT : Addr} {LQ : Str} {ns : List Int} {σ : L2.St} {H : Hp} {ta : TA} {D : Ends} {tu tz : TS} {j : Nat} (hv : EvA ta σ H [.ref a, .int 1]) (hS : SqL K H a (ns.map V.int)) (hT : H PT = some (.tbl #[])) (Sg : L2.St → Prop) (s0 : Sg σ)
    (hs : ∀ d z σ' H', Sg σ' → Holds [d, PT] [cDice d z, cTab PT LQ] H' → ∀ Nx : L2.St → Hp → Prop, (∀ z' σ2 H2, Sg σ2 → Gr [d, PT] [cDice d z, cTab PT LQ] H' H2 → Holds [d, PT] [cDice d z', cTab PT LQ] H2 → Nx σ2 H2) → tu { D with nx := Nx, ct := Nx, bk := tz D } (σ'.set j (some (.ref d))) H')
    (hd : ∀ d z σ' H', Sg σ' → Holds [d, PT] [cDice d z, cTab PT LQ] H' → tz D σ' H') :
    tSeq (tFor (iList K (tCall (spRounds K) [] E0 ta)) (gName j) tu) tz D σ H :=
  hv H (Ex.refl H) _ fun H1 e1 => ⟨a, ns, rfl, ex_l e1 hS, fun r d x y z H2 hr hd0 hne e2 h2 h3 => by
    have hP : H2 PT = some (.tbl #[]) := e2 _ _ (e1 _ _ hT)
    have dP : d ≠ PT := fun q => by rw [q, hP] at h3; cases h3
    have rP : r ≠ PT := fun q => by rw [q, hP] at h2; cases h2
    have w0 : Holds [d, PT] [cDice d (x, y, z), cTab PT LQ] H2 := by
      refine ⟨fun c hc => ?_, by simp [ads, cDice, cTab, dP], fun m hm => ?_⟩
      · rcases List.mem_cons.mp hc with q | q
        · rw [q]; exact ⟨List.mem_cons_self, _, h3, rfl⟩
        · rw [List.mem_singleton.mp q]
          refine ⟨by simp [cTab], _, hP, #[], rfl, by first | trivial | decide, fun pos cv z => ?_⟩
          cases z
      · rcases List.mem_cons.mp hm with q | q
        · rw [q, h3]; exact fun z => nomatch z
        · rw [List.mem_singleton.mp q, hP]; exact fun z => nomatch z
    have rM : r ∉ [d, PT] := by simp [hne, rP]
    have keep : ∀ H', Ex (del [d, PT] H2) (del [d, PT] H') → H' r = some (.lst [.ref d]) := fun H' e => (del_some.mp (e r _ (del_some.mpr ⟨rM, h2⟩))).2
    refine ⟨r, rfl, ⟨_, SqL.of h2⟩, for_list (xs := [.ref d]) (fun _ σ' H' => Sg σ' ∧ Ex (del [d, PT] H2) (del [d, PT] H') ∧ ∃ z, Holds [d, PT] [cDice d z, cTab PT LQ] H') ⟨s0, Ex.refl _, _, w0⟩ (fun i σ' H' _ p => SqL.of (keep H' p.2.1)) (fun i v σ' H' hi p => ?_) (fun σ' H' p => ?_)⟩
    · obtain rfl : v = .ref d := by
        cases i with
        | zero => exact (Option.some.inj hi).symm
        | succ i => simp at hi
      obtain ⟨p1, p2, z, p3⟩ := p
      exact hs d z σ' H' p1 p3 _ fun z' σ2 H3 g1 g2 g3 => ⟨g1, p2.trans g2.im, z', g3⟩
    · obtain ⟨p1, p2, z, p3⟩ := p
      exact hd d z σ' H' p1 p3⟩
theorem q_dice3 {K : PySem.W.Frag} {a PT : Addr} {LQ : Str} {ns : List Int} {σ : L2.St} {H : Hp} {ta : TA} {D : Ends} {tu tz : TS} {j : Nat} (hv : EvA ta σ H [.ref a, .int 1]) (hS : SqL K H a (ns.map V.int)) (hT : H PT = some (.tbl #[])) (Sg : L2.St → Prop) (s0 : Sg σ)
    (hs : ∀ d z σ' H', Sg σ' → Holds [d, PT] [cDice d z, cTab PT LQ] H' → ∀ Nx : L2.St → Hp → Prop, (∀ z' σ2 H2, Sg σ2 → Gr [d, PT] [cDice d z, cTab PT LQ] H' H2 → Holds [d, PT] [cDice d z', cTab PT LQ] H2 → Nx σ2 H2) → tu { D with nx := Nx, ct := Nx, bk := tz D } (σ'.set j (some (.ref d))) H')
    (hd : ∀ d z σ' H', Sg σ' → (∀ a o, a ≠ PT → H a = some o → H' a = some o) → Holds [d, PT] [cDice d z, cTab PT LQ] H' → tz D σ' H') :
    tSeq (tFor (iList K (tCall (spRounds K) [] E0 ta)) (gName j) tu) tz D σ H :=
  hv H (Ex.refl H) _ fun H1 e1 => ⟨a, ns, rfl, ex_l e1 hS, fun r d x y z H2 hr hd0 hne e2 h2 h3 => by
    have hP : H2 PT = some (.tbl #[]) := e2 _ _ (e1 _ _ hT)
    have dP : d ≠ PT := fun q => by rw [q, hP] at h3; cases h3
    have rP : r ≠ PT := fun q => by rw [q, hP] at h2; cases h2
    have w0 : Holds [d, PT] [cDice d (x, y, z), cTab PT LQ] H2 := by
      refine ⟨fun c hc => ?_, by simp [ads, cDice, cTab, dP], fun m hm => ?_⟩
      · rcases List.mem_cons.mp hc with q | q
        · rw [q]; exact ⟨List.mem_cons_self, _, h3, rfl⟩
        · rw [List.mem_singleton.mp q]
          refine ⟨by simp [cTab], _, hP, #[], rfl, by first | trivial | decide, fun pos cv z => ?_⟩
          cases z
      · rcases List.mem_cons.mp hm with q | q
        · rw [q, h3]; exact fun z => nomatch z
        · rw [List.mem_singleton.mp q, hP]; exact fun z => nomatch z
    have rM : r ∉ [d, PT] := by simp [hne, rP]
    have keep : ∀ H', Ex (del [d, PT] H2) (del [d, PT] H') → H' r = some (.lst [.ref d]) := fun H' e => (del_some.mp (e r _ (del_some.mpr ⟨rM, h2⟩))).2
    refine ⟨r, rfl, ⟨_, SqL.of h2⟩, for_list (xs := [.ref d]) (fun _ σ' H' => Sg σ' ∧ Ex (del [d, PT] H2) (del [d, PT] H') ∧ ∃ z, Holds [d, PT] [cDice d z, cTab PT LQ] H') ⟨s0, Ex.refl _, _, w0⟩ (fun i σ' H' _ p => SqL.of (keep H' p.2.1)) (fun i v σ' H' hi p => ?_) (fun σ' H' p => ?_)⟩
    · obtain rfl : v = .ref d := by
        cases i with
        | zero => exact (Option.some.inj hi).symm
        | succ i => simp at hi
      obtain ⟨p1, p2, z, p3⟩ := p
      exact hs d z σ' H' p1 p3 _ fun z' σ2 H3 g1 g2 g3 => ⟨g1, p2.trans g2.im, z', g3⟩
    · obtain ⟨p1, p2, z, p3⟩ := p
      exact hd d z σ' H' p1 (fun b o nb hb => (del_some.mp (p2 b o (del_some.mpr ⟨by rw [List.mem_cons, List.mem_singleton]; rintro (e | e); exact absurd (e1 _ _ hb) (by rw [e, hd0]; exact fun z => nomatch z); exact nb e, e2 _ _ (e1 _ _ hb)⟩))).2) p3⟩

section
variable {K : PySem.W.Frag} {α β γ δ R τ : Type} {E E' : XK} {cl : Nat → Addr} {M : List Addr} {σ : L2.St} {I I' H H' : Hp} {S S' S1 S2 S3 : List Cell} {te ta tb tc to tv : TE} {t : Ty α} {u : Ty β}
theorem em_toEr {r : Re α} {i : Nat} (h : Em E cl M te σ I S t r S') (e : r = .er i) : Em E cl M te σ I S kN (.er i) S' := by
  subst e
  exact em_er h
theorem em_kXL2 {xs : List α} (h : Em E cl M te σ I S (kL K t) (.ok xs) S') : Em E cl M te σ I S (kL K t) (.ok xs) S' := h
theorem o_eqNil : Op2 (rEqD K) (kL K t) ([] : List α) (kL K t) [] kB true := fun M v1 v2 H l a b Q q => by
  obtain ⟨p, vs, rfl, hp, ha⟩ := a
  obtain ⟨p2, vs2, rfl, hp2, ha2⟩ := b
  cases ha
  cases ha2
  exact ⟨.list [], .list [], .lst (ex_l del_le hp) .nil, .lst (ex_l del_le hp2) .nil, rfl, rfl, q _ H (Ex.refl H) rfl⟩
theorem ix_listK {X : Cx} {K : PySem.W.Frag} (h : X.K = K := by rfl) : IxR X (rIxL K) := by
  subst h
  exact ix_list
end
theorem cr_maxK {X : Cx} {K : PySem.W.Frag} (hc : X.calm = true) (h : X.K = K := by rfl) : CallR X (.builtin "max") (rMax K) := by
  subst h
  exact cr_max hc
theorem cr_minK {X : Cx} {K : PySem.W.Frag} (hc : X.calm = true) (h : X.K = K := by rfl) : CallR X (.builtin "min") (rMin K) := by
  subst h
  exact cr_min hc
theorem cr_minTK {X : Cx} {K : PySem.W.Frag} (hc : X.calm = true) (h : X.K = K := by rfl) : CallR X (.builtin "min") (rMinT K) := by
  subst h
  exact cr_minT hc
theorem cr_sumK {X : Cx} {K : PySem.W.Frag} (hc : X.calm = true) (h : X.K = K := by rfl) : CallR X (.builtin "sum") (rSum K) := by
  subst h
  exact cr_sum hc
theorem cr_sumTK {X : Cx} {K : PySem.W.Frag} (hc : X.calm = true) (h : X.K = K := by rfl) : CallR X (.builtin "sum") (rSumT K) := by
  subst h
  exact cr_sumT hc
theorem pe_cntK {X : Cx} {K : PySem.W.Frag} {o e : Expr} {es : List Expr} {to : TE} {t : TA} {apos cpos : Pos} (ho : PE X o to) (ha : PA X (e :: es) t) (h : X.K = K := by rfl)
    (h1 : attributeBase o "count" X.env (eval o X.env) = eval o X.env := by rfl)
    (h2 : ((backTo cpos (starEach (e :: es) X.env)).all (fun x => !x.1) && (backToKw cpos (keywordEach [] X.env)).all (fun x => x.1.isSome) && decide ((e :: es).length + ([] : List Keyword).length + (if ([] : List Keyword).isEmpty then 0 else 1) < 30)) = true := by rfl)
    (h3 : (apos.endLine == cpos.line) = true := by rfl) (h4 : starEach (e :: es) X.env = (false, eval e X.env) :: starEach es X.env := by rfl) (h5 : (backTo cpos (starEach es X.env)).any (·.1) = false := by rfl) :
    PE X (.Call (.Attribute o "count" apos) (e :: es) [] cpos) (tBM K "list" (rCntI K) to t) := by
  subst h
  exact pe_bm PySem.F.plainAttrs_list PySem.F.slot_list_count PySem.F.type_list_count mt_cntI ho ha h1 h2 h3 h4 h5
theorem op_eqDK {X : Cx} {K : PySem.W.Frag} (hu : X.A.units + 64 < cLine) (h : X.K = K := by rfl) : OpR X (compareOp .Eq) (rEqD K) := by
  subst h
  exact op_eqD hu
theorem op_neDK {X : Cx} {K : PySem.W.Frag} (hu : X.A.units + 64 < cLine) (h : X.K = K := by rfl) : OpR X (compareOp .NotEq) (rNeD K) := by
  subst h
  exact op_neD hu
theorem forK_true {α : Type} {b : α → Unit → (Unit → Bool) → (Unit → Bool) → Bool} {kn : Unit → Bool} (hk : kn () = true) : ∀ {xs : List α}, (∀ x ∈ xs, ∀ k1 k2 : Unit → Bool, k1 () = true → b x () k1 k2 = true) → forK b kn xs () = true
  | [], _ => hk
  | x :: xs, h => h x List.mem_cons_self _ _ (forK_true hk fun y hy => h y (List.mem_cons_of_mem _ hy))
section
variable {α β R : Type} {E : XK} {cl : Nat → Addr} {M : List Addr} {σ : L2.St} {H : Hp} {S S' : List Cell} {tr : TA} {t : Ty α} {u : Ty β} {x : α} {y : β} {P : R → Prop} {D : Ends}
theorem g_parL {i j : Nat} {kk : α → β → R} (w : Holds M S H) (o : P (lt x fun a => lt y fun b => kk a b)) (h : Ea E cl M tr σ (del M H) S (aC t (aC u a0)) (.ok (x, y, ())) S') (c : ∀ x' y' v1 v2 H2, x' = x → y' = y → P (kk x' y') → Gr M S H H2 → Holds M S' H2 → t.r (del M H2) v1 x' → u.r (del M H2) v2 y' → D.nx ((σ.set i (some v1)).set j (some v2)) H2) : tPar i j tr D σ H :=
  g_par (tz := fun _ σ' H' => D.nx σ' H') (D := D) w o h c
theorem g_tup2L {i j : Nat} {K : PySem.W.Frag} {kk : α → β → R} (w : Holds M S H) (o : P (lt x fun a => lt y fun b => kk a b)) (h : Ea E cl M tr σ (del M H) S (aC t (aC u a0)) (.ok (x, y, ())) S') (c : ∀ x' y' v1 v2 H2, x' = x → y' = y → P (kk x' y') → Gr M S H H2 → Holds M S' H2 → t.r (del M H2) v1 x' → u.r (del M H2) v2 y' → D.nx ((σ.set i (some v1)).set j (some v2)) H2) : tAsg (tTup tr) (gTup K 2 (gCons (gName i) (gCons (gName j) gNil))) D σ H :=
  g_tup2 (tz := fun _ σ' H' => D.nx σ' H') (D := D) w o h c
end
theorem cf {t r : Bool} (h : t = false) (k : r = true) : cond t false r = true := by rw [h]; exact k
theorem nd {p : Prop} [Decidable p] (h : p) : (!decide p) = false := by rw [decide_eq_true h]; rfl
theorem or_ff {a b : Bool} (h : a = false) (k : b = false) : (a || b) = false := by rw [h, k]; rfl
theorem atI_map {f : Int → Int} {n k : Int} (h : 0 ≤ k ∧ k < n) : (atI ((rng 0 n).map f) k).getD 0 = f k := by
  have e := atI_nat (xs := (rng 0 n).map f) (j := k.toNat) (v := f k) (by rw [List.getElem?_map, rng_get h]; rfl)
  rw [Int.toNat_of_nonneg h.1] at e
  rw [e]
  rfl
end Rw
namespace Rw
open Cy
section
variable {c : Ca}
theorem mn_mono (k : c.Ok) {a b : Int} (h : a ≤ b) : mnOf c a ≤ mnOf c b := by
  obtain ⟨a0, a1⟩ := yearOf_spec k a
  obtain ⟨b0, b1⟩ := yearOf_spec k b
  have da := date_at k a
  have db := date_at k b
  have hm := da.m1
  unfold mnOf
  rcases Int.lt_or_le (yearOf c b) (yearOf c a) with q | q
  · have := first_le2 k (show yearOf c b + 1 ≤ yearOf c a by omega)
    omega
  · rcases Int.lt_or_eq_of_le q with q | q
    · have e : (yearOf c b - yearOf c a - 1) * (List.length (Ca.months c) : Int) ≥ 0 := Int.mul_nonneg (by omega) (by omega)
      rw [Int.sub_mul, Int.sub_mul] at e
      have := da.m1
      omega
    · rw [q]
      rcases Nat.lt_or_ge (dateM c b) (dateM c a) with m | m
      · have g := Ca.ahead_mono k (yearOf c b) (show dateM c b < dateM c a from m) (Nat.le_of_lt da.m1)
        have e1 := da.num
        have e2 := db.num
        rw [q] at e1
        have d0 := da.d0
        have d1 := db.d1
        rcases Nat.lt_or_ge (dateM c b + 1) (dateM c a) with m2 | m2
        · have g2 := Ca.ahead_mono k (yearOf c b) m2 (Nat.le_of_lt da.m1)
          have e3 : c.ahead (yearOf c b) (dateM c b + 1) = c.ahead (yearOf c b) (dateM c b) + c.md (yearOf c b) (dateM c b) := rfl
          omega
        · have e4 : dateM c a = dateM c b + 1 := by omega
          have e3 : c.ahead (yearOf c b) (dateM c b + 1) = c.ahead (yearOf c b) (dateM c b) + c.md (yearOf c b) (dateM c b) := rfl
          rw [e4] at e1
          omega
      · omega
/-- where one comes to -/
theorem mon_at (k : c.Ok) (n j : Int) : mnOf c (monOn c n j) = mnOf c n + j ∧ monOn c n j = numAt c ((mnOf c n + j) / (List.length (Ca.months c) : Int)) ((mnOf c n + j) % (List.length (Ca.months c) : Int)).toNat (if c.md ((mnOf c n + j) / (List.length (Ca.months c) : Int)) ((mnOf c n + j) % (List.length (Ca.months c) : Int)).toNat - 1 < dateD c n then c.md ((mnOf c n + j) / (List.length (Ca.months c) : Int)) ((mnOf c n + j) % (List.length (Ca.months c) : Int)).toNat - 1 else dateD c n) := by
  have l0 := k.lm0
  have l1 := k.lm1
  have m0 := Int.emod_nonneg (mnOf c n + j) (show (List.length (Ca.months c) : Int) ≠ 0 by omega)
  have m1 := Int.emod_lt_of_pos (mnOf c n + j) (show 0 < (List.length (Ca.months c) : Int) by omega)
  have hm : ((mnOf c n + j) % (List.length (Ca.months c) : Int)).toNat < c.months.length := by omega
  have p := Ca.md_pos k ((mnOf c n + j) / (List.length (Ca.months c) : Int)) hm
  have d0 := (date_at k n).d0
  refine ⟨?_, rfl⟩
  obtain ⟨e1, e2, _⟩ := num_date k (y := (mnOf c n + j) / (List.length (Ca.months c) : Int)) (m := ((mnOf c n + j) % (List.length (Ca.months c) : Int)).toNat) (d := if c.md ((mnOf c n + j) / (List.length (Ca.months c) : Int)) ((mnOf c n + j) % (List.length (Ca.months c) : Int)).toNat - 1 < dateD c n then c.md ((mnOf c n + j) / (List.length (Ca.months c) : Int)) ((mnOf c n + j) % (List.length (Ca.months c) : Int)).toNat - 1 else dateD c n) hm (by split <;> omega) (by split <;> omega)
  have ed : monOn c n j = numAt c ((mnOf c n + j) / (List.length (Ca.months c) : Int)) ((mnOf c n + j) % (List.length (Ca.months c) : Int)).toNat (if c.md ((mnOf c n + j) / (List.length (Ca.months c) : Int)) ((mnOf c n + j) % (List.length (Ca.months c) : Int)).toNat - 1 < dateD c n then c.md ((mnOf c n + j) / (List.length (Ca.months c) : Int)) ((mnOf c n + j) % (List.length (Ca.months c) : Int)).toNat - 1 else dateD c n) := rfl
  rw [ed]
  have eu : ∀ x, mnOf c x = yearOf c x * (List.length (Ca.months c) : Int) + ((dateM c x : Nat) : Int) := fun _ => rfl
  rw [eu (numAt c _ _ _), e1, e2, Int.toNat_of_nonneg m0]
  have := Int.mul_ediv_add_emod (mnOf c n + j) (List.length (Ca.months c) : Int)
  rw [Int.mul_comm]
  omega
theorem mn_div (k : c.Ok) (n : Int) : mnOf c n / (List.length (Ca.months c) : Int) = yearOf c n ∧ mnOf c n % (List.length (Ca.months c) : Int) = ((dateM c n : Nat) : Int) := by
  have hm := (date_at k n).m1
  unfold mnOf
  constructor
  · rw [Int.add_comm, Int.add_mul_ediv_right _ _ (by omega), Int.ediv_eq_zero_of_lt (by omega) (by omega)]
    omega
  · rw [Int.add_comm, Int.add_mul_emod_self_right, Int.emod_eq_of_lt (by omega) (by omega)]
theorem mon_zero (k : c.Ok) (n : Int) : monOn c n 0 = n := by
  rw [(mon_at k n 0).2, Int.add_zero, (mn_div k n).1, (mn_div k n).2, Int.toNat_natCast]
  obtain ⟨a, b, d, e⟩ := date_at k n
  rw [if_neg (by omega)]
  unfold numAt
  omega
theorem mn_lt (k : c.Ok) {a b : Int} (h : mnOf c a < mnOf c b) : a < b := by
  rcases Int.lt_or_le a b with q | q
  · exact q
  · have := mn_mono k q
    omega
end
end Rw
namespace Rw
open PySem PySem.Spec PyProof.Rows L2 Evl Cy
/-- the text's own names of more -/
structure BE (mg : Str → Option Value) : Prop where
  tuple : mg "tuple" = none
end Rw
namespace Rw
open PySem PySem.Spec PyProof.Rows L2 Evl Cy
section
variable {P : Program} {w : World} {K : PySem.W.Frag} {mg : Str → Option Value} {base : Heap} {C D Q0 : Addr} {cl : Nat → Addr}

abbrev s_has_month : Stmt := topS 19
def has_monthN : List Str := ["calendar", "month"]
theorem sc_has_month : FnScope has_monthN ["calendar", "month"] (defScope s_has_month) := ⟨rfl, rfl, rfl, by decide +kernel, rfl, by decide +kernel, by decide +kernel⟩
def f_has_month : Ca × Int × Unit → Re Bool := fun a => match a with
  | (c0, x1, _) =>
    (.ok ((decide ((0 : Int) ≤ x1)) && (decide (x1 < ((Ca.months c0).length : Int)))))
def pre_has_month : Ca × Int × Unit → Prop := fun a => match a with
  | (c0, x1, _) => True
abbrev sp_has_month (K : PySem.W.Frag) (C D : Addr) (cl : Nat → Addr) : Sp := spD (aC (kCal K C) (aC kI a0)) pre_has_month f_has_month kB cl
theorem ok_has_month {f : Addr} {fd : FuncData} (F : Fun K "has_month" "has_month" s_has_month f fd) (TC : CalT K C) (TD : DayT K D) (B : BD mg)  : FnOk P w K mg base (L2.CX P w) 1 f fd ["calendar", "month"] (sp_has_month K C D cl) := by
  refine F.okX sc_has_month (fun vs H Q E h => ?_) (fun cdv A outer s H vs Q E hr h => ?_)
  · obtain ⟨M, a, live, hA, _⟩ := h
    obtain ⟨v0, _, rfl, r0, v1, _, rfl, r1, rfl⟩ := hA
    rfl
  · obtain ⟨M, ⟨c0, x1, _⟩, live, hA, hpre, qok, qer⟩ := h
    obtain ⟨v0, _, rfl, r0, v1, _, rfl, r1, rfl⟩ := hA
    obtain rfl : v1 = (.int x1) := r1
    have sm0 : Small c0 := by obtain ⟨_, _, _, z⟩ := r0; exact z
    have ok0 := sm0.ok
    have wk0 := ok0.wk
    have wl0 := sm0.wk
    have len0 := sm0.len
    have lm00 := ok0.lm0
    have lm10 := ok0.lm1
    have w0 : Holds M [] H := hold0 live
    have o0 : Pr (f_has_month (c0, x1, ())) ((.ok ((decide ((0 : Int) ≤ x1)) && (decide (x1 < ((Ca.months c0).length : Int)))))) := rfl
    refine ⟨_, pss_one (ps_ret (pe_chain op_le op_lt pe_int (pv 1) (pe_callB call_len_seq (by rfl) B.len (by decide +kernel) (pa_cons (pe_fld (pv 0) rfl) pa_nil)))), ?_⟩
    refine g_ret (E := E) (cl := cl) (t := kB) (x := ((decide ((0 : Int) ≤ x1)) && (decide (x1 < ((Ca.months c0).length : Int))))) w0 (em_chain em_int (em_var (t := kI) (v := (.int x1)) (x := x1) rfl rfl) (fun _ => (em_cb (em_cons (em_calMonths TC (em_var (t := (kCal K C)) (v := v0) (x := c0) rfl r0)) em_nil) o_lenT)) o_IB o_IB) (fun v_1 H_2 g_3 w_4 r_5 => ?_)
    exact qok _ v_1 H_2 o0 (show Ex H _ from Gr.fr g_3) r_5

abbrev s_has_parts : Stmt := topS 20
def has_partsN : List Str := ["calendar", "many"]
theorem sc_has_parts : FnScope has_partsN ["calendar", "many"] (defScope s_has_parts) := ⟨rfl, rfl, rfl, by decide +kernel, rfl, by decide +kernel, by decide +kernel⟩
def f_has_parts : Ca × Int × Unit → Re Bool := fun a => match a with
  | (c0, x1, _) =>
    (.ok ((decide ((1 : Int) ≤ x1)) && (decide ((((Ca.months c0).length : Int) % x1) = (0 : Int)))))
def pre_has_parts : Ca × Int × Unit → Prop := fun a => match a with
  | (c0, x1, _) => True
abbrev sp_has_parts (K : PySem.W.Frag) (C D : Addr) (cl : Nat → Addr) : Sp := spD (aC (kCal K C) (aC kI a0)) pre_has_parts f_has_parts kB cl
theorem ok_has_parts {f : Addr} {fd : FuncData} (F : Fun K "has_parts" "has_parts" s_has_parts f fd) (TC : CalT K C) (TD : DayT K D) (B : BD mg)  : FnOk P w K mg base (L2.CX P w) 1 f fd ["calendar", "many"] (sp_has_parts K C D cl) := by
  refine F.okX sc_has_parts (fun vs H Q E h => ?_) (fun cdv A outer s H vs Q E hr h => ?_)
  · obtain ⟨M, a, live, hA, _⟩ := h
    obtain ⟨v0, _, rfl, r0, v1, _, rfl, r1, rfl⟩ := hA
    rfl
  · obtain ⟨M, ⟨c0, x1, _⟩, live, hA, hpre, qok, qer⟩ := h
    obtain ⟨v0, _, rfl, r0, v1, _, rfl, r1, rfl⟩ := hA
    obtain rfl : v1 = (.int x1) := r1
    have sm0 : Small c0 := by obtain ⟨_, _, _, z⟩ := r0; exact z
    have ok0 := sm0.ok
    have wk0 := ok0.wk
    have wl0 := sm0.wk
    have len0 := sm0.len
    have lm00 := ok0.lm0
    have lm10 := ok0.lm1
    have w0 : Holds M [] H := hold0 live
    have o0 : Pr (f_has_parts (c0, x1, ())) ((.ok ((decide ((1 : Int) ≤ x1)) && (decide ((((Ca.months c0).length : Int) % x1) = (0 : Int)))))) := rfl
    refine ⟨_, pss_one (ps_ret (pe_and (pe_cmpR op_ge (pv 1) pe_int (nomark _)) (pe_one (pe_cmpR op_eq (pe_op op_mod (pe_callB call_len_seq (by rfl) B.len (by decide +kernel) (pa_cons (pe_fld (pv 0) rfl) pa_nil)) (pv 1)) pe_int (nomark _))))), ?_⟩
    refine g_ret (E := E) (cl := cl) (t := kB) (x := ((decide ((1 : Int) ≤ x1)) && (decide ((((Ca.months c0).length : Int) % x1) = (0 : Int))))) w0 (em_andV (em_op (em_var (t := kI) (v := (.int x1)) (x := x1) rfl rfl) em_int o_IB) (fun h_6 => (em_op (em_op (em_cb (em_cons (em_calMonths TC (em_var (t := (kCal K C)) (v := v0) (x := c0) rfl r0)) em_nil) o_lenT) (em_var (t := kI) (v := (.int x1)) (x := x1) rfl rfl) (o_IC (C := fun _ j => 0 < j) (by show (0 : Int) < _; have q := of_decide_eq_true h_6; omega))) em_int o_eqI))) (fun v_8 H_9 g_10 w_11 r_12 => ?_)
    exact qok _ v_8 H_9 o0 (show Ex H _ from Gr.fr g_10) r_12

abbrev s_business_year : Stmt := topS 21
def business_yearN : List Str := ["calendar", "number", "first_month", "day"]
theorem sc_business_year : FnScope business_yearN ["calendar", "number", "first_month"] (defScope s_business_year) := ⟨rfl, rfl, rfl, by decide +kernel, rfl, by decide +kernel, by decide +kernel⟩
def f_business_year : Ca × Int × Int × Unit → Re Int := fun a => match a with
  | (c0, x1, x2, _) =>
    cond (!((decide ((0 : Int) ≤ x2)) && (decide (x2 < ((Ca.months c0).length : Int)))))
    ((.er 5))
    (lt (c0, x1) fun day_25 =>
    cond (decide (((dateM c0 x1 : Nat) : Int) < x2))
    ((.ok ((yearOf c0 x1) - (1 : Int))))
    ((.ok (yearOf c0 x1))))
def pre_business_year : Ca × Int × Int × Unit → Prop := fun a => match a with
  | (c0, x1, x2, _) => True
abbrev sp_business_year (K : PySem.W.Frag) (C D : Addr) (cl : Nat → Addr) : Sp := spD (aC (kCal K C) (aC kI (aC kI a0))) pre_business_year f_business_year kI cl
theorem ok_business_year {f : Addr} {fd : FuncData} (F : Fun K "business_year" "business_year" s_business_year f fd) (TC : CalT K C) (TD : DayT K D) (B : BD mg) (c_has_month : Cal P w K mg base 1 "has_month" (sp_has_month K C D cl) []) (nD : Nw P w K mg base 4 "Day" D (spDay K C D) []) (xBadSize : Exc1 K mg "BadSize" (cl 5)) : FnOk P w K mg base (L2.CX P w) 6 f fd ["calendar", "number", "first_month"] (sp_business_year K C D cl) := by
  refine F.okX sc_business_year (fun vs H Q E h => ?_) (fun cdv A outer s H vs Q E hr h => ?_)
  · obtain ⟨M, a, live, hA, _⟩ := h
    obtain ⟨v0, _, rfl, r0, v1, _, rfl, r1, v2, _, rfl, r2, rfl⟩ := hA
    rfl
  · obtain ⟨M, ⟨c0, x1, x2, _⟩, live, hA, hpre, qok, qer⟩ := h
    obtain ⟨v0, _, rfl, r0, v1, _, rfl, r1, v2, _, rfl, r2, rfl⟩ := hA
    obtain rfl : v1 = (.int x1) := r1
    obtain rfl : v2 = (.int x2) := r2
    have sm0 : Small c0 := by obtain ⟨_, _, _, z⟩ := r0; exact z
    have ok0 := sm0.ok
    have wk0 := ok0.wk
    have wl0 := sm0.wk
    have len0 := sm0.len
    have lm00 := ok0.lm0
    have lm10 := ok0.lm1
    have w0 : Holds M [] H := hold0 live
    have o0 : Pr (f_business_year (c0, x1, x2, ())) (cond (!((decide ((0 : Int) ≤ x2)) && (decide (x2 < ((Ca.months c0).length : Int)))))
((.er 5))
(lt (c0, x1) fun day_25 =>
cond (decide (((dateM c0 x1 : Nat) : Int) < x2))
((.ok ((yearOf c0 x1) - (1 : Int))))
((.ok (yearOf c0 x1))))) := rfl
    refine ⟨_, pss_cons (ps_if (pt_not (pt_val (pe_k c_has_month hr (by decide) passL (pa_cons (pv 0) (pa_cons (pv 2) pa_nil))))) (pss_one (ps_raiseX xBadSize)) (pss_nil)) (pss_cons (ps_set (i := 3) sc_business_year.nd rfl (.inl rfl) (pe_nw nD hr (by decide) passL (pa_cons (pv 0) (pa_cons (pv 1) pa_nil)))) (pss_cons (ps_if (pt_cmpR op_lt (pe_fld (pv 3) rfl) (pv 2) (nomark _)) (pss_one (ps_ret (pe_op op_sub (pe_fld (pv 3) rfl) pe_int))) (pss_nil)) (pss_one (ps_ret (pe_fld (pv 3) rfl))))), ?_⟩
    refine g_when (E := E) (cl := cl) (b := (!((decide ((0 : Int) ≤ x2)) && (decide (x2 < ((Ca.months c0).length : Int)))))) w0 o0 (gt_not (gt_B (em_callP (y := ((decide ((0 : Int) ≤ x2)) && (decide (x2 < ((Ca.months c0).length : Int))))) (a := (c0, x2, ())) (em_cons (em_var (t := (kCal K C)) (v := v0) (x := c0) rfl r0) (em_cons (em_var (t := kI) (v := (.int x2)) (x := x2) rfl rfl) em_nil)) args_id (by exact trivial) (by rfl)))) (fun hb_14 o_15 H_13 g_16 w_17 => ?_) (fun hb_19 o_20 H_18 g_21 w_22 => ?_)
    · simp only [decide_eq_true_eq, decide_eq_false_iff_not, Bool.and_eq_true, Bool.or_eq_true, Bool.and_eq_false_iff, Bool.or_eq_false_iff, Bool.not_eq_true', Bool.not_eq_false'] at hb_14
      have r_23 := (kCal K C).up g_16.im r0
      exact qer 5 _ o_15 (show Ex H _ from Gr.fr g_16)
    · simp only [decide_eq_true_eq, decide_eq_false_iff_not, Bool.and_eq_true, Bool.or_eq_true, Bool.and_eq_false_iff, Bool.or_eq_false_iff, Bool.not_eq_true', Bool.not_eq_false'] at hb_19
      have r_24 := (kCal K C).up g_21.im r0
      refine g_asg (E := E) (cl := cl) (i := 3) (t := (kDay K C D)) (x := (c0, x1)) w_22 o_20 (em_mkDay (em_cons (em_var (t := (kCal K C)) (v := v0) (x := c0) rfl r_24) (em_cons (em_var (t := kI) (v := (.int x1)) (x := x1) rfl rfl) em_nil))) (fun day_25 v_26 H_27 hx_28 o_29 g_30 w_31 r_32 => ?_)
      subst hx_28
      have r_33 := (kCal K C).up g_30.im r_24
      refine g_when (E := E) (cl := cl) (b := (decide (((dateM c0 x1 : Nat) : Int) < x2))) w_31 o_29 (gt_test (em_op (em_dMonth TD (em_var (t := (kDay K C D)) (v := v_26) (x := (c0, x1)) rfl r_32)) (em_var (t := kI) (v := (.int x2)) (x := x2) rfl rfl) o_IB)) (fun hb_35 o_36 H_34 g_37 w_38 => ?_) (fun hb_40 o_41 H_39 g_42 w_43 => ?_)
      · simp only [decide_eq_true_eq, decide_eq_false_iff_not, Bool.and_eq_true, Bool.or_eq_true, Bool.and_eq_false_iff, Bool.or_eq_false_iff, Bool.not_eq_true', Bool.not_eq_false'] at hb_35
        have r_44 := (kCal K C).up g_37.im r_33
        have r_45 := (kDay K C D).up g_37.im r_32
        refine g_ret (E := E) (cl := cl) (t := kI) (x := ((yearOf c0 x1) - (1 : Int))) w_38 (em_op (em_dYear TD (em_var (t := (kDay K C D)) (v := v_26) (x := (c0, x1)) rfl r_45)) em_int o_I) (fun v_46 H_47 g_48 w_49 r_50 => ?_)
        exact qok _ v_46 H_47 o_36 (show Ex H _ from Gr.fr (((g_21.then g_30 rfl).then g_37 rfl).then g_48 rfl)) r_50
      · simp only [decide_eq_true_eq, decide_eq_false_iff_not, Bool.and_eq_true, Bool.or_eq_true, Bool.and_eq_false_iff, Bool.or_eq_false_iff, Bool.not_eq_true', Bool.not_eq_false'] at hb_40
        have r_51 := (kCal K C).up g_42.im r_33
        have r_52 := (kDay K C D).up g_42.im r_32
        refine g_ret (E := E) (cl := cl) (t := kI) (x := (yearOf c0 x1)) w_43 (em_dYear TD (em_var (t := (kDay K C D)) (v := v_26) (x := (c0, x1)) rfl r_52)) (fun v_53 H_54 g_55 w_56 r_57 => ?_)
        exact qok _ v_53 H_54 o_41 (show Ex H _ from Gr.fr (((g_21.then g_30 rfl).then g_42 rfl).then g_55 rfl)) r_57
end
end Rw
namespace Rw
open PySem PySem.Spec PyProof.Rows L2 Evl Cy
section
variable {P : Program} {w : World} {K : PySem.W.Frag} {mg : Str → Option Value} {base : Heap} {C D Q0 : Addr} {cl : Nat → Addr}

abbrev s_part_of_business : Stmt := topS 22
def part_of_businessN : List Str := ["calendar", "number", "first_month", "many", "year", "months"]
theorem sc_part_of_business : FnScope part_of_businessN ["calendar", "number", "first_month", "many"] (defScope s_part_of_business) := ⟨rfl, rfl, rfl, by decide +kernel, rfl, by decide +kernel, by decide +kernel⟩
def f_part_of_business : Ca × Int × Int × Int × Unit → Re (Int × Int) := fun a => match a with
  | (c0, x1, x2, x3, _) =>
    cond (!((decide ((1 : Int) ≤ x3)) && (decide ((((Ca.months c0).length : Int) % x3) = (0 : Int)))))
    ((.er 5))
    (lr (f_business_year (c0, x1, x2, ())) fun year_70 =>
    lt ((((dateM c0 x1 : Nat) : Int) - x2) % ((Ca.months c0).length : Int)) fun months_85 =>
    (.ok (year_70, (months_85 / x3))))
def pre_part_of_business : Ca × Int × Int × Int × Unit → Prop := fun a => match a with
  | (c0, x1, x2, x3, _) => x3 < 1073741824
abbrev sp_part_of_business (K : PySem.W.Frag) (C D : Addr) (cl : Nat → Addr) : Sp := spD (aC (kCal K C) (aC kI (aC kI (aC kI a0)))) pre_part_of_business f_part_of_business (k2 K kI kI) cl
theorem ok_part_of_business {f : Addr} {fd : FuncData} (F : Fun K "part_of_business" "part_of_business" s_part_of_business f fd) (TC : CalT K C) (TD : DayT K D) (B : BD mg) (c_has_parts : Cal P w K mg base 1 "has_parts" (sp_has_parts K C D cl) []) (c_business_year : Cal P w K mg base 6 "business_year" (sp_business_year K C D cl) []) (nD : Nw P w K mg base 4 "Day" D (spDay K C D) []) (xBadSize : Exc1 K mg "BadSize" (cl 5)) : FnOk P w K mg base (L2.CX P w) 7 f fd ["calendar", "number", "first_month", "many"] (sp_part_of_business K C D cl) := by
  refine F.okX sc_part_of_business (fun vs H Q E h => ?_) (fun cdv A outer s H vs Q E hr h => ?_)
  · obtain ⟨M, a, live, hA, _⟩ := h
    obtain ⟨v0, _, rfl, r0, v1, _, rfl, r1, v2, _, rfl, r2, v3, _, rfl, r3, rfl⟩ := hA
    rfl
  · obtain ⟨M, ⟨c0, x1, x2, x3, _⟩, live, hA, hpre, qok, qer⟩ := h
    obtain ⟨v0, _, rfl, r0, v1, _, rfl, r1, v2, _, rfl, r2, v3, _, rfl, r3, rfl⟩ := hA
    obtain rfl : v1 = (.int x1) := r1
    obtain rfl : v2 = (.int x2) := r2
    obtain rfl : v3 = (.int x3) := r3
    have sm0 : Small c0 := by obtain ⟨_, _, _, z⟩ := r0; exact z
    have ok0 := sm0.ok
    have wk0 := ok0.wk
    have wl0 := sm0.wk
    have len0 := sm0.len
    have lm00 := ok0.lm0
    have lm10 := ok0.lm1
    have hpre : x3 < 1073741824 := hpre
    have w0 : Holds M [] H := hold0 live
    have o0 : Pr (f_part_of_business (c0, x1, x2, x3, ())) (cond (!((decide ((1 : Int) ≤ x3)) && (decide ((((Ca.months c0).length : Int) % x3) = (0 : Int)))))
((.er 5))
(lr (f_business_year (c0, x1, x2, ())) fun year_70 =>
lt ((((dateM c0 x1 : Nat) : Int) - x2) % ((Ca.months c0).length : Int)) fun months_85 =>
(.ok (year_70, (months_85 / x3))))) := rfl
    refine ⟨_, pss_cons (ps_if (pt_not (pt_val (pe_k c_has_parts hr (by decide) passL (pa_cons (pv 0) (pa_cons (pv 3) pa_nil))))) (pss_one (ps_raiseX xBadSize)) (pss_nil)) (pss_cons (ps_set (i := 4) sc_part_of_business.nd rfl (.inl rfl) (pe_k c_business_year hr (by decide) (passE (E := E)) (pa_cons (pv 0) (pa_cons (pv 1) (pa_cons (pv 2) pa_nil))))) (pss_cons (ps_set (i := 5) sc_part_of_business.nd rfl (.inl rfl) (pe_op op_mod (pe_op op_sub (pe_fld (pe_nw nD hr (by decide) passL (pa_cons (pv 0) (pa_cons (pv 1) pa_nil))) rfl) (pv 2)) (pe_callB call_len_seq (by rfl) B.len (by decide +kernel) (pa_cons (pe_fld (pv 0) rfl) pa_nil)))) (pss_one (ps_ret (pe_tup (pa_cons (pv 4) (pa_cons (pe_op op_fdiv (pv 5) (pv 3)) pa_nil))))))), ?_⟩
    refine g_when (E := E) (cl := cl) (b := (!((decide ((1 : Int) ≤ x3)) && (decide ((((Ca.months c0).length : Int) % x3) = (0 : Int)))))) w0 o0 (gt_not (gt_B (em_callP (y := ((decide ((1 : Int) ≤ x3)) && (decide ((((Ca.months c0).length : Int) % x3) = (0 : Int))))) (a := (c0, x3, ())) (em_cons (em_var (t := (kCal K C)) (v := v0) (x := c0) rfl r0) (em_cons (em_var (t := kI) (v := (.int x3)) (x := x3) rfl rfl) em_nil)) args_id (by exact trivial) (by rfl)))) (fun hb_59 o_60 H_58 g_61 w_62 => ?_) (fun hb_64 o_65 H_63 g_66 w_67 => ?_)
    · simp only [decide_eq_true_eq, decide_eq_false_iff_not, Bool.and_eq_true, Bool.or_eq_true, Bool.and_eq_false_iff, Bool.or_eq_false_iff, Bool.not_eq_true', Bool.not_eq_false'] at hb_59
      have r_68 := (kCal K C).up g_61.im r0
      exact qer 5 _ o_60 (show Ex H _ from Gr.fr g_61)
    · simp only [decide_eq_true_eq, decide_eq_false_iff_not, Bool.and_eq_true, Bool.or_eq_true, Bool.and_eq_false_iff, Bool.or_eq_false_iff, Bool.not_eq_true', Bool.not_eq_false'] at hb_64
      have r_69 := (kCal K C).up g_66.im r0
      refine g_asgX (E := E) (cl := cl) (i := 4) (t := kI) (r := (f_business_year (c0, x1, x2, ()))) w_67 o_65 (em_call (a := (c0, x1, x2, ())) (em_cons (em_var (t := (kCal K C)) (v := v0) (x := c0) rfl r_69) (em_cons (em_var (t := kI) (v := (.int x1)) (x := x1) rfl rfl) (em_cons (em_var (t := kI) (v := (.int x2)) (x := x2) rfl rfl) em_nil))) args_id trivial) (fun year_70 v_71 H_72 e_73 o_74 g_75 w_76 r_77 => ?_) (fun k_78 H_79 e_80 o_81 g_82 w_83 => ?_)
      · have r_84 := (kCal K C).up g_75.im r_69
        obtain rfl : v_71 = (.int year_70) := r_77
        refine g_asg (E := E) (cl := cl) (i := 5) (t := kI) (x := ((((dateM c0 x1 : Nat) : Int) - x2) % ((Ca.months c0).length : Int))) w_76 o_74 (em_op (em_op (em_dMonth TD (em_mkDay (em_cons (em_var (t := (kCal K C)) (v := v0) (x := c0) rfl r_84) (em_cons (em_var (t := kI) (v := (.int x1)) (x := x1) rfl rfl) em_nil)))) (em_var (t := kI) (v := (.int x2)) (x := x2) rfl rfl) o_I) (em_cb (em_cons (em_calMonths TC (em_var (t := (kCal K C)) (v := v0) (x := c0) rfl r_84)) em_nil) o_lenT) (o_IC (C := fun _ j => 0 < j) (by show (0 : Int) < _; omega))) (fun months_85 v_86 H_87 hx_88 o_89 g_90 w_91 r_92 => ?_)
        have r_93 := (kCal K C).up g_90.im r_84
        obtain rfl : v_86 = (.int months_85) := r_92
        refine g_ret (E := E) (cl := cl) (t := (k2 K kI kI)) (x := (year_70, (months_85 / x3))) w_91 (em_t2 K (em_cons (em_var (t := kI) (v := (.int year_70)) (x := year_70) rfl rfl) (em_cons (em_op (em_var (t := kI) (v := (.int months_85)) (x := months_85) rfl rfl) (em_var (t := kI) (v := (.int x3)) (x := x3) rfl rfl) (o_IC (C := CDiv) (g := fun i j => i / j) (by exact ⟨by omega, by omega⟩))) em_nil))) (fun v_94 H_95 g_96 w_97 r_98 => ?_)
        exact qok _ v_94 H_95 o_89 (show Ex H _ from Gr.fr (((g_66.then g_75 rfl).then g_90 rfl).then g_96 rfl)) r_98
      · exact qer _ _ o_81 (show Ex H _ from Gr.fr (g_66.then g_82 rfl))

abbrev s_start_of_part : Stmt := topS 23
def start_of_partN : List Str := ["calendar", "year", "first_month", "part", "many", "years", "month"]
theorem sc_start_of_part : FnScope start_of_partN ["calendar", "year", "first_month", "part", "many"] (defScope s_start_of_part) := ⟨rfl, rfl, rfl, by decide +kernel, rfl, by decide +kernel, by decide +kernel⟩
def f_start_of_part : Ca × Int × Int × Int × Int × Unit → Re Int := fun a => match a with
  | (c0, x1, x2, x3, x4, _) =>
    cond ((!((decide ((0 : Int) ≤ x2)) && (decide (x2 < ((Ca.months c0).length : Int))))) || (!((decide ((1 : Int) ≤ x4)) && (decide ((((Ca.months c0).length : Int) % x4) = (0 : Int))))))
    ((.er 5))
    (cond (!((decide ((0 : Int) ≤ x3)) && (decide (x3 < (((Ca.months c0).length : Int) / x4)))))
    ((.er 5))
    (lt ((x2 + (x3 * x4)) / ((Ca.months c0).length : Int), (x2 + (x3 * x4)) % ((Ca.months c0).length : Int)) fun p_125 =>
    (.ok (numAt c0 (x1 + p_125.1) (p_125.2).toNat (0 : Int)))))
def pre_start_of_part : Ca × Int × Int × Int × Int × Unit → Prop := fun a => match a with
  | (c0, x1, x2, x3, x4, _) => x4 < 1073741824
abbrev sp_start_of_part (K : PySem.W.Frag) (C D : Addr) (cl : Nat → Addr) : Sp := spD (aC (kCal K C) (aC kI (aC kI (aC kI (aC kI a0))))) pre_start_of_part f_start_of_part kI cl
theorem ok_start_of_part {f : Addr} {fd : FuncData} (F : Fun K "start_of_part" "start_of_part" s_start_of_part f fd) (TC : CalT K C) (TD : DayT K D) (B : BD mg) (c_has_month : Cal P w K mg base 1 "has_month" (sp_has_month K C D cl) []) (c_has_parts : Cal P w K mg base 1 "has_parts" (sp_has_parts K C D cl) []) (mNO : Mt P w K mg base 3 C "number_of" (sp_number_of K C D cl) []) (xBadSize : Exc1 K mg "BadSize" (cl 5)) : FnOk P w K mg base (L2.CX P w) 4 f fd ["calendar", "year", "first_month", "part", "many"] (sp_start_of_part K C D cl) := by
  refine F.okX sc_start_of_part (fun vs H Q E h => ?_) (fun cdv A outer s H vs Q E hr h => ?_)
  · obtain ⟨M, a, live, hA, _⟩ := h
    obtain ⟨v0, _, rfl, r0, v1, _, rfl, r1, v2, _, rfl, r2, v3, _, rfl, r3, v4, _, rfl, r4, rfl⟩ := hA
    rfl
  · obtain ⟨M, ⟨c0, x1, x2, x3, x4, _⟩, live, hA, hpre, qok, qer⟩ := h
    obtain ⟨v0, _, rfl, r0, v1, _, rfl, r1, v2, _, rfl, r2, v3, _, rfl, r3, v4, _, rfl, r4, rfl⟩ := hA
    obtain rfl : v1 = (.int x1) := r1
    obtain rfl : v2 = (.int x2) := r2
    obtain rfl : v3 = (.int x3) := r3
    obtain rfl : v4 = (.int x4) := r4
    have sm0 : Small c0 := by obtain ⟨_, _, _, z⟩ := r0; exact z
    have ok0 := sm0.ok
    have wk0 := ok0.wk
    have wl0 := sm0.wk
    have len0 := sm0.len
    have lm00 := ok0.lm0
    have lm10 := ok0.lm1
    have hpre : x4 < 1073741824 := hpre
    have w0 : Holds M [] H := hold0 live
    have o0 : Pr (f_start_of_part (c0, x1, x2, x3, x4, ())) (cond ((!((decide ((0 : Int) ≤ x2)) && (decide (x2 < ((Ca.months c0).length : Int))))) || (!((decide ((1 : Int) ≤ x4)) && (decide ((((Ca.months c0).length : Int) % x4) = (0 : Int))))))
((.er 5))
(cond (!((decide ((0 : Int) ≤ x3)) && (decide (x3 < (((Ca.months c0).length : Int) / x4)))))
((.er 5))
(lt ((x2 + (x3 * x4)) / ((Ca.months c0).length : Int), (x2 + (x3 * x4)) % ((Ca.months c0).length : Int)) fun p_125 =>
(.ok (numAt c0 (x1 + p_125.1) (p_125.2).toNat (0 : Int)))))) := rfl
    refine ⟨_, pss_cons (ps_if (PW.pt (pw_or (pt_not (pt_val (pe_k c_has_month hr (by decide) passL (pa_cons (pv 0) (pa_cons (pv 2) pa_nil))))) (pw_or1 (pt_not (pt_val (pe_k c_has_parts hr (by decide) passL (pa_cons (pv 0) (pa_cons (pv 4) pa_nil)))))))) (pss_one (ps_raiseX xBadSize)) (pss_nil)) (pss_cons (ps_if (pt_not (pt_chain op_le op_lt pe_int (pv 3) (pe_op op_fdiv (pe_callB call_len_seq (by rfl) B.len (by decide +kernel) (pa_cons (pe_fld (pv 0) rfl) pa_nil)) (pv 4)))) (pss_one (ps_raiseX xBadSize)) (pss_nil)) (pss_cons (ps_asg (pe_callB call_divmod (by rfl) B.divmod (by decide +kernel) (pa_cons (pe_op op_add (pv 2) (pe_op op_mul (pv 3) (pv 4))) (pa_cons (pe_callB call_len_seq (by rfl) B.len (by decide +kernel) (pa_cons (pe_fld (pv 0) rfl) pa_nil)) pa_nil))) (pg_tup rfl (pgs_cons (pg_name (i := 5) sc_start_of_part.nd rfl (.inl rfl)) (pgs_cons (pg_name (i := 6) sc_start_of_part.nd rfl (.inl rfl)) pgs_nil)))) (pss_one (ps_ret (pe_mk mNO hr (by decide) passL (pv 0) (pa_cons (pe_op op_add (pv 1) (pv 5)) (pa_cons (pv 6) (pa_cons pe_int pa_nil)))))))), ?_⟩
    refine g_when (E := E) (cl := cl) (b := ((!((decide ((0 : Int) ≤ x2)) && (decide (x2 < ((Ca.months c0).length : Int))))) || (!((decide ((1 : Int) ≤ x4)) && (decide ((((Ca.months c0).length : Int) % x4) = (0 : Int))))))) w0 o0 (gt_or (gt_not (gt_B (em_callP (y := ((decide ((0 : Int) ≤ x2)) && (decide (x2 < ((Ca.months c0).length : Int))))) (a := (c0, x2, ())) (em_cons (em_var (t := (kCal K C)) (v := v0) (x := c0) rfl r0) (em_cons (em_var (t := kI) (v := (.int x2)) (x := x2) rfl rfl) em_nil)) args_id (by exact trivial) (by rfl)))) (fun h_99 => (gt_not (gt_B (em_callP (y := ((decide ((1 : Int) ≤ x4)) && (decide ((((Ca.months c0).length : Int) % x4) = (0 : Int))))) (a := (c0, x4, ())) (em_cons (em_var (t := (kCal K C)) (v := v0) (x := c0) rfl r0) (em_cons (em_var (t := kI) (v := (.int x4)) (x := x4) rfl rfl) em_nil)) args_id (by exact trivial) (by rfl)))))) (fun hb_102 o_103 H_101 g_104 w_105 => ?_) (fun hb_107 o_108 H_106 g_109 w_110 => ?_)
    · simp only [decide_eq_true_eq, decide_eq_false_iff_not, Bool.and_eq_true, Bool.or_eq_true, Bool.and_eq_false_iff, Bool.or_eq_false_iff, Bool.not_eq_true', Bool.not_eq_false'] at hb_102
      have r_111 := (kCal K C).up g_104.im r0
      exact qer 5 _ o_103 (show Ex H _ from Gr.fr g_104)
    · simp only [decide_eq_true_eq, decide_eq_false_iff_not, Bool.and_eq_true, Bool.or_eq_true, Bool.and_eq_false_iff, Bool.or_eq_false_iff, Bool.not_eq_true', Bool.not_eq_false'] at hb_107
      have r_112 := (kCal K C).up g_109.im r0
      refine g_when (E := E) (cl := cl) (b := (!((decide ((0 : Int) ≤ x3)) && (decide (x3 < (((Ca.months c0).length : Int) / x4)))))) w_110 o_108 (gt_not (gt_test (em_chain em_int (em_var (t := kI) (v := (.int x3)) (x := x3) rfl rfl) (fun _ => (em_op (em_cb (em_cons (em_calMonths TC (em_var (t := (kCal K C)) (v := v0) (x := c0) rfl r_112)) em_nil) o_lenT) (em_var (t := kI) (v := (.int x4)) (x := x4) rfl rfl) (o_IC (C := CDiv) (g := fun i j => i / j) (by exact ⟨by omega, by omega⟩)))) o_IB o_IB))) (fun hb_114 o_115 H_113 g_116 w_117 => ?_) (fun hb_119 o_120 H_118 g_121 w_122 => ?_)
      · simp only [decide_eq_true_eq, decide_eq_false_iff_not, Bool.and_eq_true, Bool.or_eq_true, Bool.and_eq_false_iff, Bool.or_eq_false_iff, Bool.not_eq_true', Bool.not_eq_false'] at hb_114
        have r_123 := (kCal K C).up g_116.im r_112
        exact qer 5 _ o_115 (show Ex H _ from Gr.fr (g_109.then g_116 rfl))
      · simp only [decide_eq_true_eq, decide_eq_false_iff_not, Bool.and_eq_true, Bool.or_eq_true, Bool.and_eq_false_iff, Bool.or_eq_false_iff, Bool.not_eq_true', Bool.not_eq_false'] at hb_119
        have r_124 := (kCal K C).up g_121.im r_112
        refine g_asgG (E := E) (cl := cl) (t := k2 K kI kI) (x := ((x2 + (x3 * x4)) / ((Ca.months c0).length : Int), (x2 + (x3 * x4)) % ((Ca.months c0).length : Int))) w_122 eg_2 o_120 (em_cb (em_cons (em_op (em_var (t := kI) (v := (.int x2)) (x := x2) rfl rfl) (em_op (em_var (t := kI) (v := (.int x3)) (x := x3) rfl rfl) (em_var (t := kI) (v := (.int x4)) (x := x4) rfl rfl) (o_IC (by first | exact .inl ⟨by omega, by omega⟩ | exact .inr ⟨by omega, by omega⟩))) o_I) (em_cons (em_cb (em_cons (em_calMonths TC (em_var (t := (kCal K C)) (v := v0) (x := c0) rfl r_124)) em_nil) o_lenT) em_nil)) (o_divmod (by exact ⟨by omega, by omega⟩))) (fun p_125 σ_126 H_127 hx_128 o_129 g_130 w_131 b => ?_)
        have r_132 := (kCal K C).up g_130.im r_124
        obtain ⟨_, _, rfl, rfl, rfl⟩ := b
        have m0 : 0 ≤ p_125.2 ∧ p_125.2 < (List.length (Ca.months c0) : Int) := by rw [hx_128]; exact ⟨Int.emod_nonneg _ (by omega), Int.emod_lt_of_pos _ (by omega)⟩
        have mp := Ca.md_pos ok0 (x1 + p_125.1) (m := (p_125.2).toNat) (by omega)
        refine g_ret (E := E) (cl := cl) (t := kI) (x := (numAt c0 (x1 + p_125.1) (p_125.2).toNat (0 : Int))) w_131 (em_methP (y := (numAt c0 (x1 + p_125.1) (p_125.2).toNat (0 : Int))) (b := ((x1 + p_125.1), p_125.2, (0 : Int), ())) (em_var (t := (kCal K C)) (v := v0) (x := c0) rfl r_132) (ob_cal fun _ _ _ _ _ => rfl) (em_cons (em_op (em_var (t := kI) (v := (.int x1)) (x := x1) rfl rfl) (em_var (t := kI) (v := (.int p_125.1)) (x := p_125.1) rfl rfl) o_I) (em_cons (em_var (t := kI) (v := (.int p_125.2)) (x := p_125.2) rfl rfl) (em_cons em_int em_nil))) args_m trivial (number_ok (by exact ⟨m0.1, m0.2, by omega, by omega⟩))) (fun v_133 H_134 g_135 w_136 r_137 => ?_)
        exact qok _ v_133 H_134 o_129 (show Ex H _ from Gr.fr (((g_109.then g_121 rfl).then g_130 rfl).then g_135 rfl)) r_137

abbrev s_due_days : Stmt := topS 28
def due_daysN : List Str := ["calendar", "first", "months", "many", "start", "place"]
theorem sc_due_days : FnScope due_daysN ["calendar", "first", "months", "many"] (defScope s_due_days) := ⟨rfl, rfl, rfl, by decide +kernel, rfl, by decide +kernel, by decide +kernel⟩
def f_due_days : Ca × Int × Int × Int × Unit → Re (List Int) := fun a => match a with
  | (c0, x1, x2, x3, _) =>
    lt (c0, x1) fun start_138 =>
    (.ok ((rng 0 x3).map (fun x_147 => (monOn c0 x1 (x2 * x_147)))))
def pre_due_days : Ca × Int × Int × Int × Unit → Prop := fun a => match a with
  | (c0, x1, x2, x3, _) => 0 ≤ x2 ∧ x2 < 1000000 ∧ 0 ≤ x3 ∧ x3 ≤ 1000
abbrev sp_due_days (K : PySem.W.Frag) (C D : Addr) (cl : Nat → Addr) : Sp := spD (aC (kCal K C) (aC kI (aC kI (aC kI a0)))) pre_due_days f_due_days (kT K kI) cl
theorem ok_due_days {f : Addr} {fd : FuncData} (F : Fun K "due_days" "due_days" s_due_days f fd) (TC : CalT K C) (TD : DayT K D) (B : BD mg) (c_mo1 : Cal P w K mg base 7 "months_on" (sp_months_on K C D cl) [.bl true]) (nD : Nw P w K mg base 4 "Day" D (spDay K C D) []) (BE0 : BE mg) : FnOk P w K mg base (L2.CX P w) 8 f fd ["calendar", "first", "months", "many"] (sp_due_days K C D cl) := by
  refine F.okX sc_due_days (fun vs H Q E h => ?_) (fun cdv A outer s H vs Q E hr h => ?_)
  · obtain ⟨M, a, live, hA, _⟩ := h
    obtain ⟨v0, _, rfl, r0, v1, _, rfl, r1, v2, _, rfl, r2, v3, _, rfl, r3, rfl⟩ := hA
    rfl
  · obtain ⟨M, ⟨c0, x1, x2, x3, _⟩, live, hA, hpre, qok, qer⟩ := h
    obtain ⟨v0, _, rfl, r0, v1, _, rfl, r1, v2, _, rfl, r2, v3, _, rfl, r3, rfl⟩ := hA
    obtain rfl : v1 = (.int x1) := r1
    obtain rfl : v2 = (.int x2) := r2
    obtain rfl : v3 = (.int x3) := r3
    have sm0 : Small c0 := by obtain ⟨_, _, _, z⟩ := r0; exact z
    have ok0 := sm0.ok
    have wk0 := ok0.wk
    have wl0 := sm0.wk
    have len0 := sm0.len
    have lm00 := ok0.lm0
    have lm10 := ok0.lm1
    have hpre : 0 ≤ x2 ∧ x2 < 1000000 ∧ 0 ≤ x3 ∧ x3 ≤ 1000 := hpre
    have w0 : Holds M [] H := hold0 live
    have o0 : Pr (f_due_days (c0, x1, x2, x3, ())) (lt (c0, x1) fun start_138 =>
(.ok ((rng 0 x3).map (fun x_147 => (monOn c0 x1 (x2 * x_147)))))) := rfl
    refine ⟨_, pss_cons (ps_set (i := 4) sc_due_days.nd rfl (.inr rfl) (pe_nw nD hr (by decide) passL (pa_cons (pv 0) (pa_cons (pv 1) pa_nil)))) (pss_one (ps_ret (pe_callTy call_tuple_of (by rfl) BE0.tuple (by decide +kernel) (pa_cons (pe_lc (own := [("place", 5)]) (g := gName 5) (tt := tYes) rfl sc_due_days.nd (pi_range1 rfl B.range (pa_cons (pv 3) pa_nil)) (blkOk_by (own := [("place", 5)]) (N := due_daysN) (sc := defScope s_due_days) (by decide +kernel)) (fun _ _ _ _ _ => pg_name (i := 5) sc_due_days.nd rfl (Or.inl rfl)) (fun _ _ _ _ _ => pts_nil) (fun _ _ _ _ _ => (pe_fldK (K := K) (pe_k c_mo1 hr (by decide) passL (pa_cons (pv 4) (pa_cons (pe_op op_mul (pv 2) (pv 5)) pa_nil))) rfl))) pa_nil)))), ?_⟩
    refine g_asg (E := E) (cl := cl) (i := 4) (t := (kDay K C D)) (x := (c0, x1)) w0 o0 (em_mkDay (em_cons (em_var (t := (kCal K C)) (v := v0) (x := c0) rfl r0) (em_cons (em_var (t := kI) (v := (.int x1)) (x := x1) rfl rfl) em_nil))) (fun start_138 v_139 H_140 hx_141 o_142 g_143 w_144 r_145 => ?_)
    subst hx_141
    have r_146 := (kCal K C).up g_143.im r0
    refine g_ret (E := E) (cl := cl) (t := (kT K kI)) (x := ((rng 0 x3).map (fun x_147 => (monOn c0 x1 (x2 * x_147))))) w_144 (em_cb (em_cons (em_eq (em_lc (K := K) (u := kI) (fun _ => true) (fun x_147 => (monOn c0 x1 (x2 * x_147))) (ei_R1 (em_cons (em_var (t := kI) (v := (.int x3)) (x := x3) rfl rfl) em_nil) (by refine ⟨by omega, by omega⟩)) (by rw [rng_len]; omega) eg_name (fun _ _ _ b => by obtain ⟨_, rfl, rfl⟩ := b; rfl) (fun _ _ _ _ _ _ _ _ => gt_yes) (fun M_153 S_154 I_148 x_147 s_152 e_149 m_150 c_157 b_151 => by obtain ⟨_, rfl, rfl⟩ := b_151; rw [rng_mem] at m_150; exact (em_dNum TD (em_callP (y := (c0, (monOn c0 x1 (x2 * x_147)))) (a := ((c0, x1), (x2 * x_147), true, ())) (em_cons (em_var (t := (kDay K C D)) (v := v_139) (x := (c0, x1)) rfl ((kDay K C D).up e_149 r_145)) (em_cons (em_op (em_var (t := kI) (v := (.int x2)) (x := x2) rfl rfl) (em_var (t := kI) (v := (.int x_147)) (x := x_147) rfl rfl) (o_IC (by first | exact .inl ⟨by omega, by omega⟩ | exact .inr ⟨by omega, by omega⟩))) em_nil)) args_mo trivial months_ok)))) (by rw [filter_yes])) em_nil) o_tupL) (fun v_158 H_159 g_160 w_161 r_162 => ?_)
    exact qok _ v_158 H_159 o_142 (show Ex H _ from Gr.fr (g_143.then g_160 rfl)) r_162
end
end Rw
namespace Rw
open PySem PySem.Spec PyProof.Rows L2 Evl Cy
section
variable {P : Program} {w : World} {K : PySem.W.Frag} {mg : Str → Option Value} {base : Heap} {C D Q0 : Addr} {cl : Nat → Addr}
abbrev s_share_of_years : Stmt := topS 27
def share_of_yearsN : List Str := ["calendar", "first", "last", "rows", "here", "year", "behind"]
theorem sc_share_of_years : FnScope share_of_yearsN ["calendar", "first", "last"] (defScope s_share_of_years) := ⟨rfl, rfl, rfl, by decide +kernel, rfl, by decide +kernel, by decide +kernel⟩
/-- a turn of share_of_years -/
def shTurn (c : Ca) (last : Int) (s : List (Int × Int) × Int) : List (Int × Int) × Int :=
  (s.1 ++ [((if Ca.firstOf c (yearOf c s.2 + 1) < last then Ca.firstOf c (yearOf c s.2 + 1) else last) - s.2, Ca.yearDays c (yearOf c s.2))], if Ca.firstOf c (yearOf c s.2 + 1) < last then Ca.firstOf c (yearOf c s.2 + 1) else last)
def shK (c : Ca) (last : Int) : Nat → List (Int × Int) × Int → Re (List (Int × Int)) := whK (fun s => decide (s.2 < last)) (fun s kn _ => lt (yearOf c s.2) fun y => lt (if Ca.firstOf c (y + 1) < last then Ca.firstOf c (y + 1) else last) fun b => lt (s.1 ++ [(b - s.2, Ca.yearDays c y)]) fun r => kn (r, b)) (fun s => .ok s.1)
def f_share_of_years : Ca × Int × Int × Unit → Re (List (Int × Int)) := fun a => match a with
  | (c, f, l, _) => cond (decide (l < f)) (.er 5) (shK c l (l - f).toNat ([], f))
def pre_share_of_years : Ca × Int × Int × Unit → Prop := fun a => match a with
  | (c, f, l, _) => l - f ≤ 1000
abbrev sp_share_of_years (K : PySem.W.Frag) (C D : Addr) (cl : Nat → Addr) : Sp := spD (aC (kCal K C) (aC kI (aC kI a0))) pre_share_of_years f_share_of_years (kT K (k2 K kI kI)) cl
theorem ok_share_of_years {f : Addr} {fd : FuncData} (F : Fun K "share_of_years" "share_of_years" s_share_of_years f fd) (TC : CalT K C) (B : BD mg) (BE0 : BE mg) (mYO : Mt P w K mg base 2 C "year_of" (spM K C cl fYearOf) []) (mFO : Mt P w K mg base 2 C "first_of" (spM K C cl fFirstOf) []) (mYD : Mt P w K mg base 2 C "year_days" (spB false K C cl fYearDays) []) (xBadSize : Exc1 K mg "BadSize" (cl 5)) : FnOk P w K mg base (L2.CX P w) 3 f fd ["calendar", "first", "last"] (sp_share_of_years K C D cl) := by
  refine F.okX sc_share_of_years (fun vs H Q E h => ?_) (fun cdv A outer s H vs Q E hr h => ?_)
  · obtain ⟨M, a, live, hA, _⟩ := h
    obtain ⟨v0, _, rfl, r0, v1, _, rfl, r1, v2, _, rfl, r2, rfl⟩ := hA
    rfl
  · obtain ⟨M, ⟨c0, x1, x2, _⟩, live, hA, hpre, qok, qer⟩ := h
    obtain ⟨v0, _, rfl, r0, v1, _, rfl, r1, v2, _, rfl, r2, rfl⟩ := hA
    obtain rfl : v1 = (.int x1) := r1
    obtain rfl : v2 = (.int x2) := r2
    have hpre : x2 - x1 ≤ 1000 := hpre
    have sm0 : Small c0 := by obtain ⟨_, _, _, z⟩ := r0; exact z
    have ok0 := sm0.ok
    have w0 : Holds M [] H := hold0 live
    have o0 : Pr (f_share_of_years (c0, x1, x2, ())) (cond (decide (x2 < x1)) (.er 5) (shK c0 x2 (x2 - x1).toNat ([], x1))) := rfl
    refine ⟨_, pss_cons (ps_if (pt_cmpR op_lt (pv 2) (pv 1) (nomark _)) (pss_one (ps_raiseX xBadSize)) pss_nil) (pss_cons (ps_set (i := 3) sc_share_of_years.nd rfl (.inl rfl) (pe_lst pa_nil)) (pss_cons (ps_set (i := 4) sc_share_of_years.nd rfl (.inl rfl) (pv 1)) (pss_cons (ps_while (passes_of rfl) (pt_cmpR op_lt (pv 4) (pv 2) (nomark _))
      (pss_cons (ps_set (i := 5) sc_share_of_years.nd rfl (.inl rfl) (pe_mk mYO hr (by decide) passL (pv 0) (pa_cons (pv 4) pa_nil)))
      (pss_cons (ps_set (i := 6) sc_share_of_years.nd rfl (.inl rfl) (pe_callB (call_min2 rfl) (by rfl) B.min (by decide +kernel) (pa_cons (pv 2) (pa_cons (pe_mk mFO hr (by decide) passL (pv 0) (pa_cons (pe_op op_add (pv 5) pe_int) pa_nil)) pa_nil))))
      (pss_cons (ps_expr (pe_bm PySem.F.plainAttrs_list PySem.F.slot_list_append PySem.F.type_list_append mt_append (pv 3) (pa_cons (pe_tup (pa_cons (pe_op op_sub (pv 6) (pv 4)) (pa_cons (pe_mk mYD hr (by decide) passL (pv 0) (pa_cons (pv 5) pa_nil)) pa_nil))) pa_nil)))
      (pss_one (ps_set (i := 4) sc_share_of_years.nd rfl (.inl rfl) (pv 6)))))))
      (pss_one (ps_ret (pe_callTy call_tuple_of (by rfl) BE0.tuple (by decide +kernel) (pa_cons (pv 3) pa_nil))))))), ?_⟩
    refine g_when (E := E) (cl := cl) (b := decide (x2 < x1)) w0 o0 (gt_test (em_op (em_var (t := kI) (v := .int x2) (x := x2) rfl rfl) (em_var (t := kI) (v := .int x1) (x := x1) rfl rfl) o_IB)) (fun hb o1 H1 g1 w1 => ?_) (fun hb o1 H1 g1 w1 => ?_)
    · exact qer 5 _ o1 (show Ex H _ from Gr.fr g1)
    · have hle := of_decide_eq_false hb
      have q1 := (kCal K C).up g1.im r0
      refine g_new (i := 3) K (k2 K kI kI) w1 fun p H2 hp g2 w2 e2 => ?_
      have pM : p ∉ M := fresh_not w1.live hp
      have q2 := (kCal K C).up e2 q1
      have q2 := (kCal K C).up (Ex.refl _) q2
      refine g_asg (E := E) (cl := cl) (P := fun _ : Unit => True) (k := fun _ => ()) (i := 4) (t := kI) (x := x1) w2 trivial (em_var (t := kI) (v := .int x1) (x := x1) rfl rfl) (fun h0 v H3 hx _ g3 w3 r3 => ?_)
      obtain rfl : v = .int h0 := r3
      subst hx
      have q3 := (kCal K C).up g3.im q2
      refine g_while (E := E) (cl := cl) (P := Pr (f_share_of_years (c0, h0, x2, ()))) (c := fun s : List (Int × Int) × Int => decide (s.2 < x2)) (b := fun s kn _ => lt (yearOf c0 s.2) fun y => lt (if Ca.firstOf c0 (y + 1) < x2 then Ca.firstOf c0 (y + 1) else x2) fun b => lt (s.1 ++ [(b - s.2, Ca.yearDays c0 y)]) fun r => kn (r, b)) (kn := fun s => .ok s.1) (n := (x2 - h0).toNat) (s0 := ([], h0)) (Sx := fun s => [cL p (k2 K kI kI) s.1])
        (fun n s => s.1.length + n ≤ 1000 ∧ (x2 - s.2).toNat ≤ n) (fun I s σ => ∃ l5 l6 : Option V, σ = [some v0, some (.int h0), some (.int x2), some (.ref p), some (.int s.2), l5, l6]) w3 o1 (fun _ => rfl) ⟨by show 0 + _ ≤ 1000; omega, Nat.le_refl _⟩ (fun s h => decide_eq_false (by have := h.2; omega)) ⟨_, _, rfl⟩
        (fun n s σ' H4 ok g4 w4 rv => ?_) (fun n s σ' I4 H4 ok hc g4 w4 e4 rv o4 => ?_) (fun _ n s σ' I4 H4 ok hc g4 w4 e4 rv o4 Nx nx => ?_)
      · obtain ⟨l5, l6, rfl⟩ := rv
        exact gt_test (em_op (em_var (t := kI) (x := s.2) rfl rfl) (em_var (t := kI) (x := x2) rfl rfl) o_IB)
      · obtain ⟨l5, l6, rfl⟩ := rv
        refine g_ret (E := E) (cl := cl) (t := kT K (k2 K kI kI)) (x := s.1) w4 (em_cellTup (n := 0) (p := p) (fun H vs hS Q k => ⟨p, vs, rfl, .inl ⟨hS, k⟩⟩) (em_var (t := kPtr p) (v := .ref p) (x := ()) rfl rfl) rfl) (fun v H5 g5 w5 r5 => ?_)
        have gA : Gr (p :: M) [cL p (k2 K kI kI) []] H2 H5 := (Gr.cast (g3.then (Gr.cast g4 rfl) rfl) rfl).then (Gr.cast g5 rfl) rfl
        have hpH : H p = none := Gr.back w0 g1 w1 hp
        have gB : Gr M [] H H5 := Gr.lone2 (c := cL p (k2 K kI kI) []) hpH (g1.then g2 rfl) gA
        exact qok _ v H5 o4 (show Ex H _ from Gr.fr gB) ((kT K (k2 K kI kI)).up del_free r5)
      · obtain ⟨l5, l6, rfl⟩ := rv
        have hlt := of_decide_eq_true hc
        have q4 := (kCal K C).up g4.im q3
        refine g_asg (E := E) (cl := cl) (i := 5) (t := kI) (x := yearOf c0 s.2) w4 o4 (em_oldM (y := yearOf c0 s.2) (em_var (t := kCal K C) (v := v0) (x := c0) rfl q4) (em_cons (em_var (t := kI) (v := .int s.2) (x := s.2) rfl rfl) em_nil) hB1 (fun _ _ _ _ => rfl) rfl rsI) (fun y v H5 hy o5 g5 w5 r5 => ?_)
        obtain rfl : v = .int y := r5
        have q5 := (kCal K C).up g5.im q4
        refine g_asg (E := E) (cl := cl) (i := 6) (t := kI) (x := if Ca.firstOf c0 (y + 1) < x2 then Ca.firstOf c0 (y + 1) else x2) w5 o5 (em_cb (em_cons (em_var (t := kI) (v := .int x2) (x := x2) rfl rfl) (em_cons (em_oldM (y := Ca.firstOf c0 (y + 1)) (em_var (t := kCal K C) (v := v0) (x := c0) rfl q5) (em_cons (em_op (em_var (t := kI) (v := .int y) (x := y) rfl rfl) em_int o_I) em_nil) hB1 (fun _ _ _ _ => rfl) rfl rsI) em_nil)) o_min2) (fun b v H6 hbx o6 g6 w6 r6 => ?_)
        obtain rfl : v = .int b := r6
        have q6 := (kCal K C).up g6.im q5
        refine g_app (E := E) (cl := cl) (n := 0) (p := p) (t := k2 K kI kI) (acc0 := s.1) (acc := s.1) (x := (b - s.2, Ca.yearDays c0 y)) w6 o6 (em_var (t := kPtr p) (v := .ref p) (x := ()) rfl rfl) (em_t2 K (em_cons (em_op (em_var (t := kI) (v := .int b) (x := b) rfl rfl) (em_var (t := kI) (v := .int s.2) (x := s.2) rfl rfl) o_I) (em_cons (em_oldMw (y := Ca.yearDays c0 y) (em_var (t := kCal K C) (v := v0) (x := c0) rfl q6) (em_cons (em_var (t := kI) (v := .int y) (x := y) rfl rfl) em_nil) hB1 (fun _ _ _ _ => rfl) rfl (fun _ => rfl)) em_nil))) rfl rfl (by have := ok.1; omega) (fun acc' H7 ha o7 g7 w7 => ?_)
        refine g_asgL (E := E) (cl := cl) (P := fun _ : Unit => True) (k := fun _ => ()) (i := 4) (t := kI) (x := b) w7 trivial (em_var (t := kI) (v := .int b) (x := b) rfl rfl) (fun b2 v H8 hb2 _ g8 w8 r8 => ?_)
        obtain rfl : v = .int b2 := r8
        subst hb2
        obtain ⟨y1, y2⟩ := yearOf_spec ok0 s.2
        refine nx (acc', b2) _ _ ⟨?_, ?_⟩ o7 (Gr.cast ((Gr.cast (g5.then (g6.then g7 rfl) rfl) rfl).then (Gr.cast g8 rfl) rfl) rfl) w8 ⟨_, _, rfl⟩
        · have := ok.1
          show acc'.length + n ≤ 1000
          rw [ha, List.length_append, List.length_singleton]
          omega
        · have := ok.2
          show (x2 - b2).toNat ≤ n
          rw [hbx, hy]
          split <;> omega
end
end Rw
namespace Rw
open PySem PySem.Spec PyProof.Rows L2 Evl Cy
section
variable {P : Program} {w : World} {K : PySem.W.Frag} {mg : Str → Option Value} {base : Heap} {C D : Addr} {cl : Nat → Addr}

abbrev s_even_place : Stmt := topS 26
def even_placeN : List Str := ["calendar", "number", "size", "day"]
theorem sc_even_place : FnScope even_placeN ["calendar", "number", "size"] (defScope s_even_place) := ⟨rfl, rfl, rfl, by decide +kernel, rfl, by decide +kernel, by decide +kernel⟩
def f_even_place : Ca × Int × Int × Unit → Re Int := fun a => match a with
  | (c0, x1, x2, _) =>
    lt (c0, x1) fun day_1 =>
    (.ok (((yearOf c0 x1 * (List.length (Ca.months c0) : Int) + ((dateM c0 x1 : Nat) : Int)) * x2) + (if (x2 - (1 : Int)) < (dateD c0 x1) then (x2 - (1 : Int)) else (dateD c0 x1))))
def pre_even_place : Ca × Int × Int × Unit → Prop := fun a => match a with
  | (c0, x1, x2, _) => -1000 ≤ x2 ∧ x2 ≤ 1000
abbrev sp_even_place (K : PySem.W.Frag) (C : Addr) (D : Addr) (cl : Nat → Addr) : Sp := spD (aC (kCal K C) (aC kI (aC kI a0))) pre_even_place f_even_place kI cl
theorem ok_even_place {f : Addr} {fd : FuncData} (F : Fun K "even_place" "even_place" s_even_place f fd) (TC : CalT K C) (TD : DayT K D) (B : BD mg) (nD : Nw P w K mg base 4 "Day" D (spDay K C D) []) (d_month_number : Mt P w K mg base 1 D "month_number" (sp_month_number K C D cl) []) : FnOk P w K mg base (L2.CX P w) 6 f fd ["calendar", "number", "size"] (sp_even_place K C D cl) := by
  refine F.okX sc_even_place (fun vs H Q E h => ?_) (fun cdv A outer s H vs Q E hr h => ?_)
  · obtain ⟨M, a, live, hA, _⟩ := h
    obtain ⟨v0, _, rfl, r0, v1, _, rfl, r1, v2, _, rfl, r2, rfl⟩ := hA
    rfl
  · obtain ⟨M, ⟨c0, x1, x2, _⟩, live, hA, hpre, qok, qer⟩ := h
    obtain ⟨v0, _, rfl, r0, v1, _, rfl, r1, v2, _, rfl, r2, rfl⟩ := hA
    obtain rfl : v1 = (.int x1) := r1
    obtain rfl : v2 = (.int x2) := r2
    have sm0 : Small c0 := by obtain ⟨_, _, _, z⟩ := r0; exact z
    have ok0 := sm0.ok
    have wk0 := ok0.wk
    have wl0 := sm0.wk
    have len0 := sm0.len
    have lm00 := ok0.lm0
    have lm10 := ok0.lm1
    have hpre : -1000 ≤ x2 ∧ x2 ≤ 1000 := hpre
    have w0 : Holds M [] H := hold0 live
    have o0 : Pr (f_even_place (c0, x1, x2, ())) (lt (c0, x1) fun day_1 =>
(.ok (((yearOf c0 x1 * (List.length (Ca.months c0) : Int) + ((dateM c0 x1 : Nat) : Int)) * x2) + (if (x2 - (1 : Int)) < (dateD c0 x1) then (x2 - (1 : Int)) else (dateD c0 x1))))) := rfl
    refine ⟨_, pss_cons (ps_set (i := 3) sc_even_place.nd rfl (.inl rfl) (pe_nw nD hr (by decide) passL (pa_cons (pv 0) (pa_cons (pv 1) pa_nil)))) (pss_one (ps_ret (pe_op op_add (pe_op op_mul (pe_mk0 d_month_number hr (by decide) passL (pv 3)) (pv 2)) (pe_callB (call_min2 rfl) (by rfl) B.min (by decide +kernel) (pa_cons (pe_fld (pv 3) rfl) (pa_cons (pe_op op_sub (pv 2) pe_int) pa_nil)))))), ?_⟩
    refine g_asg (E := E) (cl := cl) (i := 3) (t := (kDay K C D)) (x := (c0, x1)) w0 o0 (em_mkDay (em_cons (em_var (t := (kCal K C)) (v := v0) (x := c0) rfl r0) (em_cons (em_var (t := kI) (v := (.int x1)) (x := x1) rfl rfl) em_nil))) (fun day_1 v_2 H_3 hx_4 o_5 g_6 w_7 r_8 => ?_)
    subst hx_4
    have r_9 := (kCal K C).up g_6.im r0
    refine g_ret (E := E) (cl := cl) (t := kI) (x := (((yearOf c0 x1 * (List.length (Ca.months c0) : Int) + ((dateM c0 x1 : Nat) : Int)) * x2) + (if (x2 - (1 : Int)) < (dateD c0 x1) then (x2 - (1 : Int)) else (dateD c0 x1)))) w_7 (em_op (em_op (em_methP (y := (yearOf c0 x1 * (List.length (Ca.months c0) : Int) + ((dateM c0 x1 : Nat) : Int))) (b := ()) (em_var (t := (kDay K C D)) (v := v_2) (x := (c0, x1)) rfl r_8) (ob_day fun _ _ _ => rfl) em_nil args_m0 trivial rfl) (em_var (t := kI) (v := (.int x2)) (x := x2) rfl rfl) (o_IC (by first | exact .inl ⟨by omega, by omega⟩ | exact .inr ⟨by omega, by omega⟩))) (em_cb (em_cons (em_dDay TD (em_var (t := (kDay K C D)) (v := v_2) (x := (c0, x1)) rfl r_8)) (em_cons (em_op (em_var (t := kI) (v := (.int x2)) (x := x2) rfl rfl) em_int o_I) em_nil)) o_min2) o_I) (fun v_10 H_11 g_12 w_13 r_14 => ?_)
    exact qok _ v_10 H_11 o_5 (show Ex H _ from Gr.fr (g_6.then g_12 rfl)) r_14
def v_even_place : Ca × Int × Int × Unit → Int := fun a => match a with
  | (c0, x1, x2, _) =>
    lt (c0, x1) fun day_1 =>
    ((((yearOf c0 x1 * (List.length (Ca.months c0) : Int) + ((dateM c0 x1 : Nat) : Int)) * x2) + (if (x2 - (1 : Int)) < (dateD c0 x1) then (x2 - (1 : Int)) else (dateD c0 x1))))
theorem is_even_place (a : Ca × Int × Int × Unit) : f_even_place a = .ok (v_even_place a) := by
  obtain ⟨c0, x1, x2, _⟩ := a
  rfl

abbrev s_even_months : Stmt := topS 25
def even_monthsN : List Str := ["calendar", "first", "last", "size"]
theorem sc_even_months : FnScope even_monthsN ["calendar", "first", "last", "size"] (defScope s_even_months) := ⟨rfl, rfl, rfl, by decide +kernel, rfl, by decide +kernel, by decide +kernel⟩
def f_even_months : Ca × Int × Int × Int × Unit → Re Int := fun a => match a with
  | (c0, x1, x2, x3, _) =>
    cond ((decide (x2 < x1)) || (decide (x3 < (1 : Int))))
    ((.er 5))
    ((.ok ((v_even_place (c0, x2, x3, ())) - (v_even_place (c0, x1, x3, ())))))
def pre_even_months : Ca × Int × Int × Int × Unit → Prop := fun a => match a with
  | (c0, x1, x2, x3, _) => -1000 ≤ x3 ∧ x3 ≤ 1000
abbrev sp_even_months (K : PySem.W.Frag) (C : Addr) (D : Addr) (cl : Nat → Addr) : Sp := spD (aC (kCal K C) (aC kI (aC kI (aC kI a0)))) pre_even_months f_even_months kI cl
theorem ok_even_months {f : Addr} {fd : FuncData} (F : Fun K "even_months" "even_months" s_even_months f fd) (TC : CalT K C) (c_even_place : Cal P w K mg base 6 "even_place" (sp_even_place K C D cl) []) (xBadSize : Exc1 K mg "BadSize" (cl 5)) : FnOk P w K mg base (L2.CX P w) 7 f fd ["calendar", "first", "last", "size"] (sp_even_months K C D cl) := by
  refine F.okX sc_even_months (fun vs H Q E h => ?_) (fun cdv A outer s H vs Q E hr h => ?_)
  · obtain ⟨M, a, live, hA, _⟩ := h
    obtain ⟨v0, _, rfl, r0, v1, _, rfl, r1, v2, _, rfl, r2, v3, _, rfl, r3, rfl⟩ := hA
    rfl
  · obtain ⟨M, ⟨c0, x1, x2, x3, _⟩, live, hA, hpre, qok, qer⟩ := h
    obtain ⟨v0, _, rfl, r0, v1, _, rfl, r1, v2, _, rfl, r2, v3, _, rfl, r3, rfl⟩ := hA
    obtain rfl : v1 = (.int x1) := r1
    obtain rfl : v2 = (.int x2) := r2
    obtain rfl : v3 = (.int x3) := r3
    have sm0 : Small c0 := by obtain ⟨_, _, _, z⟩ := r0; exact z
    have ok0 := sm0.ok
    have wk0 := ok0.wk
    have wl0 := sm0.wk
    have len0 := sm0.len
    have lm00 := ok0.lm0
    have lm10 := ok0.lm1
    have hpre : -1000 ≤ x3 ∧ x3 ≤ 1000 := hpre
    have w0 : Holds M [] H := hold0 live
    have o0 : Pr (f_even_months (c0, x1, x2, x3, ())) (cond ((decide (x2 < x1)) || (decide (x3 < (1 : Int))))
((.er 5))
((.ok ((v_even_place (c0, x2, x3, ())) - (v_even_place (c0, x1, x3, ())))))) := rfl
    refine ⟨_, pss_cons (ps_if (PW.pt (pw_or (pt_cmpR op_lt (pv 2) (pv 1) (nomark _)) (pw_or1 (pt_cmpR op_lt (pv 3) pe_int (nomark _))))) (pss_one (ps_raiseX xBadSize)) (pss_nil)) (pss_one (ps_ret (pe_op op_sub (pe_k c_even_place hr (by decide) passL (pa_cons (pv 0) (pa_cons (pv 2) (pa_cons (pv 3) pa_nil)))) (pe_k c_even_place hr (by decide) passL (pa_cons (pv 0) (pa_cons (pv 1) (pa_cons (pv 3) pa_nil))))))), ?_⟩
    refine g_when (E := E) (cl := cl) (b := ((decide (x2 < x1)) || (decide (x3 < (1 : Int))))) w0 o0 (gt_or (gt_test (em_op (em_var (t := kI) (v := (.int x2)) (x := x2) rfl rfl) (em_var (t := kI) (v := (.int x1)) (x := x1) rfl rfl) o_IB)) (fun _ => (gt_test (em_op (em_var (t := kI) (v := (.int x3)) (x := x3) rfl rfl) em_int o_IB)))) (fun hb_17 o_18 H_16 g_19 w_20 => ?_) (fun hb_22 o_23 H_21 g_24 w_25 => ?_)
    · simp only [decide_eq_true_eq, decide_eq_false_iff_not, Bool.and_eq_true, Bool.or_eq_true, Bool.and_eq_false_iff, Bool.or_eq_false_iff, Bool.not_eq_true', Bool.not_eq_false'] at hb_17
      have r_26 := (kCal K C).up g_19.im r0
      exact qer 5 _ o_18 (show Ex H _ from Gr.fr g_19)
    · simp only [decide_eq_true_eq, decide_eq_false_iff_not, Bool.and_eq_true, Bool.or_eq_true, Bool.and_eq_false_iff, Bool.or_eq_false_iff, Bool.not_eq_true', Bool.not_eq_false'] at hb_22
      have r_27 := (kCal K C).up g_24.im r0
      refine g_ret (E := E) (cl := cl) (t := kI) (x := ((v_even_place (c0, x2, x3, ())) - (v_even_place (c0, x1, x3, ())))) w_25 (em_op (em_callP (y := (v_even_place (c0, x2, x3, ()))) (a := (c0, x2, x3, ())) (em_cons (em_var (t := (kCal K C)) (v := v0) (x := c0) rfl r_27) (em_cons (em_var (t := kI) (v := (.int x2)) (x := x2) rfl rfl) (em_cons (em_var (t := kI) (v := (.int x3)) (x := x3) rfl rfl) em_nil))) args_id (by exact ⟨by omega, by omega⟩) (by exact is_even_place _)) (em_callP (y := (v_even_place (c0, x1, x3, ()))) (a := (c0, x1, x3, ())) (em_cons (em_var (t := (kCal K C)) (v := v0) (x := c0) rfl r_27) (em_cons (em_var (t := kI) (v := (.int x1)) (x := x1) rfl rfl) (em_cons (em_var (t := kI) (v := (.int x3)) (x := x3) rfl rfl) em_nil))) args_id (by exact ⟨by omega, by omega⟩) (by exact is_even_place _)) o_I) (fun v_28 H_29 g_30 w_31 r_32 => ?_)
      exact qok _ v_28 H_29 o_23 (show Ex H _ from Gr.fr (g_24.then g_30 rfl)) r_32

abbrev s_spread : Stmt := topS 29
def spreadN : List Str := ["amount", "many", "least", "more", "place"]
theorem sc_spread : FnScope spreadN ["amount", "many"] (defScope s_spread) := ⟨rfl, rfl, rfl, by decide +kernel, rfl, by decide +kernel, by decide +kernel⟩
def f_spread : Int × Int × Unit → Re (List Int) := fun a => match a with
  | (x0, x1, _) =>
    cond (decide (x1 < (1 : Int)))
    ((.er 5))
    (lt (x0 / x1, x0 % x1) fun _ =>
    (.ok ((rng 0 x1).map (fun x_50 => (cond (decide (x_50 < (x0 % x1))) ((x0 / x1) + (1 : Int)) (x0 / x1))))))
def pre_spread : Int × Int × Unit → Prop := fun a => match a with
  | (x0, x1, _) => x1 ≤ 1000
abbrev sp_spread (K : PySem.W.Frag)  (cl : Nat → Addr) : Sp := spD (aC kI (aC kI a0)) pre_spread f_spread (kT K kI) cl
theorem ok_spread {f : Addr} {fd : FuncData} (F : Fun K "spread" "spread" s_spread f fd) (B : BD mg) (n_tuple : mg "tuple" = none) (xBadSize : Exc1 K mg "BadSize" (cl 5)) : FnOk P w K mg base (L2.CX P w) 1 f fd ["amount", "many"] (sp_spread K  cl) := by
  refine F.okX sc_spread (fun vs H Q E h => ?_) (fun cdv A outer s H vs Q E hr h => ?_)
  · obtain ⟨M, a, live, hA, _⟩ := h
    obtain ⟨v0, _, rfl, r0, v1, _, rfl, r1, rfl⟩ := hA
    rfl
  · obtain ⟨M, ⟨x0, x1, _⟩, live, hA, hpre, qok, qer⟩ := h
    obtain ⟨v0, _, rfl, r0, v1, _, rfl, r1, rfl⟩ := hA
    obtain rfl : v0 = (.int x0) := r0
    obtain rfl : v1 = (.int x1) := r1
    have hpre : x1 ≤ 1000 := hpre
    have w0 : Holds M [] H := hold0 live
    have o0 : Pr (f_spread (x0, x1, ())) (cond (decide (x1 < (1 : Int)))
((.er 5))
(lt (x0 / x1, x0 % x1) fun _ =>
(.ok ((rng 0 x1).map (fun x_50 => (cond (decide (x_50 < (x0 % x1))) ((x0 / x1) + (1 : Int)) (x0 / x1))))))) := rfl
    refine ⟨_, pss_cons (ps_if (pt_cmpR op_lt (pv 1) pe_int (nomark _)) (pss_one (ps_raiseX xBadSize)) (pss_nil)) (pss_cons (ps_asg (pe_callB call_divmod (by rfl) B.divmod (by decide +kernel) (pa_cons (pv 0) (pa_cons (pv 1) pa_nil))) (pg_tup rfl (pgs_cons (pg_name (i := 2) sc_spread.nd rfl (.inr rfl)) (pgs_cons (pg_name (i := 3) sc_spread.nd rfl (.inr rfl)) pgs_nil)))) (pss_one (ps_ret (pe_callTy call_tuple_of (by rfl) n_tuple (by decide +kernel) (pa_cons (pe_lc (own := [("place", 4)]) (g := gName 4) (tt := tYes) rfl sc_spread.nd (pi_range1 rfl B.range (pa_cons (pv 1) pa_nil)) (blkOk_by (own := [("place", 4)]) (N := spreadN) (sc := defScope s_spread) (by decide +kernel)) (fun _ _ _ _ _ => pg_name (i := 4) sc_spread.nd rfl (Or.inl rfl)) (fun _ _ _ _ _ => pts_nil) (fun _ _ _ _ _ => (pe_ifExp (pt_cmpR op_lt (pv 4) (pv 3) (nomark _)) (pe_op op_add (pv 2) pe_int) (pv 2)))) pa_nil))))), ?_⟩
    refine g_when (E := E) (cl := cl) (b := (decide (x1 < (1 : Int)))) w0 o0 (gt_test (em_op (em_var (t := kI) (v := (.int x1)) (x := x1) rfl rfl) em_int o_IB)) (fun hb_34 o_35 H_33 g_36 w_37 => ?_) (fun hb_39 o_40 H_38 g_41 w_42 => ?_)
    · simp only [decide_eq_true_eq, decide_eq_false_iff_not, Bool.and_eq_true, Bool.or_eq_true, Bool.and_eq_false_iff, Bool.or_eq_false_iff, Bool.not_eq_true', Bool.not_eq_false'] at hb_34
      exact qer 5 _ o_35 (show Ex H _ from Gr.fr g_36)
    · simp only [decide_eq_true_eq, decide_eq_false_iff_not, Bool.and_eq_true, Bool.or_eq_true, Bool.and_eq_false_iff, Bool.or_eq_false_iff, Bool.not_eq_true', Bool.not_eq_false'] at hb_39
      refine g_asgG (E := E) (cl := cl) (t := (k2 K kI kI)) (x := (x0 / x1, x0 % x1)) w_42 eg_2 o_40 (em_cb (em_cons (em_var (t := kI) (v := (.int x0)) (x := x0) rfl rfl) (em_cons (em_var (t := kI) (v := (.int x1)) (x := x1) rfl rfl) em_nil)) (o_divmod (by exact ⟨by omega, by omega⟩))) (fun p_43 σ_44 H_45 hx_46 o_47 g_48 w_49 b => ?_)
      subst hx_46
      obtain ⟨_, _, rfl, rfl, rfl⟩ := b
      refine g_ret (E := E) (cl := cl) (t := (kT K kI)) (x := ((rng 0 x1).map (fun x_50 => (cond (decide (x_50 < (x0 % x1))) ((x0 / x1) + (1 : Int)) (x0 / x1))))) w_49 (em_cb (em_cons (em_eq (em_lc (K := K) (u := kI) (fun _ => true) (fun x_50 => (cond (decide (x_50 < (x0 % x1))) ((x0 / x1) + (1 : Int)) (x0 / x1))) (ei_R1 (em_cons (em_var (t := kI) (v := (.int x1)) (x := x1) rfl rfl) em_nil) (by refine ⟨by omega, by omega⟩)) (by rw [rng_len]; omega) eg_name (fun _ _ _ b => by obtain ⟨_, rfl, rfl⟩ := b; rfl) (fun _ _ _ _ _ _ _ _ => gt_yes) (fun M_56 S_57 I_51 x_50 s_55 e_52 m_53 c_60 b_54 => by obtain ⟨_, rfl, rfl⟩ := b_54; rw [rng_mem] at m_53; exact (em_if (gt_test (em_op (em_var (t := kI) (v := (.int x_50)) (x := x_50) rfl rfl) (em_var (t := kI) (v := (.int (x0 % x1))) (x := (x0 % x1)) rfl rfl) o_IB)) (fun _ => (em_op (em_var (t := kI) (v := (.int (x0 / x1))) (x := (x0 / x1)) rfl rfl) em_int o_I)) (fun _ => (em_var (t := kI) (v := (.int (x0 / x1))) (x := (x0 / x1)) rfl rfl))))) (by rw [filter_yes])) em_nil) o_tupL) (fun v_61 H_62 g_63 w_64 r_65 => ?_)
      exact qok _ v_61 H_62 o_47 (show Ex H _ from Gr.fr ((g_41.then g_48 rfl).then g_63 rfl)) r_65

theorem wp_len {ps : List Int} {k w : Int} (h0 : 0 ≤ k) (h1 : 0 ≤ w) (h : w < (ps.drop k.toNat).sum) : k < (ps.length : Int) := by
  rcases Int.lt_or_le k (ps.length : Int) with z | z
  · exact z
  · rw [List.drop_eq_nil_of_le (by omega)] at h
    simp at h
    omega
theorem wp_step {ps : List Int} {k w : Int} (h0 : 0 ≤ k) (hl : k < (ps.length : Int)) (h : w < (ps.drop k.toNat).sum) : w - (atI ps k).getD 0 < (ps.drop (k.toNat + 1)).sum := by
  have hk : k.toNat < ps.length := by omega
  have e := atI_nat (xs := ps) (j := k.toNat) (v := ps[k.toNat]) (List.getElem?_eq_getElem hk)
  rw [Int.toNat_of_nonneg h0] at e
  rw [e]
  rw [List.drop_eq_getElem_cons hk, List.sum_cons] at h
  show w - ps[k.toNat] < _
  omega
theorem wp_sum {ps : List Int} (h : ∀ z ∈ ps, 1 ≤ z) (hl : 0 < ps.length) : 0 < ps.sum := by
  have g : ∀ l : List Int, (∀ z ∈ l, 1 ≤ z) → (l.length : Int) ≤ l.sum := by
    intro l
    induction l with
    | nil => intro _; simp
    | cons a l ih =>
      intro h
      have := ih fun z hz => h z (List.mem_cons_of_mem _ hz)
      have := h a List.mem_cons_self
      rw [List.sum_cons, List.length_cons]
      omega
  have := g ps h
  omega
theorem wp_big {ps : List Int} (h : ps.length ≤ 1000 ∧ ∀ z ∈ ps, z ≤ 100000) : ps.sum ≤ 100000000 := by
  have g : ∀ l : List Int, (∀ z ∈ l, z ≤ 100000) → l.sum ≤ 100000 * (l.length : Int) := by
    intro l
    induction l with
    | nil => intro _; simp
    | cons a l ih =>
      intro h
      have := ih fun z hz => h z (List.mem_cons_of_mem _ hz)
      have := h a List.mem_cons_self
      rw [List.sum_cons, List.length_cons]
      omega
  have := g ps h.2
  omega

abbrev s_weeks_pattern : Stmt := topS 24
def weeks_patternN : List Str := ["calendar", "start", "pattern", "number", "rounds", "week", "part"]
theorem sc_weeks_pattern : FnScope weeks_patternN ["calendar", "start", "pattern", "number"] (defScope s_weeks_pattern) := ⟨rfl, rfl, rfl, by decide +kernel, rfl, by decide +kernel, by decide +kernel⟩
def f_weeks_pattern : Ca × Int × (List Int) × Int × Unit → Re (Int × Int) := fun a => match a with
  | (c0, x1, x2, x3, _) =>
    cond ((decide ((x2.length : Int) = (0 : Int))) || (decide ((minOf x2) < (1 : Int))))
    ((.er 5))
    (lt (((x3 - x1) / (Ca.week c0)) / (x2.sum), ((x3 - x1) / (Ca.week c0)) % (x2.sum)) fun _ =>
    lt (0 : Int) fun part_91 =>
    whK (fun s_102 : (Int × Int) => (decide (((atI x2 (s_102.2)).getD 0) ≤ (s_102.1))))
    (fun (s_132 : (Int × Int)) (kn : (Int × Int) → _) (kb : (Int × Int) → _) =>
    lt ((s_132.1) - ((atI x2 (s_132.2)).getD 0)) fun week_147 =>
    lt ((s_132.2) + (1 : Int)) fun part_155 =>
    kn (week_147, part_155))
    (fun (s_112 : (Int × Int)) =>
    (.ok ((((((x3 - x1) / (Ca.week c0)) / (x2.sum)) * (x2.length : Int)) + (s_112.2)), (s_112.1)))) (x2.length) ((((x3 - x1) / (Ca.week c0)) % (x2.sum)), part_91))
def pre_weeks_pattern : Ca × Int × (List Int) × Int × Unit → Prop := fun a => match a with
  | (c0, x1, x2, x3, _) => True ∧ (x2.length ≤ 1000 ∧ ∀ z ∈ x2, z ≤ 100000)
abbrev sp_weeks_pattern (K : PySem.W.Frag) (C : Addr) (cl : Nat → Addr) : Sp := spD (aC (kCal K C) (aC kI (aC (kL K kI) (aC kI a0)))) pre_weeks_pattern f_weeks_pattern (k2 K kI kI) cl
theorem ok_weeks_pattern {f : Addr} {fd : FuncData} (F : Fun K "weeks_pattern" "weeks_pattern" s_weeks_pattern f fd) (TC : CalT K C) (B : BD mg) (xBadSize : Exc1 K mg "BadSize" (cl 5)) : FnOk P w K mg base (L2.CX P w) 2 f fd ["calendar", "start", "pattern", "number"] (sp_weeks_pattern K C cl) := by
  refine F.okX sc_weeks_pattern (fun vs H Q E h => ?_) (fun cdv A outer s H vs Q E hr h => ?_)
  · obtain ⟨M, a, live, hA, _⟩ := h
    obtain ⟨v0, _, rfl, r0, v1, _, rfl, r1, v2, _, rfl, r2, v3, _, rfl, r3, rfl⟩ := hA
    rfl
  · obtain ⟨M, ⟨c0, x1, x2, x3, _⟩, live, hA, hpre, qok, qer⟩ := h
    obtain ⟨v0, _, rfl, r0, v1, _, rfl, r1, v2, _, rfl, r2, v3, _, rfl, r3, rfl⟩ := hA
    obtain rfl : v1 = (.int x1) := r1
    obtain rfl : v3 = (.int x3) := r3
    have sm0 : Small c0 := by obtain ⟨_, _, _, z⟩ := r0; exact z
    have ok0 := sm0.ok
    have wk0 := ok0.wk
    have wl0 := sm0.wk
    have len0 := sm0.len
    have lm00 := ok0.lm0
    have lm10 := ok0.lm1
    have hpre : True ∧ (x2.length ≤ 1000 ∧ ∀ z ∈ x2, z ≤ 100000) := hpre
    have w0 : Holds M [] H := hold0 live
    have o0 : Pr (f_weeks_pattern (c0, x1, x2, x3, ())) (cond ((decide ((x2.length : Int) = (0 : Int))) || (decide ((minOf x2) < (1 : Int))))
((.er 5))
(lt (((x3 - x1) / (Ca.week c0)) / (x2.sum), ((x3 - x1) / (Ca.week c0)) % (x2.sum)) fun _ =>
lt (0 : Int) fun part_91 =>
whK (fun s_102 : (Int × Int) => (decide (((atI x2 (s_102.2)).getD 0) ≤ (s_102.1))))
(fun (s_132 : (Int × Int)) (kn : (Int × Int) → _) (kb : (Int × Int) → _) =>
lt ((s_132.1) - ((atI x2 (s_132.2)).getD 0)) fun week_147 =>
lt ((s_132.2) + (1 : Int)) fun part_155 =>
kn (week_147, part_155))
(fun (s_112 : (Int × Int)) =>
(.ok ((((((x3 - x1) / (Ca.week c0)) / (x2.sum)) * (x2.length : Int)) + (s_112.2)), (s_112.1)))) (x2.length) ((((x3 - x1) / (Ca.week c0)) % (x2.sum)), part_91))) := rfl
    refine ⟨_, pss_cons (ps_if (PW.pt (pw_or (pt_cmpR op_eq (pe_callB call_len_seq (by rfl) B.len (by decide +kernel) (pa_cons (pv 2) pa_nil)) pe_int (nomark _)) (pw_or1 (pt_cmpR op_lt (pe_callB (cr_min rfl) (by rfl) B.min (by decide +kernel) (pa_cons (pv 2) pa_nil)) pe_int (nomark _))))) (pss_one (ps_raiseX xBadSize)) (pss_nil)) (pss_cons (ps_asg (pe_callB call_divmod (by rfl) B.divmod (by decide +kernel) (pa_cons (pe_op op_fdiv (pe_op op_sub (pv 3) (pv 1)) (pe_fld (pv 0) rfl)) (pa_cons (pe_callB (cr_sum rfl) (by rfl) B.sum (by decide +kernel) (pa_cons (pv 2) pa_nil)) pa_nil))) (pg_tup rfl (pgs_cons (pg_name (i := 4) sc_weeks_pattern.nd rfl (.inl rfl)) (pgs_cons (pg_name (i := 5) sc_weeks_pattern.nd rfl (.inl rfl)) pgs_nil)))) (pss_cons (ps_set (i := 6) sc_weeks_pattern.nd rfl (.inl rfl) pe_int) (pss_cons (ps_while (passes_of rfl) (pt_cmpR op_ge (pv 5) (pe_ix ix_list (pv 2) (pv 6) (fun _ _ => rfl)) (nomark _)) (pss_cons (ps_aug (i := 5) sc_weeks_pattern.nd rfl (.inl rfl) (pe_ix ix_list (pv 2) (pv 6) (fun _ _ => rfl)) ip_sub) (pss_one (ps_aug (i := 6) sc_weeks_pattern.nd rfl (.inl rfl) pe_int ip_add)))) (pss_one (ps_ret (pe_tup (pa_cons (pe_op op_add (pe_op op_mul (pv 4) (pe_callB call_len_seq (by rfl) B.len (by decide +kernel) (pa_cons (pv 2) pa_nil))) (pv 6)) (pa_cons (pv 5) pa_nil)))))))), ?_⟩
    refine g_when (E := E) (cl := cl) (b := ((decide ((x2.length : Int) = (0 : Int))) || (decide ((minOf x2) < (1 : Int))))) w0 o0 (gt_or (gt_test (em_op (em_cb (em_cons (em_var (t := (kL K kI)) (v := v2) (x := x2) rfl r2) em_nil) o_lenL) em_int o_eqI)) (fun h_66 => (gt_test (em_op (em_cb (em_cons (em_var (t := (kL K kI)) (v := v2) (x := x2) rfl r2) em_nil) (o_minL (by have q := h_66; simp only [decide_eq_false_iff_not] at q; omega))) em_int o_IB)))) (fun hb_69 o_70 H_68 g_71 w_72 => ?_) (fun hb_74 o_75 H_73 g_76 w_77 => ?_)
    · simp only [decide_eq_true_eq, decide_eq_false_iff_not, Bool.and_eq_true, Bool.or_eq_true, Bool.and_eq_false_iff, Bool.or_eq_false_iff, Bool.not_eq_true', Bool.not_eq_false'] at hb_69
      have r_78 := (kCal K C).up g_71.im r0
      have r_79 := (kL K kI).up g_71.im r2
      exact qer 5 _ o_70 (show Ex H _ from Gr.fr g_71)
    · simp only [decide_eq_true_eq, decide_eq_false_iff_not, Bool.and_eq_true, Bool.or_eq_true, Bool.and_eq_false_iff, Bool.or_eq_false_iff, Bool.not_eq_true', Bool.not_eq_false'] at hb_74
      have r_80 := (kCal K C).up g_76.im r0
      have r_81 := (kL K kI).up g_76.im r2
      have nz : 0 < x2.length := by
        rcases hb_74 with ⟨q, _⟩
        omega
      have pos : ∀ z ∈ x2, 1 ≤ z := fun z hz => by
        have a := (minOf_mem nz).2 z hz
        have b := hb_74.2
        omega
      have spos := wp_sum pos nz
      have sbig := wp_big hpre.2
      refine g_asgG (E := E) (cl := cl) (t := (k2 K kI kI)) (x := (((x3 - x1) / (Ca.week c0)) / (x2.sum), ((x3 - x1) / (Ca.week c0)) % (x2.sum))) w_77 eg_2 o_75 (em_cb (em_cons (em_op (em_op (em_var (t := kI) (v := (.int x3)) (x := x3) rfl rfl) (em_var (t := kI) (v := (.int x1)) (x := x1) rfl rfl) o_I) (em_calWeek TC (em_var (t := (kCal K C)) (v := v0) (x := c0) rfl r_80)) (o_IC (C := CDiv) (g := fun i j => i / j) (by exact ⟨by omega, by omega⟩))) (em_cons (em_cb (em_cons (em_var (t := (kL K kI)) (v := v2) (x := x2) rfl r_81) em_nil) o_sumL) em_nil)) (o_divmod (by exact ⟨by omega, by omega⟩))) (fun p_82 σ_83 H_84 hx_85 o_86 g_87 w_88 b => ?_)
      subst hx_85
      have r_89 := (kCal K C).up g_87.im r_80
      have r_90 := (kL K kI).up g_87.im r_81
      obtain ⟨_, _, rfl, rfl, rfl⟩ := b
      have wk0 : 0 ≤ (((x3 - x1) / (Ca.week c0)) % (x2.sum)) := Int.emod_nonneg _ (by omega)
      have wk1 : (((x3 - x1) / (Ca.week c0)) % (x2.sum)) < (x2.drop (0 : Int).toNat).sum := Int.emod_lt_of_pos _ (by omega)
      refine g_asg (E := E) (cl := cl) (i := 6) (t := kI) (x := (0 : Int)) w_88 o_86 em_int (fun part_91 v_92 H_93 hx_94 o_95 g_96 w_97 r_98 => ?_)
      have r_99 := (kCal K C).up g_96.im r_89
      have r_100 := (kL K kI).up g_96.im r_90
      obtain rfl : v_92 = (.int part_91) := r_98
      refine g_while (E := E) (cl := cl) (c := (fun s_102 : (Int × Int) => (decide (((atI x2 (s_102.2)).getD 0) ≤ (s_102.1))))) (n := x2.length) (s0 := ((((x3 - x1) / (Ca.week c0)) % (x2.sum)), part_91)) (Sx := (fun s : (Int × Int) => [])) (fun (n : Nat) (s : (Int × Int)) => 0 ≤ (s.2) ∧ 0 ≤ (s.1) ∧ (s.1) < (x2.drop ((s.2)).toNat).sum ∧ (x2.length : Int) - (s.2) ≤ (n : Int) ∧ (0 ≤ (n : Int))) (fun (I : Hp) (s : (Int × Int)) (σ : L2.St) => σ = [some v0, some (.int x1), some v2, some (.int x3), some (.int (((x3 - x1) / (Ca.week c0)) / (x2.sum))), some (.int (s.1)), some (.int (s.2))]) w_97 o_95 (fun _ => rfl) (by show 0 ≤ part_91 ∧ 0 ≤ (((x3 - x1) / (Ca.week c0)) % (x2.sum)) ∧ (((x3 - x1) / (Ca.week c0)) % (x2.sum)) < (x2.drop (part_91).toNat).sum ∧ _; rw [hx_94]; exact ⟨by decide, wk0, wk1, by omega, by omega⟩) (fun s h => by have pl := wp_len (ps := x2) (k := s.2) h.1 h.2.1 h.2.2.1; have := h.2.2.2.1; omega) rfl (fun n_101 s_102 σ_103 H_104 ok_105 g_106 w_107 rv_108 => ?_) (fun n_111 s_112 σ_113 I_114 H_115 ok_116 hc_117 g_118 w_119 e_120 rv_121 o_122 => ?_) (fun hd_130 n_131 s_132 σ_133 I_134 H_135 ok_136 hc_137 g_138 w_139 e_140 rv_141 o_142 Nx_143 nx_144 => ?_)
      · obtain ⟨rfl⟩ := rv_108
        have r_109 := (kCal K C).up g_106.im r_99
        have r_110 := (kL K kI).up g_106.im r_100
        have pl := wp_len (ps := x2) (k := (s_102.2)) ok_105.1 ok_105.2.1 ok_105.2.2.1
        exact (gt_test (em_op (em_var (t := kI) (v := (.int (s_102.1))) (x := (s_102.1)) rfl rfl) (em_op (em_var (t := (kL K kI)) (v := v2) (x := x2) rfl r_110) (em_var (t := kI) (v := (.int (s_102.2))) (x := (s_102.2)) rfl rfl) (o_ixLI (at_in (by omega)))) o_IB))
      · obtain ⟨rfl⟩ := rv_121
        have r_123 := (kCal K C).up g_118.im r_99
        have r_124 := (kL K kI).up g_118.im r_100
        have hc_117' : ((decide (((atI x2 (s_112.2)).getD 0) ≤ (s_112.1)))) = false := hc_117
        simp only [decide_eq_true_eq, decide_eq_false_iff_not, Bool.and_eq_true, Bool.or_eq_true, Bool.and_eq_false_iff, Bool.or_eq_false_iff, Bool.not_eq_true', Bool.not_eq_false'] at hc_117'
        have pl := wp_len (ps := x2) (k := (s_112.2)) ok_116.1 ok_116.2.1 ok_116.2.2.1
        refine g_ret (E := E) (cl := cl) (t := (k2 K kI kI)) (x := ((((((x3 - x1) / (Ca.week c0)) / (x2.sum)) * (x2.length : Int)) + (s_112.2)), (s_112.1))) w_119 (em_t2 K (em_cons (em_op (em_op (em_var (t := kI) (v := (.int (((x3 - x1) / (Ca.week c0)) / (x2.sum)))) (x := (((x3 - x1) / (Ca.week c0)) / (x2.sum))) rfl rfl) (em_cb (em_cons (em_var (t := (kL K kI)) (v := v2) (x := x2) rfl r_124) em_nil) o_lenL) (o_IC (by first | exact .inl ⟨by omega, by omega⟩ | exact .inr ⟨by omega, by omega⟩))) (em_var (t := kI) (v := (.int (s_112.2))) (x := (s_112.2)) rfl rfl) o_I) (em_cons (em_var (t := kI) (v := (.int (s_112.1))) (x := (s_112.1)) rfl rfl) em_nil))) (fun v_125 H_126 g_127 w_128 r_129 => ?_)
        exact qok _ v_125 H_126 o_122 (show Ex H _ from Gr.fr ((((g_76.then g_87 rfl).then g_96 rfl).then g_118 rfl).then g_127 rfl)) r_129
      · obtain ⟨rfl⟩ := rv_141
        have r_145 := (kCal K C).up g_138.im r_99
        have r_146 := (kL K kI).up g_138.im r_100
        have hc_137' : ((decide (((atI x2 (s_132.2)).getD 0) ≤ (s_132.1)))) = true := hc_137
        simp only [decide_eq_true_eq, decide_eq_false_iff_not, Bool.and_eq_true, Bool.or_eq_true, Bool.and_eq_false_iff, Bool.or_eq_false_iff, Bool.not_eq_true', Bool.not_eq_false'] at hc_137'
        have pl := wp_len (ps := x2) (k := (s_132.2)) ok_136.1 ok_136.2.1 ok_136.2.2.1
        refine g_aug (E := E) (cl := cl) (i := 5) (z := ((s_132.1) - ((atI x2 (s_132.2)).getD 0))) (a := (s_132.1)) (b := ((atI x2 (s_132.2)).getD 0)) w_139 o_142 rfl (em_op (em_var (t := (kL K kI)) (v := v2) (x := x2) rfl r_146) (em_var (t := kI) (v := (.int (s_132.2))) (x := (s_132.2)) rfl rfl) (o_ixLI (at_in (by omega)))) (fun _ _ q => ⟨_, _, rfl, rfl, q⟩) (fun week_147 H_148 hx_149 o_150 g_151 w_152 => ?_)
        have r_153 := (kCal K C).up g_151.im r_145
        have r_154 := (kL K kI).up g_151.im r_146
        refine g_augL (E := E) (cl := cl) (i := 6) (z := ((s_132.2) + (1 : Int))) (a := (s_132.2)) (b := (1 : Int)) w_152 o_150 rfl em_int (fun _ _ q => ⟨_, _, rfl, rfl, q⟩) (fun part_155 H_156 hx_157 o_158 g_159 w_160 => ?_)
        have r_161 := (kCal K C).up g_159.im r_153
        have r_162 := (kL K kI).up g_159.im r_154
        exact nx_144 (week_147, part_155) _ _ (by have q := wp_step (ps := x2) (k := (s_132.2)) (w := (s_132.1)) ok_136.1 pl ok_136.2.2.1; have q1 := ok_136.2.2.2.1; rw [hx_157, hx_149]; exact ⟨by omega, by omega, by rw [show ((s_132.2) + 1).toNat = ((s_132.2)).toNat + 1 by omega]; exact q, by omega, by omega⟩) o_158 (Gr.cast (g_151.then g_159 rfl) rfl) w_160 rfl
end
end Rw
/-! sorted of a tuple of ints, the greatest first -/
namespace Rw
open PySem PySem.Spec PyProof.Rows L2 Srt SrtO
section
variable {prg : Program} {wd : World} {AA : Around} {sh : Shared} {EE : Value → Shared → Prop}
theorem collT {p : Addr} {us : List Value} {QQ : List Value → Shared → Prop} (ht0 : sh.heap.IsTuple p us.toArray)
    (hq : QQ us { sh with heap := (sh.heap.push (seqObj "list" #[] 0)).update sh.heap.objs.size (Obj.mapSeq (· ++ us.toArray)) }) (hz0 : us.length ≤ sizeLine) : wpAny (model prg wd) AA (collect (.ref p)) QQ EE sh := by
  obtain ⟨ob, hob, hcl, nn, hda⟩ := id ht0
  unfold collect
  refine wpAny_bind (wpAny_runValue (codeAny_builtin entry_proto_collect' (?_ : _)))
  show wpAny _ _ (do again (.builtin "list.__iadd__" ⟨[← newList [], .ref p], []⟩)) _ _ sh
  refine wpAny_bind (wpAny_newList (wpAny_pure ⟨Code.quiet_builtin _ (by decide +kernel), codeAny_builtin entry_list_iadd' (?_ : _)⟩))
  show wpAny _ _ (Builtin.List.listExtendWith (.ref sh.heap.objs.size) (.ref p) (.ref sh.heap.objs.size)) _ _ { sh with heap := sh.heap.push (seqObj "list" #[] 0) }
  unfold Builtin.List.listExtendWith
  have hob2 : (sh.heap.push (seqObj "list" #[] 0)).get? p = some ob := Heap.get?_push_of_some _ hob
  refine wpAny_bind (wpAny_typeOf (T := "tuple") ⟨ob, hob2, hcl⟩ ?_)
  have hty : (Value.type "tuple" == Value.type "tuple") = true := by rfl
  rw [if_pos (by rw [hty]; simp)]
  refine wpAny_bind (listItems_at hob2 hda (?_ : _)); refine wpAny_bind (listItems_at (xs := #[]) (n := 0) (Heap.get?_push_size _ rfl) rfl (?_ : _))
  rw [if_neg (by simp)]
  refine wpAny_bind (listUpdate_at (xs := #[]) (n := 0) (Heap.get?_push_size _ rfl) rfl ?_ (Nat.zero_le _) (by show (#[] ++ us.toArray).size ≤ sizeLine + 1; simp only [Array.size_append, List.size_toArray, List.length_nil]; omega)); refine wpAny_pure ?_
  show wpAny (model prg wd) AA (do
      let o ← load sh.heap.objs.size
      match o.data with
      | .seq xs _ => pure xs.toList
      | _ => unsupported "internal:collect") QQ EE { sh with heap := (sh.heap.push (seqObj "list" #[] 0)).update sh.heap.objs.size (Obj.mapSeq (· ++ us.toArray)) }
  refine wpAny_bind (wpAny_load (get?_update_seq (Heap.get?_push_size _ rfl) _) (?_ : _))
  show wpAny _ _ (pure ((#[] : Array Value) ++ us.toArray).toList) QQ EE _
  rw [show ((#[] : Array Value) ++ us.toArray).toList = us by simp]
  exact wpAny_pure hq
theorem sortT {p : Addr} {us : List Value} {b : Bool} {ltv : Value → Value → Bool} {QQ : Value → Shared → Prop} (OO : Swo ltv) (ht0 : sh.heap.IsTuple p us.toArray) (hz0 : us.length ≤ sizeLine)
    (hS : 2 ≤ us.length → ∀ (h1 : Heap) (a : Addr), h1.get? a = some (seqObj "list" us.toArray 0) → (∀ b o, sh.heap.get? b = some o → b ≠ a ∧ h1.get? b = some o) → SortableO prg wd AA.in1.in1 { sh with heap := h1 } a us ltv)
    (hq : ∀ out : List Value, Srtd ltv out → Stb ltv out (if b = true then us.reverse else us) → QQ (.ref (sh.heap.objs.size + 1)) { sh with heap := sortedAll sh.heap us (if b = true then out.toArray.reverse else out.toArray) }) :
    wpAny (model prg wd) AA (call (.builtin "sorted") [.ref p] [(Str.ofString "reverse", .bool b)]) QQ EE sh := by
  refine call_function_entry_kw kind_sorted plain_sorted entry_sorted (PyProof.Rows.args_sorted_rev _ _) (?_ : _)
  unfold Builtin.«sorted»
  refine wpAny_bind (m := checkCount "sorted" 1 1 _) (wpAny_pure (?_ : _)); refine wpAny_bind (collT ht0 ?_ hz0); refine wpAny_bind (wpAny_newList ?_ hz0)
  have e1 : ((sh.heap.push (seqObj "list" #[] 0)).update sh.heap.objs.size (Obj.mapSeq (· ++ us.toArray))).objs.size = sh.heap.objs.size + 1 := by rw [Heap.size_update, size_push']
  have e2 : (((sh.heap.push (seqObj "list" #[] 0)).update sh.heap.objs.size (Obj.mapSeq (· ++ us.toArray))).push (seqObj "list" us.toArray 0)).get? (sh.heap.objs.size + 1) = some (seqObj "list" us.toArray 0) := by rw [← e1]; exact Heap.get?_push_size _ rfl
  have e3 : ∀ b o, sh.heap.get? b = some o → b ≠ sh.heap.objs.size + 1 ∧ (((sh.heap.push (seqObj "list" #[] 0)).update sh.heap.objs.size (Obj.mapSeq (· ++ us.toArray))).push (seqObj "list" us.toArray 0)).get? b = some o := fun b o q => by
    have lt := Heap.lt_size q
    exact ⟨Nat.ne_of_lt (Nat.lt_succ_of_lt lt), Heap.get?_push_of_some _ (by rw [Heap.get?_update_ne _ _ _ _ (Nat.ne_of_lt lt)]; exact Heap.get?_push_of_some _ q)⟩
  show wpAny _ _ _ _ _ { sh with heap := ((sh.heap.push (seqObj "list" #[] 0)).update sh.heap.objs.size (Obj.mapSeq (· ++ us.toArray))).push (seqObj "list" us.toArray 0) }
  rw [e1]
  refine wpAny_bind (wpAny_holding (wpAny_call_entry_kw slot_list_sort ⟨_, e2, rfl⟩ entry_list_sort (?_ : _) (PyProof.Rows.args_list_sort_rev _ _)))
  exact SrtR.list_sort_ordR OO e2 hz0 (fun h2 => hS h2 _ _ e2 e3) fun out hs hb => ⟨_, rfl, wpAny_pure ⟨_, rfl, hq out hs hb⟩⟩
end
section
variable {X : Cx}
def rSrtT (K : PySem.W.Frag) : List V → List V → Hp → VK → Prop := fun vs zs H Q => ∃ (a : Addr) (ns : List Int), vs = [V.ref a] ∧ zs = [.bl true] ∧ SqT K H a (ns.map V.int) ∧ ∀ (ms : List Int) (p : Addr), ms.Perm ns → OrdB true ms → H p = none → Q (.ref p) (upd H p (.lst (ms.map V.int)))
theorem cr_srtT : CallRK X (.builtin "sorted") [Str.ofString "reverse"] (rSrtT X.K) := fun pn sh st Hh vs zs us ws Q0 IV rv rz hh => by
  obtain ⟨a, ns, rfl, rfl, hs, q⟩ := hh
  obtain rfl := Vals.ref1 rv
  obtain ⟨w1, rfl, f1⟩ := vals1 rz
  obtain rfl : w1 = Value.bool true := f1
  obtain ⟨its, rr, hl, hz⟩ := IV.tuple hs
  have hi := rr.ints
  refine sortT (b := true) SrtO.swo_int hl (by rw [← rr.length]; exact hz) (fun h2 h1 a' _ _ => SrtO.ints_sortable hi h2) fun out k1 k2 => ?_
  obtain ⟨ms, m1, m2, m3⟩ := SrtR.ints_outR hi k1 k2
  obtain ⟨ep, he⟩ := PyProof.Rows.sortedAll_at sh.heap its (if true = true then out.toArray.reverse else out.toArray)
  have e0 : ((if true = true then out.toArray.reverse else out.toArray).toList).toArray = (if true = true then out.toArray.reverse else out.toArray) := by rw [Array.toArray_toList]
  exact ⟨.ref _, upd Hh (sh.heap.objs.size + 1) (.lst (ms.map V.int)), IV.laid (t' := sh.toks) (fun _ _ => PyProof.Rows.sortedAll_old) (Nat.le_succ _) ⟨by rw [List.length_map, m2.length_eq]; rw [List.length_map] at hz; exact hz, _, ep, vals_of_ints m1, by rw [e0]; exact he⟩, rfl, q _ _ m2 m3 (IV.hok.fresh (Nat.le_succ _))⟩
end
end Rw
namespace Rw
open PySem PySem.Spec PyProof.Rows L2 Evl Cy
section
variable {P : Program} {w : World} {A : Around} {E : Value → Shared → Prop} {s : Shared} {t : Addr} {items : Array Value} {ns : List Int}
theorem max_tup {Q : Value → Shared → Prop} (hh : A.handled = none) (hl : s.heap.IsTuple t items) (hi : IntsAre items.toList ns) (hn : items.size = ns.length) (hne0 : 0 < ns.length)
    (h : ∀ h' tk M k, (∀ b o, s.heap.get? b = some o → h'.get? b = some o) → M ∈ ns → (∀ a, a ∈ ns → a ≤ M) → Q (.int M k) { s with heap := h', toks := tk }) : wpAny (model P w) A (call (.builtin "max") [.ref t]) Q E s := by
  refine call_max_walk (iter_tup hl fun sv e st hfp hne => ?_)
  subst e
  refine ⟨_, _, _, _, _, _, _, rfl, Walks.tuple (A := A.in1) hh _ t hne items, st, hfp, by omega, CmpOf.ints_gt (fun i => ns.getD i 0) (fun i v e => ints_at hi e), fun v h' tk hP hk => ?_⟩
  obtain ⟨k, rfl⟩ := ints_at hi hP
  obtain ⟨h1, h2⟩ := argBest_gt (fun i => ns.getD i 0) (items.size - 1)
  refine h h' tk _ k (kept_old hk) ?_ fun a ha => ?_
  · have hlt : argBest (fun i j => decide (ns.getD i 0 > ns.getD j 0)) (items.size - 1) < ns.length := by omega
    rw [List.getD_eq_getElem?_getD, List.getElem?_eq_getElem hlt]
    exact List.getElem_mem hlt
  · obtain ⟨j, hj, rfl⟩ := List.getElem_of_mem ha
    have g := h2 j (by omega)
    have e : ns[j] = ns.getD j 0 := by rw [List.getD_eq_getElem?_getD, List.getElem?_eq_getElem hj]; rfl
    rw [e]
    exact g
end
section
variable {X : Cx}
def rMaxT (K : PySem.W.Frag) : List V → Hp → VK → Prop := fun vs H Q => ∃ (a : Addr) (ns : List Int), vs = [V.ref a] ∧ SqT K H a (ns.map V.int) ∧ 0 < ns.length ∧ ∀ m, m ∈ ns → (∀ y, y ∈ ns → y ≤ m) → Q (.int m) H
theorem cr_maxT (hc : X.calm = true) : CallR X (.builtin "max") (rMaxT X.K) := fun pn sh st Hh vs us Q0 IV rv hh => by
  obtain ⟨a, ns, rfl, hs, h0, q⟩ := hh
  obtain ⟨its, rr, hl, _⟩ := IV.tuple hs
  rw [Vals.ref1 rv]
  exact max_tup (IV.ok.hd hc) hl rr.ints (by rw [List.size_toArray, ← rr.length, List.length_map]) h0 fun h' tk M k hk h1 h2 => ⟨.int _, Hh, IV.kept hk, ⟨_, rfl⟩, q M h1 h2⟩
end
section
variable {K : PySem.W.Frag} {α β γ δ R τ : Type} {E E' : XK} {cl : Nat → Addr} {M : List Addr} {σ : L2.St} {I I' H H' : Hp} {S S' S1 S2 S3 : List Cell} {te ta tb tc to tv : TE} {t : Ty α} {u : Ty β}
theorem desc_uniq : ∀ {xs ys : List Int}, xs.Perm ys → xs.Pairwise (· ≥ ·) → ys.Pairwise (· ≥ ·) → xs = ys := fun {xs ys} p a b =>
  List.Perm.eq_of_pairwise (fun x y _ _ h1 h2 => Int.le_antisymm h2 h1) a b p
theorem em_srtT {ns : List Int} (h : Em E cl M te σ I S (kT K kI) (.ok ns) S') (hd : ns.Pairwise (· ≥ ·)) : Em E cl M (tCKw (rSrtT K) (tCons te tNil) (tCons (tC (.bl true)) tNil)) σ I S (kL K kI) (.ok ns) S' :=
  em_mk h.ad fun H1 i w Q q => em_of h H1 i w _ fun v H2 e2 w2 r2 => by
    obtain ⟨p, vs, rfl, hp, ha⟩ := r2
    refine ⟨p, ns, rfl, rfl, ex_t del_le (by rw [← all_ints ha]; exact hp), fun ms l hm ho hl => ?_⟩
    have e : ms = ns := desc_uniq hm (by simpa [OrdB] using ho) hd
    subst e
    exact q _ _ (e2.trans (ex_del (Ex.new hl))) (w2.ex (Ex.new hl)) ⟨l, _, rfl, sq_of (del_at (fresh_not w2.live hl) upd_same), all_intsR _⟩
theorem o_maxT {ns : List Int} (h : 0 < ns.length) : OpN (rMaxT K) (aC (kT K kI) a0) (ns, ()) kI (topOf ns) := fun M us H l a Q q => by
  obtain ⟨v, r, rfl, ⟨p, vs, rfl, hp, ha⟩, rfl⟩ := a
  exact ⟨p, ns, rfl, ex_t del_le (by rw [← all_ints ha]; exact hp), h, fun m h1 h2 => q _ H (Ex.refl H) (by rw [topOf_is h1 h2]; rfl)⟩
end
end Rw
namespace Rw
open PySem PySem.Spec PyProof.Rows L2 Evl Cy
section
variable {c : Ca} {n m k l e f p y : Int}
theorem due_ok : f_due_days (c, n, m, k, ()) = .ok ((rng 0 k).map fun p => monOn c n (m * p)) := rfl
def byV (c : Ca) (n f : Int) : Int := if ((dateM c n : Nat) : Int) < f then yearOf c n - 1 else yearOf c n
theorem hm_true (h : 0 ≤ f ∧ f < (List.length (Ca.months c) : Int)) : (decide ((0 : Int) ≤ f) && decide (f < (List.length (Ca.months c) : Int))) = true := by
  rw [decide_eq_true h.1, decide_eq_true h.2]; rfl
theorem hp_true (h : 1 ≤ m ∧ (List.length (Ca.months c) : Int) % m = 0) : (decide ((1 : Int) ≤ m) && decide ((List.length (Ca.months c) : Int) % m = (0 : Int))) = true := by
  rw [decide_eq_true h.1, decide_eq_true h.2]; rfl
theorem by_ok (h : 0 ≤ f ∧ f < (List.length (Ca.months c) : Int)) : f_business_year (c, n, f, ()) = .ok (byV c n f) := by
  show cond (!(_ && _)) _ (cond _ _ _) = _
  rw [hm_true h, Bool.not_true, cond_false]
  unfold byV
  by_cases q : ((dateM c n : Nat) : Int) < f
  · rw [decide_eq_true q, cond_true, if_pos q]
  · rw [decide_eq_false q, cond_false, if_neg q]
theorem pb_ok (h : 0 ≤ f ∧ f < (List.length (Ca.months c) : Int)) (g : 1 ≤ m ∧ (List.length (Ca.months c) : Int) % m = 0) : f_part_of_business (c, n, f, m, ()) = .ok (byV c n f, (((dateM c n : Nat) : Int) - f) % (List.length (Ca.months c) : Int) / m) := by
  show cond (!(_ && _)) _ (lr (f_business_year (c, n, f, ())) _) = _
  rw [hp_true g, Bool.not_true, cond_false, by_ok h]
  rfl
theorem sp_ok (h : 0 ≤ f ∧ f < (List.length (Ca.months c) : Int)) (g : 1 ≤ m ∧ (List.length (Ca.months c) : Int) % m = 0) (q : 0 ≤ p ∧ p < (List.length (Ca.months c) : Int) / m) : f_start_of_part (c, y, f, p, m, ()) = .ok (numAt c (y + (f + p * m) / (List.length (Ca.months c) : Int)) ((f + p * m) % (List.length (Ca.months c) : Int)).toNat 0) := by
  show cond (!(_ && _) || !(_ && _)) _ (cond (!(_ && _)) _ _) = _
  rw [hm_true h, hp_true g, decide_eq_true q.1, decide_eq_true q.2]
  rfl
/-! ### shares of years -/
def shGood (c : Ca) (q : Int × Int) : Prop := q.1 ≤ q.2 ∧ (q.2 = c.plain ∨ q.2 = c.plain + 1)
theorem sh_run (ok : c.Ok) {l : Int} : ∀ (k : Nat) (rows : List (Int × Int)) (here : Int), here ≤ l → l - here ≤ (k : Int) → (∀ q ∈ rows, shGood c q) → rows.length + k ≤ 1000 → ∃ r, shK c l k (rows, here) = .ok r ∧ (r.map Prod.fst).sum = (rows.map Prod.fst).sum + (l - here) ∧ (∀ q ∈ r, shGood c q) ∧ r.length ≤ 1000
  | 0, rows, here, h, hk, g, hl => ⟨rows, rfl, by omega, g, by omega⟩
  | k + 1, rows, here, h, hk, g, hl => by
    show ∃ r, cond (decide (here < l)) (shK c l k (rows ++ [((if Ca.firstOf c (yearOf c here + 1) < l then Ca.firstOf c (yearOf c here + 1) else l) - here, Ca.yearDays c (yearOf c here))], if Ca.firstOf c (yearOf c here + 1) < l then Ca.firstOf c (yearOf c here + 1) else l)) (.ok rows) = .ok r ∧ _
    obtain ⟨y0, y1⟩ := yearOf_spec ok here
    have fs := Ca.first_succ ok (yearOf c here)
    by_cases q : here < l
    · rw [decide_eq_true q, cond_true]
      have b : here < (if Ca.firstOf c (yearOf c here + 1) < l then Ca.firstOf c (yearOf c here + 1) else l) ∧ (if Ca.firstOf c (yearOf c here + 1) < l then Ca.firstOf c (yearOf c here + 1) else l) ≤ l ∧ (if Ca.firstOf c (yearOf c here + 1) < l then Ca.firstOf c (yearOf c here + 1) else l) ≤ Ca.firstOf c (yearOf c here + 1) := by split <;> omega
      generalize (if Ca.firstOf c (yearOf c here + 1) < l then Ca.firstOf c (yearOf c here + 1) else l) = z at b ⊢
      obtain ⟨r, e1, e2, e3, e4⟩ := sh_run ok k (rows ++ [(z - here, Ca.yearDays c (yearOf c here))]) z b.2.1 (by omega) (fun q hq => by
        rcases List.mem_append.mp hq with hq | hq
        · exact g q hq
        · obtain rfl := List.mem_singleton.mp hq
          refine ⟨by show z - here ≤ Ca.yearDays c _; omega, ?_⟩
          show Ca.yearDays c _ = _ ∨ Ca.yearDays c _ = _
          unfold Ca.yearDays
          split
          · exact .inr rfl
          · exact .inl rfl) (by rw [List.length_append]; simp only [List.length_cons, List.length_nil]; omega)
      refine ⟨r, e1, ?_, e3, e4⟩
      rw [e2, List.map_append, List.sum_append]
      simp only [List.map_cons, List.map_nil, List.sum_cons, List.sum_nil]
      omega
    · rw [decide_eq_false q, cond_false]
      exact ⟨rows, rfl, by omega, g, by omega⟩
def shV (c : Ca) (f l : Int) : List (Int × Int) := match f_share_of_years (c, f, l, ()) with | .ok r => r | .er _ => []
theorem sh_ok (ok : c.Ok) (h : f ≤ l) (h2 : l - f ≤ 1000) : f_share_of_years (c, f, l, ()) = .ok (shV c f l) ∧ ((shV c f l).map Prod.fst).sum = l - f ∧ (∀ q ∈ shV c f l, shGood c q) ∧ (shV c f l).length ≤ 1000 := by
  obtain ⟨r, e1, e2, e3, e4⟩ := sh_run ok (l := l) (l - f).toNat [] f h (by omega) (fun q hq => nomatch hq) (by simp only [List.length_nil]; omega)
  have e : f_share_of_years (c, f, l, ()) = .ok r := by
    show cond (decide (l < f)) _ _ = _
    rw [decide_eq_false (by omega), cond_false]
    exact e1
  have ev : shV c f l = r := by unfold shV; rw [e]
  rw [ev]
  refine ⟨e, ?_, e3, e4⟩
  rw [e2]
  simp
/-! ### where months end -/
theorem date_num (ok : c.Ok) (n : Int) : n = numAt c (yearOf c n) (dateM c n) (dateD c n) := (date_at ok n).num
/-! ### years of business -/
theorem by_first (ok : c.Ok) (h : 0 ≤ f ∧ f < (List.length (Ca.months c) : Int)) : numAt c (byV c n f) f.toNat 0 ≤ n ∧ n < numAt c (byV c n f + 1) f.toNat 0 := by
  have l0 := ok.lm0
  have l1 := ok.lm1
  have a := date_at ok n
  have key : ∀ y : Int, ∀ x : Int, numAt c y f.toNat 0 ≤ x ↔ y * (List.length (Ca.months c) : Int) + f ≤ mnOf c x := by
    intro y x
    have hm : f.toNat < c.months.length := by omega
    have p := Ca.md_pos ok y hm
    obtain ⟨e1, e2, _⟩ := num_date ok (y := y) (m := f.toNat) (d := 0) hm (by omega) (by omega)
    have e : mnOf c (numAt c y f.toNat 0) = y * (List.length (Ca.months c) : Int) + f := by unfold mnOf; rw [e1, e2]; omega
    constructor
    · intro q
      have := mn_mono ok q
      omega
    · intro q
      rcases Int.lt_or_le x (numAt c y f.toNat 0) with z | z
      · have z1 : mnOf c x = mnOf c (numAt c y f.toNat 0) := by have := mn_mono ok (Int.le_of_lt z); omega
        have z2 := mn_div ok x
        have z3 := mn_div ok (numAt c y f.toNat 0)
        rw [← z1] at z3
        have z4 := date_at ok x
        have z5 := (z4).num
        have z6 := z4.d0
        have m1 : dateM c x = f.toNat := by omega
        have y1 : yearOf c x = y := by omega
        rw [y1, m1] at z5
        unfold numAt
        omega
      · exact z
  have n1 : ∀ y : Int, n < numAt c y f.toNat 0 ↔ mnOf c n < y * (List.length (Ca.months c) : Int) + f := fun y => by
    have := key y n
    omega
  have m1 := a.m1
  rw [key, n1]
  unfold byV mnOf
  by_cases q : ((dateM c n : Nat) : Int) < f
  · rw [if_pos q]
    simp only [Int.sub_mul, Int.add_mul, Int.one_mul]
    omega
  · rw [if_neg q]
    simp only [Int.add_mul, Int.one_mul]
    omega
theorem by_part (ok : c.Ok) (h : 0 ≤ f ∧ f < (List.length (Ca.months c) : Int)) : numAt c (byV c n f + (f + (((dateM c n : Nat) : Int) - f) % (List.length (Ca.months c) : Int) / 1 * 1) / (List.length (Ca.months c) : Int)) ((f + (((dateM c n : Nat) : Int) - f) % (List.length (Ca.months c) : Int) / 1 * 1) % (List.length (Ca.months c) : Int)).toNat 0 = n - dateD c n := by
  have a := date_at ok n
  have m1 := a.m1
  have num := a.num
  rw [Int.ediv_one, Int.mul_one]
  unfold byV numAt
  by_cases q : ((dateM c n : Nat) : Int) < f
  · have e : (((dateM c n : Nat) : Int) - f) % (List.length (Ca.months c) : Int) = ((dateM c n : Nat) : Int) - f + (List.length (Ca.months c) : Int) := by
      rw [← Int.add_emod_right, Int.emod_eq_of_lt (by omega) (by omega)]
    rw [if_pos q, e, show f + (((dateM c n : Nat) : Int) - f + (List.length (Ca.months c) : Int)) = ((dateM c n : Nat) : Int) + 1 * (List.length (Ca.months c) : Int) by omega, Int.add_mul_ediv_right _ _ (by omega), Int.add_mul_emod_self_right, Int.ediv_eq_zero_of_lt (by omega) (by omega), Int.emod_eq_of_lt (by omega) (by omega), Int.toNat_natCast]
    rw [show yearOf c n - 1 + (0 + 1) = yearOf c n by omega]
    omega
  · have e : (((dateM c n : Nat) : Int) - f) % (List.length (Ca.months c) : Int) = ((dateM c n : Nat) : Int) - f := Int.emod_eq_of_lt (by omega) (by omega)
    rw [if_neg q, e, show f + (((dateM c n : Nat) : Int) - f) = ((dateM c n : Nat) : Int) by omega, Int.ediv_eq_zero_of_lt (by omega) (by omega), Int.emod_eq_of_lt (by omega) (by omega), Int.toNat_natCast, Int.add_zero, Int.add_zero]
    omega
end
section
variable {c : Ca} {n m f l a z : Int}
theorem evm_ok (h : f ≤ l) (hz : 1 ≤ z) : f_even_months (c, f, l, z, ()) = .ok (v_even_place (c, l, z, ()) - v_even_place (c, f, z, ())) := by
  show cond (decide (l < f) || decide (z < 1)) _ _ = _
  rw [decide_eq_false (by omega), decide_eq_false (by omega)]
  rfl
def sprV (a m : Int) : List Int := (rng 0 m).map fun x => cond (decide (x < a % m)) (a / m + 1) (a / m)
theorem spr_ok (h : 1 ≤ m) : f_spread (a, m, ()) = .ok (sprV a m) := by
  show cond (decide (m < 1)) _ _ = _
  rw [decide_eq_false (by omega)]
  rfl
theorem spr_len (h : 1 ≤ m) : ((sprV a m).length : Int) = m := by
  unfold sprV
  rw [List.length_map, rng_len]
  omega
theorem sum_const (q : Int) : ∀ l : List Int, (l.map fun _ => q).sum = (l.length : Int) * q
  | [] => by simp
  | x :: l => by
    rw [List.map_cons, List.sum_cons, sum_const q l, List.length_cons]
    have : ((l.length + 1 : Nat) : Int) * q = (l.length : Int) * q + q := by
      rw [show ((l.length + 1 : Nat) : Int) = (l.length : Int) + 1 by omega, Int.add_mul, Int.one_mul]
    omega
theorem spr_sum (h : 1 ≤ m) : (sprV a m).sum = a := by
  have r0 := Int.emod_nonneg a (show m ≠ 0 by omega)
  have r1 := Int.emod_lt_of_pos a (show 0 < m by omega)
  have r2 := Int.mul_ediv_add_emod a m
  unfold sprV
  rw [rng_app r0 (Int.le_of_lt r1), List.map_append, List.sum_append]
  have e1 : (rng 0 (a % m)).map (fun x => cond (decide (x < a % m)) (a / m + 1) (a / m)) = (rng 0 (a % m)).map fun _ => a / m + 1 := by
    apply List.map_congr_left
    intro x hx
    rw [rng_mem] at hx
    rw [decide_eq_true hx.2]; rfl
  have e2 : (rng (a % m) m).map (fun x => cond (decide (x < a % m)) (a / m + 1) (a / m)) = (rng (a % m) m).map fun _ => a / m := by
    apply List.map_congr_left
    intro x hx
    rw [rng_mem] at hx
    rw [decide_eq_false (by omega)]; rfl
  rw [e1, e2, sum_const, sum_const, rng_len, rng_len, Int.toNat_of_nonneg (by omega), Int.toNat_of_nonneg (by omega)]
  have e3 : (a % m - 0) * (a / m + 1) = a % m * (a / m) + a % m := by rw [Int.sub_zero, Int.mul_add, Int.mul_one]
  have e4 : (m - a % m) * (a / m) = m * (a / m) - a % m * (a / m) := by rw [Int.sub_mul]
  omega
theorem spr_in (x : Int) (hx : x ∈ sprV a m) : a / m ≤ x ∧ x ≤ a / m + 1 := by
  unfold sprV at hx
  obtain ⟨y, _, rfl⟩ := List.mem_map.mp hx
  cases decide (y < a % m)
  · exact ⟨Int.le_refl _, by show a / m ≤ _; omega⟩
  · exact ⟨by show _ ≤ a / m + 1; omega, Int.le_refl _⟩
theorem rng_sorted {lo hi : Int} : (rng lo hi).Pairwise (· < ·) := by
  unfold rng
  rw [List.pairwise_map]
  exact List.pairwise_lt_range.imp fun h => by omega
theorem spr_desc : (sprV a m).Pairwise (· ≥ ·) := by
  unfold sprV
  rw [List.pairwise_map]
  refine rng_sorted.imp fun {x y} h => ?_
  by_cases q : y < a % m
  · rw [decide_eq_true q, decide_eq_true (show x < a % m by omega)]; exact Int.le_refl _
  · rw [decide_eq_false q]
    cases decide (x < a % m)
    · exact Int.le_refl _
    · show a / m ≤ a / m + 1; omega
theorem spr_two (h : 1 ≤ m) : topOf (sprV a m) - minOf (sprV a m) ≤ 1 := by
  have l := spr_len (a := a) h
  have p := spr_in _ (topOf_mem (l := sprV a m) (by omega)).1
  have q := spr_in _ (minOf_mem (l := sprV a m) (by omega)).1
  omega
/-! ### weeks by a pattern -/
def wpT (ps : List Int) : Nat → Int × Int → Int × Int
  | 0, s => s
  | k + 1, s => if (atI ps s.2).getD 0 ≤ s.1 then wpT ps k (s.1 - (atI ps s.2).getD 0, s.2 + 1) else s
def wpV (c : Ca) (s : Int) (ps : List Int) (n : Int) : Int × Int :=
  let w := (n - s) / c.week
  let r := wpT ps ps.length (w % ps.sum, 0)
  (w / ps.sum * (ps.length : Int) + r.2, r.1)
theorem wpT_wh {ps : List Int} {g : Int × Int → Re (Int × Int)} : ∀ (k : Nat) (s : Int × Int), whK (fun s : Int × Int => decide ((atI ps s.2).getD 0 ≤ s.1)) (fun s kn (_ : Int × Int → Re (Int × Int)) => kn (s.1 - (atI ps s.2).getD 0, s.2 + 1)) g k s = g (wpT ps k s)
  | 0, s => rfl
  | k + 1, s => by
    show cond (decide _) (whK _ _ g k _) (g s) = g (if _ then _ else _)
    by_cases h : (atI ps s.2).getD 0 ≤ s.1
    · rw [decide_eq_true h, if_pos h, cond_true]; exact wpT_wh k _
    · rw [decide_eq_false h, if_neg h, cond_false]
theorem wp_ok {ps : List Int} (hl : 0 < ps.length) (hp : ∀ x ∈ ps, 1 ≤ x) : f_weeks_pattern (c, f, ps, n, ()) = .ok (wpV c f ps n) := by
  have e := (minOf_mem hl).1
  have e2 := hp _ e
  show cond (decide ((ps.length : Int) = 0) || decide (minOf ps < 1)) _ (whK _ _ _ _ _) = _
  rw [decide_eq_false (by omega), decide_eq_false (by omega)]
  exact wpT_wh (g := fun s => .ok ((n - f) / c.week / ps.sum * (ps.length : Int) + s.2, s.1)) ps.length _
theorem at_get {ps : List Int} {k : Int} (h0 : 0 ≤ k) (hl : k < (ps.length : Int)) : (atI ps k).getD 0 = ps.getD k.toNat 0 := by
  have hk : k.toNat < ps.length := by omega
  have e := atI_nat (xs := ps) (j := k.toNat) (v := ps[k.toNat]) (List.getElem?_eq_getElem hk)
  rw [Int.toNat_of_nonneg h0] at e
  rw [e, List.getD_eq_getElem?_getD, List.getElem?_eq_getElem hk]
theorem take_one {ps : List Int} {k : Nat} (h : k < ps.length) : (ps.take (k + 1)).sum = (ps.take k).sum + ps.getD k 0 := by
  rw [List.take_succ_eq_append_getElem h, List.sum_append, List.getD_eq_getElem?_getD, List.getElem?_eq_getElem h, List.sum_cons, List.sum_nil, Int.add_zero]
  rfl
/-- where the while ends -/
theorem wpT_end {ps : List Int} (hp : ∀ x ∈ ps, 1 ≤ x) : ∀ (k : Nat) (s : Int × Int), 0 ≤ s.1 → 0 ≤ s.2 → s.1 < (ps.drop s.2.toNat).sum → (ps.length : Int) - s.2 ≤ (k : Int) →
    0 ≤ (wpT ps k s).1 ∧ 0 ≤ (wpT ps k s).2 ∧ (wpT ps k s).2 < (ps.length : Int) ∧ (wpT ps k s).1 < ps.getD (wpT ps k s).2.toNat 0 ∧ (ps.take (wpT ps k s).2.toNat).sum + (wpT ps k s).1 = (ps.take s.2.toNat).sum + s.1
  | 0, s, h1, h2, h3, h4 => by
    have := wp_len h2 h1 h3
    omega
  | k + 1, s, h1, h2, h3, h4 => by
    have hl := wp_len h2 h1 h3
    have ea := at_get h2 hl
    unfold wpT
    by_cases h : (atI ps s.2).getD 0 ≤ s.1
    · rw [if_pos h]
      have st := wp_step h2 hl h3
      obtain ⟨a1, a2, a3, a4, a5⟩ := wpT_end hp k (s.1 - (atI ps s.2).getD 0, s.2 + 1) (by show 0 ≤ s.1 - _; omega) (by show 0 ≤ s.2 + 1; omega) (by show s.1 - _ < (ps.drop (s.2 + 1).toNat).sum; rw [show (s.2 + 1).toNat = s.2.toNat + 1 by omega]; exact st) (by show _ - (s.2 + 1) ≤ _; omega)
      refine ⟨a1, a2, a3, a4, ?_⟩
      rw [a5]
      show (ps.take (s.2 + 1).toNat).sum + (s.1 - (atI ps s.2).getD 0) = _
      rw [show (s.2 + 1).toNat = s.2.toNat + 1 by omega, take_one (by omega), ea]
      omega
    · rw [if_neg h]
      exact ⟨h1, h2, hl, by omega, rfl⟩
/-- so many weeks stand ahead of the n-th part -/
def wkG (ps : List Int) (n : Nat) : Int := ((n / ps.length : Nat) : Int) * ps.sum + (ps.take (n % ps.length)).sum
theorem wkG_succ {ps : List Int} (hl : 0 < ps.length) (n : Nat) : wkG ps (n + 1) = wkG ps n + ps.getD (n % ps.length) 0 := by
  unfold wkG
  have hm := Nat.mod_lt n hl
  have hd := Nat.div_add_mod n ps.length
  rcases Nat.lt_or_ge (n % ps.length + 1) ps.length with z | z
  · have e1 : (n + 1) / ps.length = n / ps.length := by
      rw [Nat.div_eq_iff (by omega)] 
      constructor
      · rw [Nat.mul_comm]; omega
      · have : ps.length * (n / ps.length) + ps.length = (n / ps.length + 1) * ps.length := by rw [Nat.add_mul, Nat.one_mul, Nat.mul_comm]
        have : (n / ps.length) * ps.length = ps.length * (n / ps.length) := Nat.mul_comm _ _
        omega
    have e2 : (n + 1) % ps.length = n % ps.length + 1 := by rw [Nat.add_mod, Nat.mod_eq_of_lt (a := n % ps.length + 1 % ps.length)] <;> rw [Nat.mod_eq_of_lt (a := 1) (by omega)]; exact z
    rw [e1, e2, take_one hm]
    omega
  · have zz : n % ps.length + 1 = ps.length := by omega
    have e0 : n + 1 = ps.length * (n / ps.length + 1) := by rw [Nat.mul_add, Nat.mul_one]; omega
    have e1 : (n + 1) / ps.length = n / ps.length + 1 := by rw [e0, Nat.mul_div_cancel_left _ hl]
    have e2 : (n + 1) % ps.length = 0 := by rw [e0, Nat.mul_mod_right]
    rw [e1, e2, List.take_zero]
    have t := take_one hm
    rw [zz, List.take_length] at t
    have : ((n / ps.length + 1 : Nat) : Int) * ps.sum = ((n / ps.length : Nat) : Int) * ps.sum + ps.sum := by
      rw [show ((n / ps.length + 1 : Nat) : Int) = ((n / ps.length : Nat) : Int) + 1 by omega, Int.add_mul, Int.one_mul]
    simp only [List.sum_nil]
    omega
theorem wkG_pos {ps : List Int} (hl : 0 < ps.length) (hp : ∀ x ∈ ps, 1 ≤ x) (n : Nat) : 1 ≤ ps.getD (n % ps.length) 0 := by
  have hm := Nat.mod_lt n hl
  rw [List.getD_eq_getElem?_getD, List.getElem?_eq_getElem hm]
  exact hp _ (List.getElem_mem hm)
theorem wkG_le {ps : List Int} (hl : 0 < ps.length) (hp : ∀ x ∈ ps, 1 ≤ x) {a b : Nat} (h : a ≤ b) : wkG ps a ≤ wkG ps b := by
  induction h with
  | refl => exact Int.le_refl _
  | step _ ih =>
    rename_i m _
    show _ ≤ wkG ps (m + 1)
    have := wkG_succ hl m
    have := wkG_pos hl hp m
    omega
theorem wkG_uniq {ps : List Int} (hl : 0 < ps.length) (hp : ∀ x ∈ ps, 1 ≤ x) {a b : Nat} {x y : Int} (hx : 0 ≤ x ∧ x < ps.getD (a % ps.length) 0) (hy : 0 ≤ y ∧ y < ps.getD (b % ps.length) 0) (h : wkG ps a + x = wkG ps b + y) : a = b ∧ x = y := by
  have sa := wkG_succ hl a
  have sb := wkG_succ hl b
  rcases Nat.lt_trichotomy a b with q | q | q
  · have := wkG_le hl hp (show a + 1 ≤ b by omega)
    omega
  · subst q
    exact ⟨rfl, by omega⟩
  · have := wkG_le hl hp (show b + 1 ≤ a by omega)
    omega
theorem wpV_is {ps : List Int} (hl : 0 < ps.length) (hp : ∀ x ∈ ps, 1 ≤ x) (hw : 0 ≤ (n - f) / c.week) : 0 ≤ (wpV c f ps n).1 ∧ (0 ≤ (wpV c f ps n).2 ∧ (wpV c f ps n).2 < ps.getD ((wpV c f ps n).1.toNat % ps.length) 0) ∧ wkG ps (wpV c f ps n).1.toNat + (wpV c f ps n).2 = (n - f) / c.week := by
  have sp := wp_sum hp hl
  generalize hW : (n - f) / c.week = W at hw
  have m0 := Int.emod_nonneg W (show ps.sum ≠ 0 by omega)
  have m1 := Int.emod_lt_of_pos W sp
  have m2 := Int.mul_ediv_add_emod W ps.sum
  have q0 : 0 ≤ W / ps.sum := Int.ediv_nonneg hw (by omega)
  obtain ⟨a1, a2, a3, a4, a5⟩ := wpT_end hp ps.length (W % ps.sum, 0) m0 (Int.le_refl _) m1 (by show (ps.length : Int) - 0 ≤ _; omega)
  have e : wpV c f ps n = (W / ps.sum * (ps.length : Int) + (wpT ps ps.length (W % ps.sum, 0)).2, (wpT ps ps.length (W % ps.sum, 0)).1) := by unfold wpV; rw [hW]
  rw [e]
  dsimp only
  generalize wpT ps ps.length (W % ps.sum, 0) = r at a1 a2 a3 a4 a5
  obtain ⟨q, hq⟩ : ∃ q : Nat, W / ps.sum = (q : Int) := ⟨_, (Int.toNat_of_nonneg q0).symm⟩
  obtain ⟨k, hk⟩ : ∃ k : Nat, r.2 = (k : Int) := ⟨_, (Int.toNat_of_nonneg a2).symm⟩
  have hk2 : r.2.toNat = k := by omega
  rw [hk2] at a4 a5
  rw [hq] at m2 ⊢
  rw [hk] at a3 ⊢
  have en : ((q : Int) * (ps.length : Int) + (k : Int)).toNat = ps.length * q + k := by
    have hc : (q : Int) * (ps.length : Int) = ((ps.length * q : Nat) : Int) := by rw [Nat.mul_comm]; exact (Int.natCast_mul _ _).symm
    rw [hc]
    generalize ps.length * q = t
    omega
  have kl : k < ps.length := by omega
  have e1 : (ps.length * q + k) % ps.length = k := by rw [Nat.mul_add_mod, Nat.mod_eq_of_lt kl]
  have e2 : (ps.length * q + k) / ps.length = q := by rw [Nat.mul_add_div hl, Nat.div_eq_of_lt kl, Nat.add_zero]
  rw [en, e1]
  refine ⟨?_, ⟨a1, a4⟩, ?_⟩
  · have := Int.mul_nonneg (show 0 ≤ (q : Int) by omega) (show 0 ≤ (ps.length : Int) by omega)
    omega
  · unfold wkG
    rw [e1, e2]
    have : (q : Int) * ps.sum = ps.sum * (q : Int) := Int.mul_comm _ _
    simp only [show ((0 : Int)).toNat = 0 by rfl, List.take_zero, List.sum_nil] at a5
    omega
end
end Rw
namespace Rw
open PySem PySem.Spec PyProof.Rows L2 Evl Cy
theorem by_er {c : Ca} {n f : Int} (h : ¬ (0 ≤ f ∧ f < (List.length (Ca.months c) : Int))) : f_business_year (c, n, f, ()) = .er 5 := by
  show cond (!(decide ((0 : Int) ≤ f) && decide (f < (List.length (Ca.months c) : Int)))) _ _ = _
  by_cases a : 0 ≤ f
  · rw [decide_eq_false (show ¬ f < (List.length (Ca.months c) : Int) by omega), Bool.and_false]; rfl
  · rw [decide_eq_false a]; rfl
theorem sh_er {c : Ca} {f l : Int} (h : l < f) : f_share_of_years (c, f, l, ()) = .er 5 := by
  show cond (decide (l < f)) _ _ = _
  rw [decide_eq_true h]; rfl
theorem low_high {a b F : Int} (ha : 0 ≤ a ∧ a < F) (hb : 0 ≤ b ∧ b < F) : (cond (decide (a ≤ b)) (a, b) (b, a)).1 ≤ (cond (decide (a ≤ b)) (a, b) (b, a)).2 ∧ 0 ≤ (cond (decide (a ≤ b)) (a, b) (b, a)).1 ∧ (cond (decide (a ≤ b)) (a, b) (b, a)).2 < F := by
  by_cases h : a ≤ b
  · rw [decide_eq_true h]; exact ⟨h, ha.1, hb.2⟩
  · rw [decide_eq_false h]; exact ⟨show b ≤ a by omega, hb.1, ha.2⟩
def dvs (m : Int) : List Int := ((rng (1 : Int) (m + (1 : Int))).filter (fun k => (decide ((m % k) = (0 : Int))))).map (fun k => k)
theorem dv_ok {m : Int} (h : 1 ≤ m ∧ m ≤ 3) : 0 < ((dvs m).length : Int) ∧ ((dvs m).length : Int) < 1000000 ∧ ∀ i, (0 ≤ i ∧ i < ((dvs m).length : Int)) → 1 ≤ (atI (dvs m) i).getD 0 ∧ m % (atI (dvs m) i).getD 0 = 0 ∧ (atI (dvs m) i).getD 0 ≤ m := by
  have hmem : ∀ x, x ∈ dvs m ↔ (1 ≤ x ∧ x < m + 1) ∧ m % x = 0 := fun x => by
    unfold dvs
    rw [List.map_id', List.mem_filter, rng_mem, decide_eq_true_iff]
  refine ⟨?_, ?_, fun i hi => ?_⟩
  · have : 0 < (dvs m).length := List.length_pos_of_mem ((hmem 1).mpr ⟨by omega, Int.emod_one _⟩)
    omega
  · have : (dvs m).length ≤ (rng (1 : Int) (m + 1)).length := by
      unfold dvs
      rw [List.length_map]
      exact List.length_filter_le _ _
    rw [rng_len] at this
    omega
  · have hk : i.toNat < (dvs m).length := by omega
    have e := atI_nat (xs := dvs m) (j := i.toNat) (v := (dvs m)[i.toNat]) (List.getElem?_eq_getElem hk)
    rw [Int.toNat_of_nonneg hi.1] at e
    rw [e]
    obtain ⟨a, b⟩ := (hmem _).mp (List.getElem_mem hk)
    exact ⟨a.1, b, by show (dvs m)[i.toNat] ≤ m; omega⟩
theorem part_in {x m L : Int} (h1 : 1 ≤ m) (h2 : L % m = 0) (h3 : 0 < L) : 0 ≤ x % L / m ∧ x % L / m < L / m := by
  have a := Int.emod_nonneg x (show L ≠ 0 by omega)
  have b := Int.emod_lt_of_pos x h3
  have c := Int.mul_ediv_add_emod L m
  refine ⟨Int.ediv_nonneg a (by omega), ?_⟩
  rw [Int.ediv_lt_iff_lt_mul (by omega), Int.mul_comm]
  omega
theorem runE_all {α : Type} {f : α → Dice → Int × Dice} {p : Int → Prop} (h : ∀ x z, p (f x z).1) : ∀ (xs : List α) (z : Dice), (runE (fun _ q => (true, q)) f xs z).1.length = xs.length ∧ ∀ y ∈ (runE (fun _ q => (true, q)) f xs z).1, p y
  | [], z => ⟨rfl, fun y hy => nomatch hy⟩
  | x :: xs, z => by
    obtain ⟨a, b⟩ := runE_all h xs (f x z).2
    have e : (runE (fun _ q => (true, q)) f (x :: xs) z).1 = (f x z).1 :: (runE (fun _ q => (true, q)) f xs (f x z).2).1 := by
      simp only [runE, if_true]
    rw [e]
    refine ⟨by rw [List.length_cons, List.length_cons, a], fun y hy => ?_⟩
    rcases List.mem_cons.mp hy with q | q
    · rw [q]; exact h x z
    · exact b y q
theorem pat_ok {z0 : Dice} : (1 ≤ (((runE (fun (_ : Int) (q : Dice) => (true, q)) (fun (_ : Int) (z : Dice) => ((1 : Int) + (roll z (3 : Int)).1, (roll z (3 : Int)).2)) (rng 0 ((1 : Int) + (roll z0 (3 : Int)).1)) (roll z0 (3 : Int)).2).1.length : Nat) : Int) ∧ (((runE (fun (_ : Int) (q : Dice) => (true, q)) (fun (_ : Int) (z : Dice) => ((1 : Int) + (roll z (3 : Int)).1, (roll z (3 : Int)).2)) (rng 0 ((1 : Int) + (roll z0 (3 : Int)).1)) (roll z0 (3 : Int)).2).1.length : Nat) : Int) ≤ 3) ∧
    ∀ x ∈ (runE (fun (_ : Int) (q : Dice) => (true, q)) (fun (_ : Int) (z : Dice) => ((1 : Int) + (roll z (3 : Int)).1, (roll z (3 : Int)).2)) (rng 0 ((1 : Int) + (roll z0 (3 : Int)).1)) (roll z0 (3 : Int)).2).1, 1 ≤ x ∧ x ≤ 3 := by
  obtain ⟨a, b⟩ := runE_all (f := fun (_ : Int) (z : Dice) => ((1 : Int) + (roll z (3 : Int)).1, (roll z (3 : Int)).2)) (p := fun x => 1 ≤ x ∧ x ≤ 3) (fun x z => by have q := roll_in z (m := 3) (by decide); exact ⟨by show (1 : Int) ≤ 1 + _; omega, by show (1 : Int) + _ ≤ 3; omega⟩) (rng 0 ((1 : Int) + (roll z0 (3 : Int)).1)) (roll z0 (3 : Int)).2
  have q := roll_in z0 (m := 3) (by decide)
  refine ⟨?_, b⟩
  rw [a, rng_len]
  omega
theorem from_ok {r : Int} {z : Dice} : r - (roll z (20 : Int)).1 ≤ r ∧ r < r - (roll z (20 : Int)).1 + 20 := by
  have q := roll_in z (m := 20) (by decide)
  omega
theorem at_roll {z : Dice} {m : Int} (h : 0 < m) : 0 - m ≤ (roll z m).1 ∧ (roll z m).1 < m := by
  have q := roll_in z h
  omega
def spC1 (P2 : Addr) : Sp := fun vs H Q _ => vs = [] ∧ H P2 = some (.tbl #[]) ∧ ∀ H', Q (.bl true) H'
end Rw
namespace Rw
open PySem PySem.Spec PyProof.Rows L2 Evl Cy
abbrev sLaw : Stmt := topS 41
def lawN : List Str := ["script", "dice", "calendar", "many", "rows", "row", "first", "year", "size", "part", "start", "inside", "pattern", "from_day", "week", "place", "left", "turn", "other", "low", "high", "count", "months", "parts", "one", "days", "step", "amount", "people", "shares", "k", "each"]
theorem scLaw : FnScope lawN ["script"] (defScope sLaw) := ⟨rfl, rfl, rfl, by decide +kernel, rfl, by decide +kernel, by decide +kernel⟩

section
variable (P : Program) (w : World) (K : PySem.W.Frag) (mg : Str → Option Value) (base : Heap) (C D P2 : Addr) (cl : Nat → Addr)
abbrev lawX (f cc : Addr) (A : Around) (outer : List Env) (s : Shared) (H : Hp) (E : XK) : Cx := cxOf (L2.CX P w) P w K mg base lawN "law" (defScope sLaw) f (.ref cc) A outer s H E
structure LawTL : Prop where
  TC : CalT K C
  TD : DayT K D
  n_list : mg "list" = none
  n_sorted : mg "sorted" = none
  cal : Cal P w K mg base 5 "_law_calendar" (spLawCal K C) []
  rows : Cal P w K mg base 5 "_law_rows" (spRows K C) []
  roll : Cal P w K mg base 1 "_law_roll" spRollX []
  rounds : Cal P w K mg base 2 "_law_rounds" (spRounds K) []
  nD : Nw P w K mg base 4 "Day" D (spDay K C D) []
  c_mo1 : Cal P w K mg base 7 "months_on" (sp_months_on K C D cl) [.bl true]
  c_business_year : Cal P w K mg base 6 "business_year" (sp_business_year K C D cl) []
  c_part_of_business : Cal P w K mg base 7 "part_of_business" (sp_part_of_business K C D cl) []
  c_start_of_part : Cal P w K mg base 4 "start_of_part" (sp_start_of_part K C D cl) []
  c_weeks_pattern : Cal P w K mg base 2 "weeks_pattern" (sp_weeks_pattern K C cl) []
  c_even_months : Cal P w K mg base 7 "even_months" (sp_even_months K C D cl) []
  c_share_of_years : Cal P w K mg base 3 "share_of_years" (sp_share_of_years K C D cl) []
  c_due_days : Cal P w K mg base 8 "due_days" (sp_due_days K C D cl) []
  c_spread : Cal P w K mg base 1 "spread" (sp_spread K cl) []
  c_cases : Cal P w K mg base 10 "_law_cases1" (spC1 P2) []
  exs : Exs K mg cl
  told : ToldF K mg
end
def m_lawB (c : Ca) (z : Dice) : Bool :=
  lt ((Ca.months c).length : Int) fun many_7 =>
  lt (rng 0 (c.firstOf 6)) fun rows_16 =>
  lt (roll z (Ca.firstOf c 6)).1 fun row_25 => lt (roll (roll z (Ca.firstOf c 6)).2 many_7).1 fun first_26 =>
  lt (cond (decide (first_26 ≤ ((dateM c row_25 : Nat) : Int))) (yearOf c row_25) ((yearOf c row_25) - (1 : Int))) fun year_39 =>
  cond ((!decide ((byV c row_25 first_26) = year_39)) || (!decide ((kindName 5) = "size")))
  (false)
  (lt ((atI (((rng (1 : Int) (many_7 + (1 : Int))).filter (fun x_68 => (decide ((many_7 % x_68) = (0 : Int))))).map (fun x_68 => x_68)) (roll (roll (roll z (Ca.firstOf c 6)).2 many_7).2 ((((rng (1 : Int) (many_7 + (1 : Int))).filter (fun x_79 => (decide ((many_7 % x_79) = (0 : Int))))).map (fun x_79 => x_79)).length : Int)).1).getD 0) fun size_90 =>
  lt (((((dateM c row_25 : Nat) : Int) - first_26) % many_7) / size_90) fun part_101 =>
  cond (!decide (((byV c row_25 first_26), ((((dateM c row_25 : Nat) : Int) - first_26) % (List.length (Ca.months c) : Int) / size_90)) = (year_39, part_101)))
  (false)
  (lt (numAt c (year_39 + (first_26 + part_101 * size_90) / (List.length (Ca.months c) : Int)) ((first_26 + part_101 * size_90) % (List.length (Ca.months c) : Int)).toNat 0) fun start_128 =>
  lt (((rng 0 (c.firstOf 6)).filter (fun x_139 => (decide (((byV c x_139 first_26), ((((dateM c x_139 : Nat) : Int) - first_26) % (List.length (Ca.months c) : Int) / size_90)) = (year_39, part_101))))).map (fun x_139 => x_139)) fun inside_150 =>
  cond (((decide ((0 : Int) ≤ year_39)) && ((!decide (inside_150 = ([] : List Int))) && (!decide (start_128 = (minOf inside_150))))) || (decide (row_25 < start_128)))
  (false)
  (lt (runE (fun (_ : Int) (q : Dice) => (true, q)) (fun (x_184 : Int) (z_192 : Dice) => (((1 : Int) + (roll z_192 (3 : Int)).1), (roll z_192 (3 : Int)).2)) (rng 0 ((1 : Int) + (roll (roll (roll (roll z (Ca.firstOf c 6)).2 many_7).2 ((((rng (1 : Int) (many_7 + (1 : Int))).filter (fun x_79 => (decide ((many_7 % x_79) = (0 : Int))))).map (fun x_79 => x_79)).length : Int)).2 (3 : Int)).1)) (roll (roll (roll (roll z (Ca.firstOf c 6)).2 many_7).2 ((((rng (1 : Int) (many_7 + (1 : Int))).filter (fun x_79 => (decide ((many_7 % x_79) = (0 : Int))))).map (fun x_79 => x_79)).length : Int)).2 (3 : Int)).2).1 fun pattern_196 => lt (row_25 - (roll (runE (fun (_ : Int) (q : Dice) => (true, q)) (fun (x_184 : Int) (z_192 : Dice) => (((1 : Int) + (roll z_192 (3 : Int)).1), (roll z_192 (3 : Int)).2)) (rng 0 ((1 : Int) + (roll (roll (roll (roll z (Ca.firstOf c 6)).2 many_7).2 ((((rng (1 : Int) (many_7 + (1 : Int))).filter (fun x_79 => (decide ((many_7 % x_79) = (0 : Int))))).map (fun x_79 => x_79)).length : Int)).2 (3 : Int)).1)) (roll (roll (roll (roll z (Ca.firstOf c 6)).2 many_7).2 ((((rng (1 : Int) (many_7 + (1 : Int))).filter (fun x_79 => (decide ((many_7 % x_79) = (0 : Int))))).map (fun x_79 => x_79)).length : Int)).2 (3 : Int)).2).2 (20 : Int)).1) fun from_day_197 =>
  lt ((row_25 - from_day_197) / (Ca.week c)) fun week_212 => lt (0 : Int) fun place_213 => lt (0 : Int) fun left_214 => 
  forK (fun (x_233 : Int) (s_234 : (Int × Int)) (kn : (Int × Int) → _) (kb : (Int × Int) → _) =>
  lt (s_234.2 + (1 : Int)) fun left_261 =>
  cond (decide (left_261 = ((atI pattern_196 (s_234.1 % (pattern_196.length : Int))).getD 0)))
  (lt (s_234.1 + (1 : Int)) fun place_289 => lt (0 : Int) fun left_290 =>
  kn (place_289, left_290))
  (kn (s_234.1, left_261)))
  (fun (s_311 : (Int × Int)) =>
  cond (!decide (((wpV c from_day_197 pattern_196 row_25).1, (wpV c from_day_197 pattern_196 row_25).2) = (s_311.1, s_311.2)))
  (false)
  (lt (roll (roll (runE (fun (_ : Int) (q : Dice) => (true, q)) (fun (x_184 : Int) (z_192 : Dice) => (((1 : Int) + (roll z_192 (3 : Int)).1), (roll z_192 (3 : Int)).2)) (rng 0 ((1 : Int) + (roll (roll (roll (roll z (Ca.firstOf c 6)).2 many_7).2 ((((rng (1 : Int) (many_7 + (1 : Int))).filter (fun x_79 => (decide ((many_7 % x_79) = (0 : Int))))).map (fun x_79 => x_79)).length : Int)).2 (3 : Int)).1)) (roll (roll (roll (roll z (Ca.firstOf c 6)).2 many_7).2 ((((rng (1 : Int) (many_7 + (1 : Int))).filter (fun x_79 => (decide ((many_7 % x_79) = (0 : Int))))).map (fun x_79 => x_79)).length : Int)).2 (3 : Int)).2).2 (20 : Int)).2 (Ca.firstOf c 6)).1 fun other_347 =>
  lt (cond (decide (row_25 ≤ other_347)) (row_25, other_347) (other_347, row_25)) fun p_360 =>
  lt ((2 : Int) + (roll (roll (roll (runE (fun (_ : Int) (q : Dice) => (true, q)) (fun (x_184 : Int) (z_192 : Dice) => (((1 : Int) + (roll z_192 (3 : Int)).1), (roll z_192 (3 : Int)).2)) (rng 0 ((1 : Int) + (roll (roll (roll (roll z (Ca.firstOf c 6)).2 many_7).2 ((((rng (1 : Int) (many_7 + (1 : Int))).filter (fun x_79 => (decide ((many_7 % x_79) = (0 : Int))))).map (fun x_79 => x_79)).length : Int)).2 (3 : Int)).1)) (roll (roll (roll (roll z (Ca.firstOf c 6)).2 many_7).2 ((((rng (1 : Int) (many_7 + (1 : Int))).filter (fun x_79 => (decide ((many_7 % x_79) = (0 : Int))))).map (fun x_79 => x_79)).length : Int)).2 (3 : Int)).2).2 (20 : Int)).2 (Ca.firstOf c 6)).2 (4 : Int)).1) fun count_377 =>
  lt (((((yearOf c p_360.2) - (yearOf c p_360.1)) * many_7) + ((dateM c p_360.2 : Nat) : Int)) - ((dateM c p_360.1 : Nat) : Int)) fun months_393 =>
  cond (!decide ((v_even_place (c, p_360.2, count_377, ()) - v_even_place (c, p_360.1, count_377, ())) = (((months_393 * count_377) + (if (count_377 - (1 : Int)) < (dateD c p_360.2) then (count_377 - (1 : Int)) else (dateD c p_360.2))) - (if (count_377 - (1 : Int)) < (dateD c p_360.1) then (count_377 - (1 : Int)) else (dateD c p_360.1)))))
  (false)
  (forK (fun (x_449 : Int) (s_450 : ((List (Int × Int)))) (kn : ((List (Int × Int))) → _) (kb : ((List (Int × Int))) → _) =>
  lt ((((rng 0 (c.firstOf 6)).filter (fun x_480 => ((decide ((yearOf c x_480) = x_449)) && ((decide (p_360.1 ≤ x_480)) && (decide (x_480 < p_360.2)))))).map (fun x_480 => x_480)).length : Int) fun days_493 =>
  cond (decide ((0 : Int) < days_493))
  (lt (s_450 ++ [(days_493, ((((rng 0 (c.firstOf 6)).filter (fun x_527 => (decide ((yearOf c x_527) = x_449)))).map (fun x_527 => x_527)).length : Int))]) fun parts_538 =>
  kn (parts_538))
  (kn (s_450)))
  (fun (s_561 : ((List (Int × Int)))) =>
  cond ((!decide ((shV c p_360.1 p_360.2) = s_561)) || ((decide (p_360.1 < p_360.2)) && (!decide ((kindName 5) = "size"))))
  (false)
  (lt ((1 : Int) + (roll (roll (roll (roll (runE (fun (_ : Int) (q : Dice) => (true, q)) (fun (x_184 : Int) (z_192 : Dice) => (((1 : Int) + (roll z_192 (3 : Int)).1), (roll z_192 (3 : Int)).2)) (rng 0 ((1 : Int) + (roll (roll (roll (roll z (Ca.firstOf c 6)).2 many_7).2 ((((rng (1 : Int) (many_7 + (1 : Int))).filter (fun x_79 => (decide ((many_7 % x_79) = (0 : Int))))).map (fun x_79 => x_79)).length : Int)).2 (3 : Int)).1)) (roll (roll (roll (roll z (Ca.firstOf c 6)).2 many_7).2 ((((rng (1 : Int) (many_7 + (1 : Int))).filter (fun x_79 => (decide ((many_7 % x_79) = (0 : Int))))).map (fun x_79 => x_79)).length : Int)).2 (3 : Int)).2).2 (20 : Int)).2 (Ca.firstOf c 6)).2 (4 : Int)).2 (3 : Int)).1) fun step_624 =>
  cond (!decide (((rng 0 (4 : Int)).map fun p => monOn c row_25 (step_624 * p)) = ((rng 0 (4 : Int)).map (fun x_641 => (monOn c row_25 (step_624 * x_641))))))
  (false)
  (lt (roll (roll (roll (roll (roll (runE (fun (_ : Int) (q : Dice) => (true, q)) (fun (x_184 : Int) (z_192 : Dice) => (((1 : Int) + (roll z_192 (3 : Int)).1), (roll z_192 (3 : Int)).2)) (rng 0 ((1 : Int) + (roll (roll (roll (roll z (Ca.firstOf c 6)).2 many_7).2 ((((rng (1 : Int) (many_7 + (1 : Int))).filter (fun x_79 => (decide ((many_7 % x_79) = (0 : Int))))).map (fun x_79 => x_79)).length : Int)).2 (3 : Int)).1)) (roll (roll (roll (roll z (Ca.firstOf c 6)).2 many_7).2 ((((rng (1 : Int) (many_7 + (1 : Int))).filter (fun x_79 => (decide ((many_7 % x_79) = (0 : Int))))).map (fun x_79 => x_79)).length : Int)).2 (3 : Int)).2).2 (20 : Int)).2 (Ca.firstOf c 6)).2 (4 : Int)).2 (3 : Int)).2 (100 : Int)).1 fun amount_680 => lt ((1 : Int) + (roll (roll (roll (roll (roll (roll (runE (fun (_ : Int) (q : Dice) => (true, q)) (fun (x_184 : Int) (z_192 : Dice) => (((1 : Int) + (roll z_192 (3 : Int)).1), (roll z_192 (3 : Int)).2)) (rng 0 ((1 : Int) + (roll (roll (roll (roll z (Ca.firstOf c 6)).2 many_7).2 ((((rng (1 : Int) (many_7 + (1 : Int))).filter (fun x_79 => (decide ((many_7 % x_79) = (0 : Int))))).map (fun x_79 => x_79)).length : Int)).2 (3 : Int)).1)) (roll (roll (roll (roll z (Ca.firstOf c 6)).2 many_7).2 ((((rng (1 : Int) (many_7 + (1 : Int))).filter (fun x_79 => (decide ((many_7 % x_79) = (0 : Int))))).map (fun x_79 => x_79)).length : Int)).2 (3 : Int)).2).2 (20 : Int)).2 (Ca.firstOf c 6)).2 (4 : Int)).2 (3 : Int)).2 (100 : Int)).2 (7 : Int)).1) fun people_681 =>
  lt (sprV amount_680 people_681) fun shares_701 =>
  cond (!decide (((sprV amount_680 people_681).sum) = amount_680))
  (false)
  (cond (!decide (((sprV amount_680 people_681).length : Int) = people_681))
  (false)
  (cond (decide ((1 : Int) < ((topOf (sprV amount_680 people_681)) - (minOf (sprV amount_680 people_681)))))
  (false)
  (cond (!decide ((sprV amount_680 people_681) = (sprV amount_680 people_681)))
  (false)
  (true)))))))
  (rng (yearOf c p_360.1) ((yearOf c p_360.2) + (1 : Int))) (([] : (List (Int × Int)))))))
  (rng 0 week_212) (place_213, left_214))))
section
variable {P : Program} {w : World} {K : PySem.W.Frag} {mg : Str → Option Value} {base : Heap} {C D P2 : Addr} {cl : Nat → Addr}
def spLaw (K : PySem.W.Frag) (PT P2 : Addr) : Sp := fun vs H Q _ => ∃ (a : Addr) (ns : List Int), vs = [.ref a] ∧ SqL K H a (ns.map V.int) ∧ H PT = some (.tbl #[]) ∧ H P2 = some (.tbl #[]) ∧ P2 ≠ PT ∧ ∀ H', Q (.bl true) H'
theorem ok_law {f cc PT : Addr} {oc : Value} {od an : Option Addr} {osl : Array (Option Value)} {kV doc pm ct : Value} (lk : K.lookup f = some ⟨oc, od, .func (PySem.W.fnOf "law" "law" (defArgs sLaw) (defBody sLaw) (defScope sLaw) .none kV doc pm an (.ref cc) ct), osl⟩) (hcd : PySem.W.codeIn K (.ref cc) "law" = true) (TB : LamX.TabB base mg cc PT) (L : LawTL P w K mg base C D P2 cl) (B : BD mg) (o0 : ∀ c z', c.Ok → Tiny c → Pt (m_lawB c z')) :
    FnOk P w K mg base (L2.CX P w) 12 f (PySem.W.fnOf "law" "law" (defArgs sLaw) (defBody sLaw) (defScope sLaw) .none kV doc pm an (.ref cc) ct) ["script"] (spLaw K PT P2) := by
  refine fn_of lk hcd scLaw (fun vs H Q E h => ?_) (fun A outer s H vs Q E hr h => ?_)
  · obtain ⟨a, ns, rfl, _⟩ := h
    rfl
  · obtain ⟨sc, ns, rfl, hS, hT, hT2, nP, q⟩ := h
    obtain ⟨gT, ocT, kVT, dcT, pmT, cdT, ctT, odT, anT, oslT, hmT, kpT, lkT, hcT, bT⟩ := L.told
    let LQ : Str := (lawX P w K mg base f cc A outer s H E).env.qual ++ "<lambda>"
    refine ⟨_, pss_cons (ps_for (passes_of rfl) rfl (pi_list (pe_k L.rounds hr (by decide) passL (pa_cons (pv 0) (pa_cons pe_int pa_nil)))) (pg_name (i := 1) scLaw.nd rfl (.inr rfl)) (pss_cons (ps_set (i := 2) scLaw.nd rfl (.inr rfl) (pe_k L.cal hr (by decide) passL (pa_cons (pv 1) pa_nil))) (pss_cons (ps_set (i := 3) scLaw.nd rfl (.inr rfl) (pe_callB call_len_seq (by rfl) B.len (by decide +kernel) (pa_cons (pe_fld (pv 2) rfl) pa_nil))) (pss_cons (ps_set (i := 4) scLaw.nd rfl (.inl rfl) (pe_k L.rows hr (by decide) passL (pa_cons (pv 2) (pa_cons pe_int (pa_cons pe_int pa_nil))))) (pss_cons (ps_asg (pe_tup (pa_cons (pe_ix ix_list (pv 4) (pe_k L.roll hr (by decide) passL (pa_cons (pv 1) (pa_cons (pe_callB call_len_seq (by rfl) B.len (by decide +kernel) (pa_cons (pv 4) pa_nil)) pa_nil))) (fun _ _ => rfl)) (pa_cons (pe_k L.roll hr (by decide) passL (pa_cons (pv 1) (pa_cons (pv 3) pa_nil))) pa_nil))) (pg_tup rfl (pgs_cons (pg_name (i := 5) scLaw.nd rfl (.inr rfl)) (pgs_cons (pg_name (i := 6) scLaw.nd rfl (.inr rfl)) pgs_nil)))) (pss_cons (ps_set (i := 7) scLaw.nd rfl (.inr rfl) (pe_ifExp (pt_cmpR op_ge (pe_ix ix_tup (pv 5) pe_int (fun _ _ => rfl)) (pv 6) (nomark _)) (pe_ix ix_tup (pv 5) pe_int (fun _ _ => rfl)) (pe_op op_sub (pe_ix ix_tup (pv 5) pe_int (fun _ _ => rfl)) pe_int))) (pss_cons (ps_if (PW.pt (pw_or (pt_cmpR op_ne (pe_k L.c_business_year hr (by decide) passL (pa_cons (pv 2) (pa_cons (pe_ix ix_tup (pv 5) pe_int (fun _ _ => rfl)) (pa_cons (pv 6) pa_nil)))) (pv 7) (nomark _)) (pw_or1 (pt_cmpR op_ne (pe_toldC (c := cl) (k := 9) L.exs hmT kpT lkT hcT bT hr (pa_cons (pe_lamC (T := [(PT, LQ)]) (LamX.lamS_by (sc := defScope sLaw) (by decide +kernel)) TB rfl (List.mem_singleton.mpr rfl) (fun p hp _ => by rw [List.mem_singleton.mp hp]) rfl) pa_nil)) pe_str (nomark _))))) (pss_one (ps_ret pe_bl)) (pss_nil)) (pss_cons (ps_set (i := 8) scLaw.nd rfl (.inr rfl) (pe_ix ix_list (pe_lc (own := [("k", 30)]) (g := gName 30) (tt := _) rfl scLaw.nd (pi_range2 rfl B.range (pa_cons pe_int (pa_cons (pe_op op_add (pv 3) pe_int) pa_nil))) (blkOk_by (own := [("k", 30)]) (N := lawN) (sc := defScope sLaw) (by decide +kernel)) (fun _ _ _ _ _ => pg_name (i := 30) scLaw.nd rfl (Or.inl rfl)) (fun _ _ _ _ _ => pts_one (pt_cmpR op_eq (pe_op op_mod (pv 3) (pv 30)) pe_int (nomark _))) (fun _ _ _ _ _ => (pv 30))) (pe_k L.roll hr (by decide) passL (pa_cons (pv 1) (pa_cons (pe_callB call_len_seq (by rfl) B.len (by decide +kernel) (pa_cons (pe_lc (own := [("k", 30)]) (g := gName 30) (tt := _) rfl scLaw.nd (pi_range2 rfl B.range (pa_cons pe_int (pa_cons (pe_op op_add (pv 3) pe_int) pa_nil))) (blkOk_by (own := [("k", 30)]) (N := lawN) (sc := defScope sLaw) (by decide +kernel)) (fun _ _ _ _ _ => pg_name (i := 30) scLaw.nd rfl (Or.inl rfl)) (fun _ _ _ _ _ => pts_one (pt_cmpR op_eq (pe_op op_mod (pv 3) (pv 30)) pe_int (nomark _))) (fun _ _ _ _ _ => (pv 30))) pa_nil)) pa_nil))) (fun _ _ => rfl))) (pss_cons (ps_set (i := 9) scLaw.nd rfl (.inr rfl) (pe_op op_fdiv (pe_op op_mod (pe_op op_sub (pe_ix ix_tup (pv 5) pe_int (fun _ _ => rfl)) (pv 6)) (pv 3)) (pv 8))) (pss_cons (ps_if (pt_cmpR (op_neD hr.units) (pe_k L.c_part_of_business hr (by decide) passL (pa_cons (pv 2) (pa_cons (pe_ix ix_tup (pv 5) pe_int (fun _ _ => rfl)) (pa_cons (pv 6) (pa_cons (pv 8) pa_nil))))) (pe_tup (pa_cons (pv 7) (pa_cons (pv 9) pa_nil))) (nomark _)) (pss_one (ps_ret pe_bl)) (pss_nil)) (pss_cons (ps_set (i := 10) scLaw.nd rfl (.inl rfl) (pe_k L.c_start_of_part hr (by decide) passL (pa_cons (pv 2) (pa_cons (pv 7) (pa_cons (pv 6) (pa_cons (pv 9) (pa_cons (pv 8) pa_nil))))))) (pss_cons (ps_setLc (own := [("one", 24)]) (i := 11) (g := gName 24) (tt := _) rfl scLaw.nd rfl rfl (sw_true rfl rfl rfl (by decide +kernel)) (pi_list (pv 4)) (blkOk_by (own := [("one", 24)]) (N := lawN) (sc := defScope sLaw) (by decide +kernel)) (fun _ _ _ _ _ => pg_name (i := 24) scLaw.nd rfl (Or.inl rfl)) (fun _ _ _ _ _ => pts_one (pt_cmpR (op_eqDK (K := K) hr.units) (pe_k L.c_part_of_business hr (by decide) passL (pa_cons (pv 2) (pa_cons (pe_ix (ix_tupK (K := K)) (pv 24) pe_int (fun _ _ => rfl)) (pa_cons (pv 6) (pa_cons (pv 8) pa_nil))))) (pe_tup (pa_cons (pv 7) (pa_cons (pv 9) pa_nil))) (nomark _))) (fun _ _ _ _ _ => (pe_ix (ix_tupK (K := K)) (pv 24) pe_int (fun _ _ => rfl)))) (pss_cons (ps_if (PW.pt (pw_or (PW.pt (pw_and (pt_cmpR op_ge (pv 7) pe_int (nomark _)) (pw_and (pt_cmpR (op_neD hr.units) (pv 11) (pe_lst pa_nil) (nomark _)) (pw_and1 (pt_cmpR op_ne (pv 10) (pe_callB (cr_min rfl) (by rfl) B.min (by decide +kernel) (pa_cons (pv 11) pa_nil)) (nomark _)))))) (pw_or1 (pt_cmpR op_gt (pv 10) (pe_ix ix_tup (pv 5) pe_int (fun _ _ => rfl)) (nomark _))))) (pss_one (ps_ret pe_bl)) (pss_nil)) (pss_cons (ps_par (i := 12) (j := 13) rfl scLaw.nd rfl rfl (by decide) rfl rfl (pa_cons (pe_lc (own := [("k", 30)]) (g := gName 30) (tt := tYes) rfl scLaw.nd (pi_range1 rfl B.range (pa_cons (pe_op op_add pe_int (pe_k L.roll hr (by decide) passL (pa_cons (pv 1) (pa_cons pe_int pa_nil)))) pa_nil)) (blkOk_by (own := [("k", 30)]) (N := lawN) (sc := defScope sLaw) (by decide +kernel)) (fun _ _ _ _ _ => pg_name (i := 30) scLaw.nd rfl (Or.inl rfl)) (fun _ _ _ _ _ => pts_nil) (fun _ _ _ _ _ => (pe_op op_add pe_int (pe_k L.roll hr (by decide) passL (pa_cons (pv 1) (pa_cons pe_int pa_nil)))))) (pa_cons (pe_op op_sub (pe_ix ix_tup (pv 5) pe_int (fun _ _ => rfl)) (pe_k L.roll hr (by decide) passL (pa_cons (pv 1) (pa_cons pe_int pa_nil)))) pa_nil)) rfl) (pss_cons (ps_par3 (i := 14) (j := 15) (l := 16) rfl scLaw.nd rfl rfl rfl (by decide) (by decide) (by decide) rfl rfl rfl (pa_cons (pe_op op_fdiv (pe_op op_sub (pe_ix ix_tup (pv 5) pe_int (fun _ _ => rfl)) (pv 13)) (pe_fld (pv 2) rfl)) (pa_cons pe_int (pa_cons pe_int pa_nil))) rfl) (pss_cons (ps_for (passes_of rfl) rfl (pi_range1 rfl B.range (pa_cons (pv 14) pa_nil)) (pg_name (i := 17) scLaw.nd rfl (Or.inl rfl)) (pss_cons (ps_set (i := 16) scLaw.nd rfl (.inl rfl) (pe_op op_add (pv 16) pe_int)) (pss_one (ps_if (pt_cmpR op_eq (pv 16) (pe_ix ix_list (pv 12) (pe_op op_mod (pv 15) (pe_callB call_len_seq (by rfl) B.len (by decide +kernel) (pa_cons (pv 12) pa_nil))) (fun _ _ => rfl)) (nomark _)) (pss_one (ps_par (i := 15) (j := 16) rfl scLaw.nd rfl rfl (by decide) rfl rfl (pa_cons (pe_op op_add (pv 15) pe_int) (pa_cons pe_int pa_nil)) rfl)) (pss_nil))))) (pss_cons (ps_if (pt_cmpR (op_neD hr.units) (pe_k L.c_weeks_pattern hr (by decide) passL (pa_cons (pv 2) (pa_cons (pv 13) (pa_cons (pv 12) (pa_cons (pe_ix ix_tup (pv 5) pe_int (fun _ _ => rfl)) pa_nil))))) (pe_tup (pa_cons (pv 15) (pa_cons (pv 16) pa_nil))) (nomark _)) (pss_one (ps_ret pe_bl)) (pss_nil)) (pss_cons (ps_set (i := 18) scLaw.nd rfl (.inl rfl) (pe_ix ix_list (pv 4) (pe_k L.roll hr (by decide) passL (pa_cons (pv 1) (pa_cons (pe_callB call_len_seq (by rfl) B.len (by decide +kernel) (pa_cons (pv 4) pa_nil)) pa_nil))) (fun _ _ => rfl))) (pss_cons (ps_asg (pe_ifExp (pt_cmpR op_le (pe_ix ix_tup (pv 5) pe_int (fun _ _ => rfl)) (pe_ix ix_tup (pv 18) pe_int (fun _ _ => rfl)) (nomark _)) (pe_tup (pa_cons (pv 5) (pa_cons (pv 18) pa_nil))) (pe_tup (pa_cons (pv 18) (pa_cons (pv 5) pa_nil)))) (pg_tup rfl (pgs_cons (pg_name (i := 19) scLaw.nd rfl (.inr rfl)) (pgs_cons (pg_name (i := 20) scLaw.nd rfl (.inr rfl)) pgs_nil)))) (pss_cons (ps_set (i := 21) scLaw.nd rfl (.inl rfl) (pe_op op_add pe_int (pe_k L.roll hr (by decide) passL (pa_cons (pv 1) (pa_cons pe_int pa_nil))))) (pss_cons (ps_set (i := 22) scLaw.nd rfl (.inl rfl) (pe_op op_sub (pe_op op_add (pe_op op_mul (pe_op op_sub (pe_ix ix_tup (pv 20) pe_int (fun _ _ => rfl)) (pe_ix ix_tup (pv 19) pe_int (fun _ _ => rfl))) (pv 3)) (pe_ix ix_tup (pv 20) pe_int (fun _ _ => rfl))) (pe_ix ix_tup (pv 19) pe_int (fun _ _ => rfl)))) (pss_cons (ps_if (pt_cmpR op_ne (pe_k L.c_even_months hr (by decide) passL (pa_cons (pv 2) (pa_cons (pe_ix ix_tup (pv 19) pe_int (fun _ _ => rfl)) (pa_cons (pe_ix ix_tup (pv 20) pe_int (fun _ _ => rfl)) (pa_cons (pv 21) pa_nil))))) (pe_op op_sub (pe_op op_add (pe_op op_mul (pv 22) (pv 21)) (pe_callB (call_min2 rfl) (by rfl) B.min (by decide +kernel) (pa_cons (pe_ix ix_tup (pv 20) pe_int (fun _ _ => rfl)) (pa_cons (pe_op op_sub (pv 21) pe_int) pa_nil)))) (pe_callB (call_min2 rfl) (by rfl) B.min (by decide +kernel) (pa_cons (pe_ix ix_tup (pv 19) pe_int (fun _ _ => rfl)) (pa_cons (pe_op op_sub (pv 21) pe_int) pa_nil)))) (nomark _)) (pss_one (ps_ret pe_bl)) (pss_nil)) (pss_cons (ps_set (i := 23) scLaw.nd rfl (.inl rfl) (pe_lst pa_nil)) (pss_cons (ps_for (passes_of rfl) rfl (pi_range2 rfl B.range (pa_cons (pe_ix ix_tup (pv 19) pe_int (fun _ _ => rfl)) (pa_cons (pe_op op_add (pe_ix ix_tup (pv 20) pe_int (fun _ _ => rfl)) pe_int) pa_nil))) (pg_name (i := 24) scLaw.nd rfl (Or.inr rfl)) (pss_cons (ps_set (i := 25) scLaw.nd rfl (.inl rfl) (pe_callB call_len_seq (by rfl) B.len (by decide +kernel) (pa_cons (pe_lc (own := [("each", 31)]) (g := gName 31) (tt := _) rfl scLaw.nd (pi_list (pv 4)) (blkOk_by (own := [("each", 31)]) (N := lawN) (sc := defScope sLaw) (by decide +kernel)) (fun _ _ _ _ _ => pg_name (i := 31) scLaw.nd rfl (Or.inl rfl)) (fun _ _ _ _ _ => pts_one (PW.pt (pw_and (pt_cmpR op_eq (pe_ix (ix_tupK (K := K)) (pv 31) pe_int (fun _ _ => rfl)) (pv 24) (nomark _)) (pw_and1 (pt_chain op_le op_lt (pe_ix (ix_tupK (K := K)) (pv 19) pe_int (fun _ _ => rfl)) (pe_ix (ix_tupK (K := K)) (pv 31) pe_int (fun _ _ => rfl)) (pe_ix (ix_tupK (K := K)) (pv 20) pe_int (fun _ _ => rfl))))))) (fun _ _ _ _ _ => (pv 31))) pa_nil))) (pss_one (ps_if (pt_cmpR op_gt (pv 25) pe_int (nomark _)) (pss_one (ps_expr (pe_bm PySem.F.plainAttrs_list PySem.F.slot_list_append PySem.F.type_list_append mt_append (pv 23) (pa_cons (pe_tup (pa_cons (pv 25) (pa_cons (pe_callB call_len_seq (by rfl) B.len (by decide +kernel) (pa_cons (pe_lc (own := [("each", 31)]) (g := gName 31) (tt := _) rfl scLaw.nd (pi_list (pv 4)) (blkOk_by (own := [("each", 31)]) (N := lawN) (sc := defScope sLaw) (by decide +kernel)) (fun _ _ _ _ _ => pg_name (i := 31) scLaw.nd rfl (Or.inl rfl)) (fun _ _ _ _ _ => pts_one (pt_cmpR op_eq (pe_ix (ix_tupK (K := K)) (pv 31) pe_int (fun _ _ => rfl)) (pv 24) (nomark _))) (fun _ _ _ _ _ => (pv 31))) pa_nil)) pa_nil))) pa_nil)))) (pss_nil))))) (pss_cons (ps_if (PW.pt (pw_or (pt_cmpR (op_neD hr.units) (pe_callTy call_list_of (by rfl) L.n_list (by decide +kernel) (pa_cons (pe_k L.c_share_of_years hr (by decide) passL (pa_cons (pv 2) (pa_cons (pe_ix ix_tup (pv 19) pe_int (fun _ _ => rfl)) (pa_cons (pe_ix ix_tup (pv 20) pe_int (fun _ _ => rfl)) pa_nil)))) pa_nil)) (pv 23) (nomark _)) (pw_or1 (PW.pt (pw_and (pt_cmpR op_lt (pe_ix ix_tup (pv 19) pe_int (fun _ _ => rfl)) (pe_ix ix_tup (pv 20) pe_int (fun _ _ => rfl)) (nomark _)) (pw_and1 (pt_cmpR op_ne (pe_toldC (c := cl) (k := 9) L.exs hmT kpT lkT hcT bT hr (pa_cons (pe_lamC (T := [(PT, LQ)]) (LamX.lamS_by (sc := defScope sLaw) (by decide +kernel)) TB rfl (List.mem_singleton.mpr rfl) (fun p hp _ => by rw [List.mem_singleton.mp hp]) rfl) pa_nil)) pe_str (nomark _)))))))) (pss_one (ps_ret pe_bl)) (pss_nil)) (pss_cons (ps_set (i := 26) scLaw.nd rfl (.inr rfl) (pe_op op_add pe_int (pe_k L.roll hr (by decide) passL (pa_cons (pv 1) (pa_cons pe_int pa_nil))))) (pss_cons (ps_if (pt_cmpR (op_neD hr.units) (pe_callTy call_list_of (by rfl) L.n_list (by decide +kernel) (pa_cons (pe_k L.c_due_days hr (by decide) passL (pa_cons (pv 2) (pa_cons (pe_ix ix_tup (pv 5) pe_int (fun _ _ => rfl)) (pa_cons (pv 26) (pa_cons pe_int pa_nil))))) pa_nil)) (pe_lc (own := [("k", 30)]) (g := gName 30) (tt := tYes) rfl scLaw.nd (pi_range1 rfl B.range (pa_cons pe_int pa_nil)) (blkOk_by (own := [("k", 30)]) (N := lawN) (sc := defScope sLaw) (by decide +kernel)) (fun _ _ _ _ _ => pg_name (i := 30) scLaw.nd rfl (Or.inl rfl)) (fun _ _ _ _ _ => pts_nil) (fun _ _ _ _ _ => (pe_fldK (K := K) (pe_k L.c_mo1 hr (by decide) passL (pa_cons (pe_nw L.nD hr (by decide) passL (pa_cons (pv 2) (pa_cons (pe_ix (ix_tupK (K := K)) (pv 5) pe_int (fun _ _ => rfl)) pa_nil))) (pa_cons (pe_op op_mul (pv 26) (pv 30)) pa_nil))) rfl))) (nomark _)) (pss_one (ps_ret pe_bl)) (pss_nil)) (pss_cons (ps_par (i := 27) (j := 28) rfl scLaw.nd rfl rfl (by decide) rfl rfl (pa_cons (pe_k L.roll hr (by decide) passL (pa_cons (pv 1) (pa_cons pe_int pa_nil))) (pa_cons (pe_op op_add pe_int (pe_k L.roll hr (by decide) passL (pa_cons (pv 1) (pa_cons pe_int pa_nil)))) pa_nil)) rfl) (pss_cons (ps_set (i := 29) scLaw.nd rfl (.inl rfl) (pe_k L.c_spread hr (by decide) passL (pa_cons (pv 27) (pa_cons (pv 28) pa_nil)))) (pss_cons (ps_if (pt_cmpR op_ne (pe_callB (cr_sumT rfl) (by rfl) B.sum (by decide +kernel) (pa_cons (pv 29) pa_nil)) (pv 27) (nomark _)) (pss_one (ps_ret pe_bl)) (pss_nil)) (pss_cons (ps_if (pt_cmpR op_ne (pe_callB call_len_seq (by rfl) B.len (by decide +kernel) (pa_cons (pv 29) pa_nil)) (pv 28) (nomark _)) (pss_one (ps_ret pe_bl)) (pss_nil)) (pss_cons (ps_if (pt_cmpR op_gt (pe_op op_sub (pe_callB (cr_maxT rfl) (by rfl) B.max (by decide +kernel) (pa_cons (pv 29) pa_nil)) (pe_callB (cr_minT rfl) (by rfl) B.min (by decide +kernel) (pa_cons (pv 29) pa_nil))) pe_int (nomark _)) (pss_one (ps_ret pe_bl)) (pss_nil)) (pss_one (ps_if (pt_cmpR (op_neD hr.units) (pe_callTy call_list_of (by rfl) L.n_list (by decide +kernel) (pa_cons (pv 29) pa_nil)) (pe_callBK cr_srtT (by rfl) L.n_sorted (by decide +kernel) (pa_cons (pv 29) pa_nil) (pk_cons pe_bl pk_nil)) (nomark _)) (pss_one (ps_ret pe_bl)) (pss_nil))))))))))))))))))))))))))))))))))) (pss_one (ps_ret (pe_k0 L.c_cases hr (by decide) passL))), ?_⟩
    refine q_dice3 (a := sc) (ns := ns) (PT := PT) (LQ := LQ) (ea_cons (ev_var rfl) (ea_cons ev_c ea_nil)) hS hT (fun σ => ∃ l1 l2 l3 l4 l5 l6 l7 l8 l9 l10 l11 l12 l13 l14 l15 l16 l17 l18 l19 l20 l21 l22 l23 l24 l25 l26 l27 l28 l29 l30 l31, σ = [some (.ref sc), l1, l2, l3, l4, l5, l6, l7, l8, l9, l10, l11, l12, l13, l14, l15, l16, l17, l18, l19, l20, l21, l22, l23, l24, l25, l26, l27, l28, l29, l30, l31]) ⟨_, _, _, _, _, _, _, _, _, _, _, _, _, _, _, _, _, _, _, _, _, _, _, _, _, _, _, _, _, _, _, rfl⟩ (fun d z0 σ' H0 hσ w0 Nx nx => ?_) (fun d z0 σ' H0 hσ kp w0 => ?_)
    · obtain ⟨l1, l2, l3, l4, l5, l6, l7, l8, l9, l10, l11, l12, l13, l14, l15, l16, l17, l18, l19, l20, l21, l22, l23, l24, l25, l26, l27, l28, l29, l30, l31, rfl⟩ := hσ
      refine nrm (σ' := [some (.ref sc), some (.ref d), l2, l3, l4, l5, l6, l7, l8, l9, l10, l11, l12, l13, l14, l15, l16, l17, l18, l19, l20, l21, l22, l23, l24, l25, l26, l27, l28, l29, l30, l31]) rfl ?_
      refine g_lawcal (C := C) (i := 2) (j := 1) (n := 0) (d := d) (z := z0) (k := m_lawB) w0 (fun _ => lt_cons (lt_cons lt_nil lt_tab) lt_dice) rfl rfl o0 (fun c z a_1 H_2 ok tiny o_3 g_4 w_5 r_6 => ?_)
      have wk4 := tiny.wk
      have wk1 := ok.wk
      have len3 := tiny.len
      have lm0 := ok.lm0
      have lm1 := ok.lm1
      obtain ⟨f6, f6b, f612, f12⟩ := first12 ok tiny
      unfold m_lawB at o_3
      refine nrm (σ' := [some (.ref sc), some (.ref d), some (.ref a_1), l3, l4, l5, l6, l7, l8, l9, l10, l11, l12, l13, l14, l15, l16, l17, l18, l19, l20, l21, l22, l23, l24, l25, l26, l27, l28, l29, l30, l31]) rfl ?_
      refine g_asg (E := E0) (cl := cl) (i := 3) (t := kI) (x := ((Ca.months c).length : Int)) w_5 o_3 (em_cb (em_cons (em_calMonths L.TC (em_var (t := (kCal K C)) (v := (.ref a_1)) (x := c) rfl r_6)) em_nil) o_lenT) (fun many_7 v_8 H_9 hx_10 o_11 g_12 w_13 r_14 => ?_)
      have r_15 := (kCal K C).up g_12.im r_6
      obtain rfl : v_8 = (.int many_7) := r_14
      refine nrm (σ' := [some (.ref sc), some (.ref d), some (.ref a_1), some (.int many_7), l4, l5, l6, l7, l8, l9, l10, l11, l12, l13, l14, l15, l16, l17, l18, l19, l20, l21, l22, l23, l24, l25, l26, l27, l28, l29, l30, l31]) rfl ?_
      have manyB : many_7 = (List.length (Ca.months c) : Int) := hx_10
      refine g_asg (E := E0) (cl := cl) (i := 4) (t := (kL K (kR K c))) (x := (rng 0 (c.firstOf 6))) w_13 o_11 (em_rowsK ok (em_rows (l := 6) (em_cons (em_var (t := (kCal K C)) (v := (.ref a_1)) (x := c) rfl r_15) (em_cons em_int (em_cons em_int em_nil))) (lt_cons (lt_cons lt_nil lt_tab) lt_dice) (by decide) (by show c.firstOf 6 < 50000; omega))) (fun rows_16 v_17 H_18 hx_19 o_20 g_21 w_22 r_23 => ?_)
      subst hx_19
      have r_24 := (kCal K C).up g_21.im r_15
      refine nrm (σ' := [some (.ref sc), some (.ref d), some (.ref a_1), some (.int many_7), some v_17, l5, l6, l7, l8, l9, l10, l11, l12, l13, l14, l15, l16, l17, l18, l19, l20, l21, l22, l23, l24, l25, l26, l27, l28, l29, l30, l31]) rfl ?_
      refine g_tup2 (E := E0) (cl := cl) (i := 5) (j := 6) (t := (kR K c)) (u := kI) (x := (roll z (Ca.firstOf c 6)).1) (y := (roll (roll z (Ca.firstOf c 6)).2 many_7).1) w_22 o_20 (em_cons (em_op (em_var (t := (kL K (kR K c))) (v := v_17) (x := (rng 0 (c.firstOf 6))) rfl r_23) (em_roll (n := 0) (em_cons (em_var (t := kPtr d) (v := .ref d) (x := ()) rfl rfl) (em_cons (em_eq (em_cb (em_cons (em_var (t := (kL K (kR K c))) (v := v_17) (x := (rng 0 (c.firstOf 6))) rfl r_23) em_nil) o_lenL) (by rw [rng_len]; omega)) em_nil)) rfl (by omega)) (o_ixR (by exact roll_in _ (by omega)))) (em_cons (em_roll (n := 0) (em_cons (em_var (t := kPtr d) (v := .ref d) (x := ()) rfl rfl) (em_cons (em_var (t := kI) (v := (.int many_7)) (x := many_7) rfl rfl) em_nil)) rfl (by omega)) em_nil)) (fun row_25 first_26 v_27 v_28 H_31 hx_35 hx_36 o_32 g_33 w_34 r_29 r_30 => ?_)
      have r_37 := (kCal K C).up g_33.im r_24
      have r_38 := (kL K (kR K c)).up g_33.im r_23
      obtain rfl : v_28 = (.int first_26) := r_30
      refine nrm (σ' := [some (.ref sc), some (.ref d), some (.ref a_1), some (.int many_7), some v_17, some v_27, some (.int first_26), l7, l8, l9, l10, l11, l12, l13, l14, l15, l16, l17, l18, l19, l20, l21, l22, l23, l24, l25, l26, l27, l28, l29, l30, l31]) rfl ?_
      have rowIn : 0 ≤ row_25 ∧ row_25 < Ca.firstOf c 6 := by rw [hx_35]; exact roll_in _ (by omega)
      have firstB : 0 ≤ first_26 ∧ first_26 < (List.length (Ca.months c) : Int) := by rw [hx_36, hx_10]; exact roll_in _ (by omega)
      refine g_asg (E := E0) (cl := cl) (i := 7) (t := kI) (x := (cond (decide (first_26 ≤ ((dateM c row_25 : Nat) : Int))) (yearOf c row_25) ((yearOf c row_25) - (1 : Int)))) w_34 o_32 (em_if (gt_test (em_op (em_op (em_var (t := (kR K c)) (v := v_27) (x := row_25) rfl r_29) em_int (o_rowK (j := 2) rfl rfl)) (em_var (t := kI) (v := (.int first_26)) (x := first_26) rfl rfl) o_IB)) (fun _ => (em_op (em_var (t := (kR K c)) (v := v_27) (x := row_25) rfl r_29) em_int (o_rowK (j := 1) rfl rfl))) (fun _ => (em_op (em_op (em_var (t := (kR K c)) (v := v_27) (x := row_25) rfl r_29) em_int (o_rowK (j := 1) rfl rfl)) em_int o_I))) (fun year_39 v_40 H_41 hx_42 o_43 g_44 w_45 r_46 => ?_)
      have r_47 := (kCal K C).up g_44.im r_37
      have r_48 := (kL K (kR K c)).up g_44.im r_38
      have r_49 := (kR K c).up g_44.im r_29
      obtain rfl : v_40 = (.int year_39) := r_46
      refine nrm (σ' := [some (.ref sc), some (.ref d), some (.ref a_1), some (.int many_7), some v_17, some v_27, some (.int first_26), some (.int year_39), l8, l9, l10, l11, l12, l13, l14, l15, l16, l17, l18, l19, l20, l21, l22, l23, l24, l25, l26, l27, l28, l29, l30, l31]) rfl ?_
      refine g_when (E := E0) (cl := cl) (b := ((!decide ((byV c row_25 first_26) = year_39)) || (!decide ((kindName 5) = "size")))) w_45 o_43 (gt_or (gt_test (em_op (em_callP (y := (byV c row_25 first_26)) (a := (c, row_25, first_26, ())) (em_cons (em_var (t := (kCal K C)) (v := (.ref a_1)) (x := c) rfl r_47) (em_cons (em_op (em_var (t := (kR K c)) (v := v_27) (x := row_25) rfl r_49) em_int (o_rowK (j := 0) rfl rfl)) (em_cons (em_var (t := kI) (v := (.int first_26)) (x := first_26) rfl rfl) em_nil))) args_id (by exact trivial) (by exact by_ok (by omega))) (em_var (t := kI) (v := (.int year_39)) (x := year_39) rfl rfl) o_neI)) (fun h_50 => (gt_test (em_op (em_reS0 (i := 5) (by exact by_er (by omega)) (em_toldR (ag := fun σ2 => σ2 = _) (em_cons (em_lamC (n := 1) (t := kLam (lawX P w K mg base f cc A outer s H E) cl 9 (fun σ2 => σ2 = _) kI) (x := (f_business_year (c, row_25, many_7, ()) )) rfl (nc_cons (nc_cons nc_nil nc_tab) nc_dice) (lam_r (LamX.lamS_by (sc := defScope sLaw) (by decide +kernel)) (fun _ _ _ => rfl) (fun f2 cc2 A2 outer2 s2 H2 E2 hr2 => (pe_k L.c_business_year hr2 (by decide) (passE (E := E2)) (pa_cons (pv 2) (pa_cons (pe_ix ix_tup (pv 5) pe_int (fun _ _ => rfl)) (pa_cons (pv 3) pa_nil))))) (fun i h => by rw [show (f_business_year (c, row_25, many_7, ()) ) = .er 5 from by exact by_er (by omega)] at h; cases h; decide) (fun E2 M2 S2 σ2 I2 e ag => by subst ag; exact (em_call (a := (c, row_25, many_7, ()) ) (em_cons (em_var (t := (kCal K C)) (v := (.ref a_1)) (x := c) rfl ((kCal K C).up e r_47)) (em_cons (em_op (em_var (t := (kR K c)) (v := v_27) (x := row_25) rfl ((kR K c).up e r_49)) em_int (o_rowK (j := 0) rfl rfl)) (em_cons (em_var (t := kI) (v := (.int many_7)) (x := many_7) rfl rfl) em_nil))) args_id (by exact trivial))))) em_nil) rfl)) em_str o_neS)))) (fun hb_53 o_54 H_52 g_55 w_56 => ?_) (fun hb_58 o_59 H_57 g_60 w_61 => ?_)
      · try simp only [decide_eq_true_eq, decide_eq_false_iff_not, Bool.and_eq_true, Bool.or_eq_true, Bool.and_eq_false_iff, Bool.or_eq_false_iff, Bool.not_eq_true', Bool.not_eq_false'] at hb_53
        have r_62 := (kCal K C).up g_55.im r_47
        have r_63 := (kL K (kR K c)).up g_55.im r_48
        have r_64 := (kR K c).up g_55.im r_49
        exact absurd o_54 Bool.false_ne_true
      · try simp only [decide_eq_true_eq, decide_eq_false_iff_not, Bool.and_eq_true, Bool.or_eq_true, Bool.and_eq_false_iff, Bool.or_eq_false_iff, Bool.not_eq_true', Bool.not_eq_false'] at hb_58
        have r_65 := (kCal K C).up g_60.im r_47
        have r_66 := (kL K (kR K c)).up g_60.im r_48
        have r_67 := (kR K c).up g_60.im r_49
        have dvB := dv_ok (m := many_7) (by omega)
        refine g_asg (E := E0) (cl := cl) (i := 8) (t := kI) (x := ((atI (((rng (1 : Int) (many_7 + (1 : Int))).filter (fun x_68 => (decide ((many_7 % x_68) = (0 : Int))))).map (fun x_68 => x_68)) (roll (roll (roll z (Ca.firstOf c 6)).2 many_7).2 ((((rng (1 : Int) (many_7 + (1 : Int))).filter (fun x_79 => (decide ((many_7 % x_79) = (0 : Int))))).map (fun x_79 => x_79)).length : Int)).1).getD 0)) w_61 o_59 (em_op (em_lc (K := K) (u := kI) (fun x_68 => (decide ((many_7 % x_68) = (0 : Int)))) (fun x_68 => x_68) (ei_R2 (em_cons em_int (em_cons (em_op (em_var (t := kI) (v := (.int many_7)) (x := many_7) rfl rfl) em_int o_I) em_nil)) (by refine ⟨by omega, by omega, by omega, by omega⟩)) (by rw [rng_len]; omega) eg_name (fun _ _ _ b => by obtain ⟨_, rfl, rfl⟩ := b; rfl) (fun M_74 S_75 I_69 x_68 s_73 e_70 m_71 b_72 => by obtain ⟨_, rfl, rfl⟩ := b_72; rw [rng_mem] at m_71; exact (gt_test (em_op (em_op (em_var (t := kI) (v := (.int many_7)) (x := many_7) rfl rfl) (em_var (t := kI) (v := (.int x_68)) (x := x_68) rfl rfl) (o_IC (C := fun _ j => 0 < j) (by show (0 : Int) < _; omega))) em_int o_eqI))) (fun M_74 S_75 I_69 x_68 s_73 e_70 m_71 c_78 b_72 => by obtain ⟨_, rfl, rfl⟩ := b_72; rw [rng_mem] at m_71; exact (em_var (t := kI) (v := (.int x_68)) (x := x_68) rfl rfl))) (em_roll (n := 0) (em_cons (em_var (t := kPtr d) (v := .ref d) (x := ()) rfl rfl) (em_cons (em_cb (em_cons (em_lc (K := K) (u := kI) (fun x_79 => (decide ((many_7 % x_79) = (0 : Int)))) (fun x_79 => x_79) (ei_R2 (em_cons em_int (em_cons (em_op (em_var (t := kI) (v := (.int many_7)) (x := many_7) rfl rfl) em_int o_I) em_nil)) (by refine ⟨by omega, by omega, by omega, by omega⟩)) (by rw [rng_len]; omega) eg_name (fun _ _ _ b => by obtain ⟨_, rfl, rfl⟩ := b; rfl) (fun M_85 S_86 I_80 x_79 s_84 e_81 m_82 b_83 => by obtain ⟨_, rfl, rfl⟩ := b_83; rw [rng_mem] at m_82; exact (gt_test (em_op (em_op (em_var (t := kI) (v := (.int many_7)) (x := many_7) rfl rfl) (em_var (t := kI) (v := (.int x_79)) (x := x_79) rfl rfl) (o_IC (C := fun _ j => 0 < j) (by show (0 : Int) < _; omega))) em_int o_eqI))) (fun M_85 S_86 I_80 x_79 s_84 e_81 m_82 c_89 b_83 => by obtain ⟨_, rfl, rfl⟩ := b_83; rw [rng_mem] at m_82; exact (em_var (t := kI) (v := (.int x_79)) (x := x_79) rfl rfl))) em_nil) o_lenL) em_nil)) rfl (by exact ⟨dvB.1, dvB.2.1⟩)) (o_ixLI (at_in (by exact at_roll dvB.1)))) (fun size_90 v_91 H_92 hx_93 o_94 g_95 w_96 r_97 => ?_)
        have r_98 := (kCal K C).up g_95.im r_65
        have r_99 := (kL K (kR K c)).up g_95.im r_66
        have r_100 := (kR K c).up g_95.im r_67
        obtain rfl : v_91 = (.int size_90) := r_97
        refine nrm (σ' := [some (.ref sc), some (.ref d), some (.ref a_1), some (.int many_7), some v_17, some v_27, some (.int first_26), some (.int year_39), some (.int size_90), l9, l10, l11, l12, l13, l14, l15, l16, l17, l18, l19, l20, l21, l22, l23, l24, l25, l26, l27, l28, l29, l30, l31]) rfl ?_
        have szB : 1 ≤ size_90 ∧ (List.length (Ca.months c) : Int) % size_90 = 0 ∧ size_90 ≤ (List.length (Ca.months c) : Int) := by rw [← manyB, hx_93]; exact dvB.2.2 _ (roll_in _ dvB.1)
        refine g_asg (E := E0) (cl := cl) (i := 9) (t := kI) (x := (((((dateM c row_25 : Nat) : Int) - first_26) % many_7) / size_90)) w_96 o_94 (em_op (em_op (em_op (em_op (em_var (t := (kR K c)) (v := v_27) (x := row_25) rfl r_100) em_int (o_rowK (j := 2) rfl rfl)) (em_var (t := kI) (v := (.int first_26)) (x := first_26) rfl rfl) o_I) (em_var (t := kI) (v := (.int many_7)) (x := many_7) rfl rfl) (o_IC (C := fun _ j => 0 < j) (by show (0 : Int) < _; omega))) (em_var (t := kI) (v := (.int size_90)) (x := size_90) rfl rfl) (o_IC (C := CDiv) (g := fun i j => i / j) (by exact ⟨by omega, by omega⟩))) (fun part_101 v_102 H_103 hx_104 o_105 g_106 w_107 r_108 => ?_)
        have r_109 := (kCal K C).up g_106.im r_98
        have r_110 := (kL K (kR K c)).up g_106.im r_99
        have r_111 := (kR K c).up g_106.im r_100
        obtain rfl : v_102 = (.int part_101) := r_108
        refine nrm (σ' := [some (.ref sc), some (.ref d), some (.ref a_1), some (.int many_7), some v_17, some v_27, some (.int first_26), some (.int year_39), some (.int size_90), some (.int part_101), l10, l11, l12, l13, l14, l15, l16, l17, l18, l19, l20, l21, l22, l23, l24, l25, l26, l27, l28, l29, l30, l31]) rfl ?_
        refine g_when (E := E0) (cl := cl) (b := (!decide (((byV c row_25 first_26), ((((dateM c row_25 : Nat) : Int) - first_26) % (List.length (Ca.months c) : Int) / size_90)) = (year_39, part_101)))) w_107 o_105 (gt_test (em_op (em_callP (y := ((byV c row_25 first_26), ((((dateM c row_25 : Nat) : Int) - first_26) % (List.length (Ca.months c) : Int) / size_90))) (a := (c, row_25, first_26, size_90, ())) (em_cons (em_var (t := (kCal K C)) (v := (.ref a_1)) (x := c) rfl r_109) (em_cons (em_op (em_var (t := (kR K c)) (v := v_27) (x := row_25) rfl r_111) em_int (o_rowK (j := 0) rfl rfl)) (em_cons (em_var (t := kI) (v := (.int first_26)) (x := first_26) rfl rfl) (em_cons (em_var (t := kI) (v := (.int size_90)) (x := size_90) rfl rfl) em_nil)))) args_id (by show _ < (1073741824 : Int); have q := szB.2.2; omega) (by exact pb_ok (by omega) ⟨szB.1, szB.2.1⟩)) (em_t2 K (em_cons (em_var (t := kI) (v := (.int year_39)) (x := year_39) rfl rfl) (em_cons (em_var (t := kI) (v := (.int part_101)) (x := part_101) rfl rfl) em_nil))) (o_neD (d2 dI dI) (by decide)))) (fun hb_113 o_114 H_112 g_115 w_116 => ?_) (fun hb_118 o_119 H_117 g_120 w_121 => ?_)
        · try simp only [decide_eq_true_eq, decide_eq_false_iff_not, Bool.and_eq_true, Bool.or_eq_true, Bool.and_eq_false_iff, Bool.or_eq_false_iff, Bool.not_eq_true', Bool.not_eq_false'] at hb_113
          have r_122 := (kCal K C).up g_115.im r_109
          have r_123 := (kL K (kR K c)).up g_115.im r_110
          have r_124 := (kR K c).up g_115.im r_111
          exact absurd o_114 Bool.false_ne_true
        · try simp only [decide_eq_true_eq, decide_eq_false_iff_not, Bool.and_eq_true, Bool.or_eq_true, Bool.and_eq_false_iff, Bool.or_eq_false_iff, Bool.not_eq_true', Bool.not_eq_false'] at hb_118
          have r_125 := (kCal K C).up g_120.im r_109
          have r_126 := (kL K (kR K c)).up g_120.im r_110
          have r_127 := (kR K c).up g_120.im r_111
          have partB : 0 ≤ part_101 ∧ part_101 < (List.length (Ca.months c) : Int) / size_90 := by rw [hx_104, manyB]; exact part_in szB.1 szB.2.1 (by omega)
          refine g_asg (E := E0) (cl := cl) (i := 10) (t := kI) (x := (numAt c (year_39 + (first_26 + part_101 * size_90) / (List.length (Ca.months c) : Int)) ((first_26 + part_101 * size_90) % (List.length (Ca.months c) : Int)).toNat 0)) w_121 o_119 (em_callP (y := (numAt c (year_39 + (first_26 + part_101 * size_90) / (List.length (Ca.months c) : Int)) ((first_26 + part_101 * size_90) % (List.length (Ca.months c) : Int)).toNat 0)) (a := (c, year_39, first_26, part_101, size_90, ())) (em_cons (em_var (t := (kCal K C)) (v := (.ref a_1)) (x := c) rfl r_125) (em_cons (em_var (t := kI) (v := (.int year_39)) (x := year_39) rfl rfl) (em_cons (em_var (t := kI) (v := (.int first_26)) (x := first_26) rfl rfl) (em_cons (em_var (t := kI) (v := (.int part_101)) (x := part_101) rfl rfl) (em_cons (em_var (t := kI) (v := (.int size_90)) (x := size_90) rfl rfl) em_nil))))) args_id (by show _ < (1073741824 : Int); have q := szB.2.2; omega) (by exact sp_ok (by omega) ⟨szB.1, szB.2.1⟩ partB)) (fun start_128 v_129 H_130 hx_131 o_132 g_133 w_134 r_135 => ?_)
          have r_136 := (kCal K C).up g_133.im r_125
          have r_137 := (kL K (kR K c)).up g_133.im r_126
          have r_138 := (kR K c).up g_133.im r_127
          obtain rfl : v_129 = (.int start_128) := r_135
          refine nrm (σ' := [some (.ref sc), some (.ref d), some (.ref a_1), some (.int many_7), some v_17, some v_27, some (.int first_26), some (.int year_39), some (.int size_90), some (.int part_101), some (.int start_128), l11, l12, l13, l14, l15, l16, l17, l18, l19, l20, l21, l22, l23, l24, l25, l26, l27, l28, l29, l30, l31]) rfl ?_
          refine g_asg (E := E0) (cl := cl) (i := 11) (t := (kL K kI)) (x := (((rng 0 (c.firstOf 6)).filter (fun x_139 => (decide (((byV c x_139 first_26), ((((dateM c x_139 : Nat) : Int) - first_26) % (List.length (Ca.months c) : Int) / size_90)) = (year_39, part_101))))).map (fun x_139 => x_139))) w_134 o_132 (em_lc (K := K) (u := kI) (fun x_139 => (decide (((byV c x_139 first_26), ((((dateM c x_139 : Nat) : Int) - first_26) % (List.length (Ca.months c) : Int) / size_90)) = (year_39, part_101)))) (fun x_139 => x_139) (ei_L (em_var (t := (kL K (kR K c))) (v := v_17) (x := (rng 0 (c.firstOf 6))) rfl r_137)) (by rw [rng_len]; omega) eg_name (fun _ _ _ b => by obtain ⟨v_147, r_148, rfl⟩ := b; rfl) (fun M_145 S_146 I_140 x_139 s_144 e_141 m_142 b_143 => by obtain ⟨v_147, r_148, rfl⟩ := b_143; rw [rng_mem] at m_142; exact (gt_test (em_op (em_callP (y := ((byV c x_139 first_26), ((((dateM c x_139 : Nat) : Int) - first_26) % (List.length (Ca.months c) : Int) / size_90))) (a := (c, x_139, first_26, size_90, ())) (em_cons (em_var (t := (kCal K C)) (v := (.ref a_1)) (x := c) rfl ((kCal K C).up e_141 r_136)) (em_cons (em_op (em_var (t := (kR K c)) (v := v_147) (x := x_139) rfl r_148) em_int (o_rowK (j := 0) rfl rfl)) (em_cons (em_var (t := kI) (v := (.int first_26)) (x := first_26) rfl rfl) (em_cons (em_var (t := kI) (v := (.int size_90)) (x := size_90) rfl rfl) em_nil)))) args_id (by show _ < (1073741824 : Int); have q := szB.2.2; omega) (by exact pb_ok (by omega) ⟨szB.1, szB.2.1⟩)) (em_t2 K (em_cons (em_var (t := kI) (v := (.int year_39)) (x := year_39) rfl rfl) (em_cons (em_var (t := kI) (v := (.int part_101)) (x := part_101) rfl rfl) em_nil))) (o_eqD (d2 dI dI) (by decide))))) (fun M_145 S_146 I_140 x_139 s_144 e_141 m_142 c_149 b_143 => by obtain ⟨v_147, r_148, rfl⟩ := b_143; rw [rng_mem] at m_142; exact (em_op (em_var (t := (kR K c)) (v := v_147) (x := x_139) rfl r_148) em_int (o_rowK (j := 0) rfl rfl)))) (fun inside_150 v_151 H_152 hx_153 o_154 g_155 w_156 r_157 => ?_)
          have r_158 := (kCal K C).up g_155.im r_136
          have r_159 := (kL K (kR K c)).up g_155.im r_137
          have r_160 := (kR K c).up g_155.im r_138
          refine nrm (σ' := [some (.ref sc), some (.ref d), some (.ref a_1), some (.int many_7), some v_17, some v_27, some (.int first_26), some (.int year_39), some (.int size_90), some (.int part_101), some (.int start_128), some v_151, l12, l13, l14, l15, l16, l17, l18, l19, l20, l21, l22, l23, l24, l25, l26, l27, l28, l29, l30, l31]) rfl ?_
          refine g_when (E := E0) (cl := cl) (b := (((decide ((0 : Int) ≤ year_39)) && ((!decide (inside_150 = ([] : List Int))) && (!decide (start_128 = (minOf inside_150))))) || (decide (row_25 < start_128)))) w_156 o_154 (gt_or (gt_and (gt_test (em_op (em_var (t := kI) (v := (.int year_39)) (x := year_39) rfl rfl) em_int o_IB)) (fun h_161 => (gt_and (gt_test (em_op (em_var (t := (kL K kI)) (v := v_151) (x := inside_150) rfl r_157) (em_lst K (t := kI) em_nilL (by simp)) (o_neD (dL dI) (by decide)))) (fun h_162 => (gt_test (em_op (em_var (t := kI) (v := (.int start_128)) (x := start_128) rfl rfl) (em_cb (em_cons (em_var (t := (kL K kI)) (v := v_151) (x := inside_150) rfl r_157) em_nil) (o_minL (by have gl := List.length_pos_iff.mpr (show inside_150 ≠ [] from fun z => by rw [z] at h_162; revert h_162; decide); omega))) o_neI)))))) (fun h_164 => (gt_test (em_op (em_var (t := kI) (v := (.int start_128)) (x := start_128) rfl rfl) (em_op (em_var (t := (kR K c)) (v := v_27) (x := row_25) rfl r_160) em_int (o_rowK (j := 0) rfl rfl)) o_IB)))) (fun hb_167 o_168 H_166 g_169 w_170 => ?_) (fun hb_172 o_173 H_171 g_174 w_175 => ?_)
          · try simp only [decide_eq_true_eq, decide_eq_false_iff_not, Bool.and_eq_true, Bool.or_eq_true, Bool.and_eq_false_iff, Bool.or_eq_false_iff, Bool.not_eq_true', Bool.not_eq_false'] at hb_167
            have r_176 := (kCal K C).up g_169.im r_158
            have r_177 := (kL K (kR K c)).up g_169.im r_159
            have r_178 := (kR K c).up g_169.im r_160
            have r_179 := (kL K kI).up g_169.im r_157
            exact absurd o_168 Bool.false_ne_true
          · try simp only [decide_eq_true_eq, decide_eq_false_iff_not, Bool.and_eq_true, Bool.or_eq_true, Bool.and_eq_false_iff, Bool.or_eq_false_iff, Bool.not_eq_true', Bool.not_eq_false'] at hb_172
            have r_180 := (kCal K C).up g_174.im r_158
            have r_181 := (kL K (kR K c)).up g_174.im r_159
            have r_182 := (kR K c).up g_174.im r_160
            have r_183 := (kL K kI).up g_174.im r_157
            refine g_par (E := E0) (cl := cl) (i := 12) (j := 13) (t := (kL K kI)) (u := kI) (x := (runE (fun (_ : Int) (q : Dice) => (true, q)) (fun (x_184 : Int) (z_192 : Dice) => (((1 : Int) + (roll z_192 (3 : Int)).1), (roll z_192 (3 : Int)).2)) (rng 0 ((1 : Int) + (roll (roll (roll (roll z (Ca.firstOf c 6)).2 many_7).2 ((((rng (1 : Int) (many_7 + (1 : Int))).filter (fun x_79 => (decide ((many_7 % x_79) = (0 : Int))))).map (fun x_79 => x_79)).length : Int)).2 (3 : Int)).1)) (roll (roll (roll (roll z (Ca.firstOf c 6)).2 many_7).2 ((((rng (1 : Int) (many_7 + (1 : Int))).filter (fun x_79 => (decide ((many_7 % x_79) = (0 : Int))))).map (fun x_79 => x_79)).length : Int)).2 (3 : Int)).2).1) (y := (row_25 - (roll (runE (fun (_ : Int) (q : Dice) => (true, q)) (fun (x_184 : Int) (z_192 : Dice) => (((1 : Int) + (roll z_192 (3 : Int)).1), (roll z_192 (3 : Int)).2)) (rng 0 ((1 : Int) + (roll (roll (roll (roll z (Ca.firstOf c 6)).2 many_7).2 ((((rng (1 : Int) (many_7 + (1 : Int))).filter (fun x_79 => (decide ((many_7 % x_79) = (0 : Int))))).map (fun x_79 => x_79)).length : Int)).2 (3 : Int)).1)) (roll (roll (roll (roll z (Ca.firstOf c 6)).2 many_7).2 ((((rng (1 : Int) (many_7 + (1 : Int))).filter (fun x_79 => (decide ((many_7 % x_79) = (0 : Int))))).map (fun x_79 => x_79)).length : Int)).2 (3 : Int)).2).2 (20 : Int)).1)) w_175 o_173 (em_cons (em_lcE (K := K) (u := kI) (ct := (fun (_ : Int) (q : Dice) => (true, q))) (f := (fun (x_184 : Int) (z_192 : Dice) => (((1 : Int) + (roll z_192 (3 : Int)).1), (roll z_192 (3 : Int)).2))) (Sx := fun q => [cDice d q, cTab PT LQ]) (s0 := (roll (roll (roll (roll z (Ca.firstOf c 6)).2 many_7).2 ((((rng (1 : Int) (many_7 + (1 : Int))).filter (fun x_79 => (decide ((many_7 % x_79) = (0 : Int))))).map (fun x_79 => x_79)).length : Int)).2 (3 : Int)).2) (ei_R1 (em_cons (em_op em_int (em_roll (n := 0) (em_cons (em_var (t := kPtr d) (v := .ref d) (x := ()) rfl rfl) (em_cons em_int em_nil)) rfl (by omega)) o_I) em_nil) (by have q := roll_in ((roll (roll (roll z (Ca.firstOf c 6)).2 many_7).2 ((((rng (1 : Int) (many_7 + (1 : Int))).filter (fun x_79 => (decide ((many_7 % x_79) = (0 : Int))))).map (fun x_79 => x_79)).length : Int)).2) (m := 3) (by decide); refine ⟨by omega, by omega⟩)) (by rw [rng_len]; have q := roll_in ((roll (roll (roll z (Ca.firstOf c 6)).2 many_7).2 ((((rng (1 : Int) (many_7 + (1 : Int))).filter (fun x_79 => (decide ((many_7 % x_79) = (0 : Int))))).map (fun x_79 => x_79)).length : Int)).2) (m := 3) (by decide); omega) (fun _ => rfl) eg_name (fun _ _ _ b => by obtain ⟨_, rfl, rfl⟩ := b; rfl) (fun D acc I2 x2 s2 σ2 e2 m2 b2 => gt_yes) (fun D_190 acc_191 I_185 x_184 z_192 s_189 e_186 m_187 c_193 b_188 => by obtain ⟨_, rfl, rfl⟩ := b_188; exact (em_op em_int (em_roll (n := 1) (em_cons (em_var (t := kPtr d) (v := .ref d) (x := ()) rfl rfl) (em_cons em_int em_nil)) rfl (by omega)) o_I))) (em_cons (em_op (em_op (em_var (t := (kR K c)) (v := v_27) (x := row_25) rfl r_182) em_int (o_rowK (j := 0) rfl rfl)) (em_roll (n := 0) (em_cons (em_var (t := kPtr d) (v := .ref d) (x := ()) rfl rfl) (em_cons em_int em_nil)) rfl (by omega)) o_I) em_nil)) (fun pattern_196 from_day_197 v_198 v_199 H_202 hx_206 hx_207 o_203 g_204 w_205 r_200 r_201 => ?_)
            have r_208 := (kCal K C).up g_204.im r_180
            have r_209 := (kL K (kR K c)).up g_204.im r_181
            have r_210 := (kR K c).up g_204.im r_182
            have r_211 := (kL K kI).up g_204.im r_183
            obtain rfl : v_199 = (.int from_day_197) := r_201
            refine nrm (σ' := [some (.ref sc), some (.ref d), some (.ref a_1), some (.int many_7), some v_17, some v_27, some (.int first_26), some (.int year_39), some (.int size_90), some (.int part_101), some (.int start_128), some v_151, some v_198, some (.int from_day_197), l14, l15, l16, l17, l18, l19, l20, l21, l22, l23, l24, l25, l26, l27, l28, l29, l30, l31]) rfl ?_
            have patB : (1 ≤ (pattern_196.length : Int) ∧ (pattern_196.length : Int) ≤ 3) ∧ ∀ x ∈ pattern_196, 1 ≤ x ∧ x ≤ 3 := by rw [hx_206]; exact pat_ok
            have fromB : from_day_197 ≤ row_25 ∧ row_25 < from_day_197 + 20 := by rw [hx_207]; exact from_ok
            refine g_par3 (E := E0) (cl := cl) (a := 14) (b := 15) (e := 16) w_205 o_203 (em_cons (em_op (em_op (em_op (em_var (t := (kR K c)) (v := v_27) (x := row_25) rfl r_210) em_int (o_rowK (j := 0) rfl rfl)) (em_var (t := kI) (v := (.int from_day_197)) (x := from_day_197) rfl rfl) o_I) (em_calWeek L.TC (em_var (t := (kCal K C)) (v := (.ref a_1)) (x := c) rfl r_208)) (o_IC (C := CDiv) (g := fun i j => i / j) (by exact ⟨by omega, by omega⟩))) (em_cons em_int (em_cons em_int em_nil))) (fun week_212 place_213 left_214 v_222 v_223 v_224 H_215 hx_219 hx_220 hx_221 o_216 g_217 w_218 r_225 r_226 r_227 => ?_)
            have r_228 := (kCal K C).up g_217.im r_208
            have r_229 := (kL K (kR K c)).up g_217.im r_209
            have r_230 := (kR K c).up g_217.im r_210
            have r_231 := (kL K kI).up g_217.im r_211
            have r_232 := (kL K kI).up g_217.im r_200
            obtain rfl : v_222 = (.int week_212) := r_225
            obtain rfl : v_223 = (.int place_213) := r_226
            obtain rfl : v_224 = (.int left_214) := r_227
            refine nrm (σ' := [some (.ref sc), some (.ref d), some (.ref a_1), some (.int many_7), some v_17, some v_27, some (.int first_26), some (.int year_39), some (.int size_90), some (.int part_101), some (.int start_128), some v_151, some v_198, some (.int from_day_197), some (.int week_212), some (.int place_213), some (.int left_214), l17, l18, l19, l20, l21, l22, l23, l24, l25, l26, l27, l28, l29, l30, l31]) rfl ?_
            have weekB : 0 ≤ week_212 ∧ week_212 < 20 := by rw [hx_219]; exact ⟨Int.ediv_nonneg (by omega) (by omega), Int.lt_of_le_of_lt (Int.ediv_le_self _ (by omega)) (by omega)⟩
            refine g_for (E := E0) (cl := cl) (xs := (rng 0 week_212)) (s0 := (place_213, left_214)) (Sx := (fun s : (Int × Int) => [cDice d (roll (runE (fun (_ : Int) (q : Dice) => (true, q)) (fun (x_184 : Int) (z_192 : Dice) => (((1 : Int) + (roll z_192 (3 : Int)).1), (roll z_192 (3 : Int)).2)) (rng 0 ((1 : Int) + (roll (roll (roll (roll z (Ca.firstOf c 6)).2 many_7).2 ((((rng (1 : Int) (many_7 + (1 : Int))).filter (fun x_79 => (decide ((many_7 % x_79) = (0 : Int))))).map (fun x_79 => x_79)).length : Int)).2 (3 : Int)).1)) (roll (roll (roll (roll z (Ca.firstOf c 6)).2 many_7).2 ((((rng (1 : Int) (many_7 + (1 : Int))).filter (fun x_79 => (decide ((many_7 % x_79) = (0 : Int))))).map (fun x_79 => x_79)).length : Int)).2 (3 : Int)).2).2 (20 : Int)).2, cTab PT LQ])) (fun (I : Hp) (rs : List Int) (s : (Int × Int)) (σ : L2.St) => ∃ (l17 : Option V), σ = [some (.ref sc), some (.ref d), some (.ref a_1), some (.int many_7), some v_17, some v_27, some (.int first_26), some (.int year_39), some (.int size_90), some (.int part_101), some (.int start_128), some v_151, some v_198, some (.int from_day_197), some (.int week_212), some (.int (s.1)), some (.int (s.2)), l17, l18, l19, l20, l21, l22, l23, l24, l25, l26, l27, l28, l29, l30, l31]) w_218 o_216 (ei_R1 (em_cons (em_var (t := kI) (v := (.int week_212)) (x := week_212) rfl rfl) em_nil) (by refine ⟨by omega, by omega⟩)) (fun _ => rfl) (fun _ => eg_name) (fun _ g => ⟨_, rfl⟩) (fun s_311 σ_312 H_313 g_314 w_315 rv_316 o_317 => ?_) (fun hd_249 x_233 s_234 σ_235 σ_236 I_237 H_238 rest_239 hm_240 g_241 w_242 ei_243 rv_244 b_245 o_246 Nx_247 nx_248 => ?_)
            · obtain ⟨place_318, left_319⟩ := s_311
              have r_320 := (kCal K C).up g_314.im r_228
              have r_321 := (kL K (kR K c)).up g_314.im r_229
              have r_322 := (kR K c).up g_314.im r_230
              have r_323 := (kL K kI).up g_314.im r_231
              have r_324 := (kL K kI).up g_314.im r_232
              obtain ⟨l_325, rfl⟩ := rv_316
              refine nrm (σ' := [some (.ref sc), some (.ref d), some (.ref a_1), some (.int many_7), some v_17, some v_27, some (.int first_26), some (.int year_39), some (.int size_90), some (.int part_101), some (.int start_128), some v_151, some v_198, some (.int from_day_197), some (.int week_212), some (.int place_318), some (.int left_319), l_325, l18, l19, l20, l21, l22, l23, l24, l25, l26, l27, l28, l29, l30, l31]) rfl ?_
              refine g_when (E := E0) (cl := cl) (b := (!decide (((wpV c from_day_197 pattern_196 row_25).1, (wpV c from_day_197 pattern_196 row_25).2) = (place_318, left_319)))) w_315 o_317 (gt_test (em_op (em_callP (y := ((wpV c from_day_197 pattern_196 row_25).1, (wpV c from_day_197 pattern_196 row_25).2)) (a := (c, from_day_197, pattern_196, row_25, ())) (em_cons (em_var (t := (kCal K C)) (v := (.ref a_1)) (x := c) rfl r_320) (em_cons (em_var (t := kI) (v := (.int from_day_197)) (x := from_day_197) rfl rfl) (em_cons (em_var (t := (kL K kI)) (v := v_198) (x := pattern_196) rfl r_324) (em_cons (em_op (em_var (t := (kR K c)) (v := v_27) (x := row_25) rfl r_322) em_int (o_rowK (j := 0) rfl rfl)) em_nil)))) args_id (by exact ⟨trivial, by omega, fun z hz => by have q := (patB.2 z hz).2; omega⟩) (by exact wp_ok (by omega) fun x hx => (patB.2 x hx).1)) (em_t2 K (em_cons (em_var (t := kI) (v := (.int place_318)) (x := place_318) rfl rfl) (em_cons (em_var (t := kI) (v := (.int left_319)) (x := left_319) rfl rfl) em_nil))) (o_neD (d2 dI dI) (by decide)))) (fun hb_328 o_329 H_327 g_330 w_331 => ?_) (fun hb_333 o_334 H_332 g_335 w_336 => ?_)
              · try simp only [decide_eq_true_eq, decide_eq_false_iff_not, Bool.and_eq_true, Bool.or_eq_true, Bool.and_eq_false_iff, Bool.or_eq_false_iff, Bool.not_eq_true', Bool.not_eq_false'] at hb_328
                have r_337 := (kCal K C).up g_330.im r_320
                have r_338 := (kL K (kR K c)).up g_330.im r_321
                have r_339 := (kR K c).up g_330.im r_322
                have r_340 := (kL K kI).up g_330.im r_323
                have r_341 := (kL K kI).up g_330.im r_324
                exact absurd o_329 Bool.false_ne_true
              · try simp only [decide_eq_true_eq, decide_eq_false_iff_not, Bool.and_eq_true, Bool.or_eq_true, Bool.and_eq_false_iff, Bool.or_eq_false_iff, Bool.not_eq_true', Bool.not_eq_false'] at hb_333
                have r_342 := (kCal K C).up g_335.im r_320
                have r_343 := (kL K (kR K c)).up g_335.im r_321
                have r_344 := (kR K c).up g_335.im r_322
                have r_345 := (kL K kI).up g_335.im r_323
                have r_346 := (kL K kI).up g_335.im r_324
                refine g_asg (E := E0) (cl := cl) (i := 18) (t := (kR K c)) (x := (roll (roll (runE (fun (_ : Int) (q : Dice) => (true, q)) (fun (x_184 : Int) (z_192 : Dice) => (((1 : Int) + (roll z_192 (3 : Int)).1), (roll z_192 (3 : Int)).2)) (rng 0 ((1 : Int) + (roll (roll (roll (roll z (Ca.firstOf c 6)).2 many_7).2 ((((rng (1 : Int) (many_7 + (1 : Int))).filter (fun x_79 => (decide ((many_7 % x_79) = (0 : Int))))).map (fun x_79 => x_79)).length : Int)).2 (3 : Int)).1)) (roll (roll (roll (roll z (Ca.firstOf c 6)).2 many_7).2 ((((rng (1 : Int) (many_7 + (1 : Int))).filter (fun x_79 => (decide ((many_7 % x_79) = (0 : Int))))).map (fun x_79 => x_79)).length : Int)).2 (3 : Int)).2).2 (20 : Int)).2 (Ca.firstOf c 6)).1) w_336 o_334 (em_op (em_var (t := (kL K (kR K c))) (v := v_17) (x := (rng 0 (c.firstOf 6))) rfl r_343) (em_roll (n := 0) (em_cons (em_var (t := kPtr d) (v := .ref d) (x := ()) rfl rfl) (em_cons (em_eq (em_cb (em_cons (em_var (t := (kL K (kR K c))) (v := v_17) (x := (rng 0 (c.firstOf 6))) rfl r_343) em_nil) o_lenL) (by rw [rng_len]; omega)) em_nil)) rfl (by omega)) (o_ixR (by exact roll_in _ (by omega)))) (fun other_347 v_348 H_349 hx_350 o_351 g_352 w_353 r_354 => ?_)
                have r_355 := (kCal K C).up g_352.im r_342
                have r_356 := (kL K (kR K c)).up g_352.im r_343
                have r_357 := (kR K c).up g_352.im r_344
                have r_358 := (kL K kI).up g_352.im r_345
                have r_359 := (kL K kI).up g_352.im r_346
                refine nrm (σ' := [some (.ref sc), some (.ref d), some (.ref a_1), some (.int many_7), some v_17, some v_27, some (.int first_26), some (.int year_39), some (.int size_90), some (.int part_101), some (.int start_128), some v_151, some v_198, some (.int from_day_197), some (.int week_212), some (.int place_318), some (.int left_319), l_325, some v_348, l19, l20, l21, l22, l23, l24, l25, l26, l27, l28, l29, l30, l31]) rfl ?_
                have otherIn : 0 ≤ other_347 ∧ other_347 < Ca.firstOf c 6 := by rw [hx_350]; exact roll_in _ (by omega)
                refine g_asgG (E := E0) (cl := cl) (t := (k2 K (kR K c) (kR K c))) (x := (cond (decide (row_25 ≤ other_347)) (row_25, other_347) (other_347, row_25))) w_353 eg_2 o_351 (em_if (gt_test (em_op (em_op (em_var (t := (kR K c)) (v := v_27) (x := row_25) rfl r_357) em_int (o_rowK (j := 0) rfl rfl)) (em_op (em_var (t := (kR K c)) (v := v_348) (x := other_347) rfl r_354) em_int (o_rowK (j := 0) rfl rfl)) o_IB)) (fun _ => em_t2 K (em_cons (em_var (t := (kR K c)) (v := v_27) (x := row_25) rfl r_357) (em_cons (em_var (t := (kR K c)) (v := v_348) (x := other_347) rfl r_354) em_nil))) (fun _ => em_t2 K (em_cons (em_var (t := (kR K c)) (v := v_348) (x := other_347) rfl r_354) (em_cons (em_var (t := (kR K c)) (v := v_27) (x := row_25) rfl r_357) em_nil)))) (fun p_360 σ_361 H_362 hx_363 o_364 g_365 w_366 b => ?_)
                have r_371 := (kCal K C).up g_365.im r_355
                have r_372 := (kL K (kR K c)).up g_365.im r_356
                have r_373 := (kR K c).up g_365.im r_357
                have r_374 := (kL K kI).up g_365.im r_358
                have r_375 := (kL K kI).up g_365.im r_359
                have r_376 := (kR K c).up g_365.im r_354
                obtain ⟨v_367, v_368, r_369, r_370, rfl⟩ := b
                have lowHigh : p_360.1 ≤ p_360.2 ∧ 0 ≤ p_360.1 ∧ p_360.2 < Ca.firstOf c 6 := by rw [hx_363]; exact low_high rowIn otherIn
                refine nrm (σ' := [some (.ref sc), some (.ref d), some (.ref a_1), some (.int many_7), some v_17, some v_27, some (.int first_26), some (.int year_39), some (.int size_90), some (.int part_101), some (.int start_128), some v_151, some v_198, some (.int from_day_197), some (.int week_212), some (.int place_318), some (.int left_319), l_325, some v_348, some v_367, some v_368, l21, l22, l23, l24, l25, l26, l27, l28, l29, l30, l31]) rfl ?_
                refine g_asg (E := E0) (cl := cl) (i := 21) (t := kI) (x := ((2 : Int) + (roll (roll (roll (runE (fun (_ : Int) (q : Dice) => (true, q)) (fun (x_184 : Int) (z_192 : Dice) => (((1 : Int) + (roll z_192 (3 : Int)).1), (roll z_192 (3 : Int)).2)) (rng 0 ((1 : Int) + (roll (roll (roll (roll z (Ca.firstOf c 6)).2 many_7).2 ((((rng (1 : Int) (many_7 + (1 : Int))).filter (fun x_79 => (decide ((many_7 % x_79) = (0 : Int))))).map (fun x_79 => x_79)).length : Int)).2 (3 : Int)).1)) (roll (roll (roll (roll z (Ca.firstOf c 6)).2 many_7).2 ((((rng (1 : Int) (many_7 + (1 : Int))).filter (fun x_79 => (decide ((many_7 % x_79) = (0 : Int))))).map (fun x_79 => x_79)).length : Int)).2 (3 : Int)).2).2 (20 : Int)).2 (Ca.firstOf c 6)).2 (4 : Int)).1)) w_366 o_364 (em_op em_int (em_roll (n := 0) (em_cons (em_var (t := kPtr d) (v := .ref d) (x := ()) rfl rfl) (em_cons em_int em_nil)) rfl (by omega)) o_I) (fun count_377 v_378 H_379 hx_380 o_381 g_382 w_383 r_384 => ?_)
                have r_385 := (kCal K C).up g_382.im r_371
                have r_386 := (kL K (kR K c)).up g_382.im r_372
                have r_387 := (kR K c).up g_382.im r_373
                have r_388 := (kL K kI).up g_382.im r_374
                have r_389 := (kL K kI).up g_382.im r_375
                have r_390 := (kR K c).up g_382.im r_376
                have r_391 := (kR K c).up g_382.im r_369
                have r_392 := (kR K c).up g_382.im r_370
                obtain rfl : v_378 = (.int count_377) := r_384
                refine nrm (σ' := [some (.ref sc), some (.ref d), some (.ref a_1), some (.int many_7), some v_17, some v_27, some (.int first_26), some (.int year_39), some (.int size_90), some (.int part_101), some (.int start_128), some v_151, some v_198, some (.int from_day_197), some (.int week_212), some (.int place_318), some (.int left_319), l_325, some v_348, some v_367, some v_368, some (.int count_377), l22, l23, l24, l25, l26, l27, l28, l29, l30, l31]) rfl ?_
                have countB : 2 ≤ count_377 ∧ count_377 ≤ 5 := by rw [hx_380]; have q := roll_in ((roll (roll (runE (fun (_ : Int) (q : Dice) => (true, q)) (fun (x_184 : Int) (z_192 : Dice) => (((1 : Int) + (roll z_192 (3 : Int)).1), (roll z_192 (3 : Int)).2)) (rng 0 ((1 : Int) + (roll (roll (roll (roll z (Ca.firstOf c 6)).2 many_7).2 ((((rng (1 : Int) (many_7 + (1 : Int))).filter (fun x_79 => (decide ((many_7 % x_79) = (0 : Int))))).map (fun x_79 => x_79)).length : Int)).2 (3 : Int)).1)) (roll (roll (roll (roll z (Ca.firstOf c 6)).2 many_7).2 ((((rng (1 : Int) (many_7 + (1 : Int))).filter (fun x_79 => (decide ((many_7 % x_79) = (0 : Int))))).map (fun x_79 => x_79)).length : Int)).2 (3 : Int)).2).2 (20 : Int)).2 (Ca.firstOf c 6)).2) (m := 4) (by decide); omega
                refine g_asg (E := E0) (cl := cl) (i := 22) (t := kI) (x := (((((yearOf c p_360.2) - (yearOf c p_360.1)) * many_7) + ((dateM c p_360.2 : Nat) : Int)) - ((dateM c p_360.1 : Nat) : Int))) w_383 o_381 (em_op (em_op (em_op (em_op (em_op (em_var (t := (kR K c)) (v := v_368) (x := p_360.2) rfl r_392) em_int (o_rowK (j := 1) rfl rfl)) (em_op (em_var (t := (kR K c)) (v := v_367) (x := p_360.1) rfl r_391) em_int (o_rowK (j := 1) rfl rfl)) o_I) (em_var (t := kI) (v := (.int many_7)) (x := many_7) rfl rfl) (o_IC (by first | exact .inl ⟨by omega, by omega⟩ | exact .inr ⟨by omega, by omega⟩))) (em_op (em_var (t := (kR K c)) (v := v_368) (x := p_360.2) rfl r_392) em_int (o_rowK (j := 2) rfl rfl)) o_I) (em_op (em_var (t := (kR K c)) (v := v_367) (x := p_360.1) rfl r_391) em_int (o_rowK (j := 2) rfl rfl)) o_I) (fun months_393 v_394 H_395 hx_396 o_397 g_398 w_399 r_400 => ?_)
                have r_401 := (kCal K C).up g_398.im r_385
                have r_402 := (kL K (kR K c)).up g_398.im r_386
                have r_403 := (kR K c).up g_398.im r_387
                have r_404 := (kL K kI).up g_398.im r_388
                have r_405 := (kL K kI).up g_398.im r_389
                have r_406 := (kR K c).up g_398.im r_390
                have r_407 := (kR K c).up g_398.im r_391
                have r_408 := (kR K c).up g_398.im r_392
                obtain rfl : v_394 = (.int months_393) := r_400
                refine nrm (σ' := [some (.ref sc), some (.ref d), some (.ref a_1), some (.int many_7), some v_17, some v_27, some (.int first_26), some (.int year_39), some (.int size_90), some (.int part_101), some (.int start_128), some v_151, some v_198, some (.int from_day_197), some (.int week_212), some (.int place_318), some (.int left_319), l_325, some v_348, some v_367, some v_368, some (.int count_377), some (.int months_393), l23, l24, l25, l26, l27, l28, l29, l30, l31]) rfl ?_
                refine g_when (E := E0) (cl := cl) (b := (!decide ((v_even_place (c, p_360.2, count_377, ()) - v_even_place (c, p_360.1, count_377, ())) = (((months_393 * count_377) + (if (count_377 - (1 : Int)) < (dateD c p_360.2) then (count_377 - (1 : Int)) else (dateD c p_360.2))) - (if (count_377 - (1 : Int)) < (dateD c p_360.1) then (count_377 - (1 : Int)) else (dateD c p_360.1)))))) w_399 o_397 (gt_test (em_op (em_callP (y := (v_even_place (c, p_360.2, count_377, ()) - v_even_place (c, p_360.1, count_377, ()))) (a := (c, p_360.1, p_360.2, count_377, ())) (em_cons (em_var (t := (kCal K C)) (v := (.ref a_1)) (x := c) rfl r_401) (em_cons (em_op (em_var (t := (kR K c)) (v := v_367) (x := p_360.1) rfl r_407) em_int (o_rowK (j := 0) rfl rfl)) (em_cons (em_op (em_var (t := (kR K c)) (v := v_368) (x := p_360.2) rfl r_408) em_int (o_rowK (j := 0) rfl rfl)) (em_cons (em_var (t := kI) (v := (.int count_377)) (x := count_377) rfl rfl) em_nil)))) args_id (by exact ⟨by omega, by omega⟩) (by exact evm_ok (by omega) (by omega))) (em_op (em_op (em_op (em_var (t := kI) (v := (.int months_393)) (x := months_393) rfl rfl) (em_var (t := kI) (v := (.int count_377)) (x := count_377) rfl rfl) (o_IC (by first | exact .inl ⟨by omega, by omega⟩ | exact .inr ⟨by omega, by omega⟩))) (em_cb (em_cons (em_op (em_var (t := (kR K c)) (v := v_368) (x := p_360.2) rfl r_408) em_int (o_rowK (j := 3) rfl rfl)) (em_cons (em_op (em_var (t := kI) (v := (.int count_377)) (x := count_377) rfl rfl) em_int o_I) em_nil)) o_min2) o_I) (em_cb (em_cons (em_op (em_var (t := (kR K c)) (v := v_367) (x := p_360.1) rfl r_407) em_int (o_rowK (j := 3) rfl rfl)) (em_cons (em_op (em_var (t := kI) (v := (.int count_377)) (x := count_377) rfl rfl) em_int o_I) em_nil)) o_min2) o_I) o_neI)) (fun hb_410 o_411 H_409 g_412 w_413 => ?_) (fun hb_415 o_416 H_414 g_417 w_418 => ?_)
                · try simp only [decide_eq_true_eq, decide_eq_false_iff_not, Bool.and_eq_true, Bool.or_eq_true, Bool.and_eq_false_iff, Bool.or_eq_false_iff, Bool.not_eq_true', Bool.not_eq_false'] at hb_410
                  have r_419 := (kCal K C).up g_412.im r_401
                  have r_420 := (kL K (kR K c)).up g_412.im r_402
                  have r_421 := (kR K c).up g_412.im r_403
                  have r_422 := (kL K kI).up g_412.im r_404
                  have r_423 := (kL K kI).up g_412.im r_405
                  have r_424 := (kR K c).up g_412.im r_406
                  have r_425 := (kR K c).up g_412.im r_407
                  have r_426 := (kR K c).up g_412.im r_408
                  exact absurd o_411 Bool.false_ne_true
                · try simp only [decide_eq_true_eq, decide_eq_false_iff_not, Bool.and_eq_true, Bool.or_eq_true, Bool.and_eq_false_iff, Bool.or_eq_false_iff, Bool.not_eq_true', Bool.not_eq_false'] at hb_415
                  have r_427 := (kCal K C).up g_417.im r_401
                  have r_428 := (kL K (kR K c)).up g_417.im r_402
                  have r_429 := (kR K c).up g_417.im r_403
                  have r_430 := (kL K kI).up g_417.im r_404
                  have r_431 := (kL K kI).up g_417.im r_405
                  have r_432 := (kR K c).up g_417.im r_406
                  have r_433 := (kR K c).up g_417.im r_407
                  have r_434 := (kR K c).up g_417.im r_408
                  refine g_new (i := 23) K (k2 K kI kI) w_418 fun p_435 H_436 hp_437 g_438 w_439 e_440 => ?_
                  have r_441 := (kCal K C).up e_440 r_427
                  have r_442 := (kL K (kR K c)).up e_440 r_428
                  have r_443 := (kR K c).up e_440 r_429
                  have r_444 := (kL K kI).up e_440 r_430
                  have r_445 := (kL K kI).up e_440 r_431
                  have r_446 := (kR K c).up e_440 r_432
                  have r_447 := (kR K c).up e_440 r_433
                  have r_448 := (kR K c).up e_440 r_434
                  refine nrm (σ' := [some (.ref sc), some (.ref d), some (.ref a_1), some (.int many_7), some v_17, some v_27, some (.int first_26), some (.int year_39), some (.int size_90), some (.int part_101), some (.int start_128), some v_151, some v_198, some (.int from_day_197), some (.int week_212), some (.int place_318), some (.int left_319), l_325, some v_348, some v_367, some v_368, some (.int count_377), some (.int months_393), some (.ref p_435), l24, l25, l26, l27, l28, l29, l30, l31]) rfl ?_
                  have yLo := year_rng ok (n := p_360.1) (l := 6) (by omega) (by omega)
                  have yHi := year_rng ok (n := p_360.2) (l := 6) (by omega) (by omega)
                  refine g_for (E := E0) (cl := cl) (xs := (rng (yearOf c p_360.1) ((yearOf c p_360.2) + (1 : Int)))) (s0 := (([] : (List (Int × Int))))) (Sx := (fun s : ((List (Int × Int))) => [cL p_435 (k2 K kI kI) (s), cDice d (roll (roll (roll (runE (fun (_ : Int) (q : Dice) => (true, q)) (fun (x_184 : Int) (z_192 : Dice) => (((1 : Int) + (roll z_192 (3 : Int)).1), (roll z_192 (3 : Int)).2)) (rng 0 ((1 : Int) + (roll (roll (roll (roll z (Ca.firstOf c 6)).2 many_7).2 ((((rng (1 : Int) (many_7 + (1 : Int))).filter (fun x_79 => (decide ((many_7 % x_79) = (0 : Int))))).map (fun x_79 => x_79)).length : Int)).2 (3 : Int)).1)) (roll (roll (roll (roll z (Ca.firstOf c 6)).2 many_7).2 ((((rng (1 : Int) (many_7 + (1 : Int))).filter (fun x_79 => (decide ((many_7 % x_79) = (0 : Int))))).map (fun x_79 => x_79)).length : Int)).2 (3 : Int)).2).2 (20 : Int)).2 (Ca.firstOf c 6)).2 (4 : Int)).2, cTab PT LQ])) (fun (I : Hp) (rs : List Int) (s : ((List (Int × Int)))) (σ : L2.St) => ∃ (l24 : Option V) (l25 : Option V), σ = [some (.ref sc), some (.ref d), some (.ref a_1), some (.int many_7), some v_17, some v_27, some (.int first_26), some (.int year_39), some (.int size_90), some (.int part_101), some (.int start_128), some v_151, some v_198, some (.int from_day_197), some (.int week_212), some (.int place_318), some (.int left_319), l_325, some v_348, some v_367, some v_368, some (.int count_377), some (.int months_393), some (.ref p_435), l24, l25, l26, l27, l28, l29, l30, l31] ∧ (s).length + rs.length ≤ 1000) w_439 o_416 (ei_R2 (em_cons (em_op (em_var (t := (kR K c)) (v := v_367) (x := p_360.1) rfl r_447) em_int (o_rowK (j := 1) rfl rfl)) (em_cons (em_op (em_op (em_var (t := (kR K c)) (v := v_368) (x := p_360.2) rfl r_448) em_int (o_rowK (j := 1) rfl rfl)) em_int o_I) em_nil)) (by refine ⟨by omega, by omega, by omega, by omega⟩)) (fun _ => rfl) (fun _ => eg_name) (fun _ g => ⟨_, _, rfl, by simp only [rng_len, List.length_nil]; omega⟩) (fun s_561 σ_562 H_563 g_564 w_565 rv_566 o_567 => ?_) (fun hd_465 x_449 s_450 σ_451 σ_452 I_453 H_454 rest_455 hm_456 g_457 w_458 ei_459 rv_460 b_461 o_462 Nx_463 nx_464 => ?_)
                  · have r_569 := (kCal K C).up g_564.im r_441
                    have r_570 := (kL K (kR K c)).up g_564.im r_442
                    have r_571 := (kR K c).up g_564.im r_443
                    have r_572 := (kL K kI).up g_564.im r_444
                    have r_573 := (kL K kI).up g_564.im r_445
                    have r_574 := (kR K c).up g_564.im r_446
                    have r_575 := (kR K c).up g_564.im r_447
                    have r_576 := (kR K c).up g_564.im r_448
                    obtain ⟨l_577, l_578, rfl, iv_579⟩ := rv_566
                    simp only [List.length_nil] at iv_579
                    refine nrm (σ' := [some (.ref sc), some (.ref d), some (.ref a_1), some (.int many_7), some v_17, some v_27, some (.int first_26), some (.int year_39), some (.int size_90), some (.int part_101), some (.int start_128), some v_151, some v_198, some (.int from_day_197), some (.int week_212), some (.int place_318), some (.int left_319), l_325, some v_348, some v_367, some v_368, some (.int count_377), some (.int months_393), some (.ref p_435), l_577, l_578, l26, l27, l28, l29, l30, l31]) rfl ?_
                    have pn_583 : p_435 ∉ [d, PT] := fun z => absurd hp_437 (w_418.live _ z)
                    have r_581 := cell_end (K := K) w_565 pn_583
                    have g_582 := (Gr.lone2 (c := cL p_435 (k2 K kI kI) []) (Gr.back w0 ((((((((((((((((((((g_4.then g_12 rfl).then g_21 rfl).then g_33 rfl).then g_44 rfl).then g_60 rfl).then g_95 rfl).then g_106 rfl).then g_120 rfl).then g_133 rfl).then g_155 rfl).then g_174 rfl).then g_204 rfl).then g_217 rfl).then g_314 rfl).then g_335 rfl).then g_352 rfl).then g_365 rfl).then g_382 rfl).then g_398 rfl).then g_417 rfl) w_418 hp_437) (((((((((((((((((((((g_4.then g_12 rfl).then g_21 rfl).then g_33 rfl).then g_44 rfl).then g_60 rfl).then g_95 rfl).then g_106 rfl).then g_120 rfl).then g_133 rfl).then g_155 rfl).then g_174 rfl).then g_204 rfl).then g_217 rfl).then g_314 rfl).then g_335 rfl).then g_352 rfl).then g_365 rfl).then g_382 rfl).then g_398 rfl).then g_417 rfl).then g_438 rfl) (Gr.cast g_564 rfl))
                    have w_580 := Holds.drop (c := cL p_435 (k2 K kI kI) s_561) w_565 pn_583
                    have r_584 := (kCal K C).up del_free r_569
                    have r_585 := (kL K (kR K c)).up del_free r_570
                    have r_586 := (kR K c).up del_free r_571
                    have r_587 := (kL K kI).up del_free r_572
                    have r_588 := (kL K kI).up del_free r_573
                    have r_589 := (kR K c).up del_free r_574
                    have r_590 := (kR K c).up del_free r_575
                    have r_591 := (kR K c).up del_free r_576
                    refine g_when (E := E0) (cl := cl) (b := ((!decide ((shV c p_360.1 p_360.2) = s_561)) || ((decide (p_360.1 < p_360.2)) && (!decide ((kindName 5) = "size"))))) w_580 o_567 (gt_or (gt_test (em_op (em_cb (em_cons (em_callP (y := (shV c p_360.1 p_360.2)) (a := (c, p_360.1, p_360.2, ())) (em_cons (em_var (t := (kCal K C)) (v := (.ref a_1)) (x := c) rfl r_584) (em_cons (em_op (em_var (t := (kR K c)) (v := v_367) (x := p_360.1) rfl r_590) em_int (o_rowK (j := 0) rfl rfl)) (em_cons (em_op (em_var (t := (kR K c)) (v := v_368) (x := p_360.2) rfl r_591) em_int (o_rowK (j := 0) rfl rfl)) em_nil))) args_id (by show _ ≤ (1000 : Int); omega) (by exact (sh_ok ok (by omega) (by omega)).1)) em_nil) o_listT) (em_var (t := (kL K (k2 K kI kI))) (v := (.ref p_435)) (x := s_561) rfl r_581) (o_neD (dL (d2 dI dI)) (by decide)))) (fun h_592 => (gt_and (gt_test (em_op (em_op (em_var (t := (kR K c)) (v := v_367) (x := p_360.1) rfl r_590) em_int (o_rowK (j := 0) rfl rfl)) (em_op (em_var (t := (kR K c)) (v := v_368) (x := p_360.2) rfl r_591) em_int (o_rowK (j := 0) rfl rfl)) o_IB)) (fun h_593 => (gt_test (em_op (em_reS0 (i := 5) (by exact sh_er (of_decide_eq_true h_593)) (em_toldR (ag := fun σ2 => σ2 = _) (em_cons (em_lamC (n := 1) (t := kLam (lawX P w K mg base f cc A outer s H E) cl 9 (fun σ2 => σ2 = _) (kT K (k2 K kI kI))) (x := (f_share_of_years (c, p_360.2, p_360.1, ()) )) rfl (nc_cons (nc_cons nc_nil nc_tab) nc_dice) (lam_r (LamX.lamS_by (sc := defScope sLaw) (by decide +kernel)) (fun _ _ _ => rfl) (fun f2 cc2 A2 outer2 s2 H2 E2 hr2 => (pe_k L.c_share_of_years hr2 (by decide) (passE (E := E2)) (pa_cons (pv 2) (pa_cons (pe_ix ix_tup (pv 20) pe_int (fun _ _ => rfl)) (pa_cons (pe_ix ix_tup (pv 19) pe_int (fun _ _ => rfl)) pa_nil))))) (fun i h => by rw [show (f_share_of_years (c, p_360.2, p_360.1, ()) ) = .er 5 from by exact sh_er (of_decide_eq_true h_593)] at h; cases h; decide) (fun E2 M2 S2 σ2 I2 e ag => by subst ag; exact (em_call (a := (c, p_360.2, p_360.1, ()) ) (em_cons (em_var (t := (kCal K C)) (v := (.ref a_1)) (x := c) rfl ((kCal K C).up e r_584)) (em_cons (em_op (em_var (t := (kR K c)) (v := v_368) (x := p_360.2) rfl ((kR K c).up e r_591)) em_int (o_rowK (j := 0) rfl rfl)) (em_cons (em_op (em_var (t := (kR K c)) (v := v_367) (x := p_360.1) rfl ((kR K c).up e r_590)) em_int (o_rowK (j := 0) rfl rfl)) em_nil))) args_id (by show _ ≤ (1000 : Int); omega))))) em_nil) rfl)) em_str o_neS)))))) (fun hb_597 o_598 H_596 g_599 w_600 => ?_) (fun hb_602 o_603 H_601 g_604 w_605 => ?_)
                    · try simp only [decide_eq_true_eq, decide_eq_false_iff_not, Bool.and_eq_true, Bool.or_eq_true, Bool.and_eq_false_iff, Bool.or_eq_false_iff, Bool.not_eq_true', Bool.not_eq_false'] at hb_597
                      have r_606 := (kCal K C).up g_599.im r_584
                      have r_607 := (kL K (kR K c)).up g_599.im r_585
                      have r_608 := (kR K c).up g_599.im r_586
                      have r_609 := (kL K kI).up g_599.im r_587
                      have r_610 := (kL K kI).up g_599.im r_588
                      have r_611 := (kR K c).up g_599.im r_589
                      have r_612 := (kR K c).up g_599.im r_590
                      have r_613 := (kR K c).up g_599.im r_591
                      have r_614 := (kL K (k2 K kI kI)).up g_599.im r_581
                      exact absurd o_598 Bool.false_ne_true
                    · try simp only [decide_eq_true_eq, decide_eq_false_iff_not, Bool.and_eq_true, Bool.or_eq_true, Bool.and_eq_false_iff, Bool.or_eq_false_iff, Bool.not_eq_true', Bool.not_eq_false'] at hb_602
                      have r_615 := (kCal K C).up g_604.im r_584
                      have r_616 := (kL K (kR K c)).up g_604.im r_585
                      have r_617 := (kR K c).up g_604.im r_586
                      have r_618 := (kL K kI).up g_604.im r_587
                      have r_619 := (kL K kI).up g_604.im r_588
                      have r_620 := (kR K c).up g_604.im r_589
                      have r_621 := (kR K c).up g_604.im r_590
                      have r_622 := (kR K c).up g_604.im r_591
                      have r_623 := (kL K (k2 K kI kI)).up g_604.im r_581
                      refine g_asg (E := E0) (cl := cl) (i := 26) (t := kI) (x := ((1 : Int) + (roll (roll (roll (roll (runE (fun (_ : Int) (q : Dice) => (true, q)) (fun (x_184 : Int) (z_192 : Dice) => (((1 : Int) + (roll z_192 (3 : Int)).1), (roll z_192 (3 : Int)).2)) (rng 0 ((1 : Int) + (roll (roll (roll (roll z (Ca.firstOf c 6)).2 many_7).2 ((((rng (1 : Int) (many_7 + (1 : Int))).filter (fun x_79 => (decide ((many_7 % x_79) = (0 : Int))))).map (fun x_79 => x_79)).length : Int)).2 (3 : Int)).1)) (roll (roll (roll (roll z (Ca.firstOf c 6)).2 many_7).2 ((((rng (1 : Int) (many_7 + (1 : Int))).filter (fun x_79 => (decide ((many_7 % x_79) = (0 : Int))))).map (fun x_79 => x_79)).length : Int)).2 (3 : Int)).2).2 (20 : Int)).2 (Ca.firstOf c 6)).2 (4 : Int)).2 (3 : Int)).1)) w_605 o_603 (em_op em_int (em_roll (n := 0) (em_cons (em_var (t := kPtr d) (v := .ref d) (x := ()) rfl rfl) (em_cons em_int em_nil)) rfl (by omega)) o_I) (fun step_624 v_625 H_626 hx_627 o_628 g_629 w_630 r_631 => ?_)
                      have r_632 := (kCal K C).up g_629.im r_615
                      have r_633 := (kL K (kR K c)).up g_629.im r_616
                      have r_634 := (kR K c).up g_629.im r_617
                      have r_635 := (kL K kI).up g_629.im r_618
                      have r_636 := (kL K kI).up g_629.im r_619
                      have r_637 := (kR K c).up g_629.im r_620
                      have r_638 := (kR K c).up g_629.im r_621
                      have r_639 := (kR K c).up g_629.im r_622
                      have r_640 := (kL K (k2 K kI kI)).up g_629.im r_623
                      obtain rfl : v_625 = (.int step_624) := r_631
                      refine nrm (σ' := [some (.ref sc), some (.ref d), some (.ref a_1), some (.int many_7), some v_17, some v_27, some (.int first_26), some (.int year_39), some (.int size_90), some (.int part_101), some (.int start_128), some v_151, some v_198, some (.int from_day_197), some (.int week_212), some (.int place_318), some (.int left_319), l_325, some v_348, some v_367, some v_368, some (.int count_377), some (.int months_393), some (.ref p_435), l_577, l_578, some (.int step_624), l27, l28, l29, l30, l31]) rfl ?_
                      have stepB : 1 ≤ step_624 ∧ step_624 ≤ 3 := by rw [hx_627]; have q := roll_in ((roll (roll (roll (runE (fun (_ : Int) (q : Dice) => (true, q)) (fun (x_184 : Int) (z_192 : Dice) => (((1 : Int) + (roll z_192 (3 : Int)).1), (roll z_192 (3 : Int)).2)) (rng 0 ((1 : Int) + (roll (roll (roll (roll z (Ca.firstOf c 6)).2 many_7).2 ((((rng (1 : Int) (many_7 + (1 : Int))).filter (fun x_79 => (decide ((many_7 % x_79) = (0 : Int))))).map (fun x_79 => x_79)).length : Int)).2 (3 : Int)).1)) (roll (roll (roll (roll z (Ca.firstOf c 6)).2 many_7).2 ((((rng (1 : Int) (many_7 + (1 : Int))).filter (fun x_79 => (decide ((many_7 % x_79) = (0 : Int))))).map (fun x_79 => x_79)).length : Int)).2 (3 : Int)).2).2 (20 : Int)).2 (Ca.firstOf c 6)).2 (4 : Int)).2) (m := 3) (by decide); omega
                      refine g_when (E := E0) (cl := cl) (b := (!decide (((rng 0 (4 : Int)).map fun p => monOn c row_25 (step_624 * p)) = ((rng 0 (4 : Int)).map (fun x_641 => (monOn c row_25 (step_624 * x_641))))))) w_630 o_628 (gt_test (em_op (em_cb (em_cons (em_callP (y := ((rng 0 (4 : Int)).map fun p => monOn c row_25 (step_624 * p))) (a := (c, row_25, step_624, (4 : Int), ())) (em_cons (em_var (t := (kCal K C)) (v := (.ref a_1)) (x := c) rfl r_632) (em_cons (em_op (em_var (t := (kR K c)) (v := v_27) (x := row_25) rfl r_634) em_int (o_rowK (j := 0) rfl rfl)) (em_cons (em_var (t := kI) (v := (.int step_624)) (x := step_624) rfl rfl) (em_cons em_int em_nil)))) args_id (by exact ⟨by omega, by omega, by omega, by omega⟩) (by exact due_ok)) em_nil) o_listT) (em_eq (em_lc (K := K) (u := kI) (fun _ => true) (fun x_641 => (monOn c row_25 (step_624 * x_641))) (ei_R1 (em_cons em_int em_nil) (by refine ⟨by omega, by omega⟩)) (by rw [rng_len]; omega) eg_name (fun _ _ _ b => by obtain ⟨_, rfl, rfl⟩ := b; rfl) (fun _ _ _ _ _ _ _ _ => gt_yes) (fun M_647 S_648 I_642 x_641 s_646 e_643 m_644 c_651 b_645 => by obtain ⟨_, rfl, rfl⟩ := b_645; rw [rng_mem] at m_644; exact (em_dNum L.TD (em_callP (y := (c, (monOn c row_25 (step_624 * x_641)))) (a := ((c, row_25), (step_624 * x_641), true, ())) (em_cons (em_mkDay (em_cons (em_var (t := (kCal K C)) (v := (.ref a_1)) (x := c) rfl ((kCal K C).up e_643 r_632)) (em_cons (em_op (em_var (t := (kR K c)) (v := v_27) (x := row_25) rfl ((kR K c).up e_643 r_634)) em_int (o_rowK (j := 0) rfl rfl)) em_nil))) (em_cons (em_op (em_var (t := kI) (v := (.int step_624)) (x := step_624) rfl rfl) (em_var (t := kI) (v := (.int x_641)) (x := x_641) rfl rfl) (o_IC (by first | exact .inl ⟨by omega, by omega⟩ | exact .inr ⟨by omega, by omega⟩))) em_nil)) args_mo (by exact trivial) (by exact months_ok))))) (by rw [filter_yes])) (o_neD (dL dI) (by decide)))) (fun hb_653 o_654 H_652 g_655 w_656 => ?_) (fun hb_658 o_659 H_657 g_660 w_661 => ?_)
                      · try simp only [decide_eq_true_eq, decide_eq_false_iff_not, Bool.and_eq_true, Bool.or_eq_true, Bool.and_eq_false_iff, Bool.or_eq_false_iff, Bool.not_eq_true', Bool.not_eq_false'] at hb_653
                        have r_662 := (kCal K C).up g_655.im r_632
                        have r_663 := (kL K (kR K c)).up g_655.im r_633
                        have r_664 := (kR K c).up g_655.im r_634
                        have r_665 := (kL K kI).up g_655.im r_635
                        have r_666 := (kL K kI).up g_655.im r_636
                        have r_667 := (kR K c).up g_655.im r_637
                        have r_668 := (kR K c).up g_655.im r_638
                        have r_669 := (kR K c).up g_655.im r_639
                        have r_670 := (kL K (k2 K kI kI)).up g_655.im r_640
                        exact absurd o_654 Bool.false_ne_true
                      · try simp only [decide_eq_true_eq, decide_eq_false_iff_not, Bool.and_eq_true, Bool.or_eq_true, Bool.and_eq_false_iff, Bool.or_eq_false_iff, Bool.not_eq_true', Bool.not_eq_false'] at hb_658
                        have r_671 := (kCal K C).up g_660.im r_632
                        have r_672 := (kL K (kR K c)).up g_660.im r_633
                        have r_673 := (kR K c).up g_660.im r_634
                        have r_674 := (kL K kI).up g_660.im r_635
                        have r_675 := (kL K kI).up g_660.im r_636
                        have r_676 := (kR K c).up g_660.im r_637
                        have r_677 := (kR K c).up g_660.im r_638
                        have r_678 := (kR K c).up g_660.im r_639
                        have r_679 := (kL K (k2 K kI kI)).up g_660.im r_640
                        refine g_par (E := E0) (cl := cl) (i := 27) (j := 28) (t := kI) (u := kI) (x := (roll (roll (roll (roll (roll (runE (fun (_ : Int) (q : Dice) => (true, q)) (fun (x_184 : Int) (z_192 : Dice) => (((1 : Int) + (roll z_192 (3 : Int)).1), (roll z_192 (3 : Int)).2)) (rng 0 ((1 : Int) + (roll (roll (roll (roll z (Ca.firstOf c 6)).2 many_7).2 ((((rng (1 : Int) (many_7 + (1 : Int))).filter (fun x_79 => (decide ((many_7 % x_79) = (0 : Int))))).map (fun x_79 => x_79)).length : Int)).2 (3 : Int)).1)) (roll (roll (roll (roll z (Ca.firstOf c 6)).2 many_7).2 ((((rng (1 : Int) (many_7 + (1 : Int))).filter (fun x_79 => (decide ((many_7 % x_79) = (0 : Int))))).map (fun x_79 => x_79)).length : Int)).2 (3 : Int)).2).2 (20 : Int)).2 (Ca.firstOf c 6)).2 (4 : Int)).2 (3 : Int)).2 (100 : Int)).1) (y := ((1 : Int) + (roll (roll (roll (roll (roll (roll (runE (fun (_ : Int) (q : Dice) => (true, q)) (fun (x_184 : Int) (z_192 : Dice) => (((1 : Int) + (roll z_192 (3 : Int)).1), (roll z_192 (3 : Int)).2)) (rng 0 ((1 : Int) + (roll (roll (roll (roll z (Ca.firstOf c 6)).2 many_7).2 ((((rng (1 : Int) (many_7 + (1 : Int))).filter (fun x_79 => (decide ((many_7 % x_79) = (0 : Int))))).map (fun x_79 => x_79)).length : Int)).2 (3 : Int)).1)) (roll (roll (roll (roll z (Ca.firstOf c 6)).2 many_7).2 ((((rng (1 : Int) (many_7 + (1 : Int))).filter (fun x_79 => (decide ((many_7 % x_79) = (0 : Int))))).map (fun x_79 => x_79)).length : Int)).2 (3 : Int)).2).2 (20 : Int)).2 (Ca.firstOf c 6)).2 (4 : Int)).2 (3 : Int)).2 (100 : Int)).2 (7 : Int)).1)) w_661 o_659 (em_cons (em_roll (n := 0) (em_cons (em_var (t := kPtr d) (v := .ref d) (x := ()) rfl rfl) (em_cons em_int em_nil)) rfl (by omega)) (em_cons (em_op em_int (em_roll (n := 0) (em_cons (em_var (t := kPtr d) (v := .ref d) (x := ()) rfl rfl) (em_cons em_int em_nil)) rfl (by omega)) o_I) em_nil)) (fun amount_680 people_681 v_682 v_683 H_686 hx_690 hx_691 o_687 g_688 w_689 r_684 r_685 => ?_)
                        have r_692 := (kCal K C).up g_688.im r_671
                        have r_693 := (kL K (kR K c)).up g_688.im r_672
                        have r_694 := (kR K c).up g_688.im r_673
                        have r_695 := (kL K kI).up g_688.im r_674
                        have r_696 := (kL K kI).up g_688.im r_675
                        have r_697 := (kR K c).up g_688.im r_676
                        have r_698 := (kR K c).up g_688.im r_677
                        have r_699 := (kR K c).up g_688.im r_678
                        have r_700 := (kL K (k2 K kI kI)).up g_688.im r_679
                        obtain rfl : v_682 = (.int amount_680) := r_684
                        obtain rfl : v_683 = (.int people_681) := r_685
                        refine nrm (σ' := [some (.ref sc), some (.ref d), some (.ref a_1), some (.int many_7), some v_17, some v_27, some (.int first_26), some (.int year_39), some (.int size_90), some (.int part_101), some (.int start_128), some v_151, some v_198, some (.int from_day_197), some (.int week_212), some (.int place_318), some (.int left_319), l_325, some v_348, some v_367, some v_368, some (.int count_377), some (.int months_393), some (.ref p_435), l_577, l_578, some (.int step_624), some (.int amount_680), some (.int people_681), l29, l30, l31]) rfl ?_
                        have amB : 0 ≤ amount_680 ∧ amount_680 < 100 := by rw [hx_690]; exact roll_in _ (by decide)
                        have peB : 1 ≤ people_681 ∧ people_681 ≤ 7 := by rw [hx_691]; have q := roll_in (roll ((roll (roll (roll (roll (runE (fun (_ : Int) (q : Dice) => (true, q)) (fun (x_184 : Int) (z_192 : Dice) => (((1 : Int) + (roll z_192 (3 : Int)).1), (roll z_192 (3 : Int)).2)) (rng 0 ((1 : Int) + (roll (roll (roll (roll z (Ca.firstOf c 6)).2 many_7).2 ((((rng (1 : Int) (many_7 + (1 : Int))).filter (fun x_79 => (decide ((many_7 % x_79) = (0 : Int))))).map (fun x_79 => x_79)).length : Int)).2 (3 : Int)).1)) (roll (roll (roll (roll z (Ca.firstOf c 6)).2 many_7).2 ((((rng (1 : Int) (many_7 + (1 : Int))).filter (fun x_79 => (decide ((many_7 % x_79) = (0 : Int))))).map (fun x_79 => x_79)).length : Int)).2 (3 : Int)).2).2 (20 : Int)).2 (Ca.firstOf c 6)).2 (4 : Int)).2 (3 : Int)).2) 100).2 (m := 7) (by decide); omega
                        refine g_asg (E := E0) (cl := cl) (i := 29) (t := (kT K kI)) (x := (sprV amount_680 people_681)) w_689 o_687 (em_callP (y := (sprV amount_680 people_681)) (a := (amount_680, people_681, ())) (em_cons (em_var (t := kI) (v := (.int amount_680)) (x := amount_680) rfl rfl) (em_cons (em_var (t := kI) (v := (.int people_681)) (x := people_681) rfl rfl) em_nil)) args_id (by show _ ≤ (1000 : Int); omega) (by exact spr_ok (by omega))) (fun shares_701 v_702 H_703 hx_704 o_705 g_706 w_707 r_708 => ?_)
                        subst hx_704
                        have r_709 := (kCal K C).up g_706.im r_692
                        have r_710 := (kL K (kR K c)).up g_706.im r_693
                        have r_711 := (kR K c).up g_706.im r_694
                        have r_712 := (kL K kI).up g_706.im r_695
                        have r_713 := (kL K kI).up g_706.im r_696
                        have r_714 := (kR K c).up g_706.im r_697
                        have r_715 := (kR K c).up g_706.im r_698
                        have r_716 := (kR K c).up g_706.im r_699
                        have r_717 := (kL K (k2 K kI kI)).up g_706.im r_700
                        refine nrm (σ' := [some (.ref sc), some (.ref d), some (.ref a_1), some (.int many_7), some v_17, some v_27, some (.int first_26), some (.int year_39), some (.int size_90), some (.int part_101), some (.int start_128), some v_151, some v_198, some (.int from_day_197), some (.int week_212), some (.int place_318), some (.int left_319), l_325, some v_348, some v_367, some v_368, some (.int count_377), some (.int months_393), some (.ref p_435), l_577, l_578, some (.int step_624), some (.int amount_680), some (.int people_681), some v_702, l30, l31]) rfl ?_
                        have spL := spr_len (a := amount_680) peB.1
                        refine g_when (E := E0) (cl := cl) (b := (!decide (((sprV amount_680 people_681).sum) = amount_680))) w_707 o_705 (gt_test (em_op (em_cb (em_cons (em_var (t := (kT K kI)) (v := v_702) (x := (sprV amount_680 people_681)) rfl r_708) em_nil) o_sumT) (em_var (t := kI) (v := (.int amount_680)) (x := amount_680) rfl rfl) o_neI)) (fun hb_719 o_720 H_718 g_721 w_722 => ?_) (fun hb_724 o_725 H_723 g_726 w_727 => ?_)
                        · try simp only [decide_eq_true_eq, decide_eq_false_iff_not, Bool.and_eq_true, Bool.or_eq_true, Bool.and_eq_false_iff, Bool.or_eq_false_iff, Bool.not_eq_true', Bool.not_eq_false'] at hb_719
                          have r_728 := (kCal K C).up g_721.im r_709
                          have r_729 := (kL K (kR K c)).up g_721.im r_710
                          have r_730 := (kR K c).up g_721.im r_711
                          have r_731 := (kL K kI).up g_721.im r_712
                          have r_732 := (kL K kI).up g_721.im r_713
                          have r_733 := (kR K c).up g_721.im r_714
                          have r_734 := (kR K c).up g_721.im r_715
                          have r_735 := (kR K c).up g_721.im r_716
                          have r_736 := (kL K (k2 K kI kI)).up g_721.im r_717
                          have r_737 := (kT K kI).up g_721.im r_708
                          exact absurd o_720 Bool.false_ne_true
                        · try simp only [decide_eq_true_eq, decide_eq_false_iff_not, Bool.and_eq_true, Bool.or_eq_true, Bool.and_eq_false_iff, Bool.or_eq_false_iff, Bool.not_eq_true', Bool.not_eq_false'] at hb_724
                          have r_738 := (kCal K C).up g_726.im r_709
                          have r_739 := (kL K (kR K c)).up g_726.im r_710
                          have r_740 := (kR K c).up g_726.im r_711
                          have r_741 := (kL K kI).up g_726.im r_712
                          have r_742 := (kL K kI).up g_726.im r_713
                          have r_743 := (kR K c).up g_726.im r_714
                          have r_744 := (kR K c).up g_726.im r_715
                          have r_745 := (kR K c).up g_726.im r_716
                          have r_746 := (kL K (k2 K kI kI)).up g_726.im r_717
                          have r_747 := (kT K kI).up g_726.im r_708
                          refine g_when (E := E0) (cl := cl) (b := (!decide (((sprV amount_680 people_681).length : Int) = people_681))) w_727 o_725 (gt_test (em_op (em_cb (em_cons (em_var (t := (kT K kI)) (v := v_702) (x := (sprV amount_680 people_681)) rfl r_747) em_nil) o_lenT) (em_var (t := kI) (v := (.int people_681)) (x := people_681) rfl rfl) o_neI)) (fun hb_749 o_750 H_748 g_751 w_752 => ?_) (fun hb_754 o_755 H_753 g_756 w_757 => ?_)
                          · try simp only [decide_eq_true_eq, decide_eq_false_iff_not, Bool.and_eq_true, Bool.or_eq_true, Bool.and_eq_false_iff, Bool.or_eq_false_iff, Bool.not_eq_true', Bool.not_eq_false'] at hb_749
                            have r_758 := (kCal K C).up g_751.im r_738
                            have r_759 := (kL K (kR K c)).up g_751.im r_739
                            have r_760 := (kR K c).up g_751.im r_740
                            have r_761 := (kL K kI).up g_751.im r_741
                            have r_762 := (kL K kI).up g_751.im r_742
                            have r_763 := (kR K c).up g_751.im r_743
                            have r_764 := (kR K c).up g_751.im r_744
                            have r_765 := (kR K c).up g_751.im r_745
                            have r_766 := (kL K (k2 K kI kI)).up g_751.im r_746
                            have r_767 := (kT K kI).up g_751.im r_747
                            exact absurd o_750 Bool.false_ne_true
                          · try simp only [decide_eq_true_eq, decide_eq_false_iff_not, Bool.and_eq_true, Bool.or_eq_true, Bool.and_eq_false_iff, Bool.or_eq_false_iff, Bool.not_eq_true', Bool.not_eq_false'] at hb_754
                            have r_768 := (kCal K C).up g_756.im r_738
                            have r_769 := (kL K (kR K c)).up g_756.im r_739
                            have r_770 := (kR K c).up g_756.im r_740
                            have r_771 := (kL K kI).up g_756.im r_741
                            have r_772 := (kL K kI).up g_756.im r_742
                            have r_773 := (kR K c).up g_756.im r_743
                            have r_774 := (kR K c).up g_756.im r_744
                            have r_775 := (kR K c).up g_756.im r_745
                            have r_776 := (kL K (k2 K kI kI)).up g_756.im r_746
                            have r_777 := (kT K kI).up g_756.im r_747
                            refine g_when (E := E0) (cl := cl) (b := (decide ((1 : Int) < ((topOf (sprV amount_680 people_681)) - (minOf (sprV amount_680 people_681)))))) w_757 o_755 (gt_test (em_op (em_op (em_cb (em_cons (em_var (t := (kT K kI)) (v := v_702) (x := (sprV amount_680 people_681)) rfl r_777) em_nil) (o_maxT (by omega))) (em_cb (em_cons (em_var (t := (kT K kI)) (v := v_702) (x := (sprV amount_680 people_681)) rfl r_777) em_nil) (o_minT (by omega))) o_I) em_int o_IB)) (fun hb_779 o_780 H_778 g_781 w_782 => ?_) (fun hb_784 o_785 H_783 g_786 w_787 => ?_)
                            · try simp only [decide_eq_true_eq, decide_eq_false_iff_not, Bool.and_eq_true, Bool.or_eq_true, Bool.and_eq_false_iff, Bool.or_eq_false_iff, Bool.not_eq_true', Bool.not_eq_false'] at hb_779
                              have r_788 := (kCal K C).up g_781.im r_768
                              have r_789 := (kL K (kR K c)).up g_781.im r_769
                              have r_790 := (kR K c).up g_781.im r_770
                              have r_791 := (kL K kI).up g_781.im r_771
                              have r_792 := (kL K kI).up g_781.im r_772
                              have r_793 := (kR K c).up g_781.im r_773
                              have r_794 := (kR K c).up g_781.im r_774
                              have r_795 := (kR K c).up g_781.im r_775
                              have r_796 := (kL K (k2 K kI kI)).up g_781.im r_776
                              have r_797 := (kT K kI).up g_781.im r_777
                              exact absurd o_780 Bool.false_ne_true
                            · try simp only [decide_eq_true_eq, decide_eq_false_iff_not, Bool.and_eq_true, Bool.or_eq_true, Bool.and_eq_false_iff, Bool.or_eq_false_iff, Bool.not_eq_true', Bool.not_eq_false'] at hb_784
                              have r_798 := (kCal K C).up g_786.im r_768
                              have r_799 := (kL K (kR K c)).up g_786.im r_769
                              have r_800 := (kR K c).up g_786.im r_770
                              have r_801 := (kL K kI).up g_786.im r_771
                              have r_802 := (kL K kI).up g_786.im r_772
                              have r_803 := (kR K c).up g_786.im r_773
                              have r_804 := (kR K c).up g_786.im r_774
                              have r_805 := (kR K c).up g_786.im r_775
                              have r_806 := (kL K (k2 K kI kI)).up g_786.im r_776
                              have r_807 := (kT K kI).up g_786.im r_777
                              refine g_ifL (E := E0) (cl := cl) (b := (!decide ((sprV amount_680 people_681) = (sprV amount_680 people_681)))) w_787 o_785 (gt_test (em_op (em_cb (em_cons (em_var (t := (kT K kI)) (v := v_702) (x := (sprV amount_680 people_681)) rfl r_807) em_nil) o_listT) (em_srtT (em_var (t := (kT K kI)) (v := v_702) (x := (sprV amount_680 people_681)) rfl r_807) spr_desc) (o_neD (dL dI) (by decide)))) (fun hb_809 o_810 H_808 g_811 w_812 => ?_) (fun hb_814 o_815 H_813 g_816 w_817 => ?_)
                              · try simp only [decide_eq_true_eq, decide_eq_false_iff_not, Bool.and_eq_true, Bool.or_eq_true, Bool.and_eq_false_iff, Bool.or_eq_false_iff, Bool.not_eq_true', Bool.not_eq_false'] at hb_809
                                have r_818 := (kCal K C).up g_811.im r_798
                                have r_819 := (kL K (kR K c)).up g_811.im r_799
                                have r_820 := (kR K c).up g_811.im r_800
                                have r_821 := (kL K kI).up g_811.im r_801
                                have r_822 := (kL K kI).up g_811.im r_802
                                have r_823 := (kR K c).up g_811.im r_803
                                have r_824 := (kR K c).up g_811.im r_804
                                have r_825 := (kR K c).up g_811.im r_805
                                have r_826 := (kL K (k2 K kI kI)).up g_811.im r_806
                                have r_827 := (kT K kI).up g_811.im r_807
                                exact absurd o_810 Bool.false_ne_true
                              · try simp only [decide_eq_true_eq, decide_eq_false_iff_not, Bool.and_eq_true, Bool.or_eq_true, Bool.and_eq_false_iff, Bool.or_eq_false_iff, Bool.not_eq_true', Bool.not_eq_false'] at hb_814
                                have r_828 := (kCal K C).up g_816.im r_798
                                have r_829 := (kL K (kR K c)).up g_816.im r_799
                                have r_830 := (kR K c).up g_816.im r_800
                                have r_831 := (kL K kI).up g_816.im r_801
                                have r_832 := (kL K kI).up g_816.im r_802
                                have r_833 := (kR K c).up g_816.im r_803
                                have r_834 := (kR K c).up g_816.im r_804
                                have r_835 := (kR K c).up g_816.im r_805
                                have r_836 := (kL K (k2 K kI kI)).up g_816.im r_806
                                have r_837 := (kT K kI).up g_816.im r_807
                                exact nx _ _ _ ⟨_, _, _, _, _, _, _, _, _, _, _, _, _, _, _, _, _, _, _, _, _, _, _, _, _, _, _, _, _, _, _, rfl⟩ (Gr.cast (((((((((g_582.then g_604 rfl).then g_629 rfl).then g_660 rfl).then g_688 rfl).then g_706 rfl).then g_726 rfl).then g_756 rfl).then g_786 rfl).then g_816 rfl) rfl) w_817
                  · obtain ⟨l_469, l_470, rfl, iv_471⟩ := rv_460
                    simp only [List.length_cons] at iv_471
                    have r_472 := (kCal K C).up g_457.im r_441
                    have r_473 := (kL K (kR K c)).up g_457.im r_442
                    have r_474 := (kR K c).up g_457.im r_443
                    have r_475 := (kL K kI).up g_457.im r_444
                    have r_476 := (kL K kI).up g_457.im r_445
                    have r_477 := (kR K c).up g_457.im r_446
                    have r_478 := (kR K c).up g_457.im r_447
                    have r_479 := (kR K c).up g_457.im r_448
                    obtain ⟨_, rfl, rfl⟩ := b_461
                    rw [rng_mem] at hm_456
                    refine nrm (σ' := [some (.ref sc), some (.ref d), some (.ref a_1), some (.int many_7), some v_17, some v_27, some (.int first_26), some (.int year_39), some (.int size_90), some (.int part_101), some (.int start_128), some v_151, some v_198, some (.int from_day_197), some (.int week_212), some (.int place_318), some (.int left_319), l_325, some v_348, some v_367, some v_368, some (.int count_377), some (.int months_393), some (.ref p_435), some (.int x_449), l_470, l26, l27, l28, l29, l30, l31]) rfl ?_
                    refine g_asg (E := E0) (cl := cl) (i := 25) (t := kI) (x := ((((rng 0 (c.firstOf 6)).filter (fun x_480 => ((decide ((yearOf c x_480) = x_449)) && ((decide (p_360.1 ≤ x_480)) && (decide (x_480 < p_360.2)))))).map (fun x_480 => x_480)).length : Int)) w_458 o_462 (em_cb (em_cons (em_lc (K := K) (u := (kR K c)) (fun x_480 => ((decide ((yearOf c x_480) = x_449)) && ((decide (p_360.1 ≤ x_480)) && (decide (x_480 < p_360.2))))) (fun x_480 => x_480) (ei_L (em_var (t := (kL K (kR K c))) (v := v_17) (x := (rng 0 (c.firstOf 6))) rfl r_473)) (by rw [rng_len]; omega) eg_name (fun _ _ _ b => by obtain ⟨v_488, r_489, rfl⟩ := b; rfl) (fun M_486 S_487 I_481 x_480 s_485 e_482 m_483 b_484 => by obtain ⟨v_488, r_489, rfl⟩ := b_484; rw [rng_mem] at m_483; exact (gt_and (gt_test (em_op (em_op (em_var (t := (kR K c)) (v := v_488) (x := x_480) rfl r_489) em_int (o_rowK (j := 1) rfl rfl)) (em_var (t := kI) (v := (.int x_449)) (x := x_449) rfl rfl) o_eqI)) (fun h_491 => (gt_test (em_chain (em_op (em_var (t := (kR K c)) (v := v_367) (x := p_360.1) rfl ((kR K c).up e_482 r_478)) em_int (o_rowK (j := 0) rfl rfl)) (em_op (em_var (t := (kR K c)) (v := v_488) (x := x_480) rfl r_489) em_int (o_rowK (j := 0) rfl rfl)) (fun _ => (em_op (em_var (t := (kR K c)) (v := v_368) (x := p_360.2) rfl ((kR K c).up e_482 r_479)) em_int (o_rowK (j := 0) rfl rfl))) o_IB o_IB))))) (fun M_486 S_487 I_481 x_480 s_485 e_482 m_483 c_490 b_484 => by obtain ⟨v_488, r_489, rfl⟩ := b_484; rw [rng_mem] at m_483; exact (em_var (t := (kR K c)) (v := v_488) (x := x_480) rfl r_489))) em_nil) o_lenL) (fun days_493 v_494 H_495 hx_496 o_497 g_498 w_499 r_500 => ?_)
                    have r_501 := (kCal K C).up g_498.im r_472
                    have r_502 := (kL K (kR K c)).up g_498.im r_473
                    have r_503 := (kR K c).up g_498.im r_474
                    have r_504 := (kL K kI).up g_498.im r_475
                    have r_505 := (kL K kI).up g_498.im r_476
                    have r_506 := (kR K c).up g_498.im r_477
                    have r_507 := (kR K c).up g_498.im r_478
                    have r_508 := (kR K c).up g_498.im r_479
                    obtain rfl : v_494 = (.int days_493) := r_500
                    refine nrm (σ' := [some (.ref sc), some (.ref d), some (.ref a_1), some (.int many_7), some v_17, some v_27, some (.int first_26), some (.int year_39), some (.int size_90), some (.int part_101), some (.int start_128), some v_151, some v_198, some (.int from_day_197), some (.int week_212), some (.int place_318), some (.int left_319), l_325, some v_348, some v_367, some v_368, some (.int count_377), some (.int months_393), some (.ref p_435), some (.int x_449), some (.int days_493), l26, l27, l28, l29, l30, l31]) rfl ?_
                    refine g_ifL (E := E0) (cl := cl) (b := (decide ((0 : Int) < days_493))) w_499 o_497 (gt_test (em_op (em_var (t := kI) (v := (.int days_493)) (x := days_493) rfl rfl) em_int o_IB)) (fun hb_510 o_511 H_509 g_512 w_513 => ?_) (fun hb_515 o_516 H_514 g_517 w_518 => ?_)
                    · try simp only [decide_eq_true_eq, decide_eq_false_iff_not, Bool.and_eq_true, Bool.or_eq_true, Bool.and_eq_false_iff, Bool.or_eq_false_iff, Bool.not_eq_true', Bool.not_eq_false'] at hb_510
                      have r_519 := (kCal K C).up g_512.im r_501
                      have r_520 := (kL K (kR K c)).up g_512.im r_502
                      have r_521 := (kR K c).up g_512.im r_503
                      have r_522 := (kL K kI).up g_512.im r_504
                      have r_523 := (kL K kI).up g_512.im r_505
                      have r_524 := (kR K c).up g_512.im r_506
                      have r_525 := (kR K c).up g_512.im r_507
                      have r_526 := (kR K c).up g_512.im r_508
                      refine g_appL (E := E0) (cl := cl) (n := 0) (t := (k2 K kI kI)) (acc0 := s_450) (acc := s_450) (x := (days_493, ((((rng 0 (c.firstOf 6)).filter (fun x_527 => (decide ((yearOf c x_527) = x_449)))).map (fun x_527 => x_527)).length : Int))) w_513 o_511 (em_var (t := kPtr p_435) (v := (.ref p_435)) (x := ()) rfl rfl) (em_t2 K (em_cons (em_var (t := kI) (v := (.int days_493)) (x := days_493) rfl rfl) (em_cons (em_cb (em_cons (em_lc (K := K) (u := (kR K c)) (fun x_527 => (decide ((yearOf c x_527) = x_449))) (fun x_527 => x_527) (ei_L (em_var (t := (kL K (kR K c))) (v := v_17) (x := (rng 0 (c.firstOf 6))) rfl r_520)) (by rw [rng_len]; omega) eg_name (fun _ _ _ b => by obtain ⟨v_535, r_536, rfl⟩ := b; rfl) (fun M_533 S_534 I_528 x_527 s_532 e_529 m_530 b_531 => by obtain ⟨v_535, r_536, rfl⟩ := b_531; rw [rng_mem] at m_530; exact (gt_test (em_op (em_op (em_var (t := (kR K c)) (v := v_535) (x := x_527) rfl r_536) em_int (o_rowK (j := 1) rfl rfl)) (em_var (t := kI) (v := (.int x_449)) (x := x_449) rfl rfl) o_eqI))) (fun M_533 S_534 I_528 x_527 s_532 e_529 m_530 c_537 b_531 => by obtain ⟨v_535, r_536, rfl⟩ := b_531; rw [rng_mem] at m_530; exact (em_var (t := (kR K c)) (v := v_535) (x := x_527) rfl r_536))) em_nil) o_lenL) em_nil))) rfl rfl (by omega) (fun parts_538 H_539 hx_540 o_541 g_542 w_543 => ?_)
                      have r_544 := (kCal K C).up g_542.im r_519
                      have r_545 := (kL K (kR K c)).up g_542.im r_520
                      have r_546 := (kR K c).up g_542.im r_521
                      have r_547 := (kL K kI).up g_542.im r_522
                      have r_548 := (kL K kI).up g_542.im r_523
                      have r_549 := (kR K c).up g_542.im r_524
                      have r_550 := (kR K c).up g_542.im r_525
                      have r_551 := (kR K c).up g_542.im r_526
                      have ln_552 : parts_538.length = s_450.length + 1 := by rw [hx_540, List.length_append]; rfl
                      exact nx_464 (parts_538) _ _ o_541 (Gr.cast ((g_498.then g_512 rfl).then g_542 rfl) rfl) w_543 ⟨_, _, rfl, by omega⟩
                    · try simp only [decide_eq_true_eq, decide_eq_false_iff_not, Bool.and_eq_true, Bool.or_eq_true, Bool.and_eq_false_iff, Bool.or_eq_false_iff, Bool.not_eq_true', Bool.not_eq_false'] at hb_515
                      have r_553 := (kCal K C).up g_517.im r_501
                      have r_554 := (kL K (kR K c)).up g_517.im r_502
                      have r_555 := (kR K c).up g_517.im r_503
                      have r_556 := (kL K kI).up g_517.im r_504
                      have r_557 := (kL K kI).up g_517.im r_505
                      have r_558 := (kR K c).up g_517.im r_506
                      have r_559 := (kR K c).up g_517.im r_507
                      have r_560 := (kR K c).up g_517.im r_508
                      exact nx_464 (s_450) _ _ o_516 (Gr.cast (g_498.then g_517 rfl) rfl) w_518 ⟨_, _, rfl, by omega⟩
            · obtain ⟨place_252, left_253⟩ := s_234
              obtain ⟨l_254, rfl⟩ := rv_244
              have r_256 := (kCal K C).up g_241.im r_228
              have r_257 := (kL K (kR K c)).up g_241.im r_229
              have r_258 := (kR K c).up g_241.im r_230
              have r_259 := (kL K kI).up g_241.im r_231
              have r_260 := (kL K kI).up g_241.im r_232
              obtain ⟨_, rfl, rfl⟩ := b_245
              rw [rng_mem] at hm_240
              refine nrm (σ' := [some (.ref sc), some (.ref d), some (.ref a_1), some (.int many_7), some v_17, some v_27, some (.int first_26), some (.int year_39), some (.int size_90), some (.int part_101), some (.int start_128), some v_151, some v_198, some (.int from_day_197), some (.int week_212), some (.int place_252), some (.int left_253), some (.int x_233), l18, l19, l20, l21, l22, l23, l24, l25, l26, l27, l28, l29, l30, l31]) rfl ?_
              refine g_asg (E := E0) (cl := cl) (i := 16) (t := kI) (x := (left_253 + (1 : Int))) w_242 o_246 (em_op (em_var (t := kI) (v := (.int left_253)) (x := left_253) rfl rfl) em_int o_I) (fun left_261 v_262 H_263 hx_264 o_265 g_266 w_267 r_268 => ?_)
              have r_269 := (kCal K C).up g_266.im r_256
              have r_270 := (kL K (kR K c)).up g_266.im r_257
              have r_271 := (kR K c).up g_266.im r_258
              have r_272 := (kL K kI).up g_266.im r_259
              have r_273 := (kL K kI).up g_266.im r_260
              obtain rfl : v_262 = (.int left_261) := r_268
              refine nrm (σ' := [some (.ref sc), some (.ref d), some (.ref a_1), some (.int many_7), some v_17, some v_27, some (.int first_26), some (.int year_39), some (.int size_90), some (.int part_101), some (.int start_128), some v_151, some v_198, some (.int from_day_197), some (.int week_212), some (.int place_252), some (.int left_261), some (.int x_233), l18, l19, l20, l21, l22, l23, l24, l25, l26, l27, l28, l29, l30, l31]) rfl ?_
              refine g_ifL (E := E0) (cl := cl) (b := (decide (left_261 = ((atI pattern_196 (place_252 % (pattern_196.length : Int))).getD 0)))) w_267 o_265 (gt_test (em_op (em_var (t := kI) (v := (.int left_261)) (x := left_261) rfl rfl) (em_op (em_var (t := (kL K kI)) (v := v_198) (x := pattern_196) rfl r_273) (em_op (em_var (t := kI) (v := (.int place_252)) (x := place_252) rfl rfl) (em_cb (em_cons (em_var (t := (kL K kI)) (v := v_198) (x := pattern_196) rfl r_273) em_nil) o_lenL) (o_IC (C := fun _ j => 0 < j) (by show (0 : Int) < _; omega))) (o_ixLI (at_in (by have q0 := Int.emod_nonneg place_252 (show (pattern_196.length : Int) ≠ 0 by omega); have q1 := Int.emod_lt_of_pos place_252 (show 0 < (pattern_196.length : Int) by omega); omega)))) o_eqI)) (fun hb_275 o_276 H_274 g_277 w_278 => ?_) (fun hb_280 o_281 H_279 g_282 w_283 => ?_)
              · try simp only [decide_eq_true_eq, decide_eq_false_iff_not, Bool.and_eq_true, Bool.or_eq_true, Bool.and_eq_false_iff, Bool.or_eq_false_iff, Bool.not_eq_true', Bool.not_eq_false'] at hb_275
                have r_284 := (kCal K C).up g_277.im r_269
                have r_285 := (kL K (kR K c)).up g_277.im r_270
                have r_286 := (kR K c).up g_277.im r_271
                have r_287 := (kL K kI).up g_277.im r_272
                have r_288 := (kL K kI).up g_277.im r_273
                refine g_parL (E := E0) (cl := cl) (i := 15) (j := 16) (t := kI) (u := kI) (x := (place_252 + (1 : Int))) (y := (0 : Int)) w_278 o_276 (em_cons (em_op (em_var (t := kI) (v := (.int place_252)) (x := place_252) rfl rfl) em_int o_I) (em_cons em_int em_nil)) (fun place_289 left_290 v_291 v_292 H_295 hx_299 hx_300 o_296 g_297 w_298 r_293 r_294 => ?_)
                have r_301 := (kCal K C).up g_297.im r_284
                have r_302 := (kL K (kR K c)).up g_297.im r_285
                have r_303 := (kR K c).up g_297.im r_286
                have r_304 := (kL K kI).up g_297.im r_287
                have r_305 := (kL K kI).up g_297.im r_288
                obtain rfl : v_291 = (.int place_289) := r_293
                obtain rfl : v_292 = (.int left_290) := r_294
                exact nx_248 (place_289, left_290) _ _ o_296 (Gr.cast ((g_266.then g_277 rfl).then g_297 rfl) rfl) w_298 ⟨_, rfl⟩
              · try simp only [decide_eq_true_eq, decide_eq_false_iff_not, Bool.and_eq_true, Bool.or_eq_true, Bool.and_eq_false_iff, Bool.or_eq_false_iff, Bool.not_eq_true', Bool.not_eq_false'] at hb_280
                have r_306 := (kCal K C).up g_282.im r_269
                have r_307 := (kL K (kR K c)).up g_282.im r_270
                have r_308 := (kR K c).up g_282.im r_271
                have r_309 := (kL K kI).up g_282.im r_272
                have r_310 := (kL K kI).up g_282.im r_273
                exact nx_248 (place_252, left_261) _ _ o_281 (Gr.cast (g_266.then g_282 rfl) rfl) w_283 ⟨_, rfl⟩
    · obtain ⟨l1, l2, l3, l4, l5, l6, l7, l8, l9, l10, l11, l12, l13, l14, l15, l16, l17, l18, l19, l20, l21, l22, l23, l24, l25, l26, l27, l28, l29, l30, l31, rfl⟩ := hσ
      exact ⟨rfl, kp _ _ nP hT2, fun H9 => q H9⟩
end
end Rw
namespace Rw
open PySem PySem.Spec PyProof.Rows L2 Evl Cy
section
variable {c : Ca} {n f m Y p : Int}
theorem st_key (ok : c.Ok) (y : Int) {g : Int} (h : 0 ≤ g ∧ g < (List.length (Ca.months c) : Int)) (x : Int) : numAt c y g.toNat 0 ≤ x ↔ y * (List.length (Ca.months c) : Int) + g ≤ mnOf c x := by
  have hm : g.toNat < c.months.length := by omega
  have pp := Ca.md_pos ok y hm
  obtain ⟨e1, e2, _⟩ := num_date ok (y := y) (m := g.toNat) (d := 0) hm (by omega) (by omega)
  have e : mnOf c (numAt c y g.toNat 0) = y * (List.length (Ca.months c) : Int) + g := by unfold mnOf; rw [e1, e2]; omega
  constructor
  · intro q
    have := mn_mono ok q
    omega
  · intro q
    rcases Int.lt_or_le x (numAt c y g.toNat 0) with z | z
    · have z1 : mnOf c x = mnOf c (numAt c y g.toNat 0) := by have := mn_mono ok (Int.le_of_lt z); omega
      have z2 := mn_div ok x
      have z3 := mn_div ok (numAt c y g.toNat 0)
      rw [← z1] at z3
      have z4 := date_at ok x
      have z5 := (z4).num
      have z6 := z4.d0
      have m1 : dateM c x = g.toNat := by omega
      have y1 : yearOf c x = y := by omega
      rw [y1, m1] at z5
      unfold numAt
      omega
    · exact z
theorem by_k (ok : c.Ok) (h : 0 ≤ f ∧ f < (List.length (Ca.months c) : Int)) (n : Int) : mnOf c n = byV c n f * (List.length (Ca.months c) : Int) + f + (((dateM c n : Nat) : Int) - f) % (List.length (Ca.months c) : Int) := by
  have m1 := (date_at ok n).m1
  unfold byV mnOf
  by_cases q : ((dateM c n : Nat) : Int) < f
  · have e : (((dateM c n : Nat) : Int) - f) % (List.length (Ca.months c) : Int) = ((dateM c n : Nat) : Int) - f + (List.length (Ca.months c) : Int) := by
      rw [← Int.add_emod_right, Int.emod_eq_of_lt (by omega) (by omega)]
    rw [if_pos q, e, Int.sub_mul]
    omega
  · have e : (((dateM c n : Nat) : Int) - f) % (List.length (Ca.months c) : Int) = ((dateM c n : Nat) : Int) - f := Int.emod_eq_of_lt (by omega) (by omega)
    rw [if_neg q, e]
    omega
def stV (c : Ca) (Y f p m : Int) : Int := numAt c (Y + (f + p * m) / (List.length (Ca.months c) : Int)) ((f + p * m) % (List.length (Ca.months c) : Int)).toNat 0
theorem stV_le (ok : c.Ok) (Y f p m x : Int) : stV c Y f p m ≤ x ↔ Y * (List.length (Ca.months c) : Int) + f + p * m ≤ mnOf c x := by
  have l0 := ok.lm0
  have l1 := ok.lm1
  have g0 := Int.emod_nonneg (f + p * m) (show (List.length (Ca.months c) : Int) ≠ 0 by omega)
  have g1 := Int.emod_lt_of_pos (f + p * m) (show 0 < (List.length (Ca.months c) : Int) by omega)
  have g2 := Int.mul_ediv_add_emod (f + p * m) (List.length (Ca.months c) : Int)
  unfold stV
  rw [st_key ok _ ⟨g0, g1⟩, Int.add_mul, Int.mul_comm ((f + p * m) / _)]
  omega
theorem ins_le (ok : c.Ok) (h : 0 ≤ f ∧ f < (List.length (Ca.months c) : Int)) (hm : 1 ≤ m) (h1 : byV c n f = Y) (h2 : (((dateM c n : Nat) : Int) - f) % (List.length (Ca.months c) : Int) / m = p) : stV c Y f p m ≤ n := by
  rw [stV_le ok, by_k ok h n, h1]
  have := Int.mul_ediv_add_emod ((((dateM c n : Nat) : Int) - f) % (List.length (Ca.months c) : Int)) m
  have := Int.emod_nonneg ((((dateM c n : Nat) : Int) - f) % (List.length (Ca.months c) : Int)) (show m ≠ 0 by omega)
  rw [h2, Int.mul_comm] at *
  omega
theorem start_in (ok : c.Ok) (h : 0 ≤ f ∧ f < (List.length (Ca.months c) : Int)) (hm : 1 ≤ m) (hp : 0 ≤ p ∧ p < (List.length (Ca.months c) : Int) / m) : byV c (stV c Y f p m) f = Y ∧ (((dateM c (stV c Y f p m) : Nat) : Int) - f) % (List.length (Ca.months c) : Int) / m = p := by
  have l0 := ok.lm0
  have l1 := ok.lm1
  have pm0 := Int.mul_nonneg hp.1 (show 0 ≤ m by omega)
  have pm1 : p * m < (List.length (Ca.months c) : Int) := by
    have a : (p + 1) * m ≤ (List.length (Ca.months c) : Int) / m * m := Int.mul_le_mul_of_nonneg_right (by omega) (by omega)
    have b := Int.ediv_mul_le (List.length (Ca.months c) : Int) (show m ≠ 0 by omega)
    rw [Int.add_mul, Int.one_mul] at a
    omega
  have k := by_k ok h (stV c Y f p m)
  have a := (stV_le ok Y f p m (stV c Y f p m)).mp (Int.le_refl _)
  have b : ¬ Y * (List.length (Ca.months c) : Int) + f + p * m ≤ mnOf c (stV c Y f p m) - 1 := fun z => by
    -- the day before stands in a month before
    have e : mnOf c (stV c Y f p m) = Y * (List.length (Ca.months c) : Int) + f + p * m := by
      have g0 := Int.emod_nonneg (f + p * m) (show (List.length (Ca.months c) : Int) ≠ 0 by omega)
      have g1 := Int.emod_lt_of_pos (f + p * m) (show 0 < (List.length (Ca.months c) : Int) by omega)
      have g2 := Int.mul_ediv_add_emod (f + p * m) (List.length (Ca.months c) : Int)
      have hm2 : ((f + p * m) % (List.length (Ca.months c) : Int)).toNat < c.months.length := by omega
      have pp := Ca.md_pos ok (Y + (f + p * m) / (List.length (Ca.months c) : Int)) hm2
      obtain ⟨e1, e2, _⟩ := num_date ok (y := Y + (f + p * m) / (List.length (Ca.months c) : Int)) (m := ((f + p * m) % (List.length (Ca.months c) : Int)).toNat) (d := 0) hm2 (by omega) (by omega)
      show mnOf c (numAt c _ _ 0) = _
      have eu : ∀ x, mnOf c x = yearOf c x * (List.length (Ca.months c) : Int) + ((dateM c x : Nat) : Int) := fun _ => rfl
      rw [eu, e1, e2, Int.add_mul, Int.mul_comm ((f + p * m) / _)]
      omega
    omega
  have r0 := Int.emod_nonneg (((dateM c (stV c Y f p m) : Nat) : Int) - f) (show (List.length (Ca.months c) : Int) ≠ 0 by omega)
  have r1 := Int.emod_lt_of_pos (((dateM c (stV c Y f p m) : Nat) : Int) - f) (show 0 < (List.length (Ca.months c) : Int) by omega)
  generalize (((dateM c (stV c Y f p m) : Nat) : Int) - f) % (List.length (Ca.months c) : Int) = r at *
  generalize byV c (stV c Y f p m) f = V at *
  generalize mnOf c (stV c Y f p m) = N at *
  have e1 : V = Y := by
    rcases Int.lt_trichotomy V Y with q | q | q
    · have := Int.mul_le_mul_of_nonneg_right (show V + 1 ≤ Y by omega) (show 0 ≤ (List.length (Ca.months c) : Int) by omega)
      rw [Int.add_mul, Int.one_mul] at this
      omega
    · exact q
    · have := Int.mul_le_mul_of_nonneg_right (show Y + 1 ≤ V by omega) (show 0 ≤ (List.length (Ca.months c) : Int) by omega)
      rw [Int.add_mul, Int.one_mul] at this
      omega
  refine ⟨e1, ?_⟩
  rw [e1] at k
  rw [show r = p * m by omega, Int.mul_ediv_cancel _ (by omega)]
theorem ins_ok (ok : c.Ok) (h : 0 ≤ f ∧ f < (List.length (Ca.months c) : Int)) (hm : 1 ≤ m) (hp : 0 ≤ p ∧ p < (List.length (Ca.months c) : Int) / m) (hY : 0 ≤ Y) {F : Int} {xs : List Int} (hx : xs = ((rng 0 F).filter (fun x => (decide ((byV c x f, (((dateM c x : Nat) : Int) - f) % (List.length (Ca.months c) : Int) / m) = (Y, p))))).map (fun x => x)) (hn : xs ≠ []) : stV c Y f p m = minOf xs := by
  rw [List.map_id'] at hx
  have hmem : ∀ x, x ∈ xs ↔ (0 ≤ x ∧ x < F) ∧ byV c x f = Y ∧ (((dateM c x : Nat) : Int) - f) % (List.length (Ca.months c) : Int) / m = p := fun x => by
    rw [hx, List.mem_filter, rng_mem, decide_eq_true_iff, Prod.mk.injEq]
  obtain ⟨a, ha⟩ := List.exists_mem_of_ne_nil xs hn
  obtain ⟨a1, a2, a3⟩ := (hmem a).mp ha
  have s := start_in ok h hm hp (Y := Y)
  have s0 : 0 ≤ stV c Y f p m := by
    have l0 := ok.lm0
    have l1 := ok.lm1
    rcases Int.lt_or_le (stV c Y f p m) 0 with q | q
    · have z := (stV_le ok Y f p m (stV c Y f p m)).mp (Int.le_refl _)
      have y0 := yearOf_spec ok (stV c Y f p m)
      have f0 := Ca.first_zero ok
      have yn : yearOf c (stV c Y f p m) < 0 := by
        rcases Int.lt_or_le (yearOf c (stV c Y f p m)) 0 with w | w
        · exact w
        · have := first_le2 ok w
          omega
      have m1 := (date_at ok (stV c Y f p m)).m1
      unfold mnOf at z
      have e1 := Int.mul_nonneg hY (show 0 ≤ (List.length (Ca.months c) : Int) by omega)
      have e2 := Int.mul_nonneg hp.1 (show 0 ≤ m by omega)
      have e3 := Int.mul_le_mul_of_nonneg_right (show yearOf c (stV c Y f p m) ≤ -1 by omega) (show 0 ≤ (List.length (Ca.months c) : Int) by omega)
      omega
    · exact q
  exact (minOf_is ((hmem _).mpr ⟨⟨s0, by have := ins_le ok h hm a2 a3; omega⟩, s⟩) fun x hx2 => by
    obtain ⟨_, b2, b3⟩ := (hmem x).mp hx2
    exact ins_le ok h hm b2 b3).symm
end
/-! ### weeks, counted on -/
theorem pat_at {ps : List Int} (hl : 0 < ps.length) {k : Int} (hk : 0 ≤ k) : (atI ps (k % (ps.length : Int))).getD 0 = ps.getD (k.toNat % ps.length) 0 := by
  have a := Int.emod_nonneg k (show (ps.length : Int) ≠ 0 by omega)
  have b := Int.emod_lt_of_pos k (show 0 < (ps.length : Int) by omega)
  rw [at_get a b]
  congr 1
  obtain ⟨q, rfl⟩ : ∃ q : Nat, k = (q : Int) := ⟨_, (Int.toNat_of_nonneg hk).symm⟩
  rw [show ((q : Int)).toNat = q by omega, ← Int.natCast_emod]
  omega
theorem weeks_loop {ps : List Int} (hl : 0 < ps.length) (hp : ∀ x ∈ ps, 1 ≤ x) {kn : Int × Int → Bool} : ∀ (xs : List Int) (s : Int × Int), 0 ≤ s.1 → (0 ≤ s.2 ∧ s.2 < ps.getD (s.1.toNat % ps.length) 0) →
    ∃ r : Int × Int, forK (fun (_ : Int) (s : Int × Int) (kn : Int × Int → Bool) (_ : Int × Int → Bool) => cond (decide (s.2 + 1 = (atI ps (s.1 % (ps.length : Int))).getD 0)) (kn (s.1 + 1, 0)) (kn (s.1, s.2 + 1))) kn xs s = kn r ∧ 0 ≤ r.1 ∧ (0 ≤ r.2 ∧ r.2 < ps.getD (r.1.toNat % ps.length) 0) ∧ wkG ps r.1.toNat + r.2 = wkG ps s.1.toNat + s.2 + (xs.length : Int)
  | [], s, h1, h2 => ⟨s, rfl, h1, h2, by simp⟩
  | x :: xs, s, h1, h2 => by
    have e := pat_at hl h1
    show ∃ r, cond _ (forK _ kn xs (s.1 + 1, 0)) (forK _ kn xs (s.1, s.2 + 1)) = kn r ∧ _
    by_cases q : s.2 + 1 = (atI ps (s.1 % (ps.length : Int))).getD 0
    · have g := wkG_succ hl s.1.toNat
      have t : (s.1 + 1).toNat = s.1.toNat + 1 := by omega
      have w := wkG_pos hl hp (s.1.toNat + 1)
      obtain ⟨r, r1, r2, r3, r4⟩ := weeks_loop hl hp (kn := kn) xs (s.1 + 1, 0) (by show 0 ≤ s.1 + 1; omega) ⟨Int.le_refl _, by show 0 < ps.getD ((s.1 + 1).toNat % ps.length) 0; rw [t]; omega⟩
      rw [decide_eq_true q, cond_true]
      refine ⟨r, r1, r2, r3, ?_⟩
      rw [r4, List.length_cons]
      show wkG ps (s.1 + 1).toNat + 0 + _ = _
      rw [t]
      omega
    · obtain ⟨r, r1, r2, r3, r4⟩ := weeks_loop hl hp (kn := kn) xs (s.1, s.2 + 1) h1 ⟨by show 0 ≤ s.2 + 1; omega, by show s.2 + 1 < ps.getD (s.1.toNat % ps.length) 0; omega⟩
      rw [decide_eq_false q, cond_false]
      refine ⟨r, r1, r2, r3, ?_⟩
      rw [r4, List.length_cons]
      show wkG ps s.1.toNat + (s.2 + 1) + _ = _
      omega
/-! ### shares of years, by counting -/
section
variable {c : Ca}
theorem year_iff (ok : c.Ok) (x y : Int) : yearOf c x = y ↔ c.firstOf y ≤ x ∧ x < c.firstOf (y + 1) := by
  obtain ⟨a, b⟩ := yearOf_spec ok x
  constructor
  · rintro rfl; exact ⟨a, b⟩
  · intro h
    rcases Int.lt_trichotomy (yearOf c x) y with q | q | q
    · have := first_le2 ok (show yearOf c x + 1 ≤ y by omega)
      omega
    · exact q
    · have := first_le2 ok (show y + 1 ≤ yearOf c x by omega)
      omega
def ov (c : Ca) (lo hi y : Int) : Int := (if c.firstOf (y + 1) < hi then c.firstOf (y + 1) else hi) - (if lo < c.firstOf y then c.firstOf y else lo)
theorem cnt_rng {F a b : Int} {p : Int → Bool} (h0 : 0 ≤ a) (h1 : b ≤ F) (hp : ∀ x, 0 ≤ x → x < F → p x = decide (a ≤ x ∧ x < b)) : ((((rng 0 F).filter p).map fun x => x).length : Int) = if a < b then b - a else 0 := by
  rw [List.map_id']
  by_cases q : a < b
  · rw [filter_cut (lo := a) (hi := b) (q := fun _ => true) h0 (by omega) h1 (fun x u v => by rw [hp x u v, Bool.and_true]), List.filter_eq_self.mpr (fun _ _ => rfl), rng_len, if_pos q]
    omega
  · rw [List.filter_eq_nil_iff.mpr, if_neg q]
    · rfl
    · intro x hx
      rw [rng_mem] at hx
      rw [hp x hx.1 hx.2, decide_eq_false (by omega)]
      simp
theorem days_is (ok : c.Ok) {lo hi y : Int} (h0 : 0 ≤ lo) (h1 : hi ≤ c.firstOf 6) (hy : 0 ≤ y ∧ y < 6) : ((((rng 0 (c.firstOf 6)).filter (fun x => ((decide ((yearOf c x) = y)) && ((decide (lo ≤ x)) && (decide (x < hi)))))).map (fun x => x)).length : Int) = if 0 < ov c lo hi y then ov c lo hi y else 0 := by
  have f0 := Ca.first_zero ok
  have f1 := first_le2 ok hy.1
  rw [cnt_rng (a := if lo < c.firstOf y then c.firstOf y else lo) (b := if c.firstOf (y + 1) < hi then c.firstOf (y + 1) else hi) (by split <;> omega) (by split <;> omega) (fun x u v => by
    rw [Bool.eq_iff_iff, Bool.and_eq_true, Bool.and_eq_true, decide_eq_true_iff, decide_eq_true_iff, decide_eq_true_iff, decide_eq_true_iff, year_iff ok]
    constructor
    · rintro ⟨⟨a, b⟩, d, e⟩
      constructor <;> split <;> omega
    · rintro ⟨a, b⟩
      split at a <;> split at b <;> omega)]
  unfold ov
  split <;> split <;> omega
theorem tot_is (ok : c.Ok) {y : Int} (hy : 0 ≤ y ∧ y < 6) : ((((rng 0 (c.firstOf 6)).filter (fun x => (decide ((yearOf c x) = y)))).map (fun x => x)).length : Int) = c.yearDays y := by
  have f0 := Ca.first_zero ok
  have f1 := first_le2 ok hy.1
  have f2 := first_le2 ok (show y + 1 ≤ 6 by omega)
  have f3 := first_le2 ok (show y ≤ y + 1 by omega)
  have fs := Ca.first_succ ok y
  rw [cnt_rng (a := c.firstOf y) (b := c.firstOf (y + 1)) (by omega) (by omega) (fun x u v => by
    rw [Bool.eq_iff_iff, decide_eq_true_iff, decide_eq_true_iff, year_iff ok])]
  split <;> omega
theorem parts_loop {α : Type} {dd : Int → Int} {tt : Int → Int} {kn : List (Int × Int) → α} : ∀ (xs : List Int) (s : List (Int × Int)), forK (fun (y : Int) (s : List (Int × Int)) (kn : List (Int × Int) → α) (_ : List (Int × Int) → α) => cond (decide (0 < dd y)) (kn (s ++ [(dd y, tt y)])) (kn s)) kn xs s = kn (s ++ (xs.filter fun y => decide (0 < dd y)).map fun y => (dd y, tt y))
  | [], s => by show kn s = _; rw [List.filter_nil, List.map_nil, List.append_nil]
  | y :: xs, s => by
    show cond _ (forK _ kn xs (s ++ [(dd y, tt y)])) (forK _ kn xs s) = _
    by_cases q : 0 < dd y
    · rw [decide_eq_true q, cond_true, parts_loop xs, List.filter_cons_of_pos (by rw [decide_eq_true q]), List.map_cons, List.append_assoc]; rfl
    · rw [decide_eq_false q, cond_false, parts_loop xs, List.filter_cons_of_neg (by rw [decide_eq_false q]; decide)]
def shL (c : Ca) (lo hi : Int) : List (Int × Int) := ((rng (yearOf c lo) (yearOf c hi + 1)).filter fun y => decide (0 < ov c lo hi y)).map fun y => (ov c lo hi y, c.yearDays y)
theorem rng_cons {a b : Int} (h : a < b) : rng a b = a :: rng (a + 1) b := by
  rw [rng_app (show a ≤ a + 1 by omega) (show a + 1 ≤ b by omega)]
  have e : rng a (a + 1) = [a] := by
    unfold rng
    rw [show (a + 1 - a).toNat = 1 by omega]
    simp
  rw [e]; rfl
theorem shL_nil (ok : c.Ok) (hi : Int) : shL c hi hi = [] := by
  unfold shL
  rw [List.map_eq_nil_iff, List.filter_eq_nil_iff]
  intro y _
  rw [decide_eq_false]
  · simp
  · unfold ov; split <;> split <;> omega
theorem sh_list (ok : c.Ok) {hi : Int} : ∀ (k : Nat) (rows : List (Int × Int)) (here : Int), here ≤ hi → hi - here ≤ (k : Int) → shK c hi k (rows, here) = .ok (rows ++ shL c here hi)
  | 0, rows, here, h, hk => by
    have e : here = hi := by omega
    subst e
    rw [shL_nil ok, List.append_nil]
    rfl
  | k + 1, rows, here, h, hk => by
    show cond (decide (here < hi)) (shK c hi k (rows ++ [((if Ca.firstOf c (yearOf c here + 1) < hi then Ca.firstOf c (yearOf c here + 1) else hi) - here, Ca.yearDays c (yearOf c here))], if Ca.firstOf c (yearOf c here + 1) < hi then Ca.firstOf c (yearOf c here + 1) else hi)) (.ok rows) = _
    by_cases q : here < hi
    · rw [decide_eq_true q, cond_true]
      obtain ⟨y0, y1⟩ := yearOf_spec ok here
      obtain ⟨z0, z1⟩ := yearOf_spec ok hi
      have yle : yearOf c here ≤ yearOf c hi := by
        rcases Int.lt_or_le (yearOf c hi) (yearOf c here) with w | w
        · have := first_le2 ok (show yearOf c hi + 1 ≤ yearOf c here by omega)
          omega
        · exact w
      generalize hb : (if Ca.firstOf c (yearOf c here + 1) < hi then Ca.firstOf c (yearOf c here + 1) else hi) = b
      have hb2 : here < b ∧ b ≤ hi ∧ b ≤ c.firstOf (yearOf c here + 1) := by rw [← hb]; split <;> omega
      rw [sh_list ok k _ b hb2.2.1 (by omega), List.append_assoc]
      congr 2
      have e1 : ov c here hi (yearOf c here) = b - here := by unfold ov; rw [hb, if_neg (by omega)]
      have e2 : shL c here hi = (b - here, Ca.yearDays c (yearOf c here)) :: ((rng (yearOf c here + 1) (yearOf c hi + 1)).filter fun y => decide (0 < ov c here hi y)).map fun y => (ov c here hi y, c.yearDays y) := by
        unfold shL
        rw [rng_cons (show yearOf c here < yearOf c hi + 1 by omega), List.filter_cons_of_pos (by rw [e1]; exact decide_eq_true (by omega)), List.map_cons, e1]
      rw [e2]
      show _ :: shL c b hi = _
      congr 1
      have e3 : ∀ y, yearOf c here + 1 ≤ y → ov c here hi y = ov c b hi y := fun y hy => by
        have := first_le2 ok hy
        unfold ov
        split <;> split <;> split <;> omega
      have e4 : ∀ l : List Int, (∀ y ∈ l, yearOf c here + 1 ≤ y) → (l.filter fun y => decide (0 < ov c here hi y)).map (fun y => (ov c here hi y, c.yearDays y)) = (l.filter fun y => decide (0 < ov c b hi y)).map fun y => (ov c b hi y, c.yearDays y) := by
        intro l
        induction l with
        | nil => intro _; rfl
        | cons y l ih =>
          intro hl
          have e := e3 y (hl y List.mem_cons_self)
          have i := ih fun w hw => hl w (List.mem_cons_of_mem _ hw)
          by_cases w : 0 < ov c b hi y
          · rw [List.filter_cons_of_pos (p := fun y => decide (0 < ov c here hi y)) (by show decide (0 < ov c here hi y) = true; rw [e]; exact decide_eq_true w), List.filter_cons_of_pos (p := fun y => decide (0 < ov c b hi y)) (decide_eq_true w), List.map_cons, List.map_cons, i, e]
          · rw [List.filter_cons_of_neg (p := fun y => decide (0 < ov c here hi y)) (by show ¬ decide (0 < ov c here hi y) = true; rw [e, decide_eq_false w]; simp), List.filter_cons_of_neg (p := fun y => decide (0 < ov c b hi y)) (by show ¬ decide (0 < ov c b hi y) = true; rw [decide_eq_false w]; simp), i]
      rw [e4 _ (fun y hy => (rng_mem.mp hy).1)]
      unfold shL
      by_cases w : Ca.firstOf c (yearOf c here + 1) < hi
      · have eb : b = Ca.firstOf c (yearOf c here + 1) := by rw [← hb, if_pos w]
        have ey : yearOf c b = yearOf c here + 1 := (year_iff ok _ _).mpr ⟨by omega, by rw [eb]; exact Ca.first_lt ok (by omega)⟩
        rw [ey]
      · have eb : b = hi := by rw [← hb, if_neg w]
        subst eb
        by_cases v : yearOf c b = yearOf c here
        · have e := shL_nil ok b
          unfold shL at e
          rw [e, v]
          have : rng (yearOf c here + 1) (yearOf c here + 1) = [] := by unfold rng; rw [show (yearOf c here + 1 - (yearOf c here + 1)).toNat = 0 by omega]; rfl
          rw [this]; rfl
        · have ey : yearOf c b = yearOf c here + 1 := by
            have g : c.firstOf (yearOf c here + 1) = b := by
              have := first_le2 ok (show yearOf c here + 1 ≤ yearOf c b by omega)
              omega
            exact (year_iff ok _ _).mpr ⟨by omega, by rw [← g]; exact Ca.first_lt ok (by omega)⟩
          rw [ey]
    · have e : here = hi := by omega
      subst e
      rw [decide_eq_false q, cond_false, shL_nil ok, List.append_nil]
theorem shV_is (ok : c.Ok) {lo hi : Int} (h : lo ≤ hi) : shV c lo hi = shL c lo hi := by
  have e : f_share_of_years (c, lo, hi, ()) = .ok (shL c lo hi) := by
    show cond (decide (hi < lo)) _ (shK c hi (hi - lo).toNat ([], lo)) = _
    rw [decide_eq_false (by omega), cond_false, sh_list ok _ _ _ h (by omega), List.nil_append]
  unfold shV
  rw [e]
end
end Rw
namespace Rw
open PySem PySem.Spec PyProof.Rows L2 Evl Cy
theorem nd_size : (!decide ((kindName 5) = "size")) = false := by decide +kernel
theorem evp_is {c : Ca} {lo hi z L : Int} (hL : (List.length (Ca.months c) : Int) = L) : v_even_place (c, hi, z, ()) - v_even_place (c, lo, z, ()) = ((((((yearOf c hi) - (yearOf c lo)) * L) + ((dateM c hi : Nat) : Int)) - ((dateM c lo : Nat) : Int)) * z + (if (z - (1 : Int)) < (dateD c hi) then (z - (1 : Int)) else (dateD c hi))) - (if (z - (1 : Int)) < (dateD c lo) then (z - (1 : Int)) else (dateD c lo)) := by
  show ((yearOf c hi * (List.length (Ca.months c) : Int) + ((dateM c hi : Nat) : Int)) * z + _) - ((yearOf c lo * (List.length (Ca.months c) : Int) + ((dateM c lo : Nat) : Int)) * z + _) = _
  rw [hL]
  have e : ((yearOf c hi - yearOf c lo) * L + ((dateM c hi : Nat) : Int) - ((dateM c lo : Nat) : Int)) * z = (yearOf c hi * L + ((dateM c hi : Nat) : Int)) * z - (yearOf c lo * L + ((dateM c lo : Nat) : Int)) * z := by
    rw [← Int.sub_mul]
    congr 1
    rw [Int.sub_mul]
    omega
  rw [e]
  omega
theorem m_lawB_ok {c : Ca} {z : Dice} (ok : c.Ok) (tiny : Tiny c) : Pt (m_lawB c z) := by
  have l0 := ok.lm0
  have l1 := ok.lm1
  have len3 := tiny.len
  have wk1 := ok.wk
  obtain ⟨f6, f6b, f612, f12⟩ := first12 ok tiny
  have r0 := roll_in z (m := c.firstOf 6) (by omega)
  have r1 := roll_in (roll z (c.firstOf 6)).2 (m := (List.length (Ca.months c) : Int)) (by omega)
  have dv := dv_ok (m := (List.length (Ca.months c) : Int)) (by omega)
  have r2 := dv.2.2 _ (roll_in (roll (roll z (c.firstOf 6)).2 (List.length (Ca.months c) : Int)).2 dv.1)
  unfold Pt
  dsimp only [m_lawB, lt]
  unfold dvs at r2
  generalize hz3 : (roll (roll (roll z (Ca.firstOf c 6)).2 (List.length (Ca.months c) : Int)).2 ((((rng (1 : Int) ((List.length (Ca.months c) : Int) + (1 : Int))).filter (fun x => (decide (((List.length (Ca.months c) : Int) % x) = (0 : Int))))).map (fun x => x)).length : Int)).2 = z3
  generalize (atI (((rng (1 : Int) ((List.length (Ca.months c) : Int) + (1 : Int))).filter (fun x => (decide (((List.length (Ca.months c) : Int) % x) = (0 : Int))))).map (fun x => x)) (roll (roll (roll z (Ca.firstOf c 6)).2 (List.length (Ca.months c) : Int)).2 ((((rng (1 : Int) ((List.length (Ca.months c) : Int) + (1 : Int))).filter (fun x => (decide (((List.length (Ca.months c) : Int) % x) = (0 : Int))))).map (fun x => x)).length : Int)).1).getD 0 = sz at r2 ⊢
  generalize (roll (roll z (Ca.firstOf c 6)).2 (List.length (Ca.months c) : Int)).1 = f at r1 ⊢
  generalize (roll z (Ca.firstOf c 6)).1 = row at r0 ⊢
  have pat := pat_ok (z0 := z3)
  generalize hps : (runE (fun (_ : Int) (q : Dice) => (true, q)) (fun (_ : Int) (z : Dice) => ((1 : Int) + (roll z (3 : Int)).1, (roll z (3 : Int)).2)) (rng 0 ((1 : Int) + (roll z3 (3 : Int)).1)) (roll z3 (3 : Int)).2).1 = ps at pat ⊢
  generalize (runE (fun (_ : Int) (q : Dice) => (true, q)) (fun (_ : Int) (z : Dice) => ((1 : Int) + (roll z (3 : Int)).1, (roll z (3 : Int)).2)) (rng 0 ((1 : Int) + (roll z3 (3 : Int)).1)) (roll z3 (3 : Int)).2).2 = z4
  have fr := from_ok (r := row) (z := z4)
  generalize row - (roll z4 (20 : Int)).1 = fd at fr ⊢
  generalize (roll z4 (20 : Int)).2 = z5
  have r3 := roll_in z5 (m := c.firstOf 6) (by omega)
  generalize (roll z5 (Ca.firstOf c 6)).1 = oth at r3 ⊢
  generalize (roll z5 (Ca.firstOf c 6)).2 = z6
  have r4 := roll_in z6 (m := 4) (by decide)
  generalize (roll z6 (4 : Int)).1 = q4 at r4 ⊢
  generalize (roll z6 (4 : Int)).2 = z7
  generalize (roll z7 (3 : Int)).1 = q5
  generalize (roll z7 (3 : Int)).2 = z8
  generalize (roll z8 (100 : Int)).1 = am
  have r6 := roll_in (roll z8 100).2 (m := 7) (by decide)
  generalize (roll (roll z8 (100 : Int)).2 (7 : Int)).1 = q6 at r6 ⊢
  have hy : cond (decide (f ≤ ((dateM c row : Nat) : Int))) (yearOf c row) ((yearOf c row) - (1 : Int)) = byV c row f := by
    unfold byV
    by_cases q : f ≤ ((dateM c row : Nat) : Int)
    · rw [decide_eq_true q, if_neg (by omega)]; rfl
    · rw [decide_eq_false q, if_pos (by omega)]; rfl
  rw [hy]
  refine cf (or_ff (nd rfl) nd_size) (cf (nd rfl) (cf (or_ff ?_ (decide_eq_false ?_)) ?_))
  · by_cases hY : 0 ≤ byV c row f
    · generalize hxs : ((rng 0 (c.firstOf 6)).filter (fun x => (decide (((byV c x f), ((((dateM c x : Nat) : Int) - f) % (List.length (Ca.months c) : Int) / sz)) = (byV c row f, (((dateM c row : Nat) : Int) - f) % (List.length (Ca.months c) : Int) / sz))))).map (fun x => x) = xs
      by_cases hn : xs = []
      · rw [decide_eq_true hn]; simp
      · have e := ins_ok ok r1 r2.1 (part_in (x := ((dateM c row : Nat) : Int) - f) r2.1 r2.2.1 (by omega)) hY hxs.symm hn
        rw [show numAt c (byV c row f + (f + (((dateM c row : Nat) : Int) - f) % (List.length (Ca.months c) : Int) / sz * sz) / (List.length (Ca.months c) : Int)) ((f + (((dateM c row : Nat) : Int) - f) % (List.length (Ca.months c) : Int) / sz * sz) % (List.length (Ca.months c) : Int)).toNat 0 = minOf xs from e, nd rfl, Bool.and_false, Bool.and_false]
    · rw [decide_eq_false hY, Bool.false_and]
  · have e := ins_le ok r1 r2.1 (n := row) rfl rfl
    unfold stV at e
    omega
  · have hl : 0 < ps.length := by omega
    have hp : ∀ x ∈ ps, 1 ≤ x := fun x hx => (pat.2 x hx).1
    have w0 : 0 ≤ (row - fd) / c.week := Int.ediv_nonneg (by omega) (by omega)
    obtain ⟨r, e1, e2, e3, e4⟩ := weeks_loop hl hp (kn := fun s => cond (!decide (((wpV c fd ps row).1, (wpV c fd ps row).2) = (s.1, s.2))) false _) (rng 0 ((row - fd) / (Ca.week c))) (0, 0) (Int.le_refl _) ⟨Int.le_refl _, by have := wkG_pos hl hp (0 : Int).toNat; show 0 < ps.getD ((0 : Int).toNat % ps.length) 0; omega⟩
    refine e1.trans ?_
    have g0 : wkG ps (0 : Int).toNat = 0 := by unfold wkG; simp
    obtain ⟨v1, v2, v3⟩ := wpV_is hl hp (n := row) (f := fd) w0
    rw [rng_len] at e4
    have u := wkG_uniq hl hp v2 e3 (by rw [v3, e4]; show _ = wkG ps (0 : Int).toNat + 0 + _; rw [g0]; omega)
    refine cf (nd (by rw [Prod.mk.injEq]; exact ⟨by omega, u.2⟩)) ?_
    have lh := low_high r0 r3
    generalize (cond (decide (row ≤ oth)) (row, oth) (oth, row)) = pr at lh ⊢
    refine cf (nd (evp_is rfl)) ?_
    have yl := year_rng ok (n := pr.1) (l := 6) lh.2.1 (by omega)
    have yh := year_rng ok (n := pr.2) (l := 6) (by omega) lh.2.2
    refine (parts_loop (dd := fun y => ((((rng 0 (c.firstOf 6)).filter (fun x => ((decide ((yearOf c x) = y)) && ((decide (pr.1 ≤ x)) && (decide (x < pr.2)))))).map (fun x => x)).length : Int)) (tt := fun y => ((((rng 0 (c.firstOf 6)).filter (fun x => (decide ((yearOf c x) = y)))).map (fun x => x)).length : Int)) (kn := _) (rng (yearOf c pr.1) ((yearOf c pr.2) + (1 : Int))) []).trans ?_
    have eS : shV c pr.1 pr.2 = [] ++ ((rng (yearOf c pr.1) ((yearOf c pr.2) + (1 : Int))).filter fun y => decide (0 < ((((rng 0 (c.firstOf 6)).filter (fun x => ((decide ((yearOf c x) = y)) && ((decide (pr.1 ≤ x)) && (decide (x < pr.2)))))).map (fun x => x)).length : Int))).map fun y => (((((rng 0 (c.firstOf 6)).filter (fun x => ((decide ((yearOf c x) = y)) && ((decide (pr.1 ≤ x)) && (decide (x < pr.2)))))).map (fun x => x)).length : Int), ((((rng 0 (c.firstOf 6)).filter (fun x => (decide ((yearOf c x) = y)))).map (fun x => x)).length : Int)) := by
      rw [shV_is ok lh.1, List.nil_append]
      unfold shL
      have key : ∀ y ∈ rng (yearOf c pr.1) (yearOf c pr.2 + 1), 0 ≤ y ∧ y < 6 := fun y hy => by rw [rng_mem] at hy; omega
      rw [List.filter_congr (q := fun y => decide (0 < ((((rng 0 (c.firstOf 6)).filter (fun x => ((decide ((yearOf c x) = y)) && ((decide (pr.1 ≤ x)) && (decide (x < pr.2)))))).map (fun x => x)).length : Int))) (fun y hy => by
        rw [days_is ok lh.2.1 (by omega) (key y hy)]
        by_cases w : 0 < ov c pr.1 pr.2 y
        · rw [if_pos w]
        · rw [if_neg w, decide_eq_false w]; rfl)]
      apply List.map_congr_left
      intro y hy
      rw [List.mem_filter] at hy
      have w := of_decide_eq_true hy.2
      rw [days_is ok lh.2.1 (by omega) (key y hy.1)] at w ⊢
      rw [tot_is ok (key y hy.1)]
      split at w <;> rename_i v
      · rw [if_pos v]
      · omega
    refine cf (or_ff (nd eS) (by rw [nd_size, Bool.and_false])) (cf (nd rfl) (cf (nd (spr_sum (by omega))) (cf (nd (spr_len (by omega))) (cf (decide_eq_false ?_) (cf (nd rfl) rfl)))))
    have := spr_two (a := am) (m := 1 + q6) (by omega)
    omega
end Rw
namespace Rw
open PySem PySem.Spec PyProof.Rows L2 Evl Cy
def smC : Ca := ⟨[3, 4], 0, 1, [], 2, 0⟩
theorem small_ok : Small smC := by
  refine ⟨⟨by decide, ?_, by decide, by decide, by decide, ?_, by decide, by decide, by decide⟩, by decide, by decide, by decide +kernel, by decide⟩
  · intro m hm
    rcases List.mem_cons.mp hm with q | q
    · rw [q]; decide
    · rw [List.mem_singleton.mp q]; decide
  · intro y hy
    cases hy
section
variable {K : PySem.W.Frag} {E E' : XK} {cl : Nat → Addr} {M : List Addr} {σ : L2.St} {I : Hp} {S S' : List Cell} {tr : TA} {C : Addr} {c : Ca}
theorem em_mkCal (h : Ea E cl M tr σ I S (aC (kT K kI) (aC kI (aC kI (aC (kT K kI) (aC kI a0))))) (.ok (c.months, c.lm, c.cycle, c.ly, c.week, ())) S') (hfw : c.fw = 0) (sm : Small c) (hly : c.ly.length < 40000) (lt : LT M S') : Em E cl M (tMake C (spNew K C) [.int 0] E' tr) σ I S (kCal K C) (.ok c) S' :=
  em_mk h.ad fun H1 i w Q q => ea_of h H1 i w _ fun vs H2 e2 w2 r2 => by
    obtain ⟨v1, _, rfl, ⟨pm, vm, rfl, hpm, am⟩, v2, _, rfl, rfl, v3, _, rfl, rfl, v4, _, rfl, ⟨py, vy, rfl, hpy, ay⟩, v5, _, rfl, rfl, rfl⟩ := r2
    refine fun x dx nx nd ne => ?_
    have eN : Ex H2 (upd (upd H2 dx (.own x)) x (.ins C dx [])) := (Ex.new nd).trans (Ex.new (by rw [upd_ne (Ne.symm ne)]; exact nx))
    refine ⟨x, dx, pm, py, c, by rw [hfw]; rfl, upd_same, .inr (ex_t (del_le.trans eN) (by rw [← all_ints am]; exact hpm)), .inr (ex_t (del_le.trans eN) (by rw [← all_ints ay]; exact hpy)), hly, sm, fun H' cn eB => ⟨rfl, ?_⟩⟩
    have e3 : Ex H2 H' := fun b o e => eB b o (fun z => by rw [z, nx] at e; cases e) (eN _ _ e)
    have w3 := w2.ex e3
    refine q _ H' (e2.trans (ex_del e3)) w3 ⟨x, rfl, ?_, sm⟩
    obtain ⟨dx2, tm, ty, dl, ts, kvs, st, g1, g2, g3, g4, g5, g6, g7, g8, g9⟩ := cn
    have tsM : ts ∉ M := fun z => by
      cases q2 : H2 ts with
      | none => exact w2.live ts z q2
      | some o => exact g8 ts o (fun y => by rw [y, nx] at q2; cases q2) (eN _ _ q2) rfl
    exact ⟨dx2, tm, ty, dl, ts, kvs, st, del_at (lt.not (w := w3) g1 (fun _ z => nomatch z) (fun _ z => nomatch z)) g1, lt.sqT (w := w3) g2, lt.sqT (w := w3) g3, del_at (lt.not (w := w3) g4 (fun _ z => nomatch z) (fun _ z => nomatch z)) g4, g5, sq_of (del_at tsM g9), g7⟩
end
abbrev sC1 : Stmt := topS 40
def c1N : List Str := ["small", "wrong", "pair"]
theorem scC1 : FnScope c1N [] (defScope sC1) := ⟨rfl, rfl, rfl, by decide +kernel, rfl, by decide +kernel, by decide +kernel⟩
section
variable (P : Program) (w : World) (K : PySem.W.Frag) (mg : Str → Option Value) (base : Heap) (C D : Addr) (cl : Nat → Addr)
abbrev caseX (f cc : Addr) (A : Around) (outer : List Env) (s : Shared) (H : Hp) (E : XK) : Cx := cxOf (L2.CX P w) P w K mg base c1N "_law_cases1" (defScope sC1) f (.ref cc) A outer s H E
structure CaseT : Prop where
  nC : Nw P w K mg base 3 "Calendar" C (spNew K C) [.int 0]
  c_part_of_business : Cal P w K mg base 7 "part_of_business" (sp_part_of_business K C D cl) []
  c_start_of_part : Cal P w K mg base 4 "start_of_part" (sp_start_of_part K C D cl) []
  c_weeks_pattern : Cal P w K mg base 2 "weeks_pattern" (sp_weeks_pattern K C cl) []
  c_even_months : Cal P w K mg base 7 "even_months" (sp_even_months K C D cl) []
  c_spread : Cal P w K mg base 1 "spread" (sp_spread K cl) []
  exs : Exs K mg cl
  told : ToldF K mg
end
section
variable {P : Program} {w : World} {K : PySem.W.Frag} {mg : Str → Option Value} {base : Heap} {C D : Addr} {cl : Nat → Addr}
theorem ok_cases {f cc P2 : Addr} {oc : Value} {od an : Option Addr} {osl : Array (Option Value)} {kV doc pm ct : Value} (lk : K.lookup f = some ⟨oc, od, .func (PySem.W.fnOf "_law_cases1" "_law_cases1" (defArgs sC1) (defBody sC1) (defScope sC1) .none kV doc pm an (.ref cc) ct), osl⟩) (hcd : PySem.W.codeIn K (.ref cc) "_law_cases1" = true) (TB : LamX.TabB base mg cc P2) (L : CaseT P w K mg base C D cl) (B : BD mg) :
    FnOk P w K mg base (L2.CX P w) 10 f (PySem.W.fnOf "_law_cases1" "_law_cases1" (defArgs sC1) (defBody sC1) (defScope sC1) .none kV doc pm an (.ref cc) ct) [] (spC1 P2) := by
  refine fn_of lk hcd scC1 (fun vs H Q E h => ?_) (fun A outer s H vs Q E hr h => ?_)
  · obtain ⟨rfl, _⟩ := h
    rfl
  · obtain ⟨rfl, hT, q⟩ := h
    obtain ⟨gT, ocT, kVT, dcT, pmT, cdT, ctT, odT, anT, oslT, hmT, kpT, lkT, hcT, bT⟩ := L.told
    let LQ2 : Str := (caseX P w K mg base f cc A outer s H E).env.qual ++ "<lambda>"
    have w0 : Holds [P2] [cTab P2 LQ2] H := by
      refine ⟨fun c hc => ?_, by simp [ads, cTab], fun m hm => ?_⟩
      · rw [List.mem_singleton.mp hc]
        refine ⟨by simp [cTab], _, hT, #[], rfl, by first | trivial | decide, fun pos cv z => ?_⟩
        cases z
      · rw [List.mem_singleton.mp hm, hT]; exact fun z => nomatch z
    refine ⟨_, pss_cons (ps_set (i := 0) scC1.nd rfl (.inr rfl) (pe_nw L.nC hr (by decide) passL (pa_cons (pe_tup (pa_cons pe_int (pa_cons pe_int pa_nil))) (pa_cons pe_int (pa_cons pe_int (pa_cons (pe_tup pa_nil) (pa_cons pe_int pa_nil))))))) (pss_cons (ps_set (i := 1) scC1.nd rfl (.inl rfl) (pe_lst (pa_cons (pe_tup (pa_cons (pe_lamC (T := [(P2, LQ2)]) (LamX.lamS_by (sc := defScope sC1) (by decide +kernel)) TB rfl (List.mem_singleton.mpr rfl) (fun p hp _ => by rw [List.mem_singleton.mp hp]) rfl) (pa_cons pe_str pa_nil))) (pa_cons (pe_tup (pa_cons (pe_lamC (T := [(P2, LQ2)]) (LamX.lamS_by (sc := defScope sC1) (by decide +kernel)) TB rfl (List.mem_singleton.mpr rfl) (fun p hp _ => by rw [List.mem_singleton.mp hp]) rfl) (pa_cons pe_str pa_nil))) (pa_cons (pe_tup (pa_cons (pe_lamC (T := [(P2, LQ2)]) (LamX.lamS_by (sc := defScope sC1) (by decide +kernel)) TB rfl (List.mem_singleton.mpr rfl) (fun p hp _ => by rw [List.mem_singleton.mp hp]) rfl) (pa_cons pe_str pa_nil))) (pa_cons (pe_tup (pa_cons (pe_lamC (T := [(P2, LQ2)]) (LamX.lamS_by (sc := defScope sC1) (by decide +kernel)) TB rfl (List.mem_singleton.mpr rfl) (fun p hp _ => by rw [List.mem_singleton.mp hp]) rfl) (pa_cons pe_str pa_nil))) (pa_cons (pe_tup (pa_cons (pe_lamC (T := [(P2, LQ2)]) (LamX.lamS_by (sc := defScope sC1) (by decide +kernel)) TB rfl (List.mem_singleton.mpr rfl) (fun p hp _ => by rw [List.mem_singleton.mp hp]) rfl) (pa_cons pe_str pa_nil))) (pa_cons (pe_tup (pa_cons (pe_lamC (T := [(P2, LQ2)]) (LamX.lamS_by (sc := defScope sC1) (by decide +kernel)) TB rfl (List.mem_singleton.mpr rfl) (fun p hp _ => by rw [List.mem_singleton.mp hp]) rfl) (pa_cons pe_str pa_nil))) (pa_cons (pe_tup (pa_cons (pe_lamC (T := [(P2, LQ2)]) (LamX.lamS_by (sc := defScope sC1) (by decide +kernel)) TB rfl (List.mem_singleton.mpr rfl) (fun p hp _ => by rw [List.mem_singleton.mp hp]) rfl) (pa_cons pe_str pa_nil))) (pa_cons (pe_tup (pa_cons (pe_lamC (T := [(P2, LQ2)]) (LamX.lamS_by (sc := defScope sC1) (by decide +kernel)) TB rfl (List.mem_singleton.mpr rfl) (fun p hp _ => by rw [List.mem_singleton.mp hp]) rfl) (pa_cons pe_str pa_nil))) (pa_cons (pe_tup (pa_cons (pe_lamC (T := [(P2, LQ2)]) (LamX.lamS_by (sc := defScope sC1) (by decide +kernel)) TB rfl (List.mem_singleton.mpr rfl) (fun p hp _ => by rw [List.mem_singleton.mp hp]) rfl) (pa_cons pe_str pa_nil))) pa_nil))))))))))) (pss_one (ps_ret (pe_cmpR (op_eqD hr.units) (pe_lcK (own := [("pair", 2)]) (g := gName 2) rfl scC1.nd (pi_list (pv 1)) (blkOk_by (own := [("pair", 2)]) (N := c1N) (sc := defScope sC1) (by decide +kernel)) (fun _ _ _ _ _ => pg_name (i := 2) scC1.nd rfl (Or.inl rfl)) (fun ps2 σ2 s2 H2 C2 cl2 fp2 I2 fo2 => pts_one (pt_cmpR op_ne (pe_toldB (k := 7) I2 fo2 L.exs hmT kpT lkT hcT bT hr (pa_cons (pe_ix (ix_tupK (K := K)) (pv 2) pe_int (fun _ _ => rfl)) pa_nil)) (pe_ix (ix_tupK (K := K)) (pv 2) pe_int (fun _ _ => rfl)) (nomark _))) (fun _ _ _ _ _ _ _ _ _ => pv 2)) (pe_lst pa_nil) (nomark _))))), ?_⟩
    refine g_asg (E := E0) (cl := cl) (P := Pt) (k := fun _ => true) (i := 0) (t := kCal K C) (x := smC) w0 rfl (em_mkCal (c := smC) (em_cons (em_tupL K (t := kI) (em_consL em_int (em_consL em_int em_nilL)) (by decide)) (em_cons em_int (em_cons em_int (em_cons (em_tupL K (t := kI) em_nilL (by decide)) (em_cons em_int em_nil))))) rfl small_ok (by decide) (lt_cons lt_nil lt_tab)) (fun small_8 v_1 H_2 hx_3 o_4 g_5 w_6 r_7 => ?_)
    subst hx_3
    refine nrm (σ' := [some v_1, none, none]) rfl ?_
    let ag_9 : L2.St → Prop := fun σ2 => ∃ lw : Option V, σ2 = [some v_1, lw, none]
    have nc_10 : NoCode [P2] [cTab P2 LQ2] := (nc_cons nc_nil nc_tab)
    refine g_asg (E := E0) (cl := cl) (P := Pt) (k := fun _ => true) (i := 1) (t := (kL K (k2 K (kTold (caseX P w K mg base f cc A outer s H E) cl 7 ag_9) kS))) (x := ([(kindName 5, ("size" : Str)), (kindName 5, ("size" : Str)), (kindName 5, ("size" : Str)), (kindName 5, ("size" : Str)), (kindName 5, ("size" : Str)), (kindName 5, ("size" : Str)), (kindName 5, ("size" : Str)), (kindName 5, ("size" : Str)), (kindName 5, ("size" : Str))] : List (Str × Str))) w_6 rfl (em_lst K (em_consL (em_t2 K (em_cons (em_lamC (n := 0) (t := kTold (caseX P w K mg base f cc A outer s H E) cl 7 ag_9) (x := kindName 5) rfl nc_10 (told_r (LamX.lamS_by (sc := defScope sC1) (by decide +kernel)) (fun _ _ _ => rfl) (fun f2 cc2 A2 outer2 s2 H2 E2 hr2 => (pe_k L.c_part_of_business hr2 (by decide) (passE (E := E2)) (pa_cons (pv 0) (pa_cons pe_int (pa_cons pe_int (pa_cons pe_int pa_nil)))))) (by decide) (fun E2 M2 S2 σ2 I2 e ag => by obtain ⟨lw, rfl⟩ := ag; exact (em_toEr (i := 5) (em_call (a := (smC, (0 : Int), (0 : Int), (3 : Int), ()) ) (em_cons (em_var (t := (kCal K C)) (v := v_1) (x := smC) rfl ((kCal K C).up e r_7)) (em_cons em_int (em_cons em_int (em_cons em_int em_nil)))) args_id (by show _ < (1073741824 : Int); decide)) (by rfl))))) (em_cons em_str em_nil))) (em_consL (em_t2 K (em_cons (em_lamC (n := 0) (t := kTold (caseX P w K mg base f cc A outer s H E) cl 7 ag_9) (x := kindName 5) rfl nc_10 (told_r (LamX.lamS_by (sc := defScope sC1) (by decide +kernel)) (fun _ _ _ => rfl) (fun f2 cc2 A2 outer2 s2 H2 E2 hr2 => (pe_k L.c_start_of_part hr2 (by decide) (passE (E := E2)) (pa_cons (pv 0) (pa_cons pe_int (pa_cons pe_int (pa_cons pe_int (pa_cons pe_int pa_nil))))))) (by decide) (fun E2 M2 S2 σ2 I2 e ag => by obtain ⟨lw, rfl⟩ := ag; exact (em_toEr (i := 5) (em_call (a := (smC, (0 : Int), (2 : Int), (0 : Int), (1 : Int), ()) ) (em_cons (em_var (t := (kCal K C)) (v := v_1) (x := smC) rfl ((kCal K C).up e r_7)) (em_cons em_int (em_cons em_int (em_cons em_int (em_cons em_int em_nil))))) args_id (by show _ < (1073741824 : Int); decide)) (by rfl))))) (em_cons em_str em_nil))) (em_consL (em_t2 K (em_cons (em_lamC (n := 0) (t := kTold (caseX P w K mg base f cc A outer s H E) cl 7 ag_9) (x := kindName 5) rfl nc_10 (told_r (LamX.lamS_by (sc := defScope sC1) (by decide +kernel)) (fun _ _ _ => rfl) (fun f2 cc2 A2 outer2 s2 H2 E2 hr2 => (pe_k L.c_start_of_part hr2 (by decide) (passE (E := E2)) (pa_cons (pv 0) (pa_cons pe_int (pa_cons pe_int (pa_cons pe_int (pa_cons pe_int pa_nil))))))) (by decide) (fun E2 M2 S2 σ2 I2 e ag => by obtain ⟨lw, rfl⟩ := ag; exact (em_toEr (i := 5) (em_call (a := (smC, (0 : Int), (0 : Int), (0 : Int), (0 : Int), ()) ) (em_cons (em_var (t := (kCal K C)) (v := v_1) (x := smC) rfl ((kCal K C).up e r_7)) (em_cons em_int (em_cons em_int (em_cons em_int (em_cons em_int em_nil))))) args_id (by show _ < (1073741824 : Int); decide)) (by rfl))))) (em_cons em_str em_nil))) (em_consL (em_t2 K (em_cons (em_lamC (n := 0) (t := kTold (caseX P w K mg base f cc A outer s H E) cl 7 ag_9) (x := kindName 5) rfl nc_10 (told_r (LamX.lamS_by (sc := defScope sC1) (by decide +kernel)) (fun _ _ _ => rfl) (fun f2 cc2 A2 outer2 s2 H2 E2 hr2 => (pe_k L.c_start_of_part hr2 (by decide) (passE (E := E2)) (pa_cons (pv 0) (pa_cons pe_int (pa_cons pe_int (pa_cons pe_int (pa_cons pe_int pa_nil))))))) (by decide) (fun E2 M2 S2 σ2 I2 e ag => by obtain ⟨lw, rfl⟩ := ag; exact (em_toEr (i := 5) (em_call (a := (smC, (0 : Int), (0 : Int), (2 : Int), (1 : Int), ()) ) (em_cons (em_var (t := (kCal K C)) (v := v_1) (x := smC) rfl ((kCal K C).up e r_7)) (em_cons em_int (em_cons em_int (em_cons em_int (em_cons em_int em_nil))))) args_id (by show _ < (1073741824 : Int); decide)) (by rfl))))) (em_cons em_str em_nil))) (em_consL (em_t2 K (em_cons (em_lamC (n := 0) (t := kTold (caseX P w K mg base f cc A outer s H E) cl 7 ag_9) (x := kindName 5) rfl nc_10 (told_r (LamX.lamS_by (sc := defScope sC1) (by decide +kernel)) (fun _ _ _ => rfl) (fun f2 cc2 A2 outer2 s2 H2 E2 hr2 => (pe_k L.c_weeks_pattern hr2 (by decide) (passE (E := E2)) (pa_cons (pv 0) (pa_cons pe_int (pa_cons (pe_lst pa_nil) (pa_cons pe_int pa_nil)))))) (by decide) (fun E2 M2 S2 σ2 I2 e ag => by obtain ⟨lw, rfl⟩ := ag; exact (em_toEr (i := 5) (em_call (a := (smC, (0 : Int), ([] : List Int), (0 : Int), ()) ) (em_cons (em_var (t := (kCal K C)) (v := v_1) (x := smC) rfl ((kCal K C).up e r_7)) (em_cons em_int (em_cons (em_lst K (t := kI) em_nilL (by simp)) (em_cons em_int em_nil)))) args_id (by exact ⟨trivial, by decide, by decide⟩)) (by rfl))))) (em_cons em_str em_nil))) (em_consL (em_t2 K (em_cons (em_lamC (n := 0) (t := kTold (caseX P w K mg base f cc A outer s H E) cl 7 ag_9) (x := kindName 5) rfl nc_10 (told_r (LamX.lamS_by (sc := defScope sC1) (by decide +kernel)) (fun _ _ _ => rfl) (fun f2 cc2 A2 outer2 s2 H2 E2 hr2 => (pe_k L.c_weeks_pattern hr2 (by decide) (passE (E := E2)) (pa_cons (pv 0) (pa_cons pe_int (pa_cons (pe_lst (pa_cons pe_int (pa_cons pe_int pa_nil))) (pa_cons pe_int pa_nil)))))) (by decide) (fun E2 M2 S2 σ2 I2 e ag => by obtain ⟨lw, rfl⟩ := ag; exact (em_toEr (i := 5) (em_call (a := (smC, (0 : Int), ([(2 : Int), (0 : Int)] : List Int), (0 : Int), ()) ) (em_cons (em_var (t := (kCal K C)) (v := v_1) (x := smC) rfl ((kCal K C).up e r_7)) (em_cons em_int (em_cons (em_lst K (t := kI) (em_consL em_int (em_consL em_int em_nilL)) (by simp)) (em_cons em_int em_nil)))) args_id (by exact ⟨trivial, by decide, by decide⟩)) (by rfl))))) (em_cons em_str em_nil))) (em_consL (em_t2 K (em_cons (em_lamC (n := 0) (t := kTold (caseX P w K mg base f cc A outer s H E) cl 7 ag_9) (x := kindName 5) rfl nc_10 (told_r (LamX.lamS_by (sc := defScope sC1) (by decide +kernel)) (fun _ _ _ => rfl) (fun f2 cc2 A2 outer2 s2 H2 E2 hr2 => (pe_k L.c_even_months hr2 (by decide) (passE (E := E2)) (pa_cons (pv 0) (pa_cons pe_int (pa_cons pe_int (pa_cons pe_int pa_nil)))))) (by decide) (fun E2 M2 S2 σ2 I2 e ag => by obtain ⟨lw, rfl⟩ := ag; exact (em_toEr (i := 5) (em_call (a := (smC, (1 : Int), (0 : Int), (3 : Int), ()) ) (em_cons (em_var (t := (kCal K C)) (v := v_1) (x := smC) rfl ((kCal K C).up e r_7)) (em_cons em_int (em_cons em_int (em_cons em_int em_nil)))) args_id (by exact ⟨by decide, by decide⟩)) (by rfl))))) (em_cons em_str em_nil))) (em_consL (em_t2 K (em_cons (em_lamC (n := 0) (t := kTold (caseX P w K mg base f cc A outer s H E) cl 7 ag_9) (x := kindName 5) rfl nc_10 (told_r (LamX.lamS_by (sc := defScope sC1) (by decide +kernel)) (fun _ _ _ => rfl) (fun f2 cc2 A2 outer2 s2 H2 E2 hr2 => (pe_k L.c_even_months hr2 (by decide) (passE (E := E2)) (pa_cons (pv 0) (pa_cons pe_int (pa_cons pe_int (pa_cons pe_int pa_nil)))))) (by decide) (fun E2 M2 S2 σ2 I2 e ag => by obtain ⟨lw, rfl⟩ := ag; exact (em_toEr (i := 5) (em_call (a := (smC, (0 : Int), (1 : Int), (0 : Int), ()) ) (em_cons (em_var (t := (kCal K C)) (v := v_1) (x := smC) rfl ((kCal K C).up e r_7)) (em_cons em_int (em_cons em_int (em_cons em_int em_nil)))) args_id (by exact ⟨by decide, by decide⟩)) (by rfl))))) (em_cons em_str em_nil))) (em_consL (em_t2 K (em_cons (em_lamC (n := 0) (t := kTold (caseX P w K mg base f cc A outer s H E) cl 7 ag_9) (x := kindName 5) rfl nc_10 (told_r (LamX.lamS_by (sc := defScope sC1) (by decide +kernel)) (fun _ _ _ => rfl) (fun f2 cc2 A2 outer2 s2 H2 E2 hr2 => (pe_k L.c_spread hr2 (by decide) (passE (E := E2)) (pa_cons pe_int (pa_cons pe_int pa_nil)))) (by decide) (fun E2 M2 S2 σ2 I2 e ag => by obtain ⟨lw, rfl⟩ := ag; exact (em_toEr (i := 5) (em_call (a := ((5 : Int), (0 : Int), ()) ) (em_cons em_int (em_cons em_int em_nil)) args_id (by show _ ≤ (1000 : Int); decide)) (by rfl))))) (em_cons em_str em_nil))) em_nilL))))))))) (by decide)) (fun wrong_11 v_12 H_13 hx_14 o_15 g_16 w_17 r_18 => ?_)
    have r_19 := (kCal K C).up g_16.im r_7
    have none_20 : (wrong_11.filter fun q => !decide (q.1 = q.2)) = [] := by rw [hx_14]; decide +kernel
    refine g_ret (E := E0) (cl := cl) (t := kB) (x := true) w_17 (em_op (em_eq (em_lcK (em_lc (K := K) (u := k2 K (kTold (caseX P w K mg base f cc A outer s H E) cl 7 ag_9) kS) (fun q => !decide (q.1 = q.2)) (fun q => q) (ei_L (em_var rfl r_18)) (by rw [hx_14]; decide) eg_name (fun _ _ _ b => by obtain ⟨_, _, rfl⟩ := b; rfl) (fun M2 S2 I2 q σ2 e hq b => by obtain ⟨v2, r2, rfl⟩ := b; exact gt_test (em_op (em_toldB (em_cons (em_op (em_var rfl r2) em_int o_ix20) em_nil) (⟨_, rfl⟩ : ag_9 _)) (em_op (em_var rfl r2) em_int o_ix21) o_neS)) (fun M2 S2 I2 q σ2 e hq hc b => by obtain ⟨v2, r2, rfl⟩ := b; exact em_var rfl r2))) (show _ = [] by simp only [List.map_id']; exact none_20)) (em_noneL (t := k2 K (kTold (caseX P w K mg base f cc A outer s H E) cl 7 ag_9) kS)) o_eqNil) (fun v_21 H_22 g_23 w_24 r_25 => ?_)
    obtain rfl : v_21 = .bl true := r_25
    exact q _
end
end Rw
namespace Rw
open PySem PySem.Spec PyProof.Rows L2 Evl
local macro_rules | `(tactic| walk_at "sq") => `(tactic| first | assumption | exact SqL.of (by assumption) | exact SqT.of (by assumption))
local macro_rules | `(tactic| walk_at "at") => `(tactic| first | exact atI_nat (j := 0) rfl | exact atI_nat (j := 1) rfl | exact atI_nat (j := 2) rfl | exact atI_nat (j := 3) rfl)
local macro_rules | `(tactic| walk_at "rv") => `(tactic| first
  | with_reducible exact rv_I0
  | ((with_reducible refine' rv_I ?k1); (case k1 => first | (show (0 : Int) < _; omega) | exact ⟨by omega, by omega⟩ | exact .inr ⟨by omega, by omega⟩ | exact .inl ⟨by omega, by omega⟩ | exact ⟨by decide, by decide, by decide⟩))
  | ((with_reducible refine' rv_eq ?k1); (case k1 => exact rfl))
  | ((with_reducible refine' rv_ne ?k1); (case k1 => exact rfl))
  | (refine' rv_ixL ?k1 ?k2; (case k1 => walk_at "sq"); (case k2 => walk_at "at"))
  | (refine' rv_ixT ?k1 ?k2; (case k1 => walk_at "sq"); (case k2 => walk_at "at")))
local macro_rules | `(tactic| walk_at "rc") => `(tactic| first | exact rc_int1 | exact rc_int1b | exact rc_abs)
local macro_rules | `(tactic| walk_at "ea") => `(tactic| first
  | with_reducible exact ea_nil
  | ((with_reducible refine' ea_cons ?k1 ?k2); (case k1 => walk_at "ev"); (case k2 => walk_at "ea")))
local macro_rules | `(tactic| walk_at "ev") => `(tactic| first
  | with_reducible exact ev_c
  | ((with_reducible refine' ev_var ?k1); (case k1 => exact rfl))
  | ((with_reducible refine' ev_op ?k1 ?k2 ?k3); (case k1 => walk_at "ev"); (case k2 => walk_at "ev"); (case k3 => walk_at "rv"))
  | ((with_reducible refine' et_chain ?k1 ?k2 ?k3 ?k4 ?k5); (case k1 => walk_at "ev"); (case k2 => walk_at "ev"); (case k3 => (intro _; walk_at "ev")); (case k4 => walk_at "rv"); (case k5 => (intro _; walk_at "rv")))
  | ((with_reducible refine' ev_cb ?k1 ?k2); (case k1 => walk_at "ea"); (case k2 => walk_at "rc")))
local macro_rules | `(tactic| walk_at "et") => `(tactic| first
  | ((with_reducible refine' et_test ?k1); (case k1 => walk_at "ev"))
  | ((with_reducible refine' et_B ?k1); (case k1 => walk_at "ev"))
  | ((with_reducible refine' et_and ?k1 ?k2); (case k1 => walk_at "et"); (case k2 => (intro _; walk_at "et")))
  | ((with_reducible refine' et_or ?k1 ?k2); (case k1 => walk_at "et"); (case k2 => (intro _; walk_at "et")))
  | ((with_reducible refine' et_not ?k1); (case k1 => walk_at "et")))
section
variable {P : Program} {w : World} {K : PySem.W.Frag} {mg : Str → Option Value} {base : Heap}
theorem ok_rollX {f : Addr} {fd : FuncData} (F : Fun K "_law_roll" "_law_roll" sRoll f fd) (B : Blt mg) : FnOk P w K mg base (L2.CX P w) 1 f fd ["dice", "many"] spRollX := by
  refine F.okX scRoll (fun vs H Q E h => ?_) (fun cdv A outer s H vs Q E hr h => ?_)
  · obtain ⟨d, x, m, rfl, _⟩ := h
    rfl
  · obtain ⟨d, ⟨a, b, c⟩, m, rfl, hd, h0, h1, q⟩ := h
    have hd : H d = some (.lst [.int a, .int b, .int c]) := hd
    refine ⟨_, pss_cons (ps_if (PW.pt (pw_or (pt_cmpR op_eq (pe_ix ix_list (pv 0) pe_int (fun _ _ => rfl)) pe_int (nomark _)) (pw_or1 (PW.pt (pw_and (pt_cmpR op_eq (pe_ix ix_list (pv 0) pe_int (fun _ _ => rfl)) pe_int (nomark _)) (pw_and1 (pt_cmpR op_gt (pe_ix ix_list (pv 0) pe_int (fun _ _ => rfl)) pe_int (nomark _))))))))
        (pss_cons (ps_set (i := 2) scRoll.nd rfl (.inl rfl) (pe_op op_mod (pe_callTy call_int1 (by rfl) B.int (by decide +kernel) (pa_cons (pe_ix ix_list (pv 0) pe_int (fun _ _ => rfl)) pa_nil)) (pv 1)))
        (pss_cons (ps_asg (pe_op op_fdiv (pe_ix ix_list (pv 0) pe_int (fun _ _ => rfl)) (pv 1)) (pg_sub (pv 0) pe_int set_list))
        (pss_one (ps_ret (pv 2))))) pss_nil)
      (pss_cons (ps_asg pe_int (pg_sub (pv 0) pe_int set_list))
      (pss_cons (ps_asg (pe_op op_mod (pe_callTy call_int1 (by rfl) B.int (by decide +kernel) (pa_cons (pe_op op_add (pe_op op_add (pe_op op_mul (pe_ix ix_list (pv 0) pe_int (fun _ _ => rfl)) pe_int) (pe_op op_mul (pe_ix ix_list (pv 0) pe_int (fun _ _ => rfl)) pe_int)) pe_int) pa_nil)) pe_int) (pg_sub (pv 0) pe_int set_list))
      (pss_cons (ps_asg (pe_op op_add (pe_ix ix_list (pv 0) pe_int (fun _ _ => rfl)) pe_int) (pg_sub (pv 0) pe_int set_list))
      (pss_one (ps_ret (pe_op op_mod (pe_callTy call_int1 (by rfl) B.int (by decide +kernel) (pa_cons (pe_op op_add (pe_op op_fdiv (pe_ix ix_list (pv 0) pe_int (fun _ _ => rfl)) pe_int) (pe_ix ix_list (pv 0) pe_int (fun _ _ => rfl))) pa_nil)) (pv 1))))))), ?_⟩
    refine q_when (b := decide (c = 2) || (decide (c = 1) && decide (0 < a))) (et_is (by walk_at "et") (by congr 1 <;> simp)) (fun hb H1 e1 => ?_) (fun hb H1 e1 => ?_)
    · have hd1 := e1 d _ hd
      refine q_asg (by walk_at "ev") fun H2 e2 => ?_
      have hd2 := e2 d _ hd1
      refine q_setL (j := 0) hd2 (by walk_at "ev") (by walk_at "ev") (by exact ev_c) (by show 0 < 3; decide) fun H3 e3 => ?_
      refine s_ret (by walk_at "ev") fun H4 e4 => ?_
      have er : roll (a, b, c) m = (a % m, (a / m, b, c)) := by unfold roll; rw [if_pos hb]
      rw [er] at q
      exact q H4 (((ExB.of ((e1.trans e2).trans e3)).upd).ex e4) (e4 d _ upd_same)
    · have hd1 := e1 d _ hd
      refine q_setL (j := 2) hd1 (by walk_at "ev") (by walk_at "ev") (by exact ev_c) (by show 2 < 3; decide) fun H2 e2 => ?_
      have hd2 : upd H2 d (.lst [.int a, .int b, .int 0]) d = some _ := upd_same
      refine q_setL (xs := [.int a, .int b, .int 0]) (j := 0) hd2 (by walk_at "ev") (by walk_at "ev") (by exact ev_c) (by show 0 < 3; decide) fun H3 e3 => ?_
      have b1 : ExB d H (upd H2 d (.lst [.int a, .int b, .int 0])) := (ExB.of (e1.trans e2)).upd
      generalize hz : (a * 48271 + b * 69621 + 11) % 2147483647 = z
      have hd3 : upd H3 d (.lst [.int z, .int b, .int 0]) d = some _ := upd_same
      refine q_setL (xs := [.int z, .int b, .int 0]) (j := 1) hd3 (by walk_at "ev") (by walk_at "ev") (by exact ev_c) (by show 1 < 3; decide) fun H4 e4 => ?_
      have b2 : ExB d H (upd H3 d (.lst [.int z, .int b, .int 0])) := (b1.ex e3).upd
      have hd4 : upd H4 d (.lst [.int z, .int (b + 1), .int 0]) d = some _ := upd_same
      have b3 : ExB d H (upd H4 d (.lst [.int z, .int (b + 1), .int 0])) := (b2.ex e4).upd
      refine s_ret (v := .int ((z / 7 + z) % m)) (by walk_at "ev") fun H5 e5 => ?_
      have er : roll (a, b, c) m = ((z / 7 + z) % m, (z, b + 1, 0)) := by unfold roll; rw [if_neg (by rw [hb]; decide), ← hz]
      rw [er] at q
      exact q H5 (b3.ex e5) (e5 d _ hd4)
end
end Rw
/-! the end where several defs of the text make lambdas -/
namespace Rw
open PySem PySem.Spec PyProof.Rows L2 LamX
theorem walk_owns {ll : PySem.W.OpenLaw} {nn kk : Nat} {qq : Program} {lo : List Str} {XQ : (Str → Option Value) → Heap → Prop} {YQ : World → Heap → Prop} {dr : DefRec} {KK : Params → PySem.W.Frag} {CQ : World → CXT} {xx : Str}
    (h1 : ll.most = some nn) (h2 : nn ≤ sizeLine) (h3 : dr.params.defaults = []) (h4 : Room kk callerA) (h5 : ∀ (w : World) (h : Heap), YQ w h → (KK w.params).In h)
    (F : ∀ (w : World) (mg : Str → Option Value) (fa : Addr) (h : Heap), YQ w h → (KK w.params).In h → h.Ns mainGlobals mg → mg dr.name = some (.ref fa) → (∀ (y : Str) (fy : Addr), ((recsOf qq).any fun e => e.name == y) = true → mg y = some (.ref fy) → OwnTab (KK w.params) fy h) → LawAtS ll w (KK w.params) (CQ w) kk nn xx mg fa h)
    (h6 : ∀ (w : World) (H : Hp) (s : Shared) (e : Value) (s' : Shared), CQ w [] H s (fun _ _ _ => False) e s' → False) : PySem.W.WalkO qq lo XQ YQ ll.row.toRowW dr [] (fun f vs => PySem.call f vs) := by
  refine Att.attach_callB h1 h3 fun w s₀ s₁ mg mb fa o pm cd doc a vs ns G Y ho hd hcd hmg hobj hints hlen hbits hg => ?_
  have kx := h5 w _ Y
  have owns : ∀ (y : Str) (fy : Addr), ((recsOf qq).any fun e => e.name == y) = true → mg y = some (.ref fy) → OwnTab (KK w.params) fy s₁.heap := fun y fy hy hmy c P o1 fd1 e dd vs1 sl k1 k2 k3 k4 k5 => by
    obtain ⟨dL, hm, hn⟩ := List.any_eq_true.mp hy
    have hn' : dL.name = y := beq_iff_eq.mp hn
    obtain ⟨a', o', fd', c', P', g1, g2, g3, g4, g5, ⟨oc, vc, u1, _, u3, u4⟩, hP⟩ := G.T.tab dL hm
    have e1 : a' = fy := by rw [hn', hmy] at g1; cases g1; rfl
    subst e1
    have e2 : o1 = o' := Option.some.inj ((kx _ _ k1).symm.trans g2)
    subst e2
    have e3 : fd1 = fd' := by rw [k2] at g3; cases g3; rfl
    subst e3
    have e4 : c = c' := by rw [k3] at g4; cases g4; rfl
    subst e4
    have e5 := Option.some.inj ((kx _ _ k4).symm.trans u1)
    subst e5
    cases u3
    have e6 : P = P' := by rw [k5] at u4; cases u4; rfl
    rw [e6]
    exact hP
  obtain ⟨fd, cs, sp, hT, nT, C, hb, hsp, hF⟩ := F w mg fa _ Y kx G.T.g hmg owns
  exact law_callTs kx G.T.g G.T.b G.T.builtins G.T.nolimit hg hT nT C G.T.bmain hobj hints (Nat.le_trans hlen h2) h4 hF hb (fun H hH hS => hsp H a ns hlen hbits hH hS) fun H e s' => h6 w H s₁ e s'
end Rw
namespace Rw
open PySem PySem.Spec PyProof.Rows L2 Evl Cy
/-- an error of the class at S is what «except S» names, and none of the classes before it -/
def exRow (K : PySem.W.Frag) (C : Addr) (before : List Addr) : Bool := decide (PySem.W.exmOne K (.ref C) (.ref C) = some true) && before.all fun b => decide (PySem.W.exmOne K (.ref C) (.ref b) = some false)
def cOf (l : List Addr) (i : Nat) : Addr := l.getD i 0
theorem exRow_self {K : PySem.W.Frag} {C : Addr} {l : List Addr} (h : exRow K C l = true) : PySem.W.exmOne K (.ref C) (.ref C) = some true := by
  unfold exRow at h
  exact of_decide_eq_true (Bool.and_eq_true_iff.mp h).1
theorem exRow_mem {K : PySem.W.Frag} {C b : Addr} {l : List Addr} (h : exRow K C l = true) (hb : b ∈ l) : PySem.W.exmOne K (.ref C) (.ref b) = some false := by
  unfold exRow at h
  exact of_decide_eq_true (List.all_eq_true.mp (Bool.and_eq_true_iff.mp h).2 b hb)
section
variable {P : Program} {w : World} {K : PySem.W.Frag} {mg : Str → Option Value} {base : Heap}
theorem cal_of {x : Str} {k : Nat} {sp : Sp} {st : Stmt} {f : Addr} {fd : FuncData} {ps : List Str} (F : Fun K x x st f fd) (hm : mg x = some (.ref f)) (ok : FnOk P w K mg base (L2.CX P w) k f fd ps sp) (b : Binds K fd ps []) : Cal P w K mg base k x sp [] :=
  ⟨f, fd, ps, [], hm, F.kp, ok, b, .nil⟩
theorem mt_of {m q : Str} {k : Nat} {C : Addr} {sp : Sp} {st : Stmt} {f : Addr} {fd : FuncData} {ps : List Str} (c : Cls K C) (me : Meth K C m f) (F : Fun K m q st f fd) (ok : FnOk P w K mg base (L2.CX P w) k f fd ps sp) (b : Binds K fd ps []) : Mt P w K mg base k C m sp [] :=
  ⟨f, fd, ps, [], c, me, ok, b, .nil⟩
theorem nw_of {x m q : Str} {k : Nat} {C : Addr} {sp : Sp} {st : Stmt} {f : Addr} {fd : FuncData} {ps : List Str} (M : Mk K C f) (hm : mg x = some (.ref C)) (F : Fun K m q st f fd) (ok : FnOk P w K mg base (L2.CX P w) k f fd ps sp) (b : Binds K fd ps []) : Nw P w K mg base k x C sp [] :=
  ⟨f, fd, ps, [], M, hm, ok, b, .nil⟩
end
theorem all_mk {P : Program} {w : World} {K : PySem.W.Frag} {h : Heap} {mg : Str → Option Value} {C0 C1 C2 C3 C4 C5 C6 C7 C8 C9 C10 f_count_below f_day_of f_months_on f_has_month f_has_parts f_business_year f_part_of_business f_start_of_part f_weeks_pattern f_even_months f_even_place f_share_of_years f_due_days f_spread f__law_dice f__law_roll f__law_rounds f__law_told f__law_calendar f__law_rows CC f_Calendar_init f_Calendar_cycle_days f_Calendar_is_long f_Calendar_year_days f_Calendar_month_days f_Calendar_first_of f_Calendar_number_of f_Calendar_year_of f_Calendar_date f_Calendar_weekday_of DD f_Day_init f_Day_month_number f__law_cases1 fL fa : Addr} (X : K.In h) (G : h.Ns mainGlobals mg) (hfa : mg "law" = some (.ref fa)) (own : LamX.OwnTab K fa h) (own2 : ∀ fy : Addr, mg "_law_cases1" = some (.ref fy) → LamX.OwnTab K fy h)
    {od_count_below an_count_below : Option Addr} {sl_count_below : Array (Option Value)} {oc_count_below kV_count_below dc_count_below pm_count_below cd_count_below ct_count_below : Value}
    {od_day_of an_day_of : Option Addr} {sl_day_of : Array (Option Value)} {oc_day_of kV_day_of dc_day_of pm_day_of cd_day_of ct_day_of : Value}
    {od_months_on an_months_on : Option Addr} {sl_months_on : Array (Option Value)} {oc_months_on kV_months_on dc_months_on pm_months_on cd_months_on ct_months_on : Value}
    {T_months_on : Addr} {oT_months_on : Obj}  {nT_months_on : Nat}
    {od_has_month an_has_month : Option Addr} {sl_has_month : Array (Option Value)} {oc_has_month kV_has_month dc_has_month pm_has_month cd_has_month ct_has_month : Value}
    {od_has_parts an_has_parts : Option Addr} {sl_has_parts : Array (Option Value)} {oc_has_parts kV_has_parts dc_has_parts pm_has_parts cd_has_parts ct_has_parts : Value}
    {od_business_year an_business_year : Option Addr} {sl_business_year : Array (Option Value)} {oc_business_year kV_business_year dc_business_year pm_business_year cd_business_year ct_business_year : Value}
    {od_part_of_business an_part_of_business : Option Addr} {sl_part_of_business : Array (Option Value)} {oc_part_of_business kV_part_of_business dc_part_of_business pm_part_of_business cd_part_of_business ct_part_of_business : Value}
    {od_start_of_part an_start_of_part : Option Addr} {sl_start_of_part : Array (Option Value)} {oc_start_of_part kV_start_of_part dc_start_of_part pm_start_of_part cd_start_of_part ct_start_of_part : Value}
    {od_weeks_pattern an_weeks_pattern : Option Addr} {sl_weeks_pattern : Array (Option Value)} {oc_weeks_pattern kV_weeks_pattern dc_weeks_pattern pm_weeks_pattern cd_weeks_pattern ct_weeks_pattern : Value}
    {od_even_months an_even_months : Option Addr} {sl_even_months : Array (Option Value)} {oc_even_months kV_even_months dc_even_months pm_even_months cd_even_months ct_even_months : Value}
    {od_even_place an_even_place : Option Addr} {sl_even_place : Array (Option Value)} {oc_even_place kV_even_place dc_even_place pm_even_place cd_even_place ct_even_place : Value}
    {od_share_of_years an_share_of_years : Option Addr} {sl_share_of_years : Array (Option Value)} {oc_share_of_years kV_share_of_years dc_share_of_years pm_share_of_years cd_share_of_years ct_share_of_years : Value}
    {od_due_days an_due_days : Option Addr} {sl_due_days : Array (Option Value)} {oc_due_days kV_due_days dc_due_days pm_due_days cd_due_days ct_due_days : Value}
    {od_spread an_spread : Option Addr} {sl_spread : Array (Option Value)} {oc_spread kV_spread dc_spread pm_spread cd_spread ct_spread : Value}
    {od__law_dice an__law_dice : Option Addr} {sl__law_dice : Array (Option Value)} {oc__law_dice kV__law_dice dc__law_dice pm__law_dice cd__law_dice ct__law_dice : Value}
    {od__law_roll an__law_roll : Option Addr} {sl__law_roll : Array (Option Value)} {oc__law_roll kV__law_roll dc__law_roll pm__law_roll cd__law_roll ct__law_roll : Value}
    {od__law_rounds an__law_rounds : Option Addr} {sl__law_rounds : Array (Option Value)} {oc__law_rounds kV__law_rounds dc__law_rounds pm__law_rounds cd__law_rounds ct__law_rounds : Value}
    {od__law_told an__law_told : Option Addr} {sl__law_told : Array (Option Value)} {oc__law_told kV__law_told dc__law_told pm__law_told cd__law_told ct__law_told : Value}
    {od__law_calendar an__law_calendar : Option Addr} {sl__law_calendar : Array (Option Value)} {oc__law_calendar kV__law_calendar dc__law_calendar pm__law_calendar cd__law_calendar ct__law_calendar : Value}
    {od__law_rows an__law_rows : Option Addr} {sl__law_rows : Array (Option Value)} {oc__law_rows kV__law_rows dc__law_rows pm__law_rows cd__law_rows ct__law_rows : Value}
    {od_Calendar_init an_Calendar_init : Option Addr} {sl_Calendar_init : Array (Option Value)} {oc_Calendar_init kV_Calendar_init dc_Calendar_init pm_Calendar_init cd_Calendar_init ct_Calendar_init : Value}
    {T_Calendar_init : Addr} {oT_Calendar_init : Obj} {tk0_Calendar_init : Tok} {nT_Calendar_init : Nat}
    {od_Calendar_cycle_days an_Calendar_cycle_days : Option Addr} {sl_Calendar_cycle_days : Array (Option Value)} {oc_Calendar_cycle_days kV_Calendar_cycle_days dc_Calendar_cycle_days pm_Calendar_cycle_days cd_Calendar_cycle_days ct_Calendar_cycle_days : Value}
    {od_Calendar_is_long an_Calendar_is_long : Option Addr} {sl_Calendar_is_long : Array (Option Value)} {oc_Calendar_is_long kV_Calendar_is_long dc_Calendar_is_long pm_Calendar_is_long cd_Calendar_is_long ct_Calendar_is_long : Value}
    {od_Calendar_year_days an_Calendar_year_days : Option Addr} {sl_Calendar_year_days : Array (Option Value)} {oc_Calendar_year_days kV_Calendar_year_days dc_Calendar_year_days pm_Calendar_year_days cd_Calendar_year_days ct_Calendar_year_days : Value}
    {od_Calendar_month_days an_Calendar_month_days : Option Addr} {sl_Calendar_month_days : Array (Option Value)} {oc_Calendar_month_days kV_Calendar_month_days dc_Calendar_month_days pm_Calendar_month_days cd_Calendar_month_days ct_Calendar_month_days : Value}
    {od_Calendar_first_of an_Calendar_first_of : Option Addr} {sl_Calendar_first_of : Array (Option Value)} {oc_Calendar_first_of kV_Calendar_first_of dc_Calendar_first_of pm_Calendar_first_of cd_Calendar_first_of ct_Calendar_first_of : Value}
    {od_Calendar_number_of an_Calendar_number_of : Option Addr} {sl_Calendar_number_of : Array (Option Value)} {oc_Calendar_number_of kV_Calendar_number_of dc_Calendar_number_of pm_Calendar_number_of cd_Calendar_number_of ct_Calendar_number_of : Value}
    {od_Calendar_year_of an_Calendar_year_of : Option Addr} {sl_Calendar_year_of : Array (Option Value)} {oc_Calendar_year_of kV_Calendar_year_of dc_Calendar_year_of pm_Calendar_year_of cd_Calendar_year_of ct_Calendar_year_of : Value}
    {od_Calendar_date an_Calendar_date : Option Addr} {sl_Calendar_date : Array (Option Value)} {oc_Calendar_date kV_Calendar_date dc_Calendar_date pm_Calendar_date cd_Calendar_date ct_Calendar_date : Value}
    {od_Calendar_weekday_of an_Calendar_weekday_of : Option Addr} {sl_Calendar_weekday_of : Array (Option Value)} {oc_Calendar_weekday_of kV_Calendar_weekday_of dc_Calendar_weekday_of pm_Calendar_weekday_of cd_Calendar_weekday_of ct_Calendar_weekday_of : Value}
    {od_Day_init an_Day_init : Option Addr} {sl_Day_init : Array (Option Value)} {oc_Day_init kV_Day_init dc_Day_init pm_Day_init cd_Day_init ct_Day_init : Value}
    {od_Day_month_number an_Day_month_number : Option Addr} {sl_Day_month_number : Array (Option Value)} {oc_Day_month_number kV_Day_month_number dc_Day_month_number pm_Day_month_number cd_Day_month_number ct_Day_month_number : Value}
    {od__law_cases1 an__law_cases1 : Option Addr} {sl__law_cases1 : Array (Option Value)} {oc__law_cases1 kV__law_cases1 dc__law_cases1 pm__law_cases1 ct__law_cases1 : Value}
    {c2 P2 : Addr} {eC2 : Value} {dC2 : Option Addr} {vC2 : Array Value} {sC2 : Array (Option Value)}
    {od_L an_L : Option Addr} {sl_L : Array (Option Value)} {oc_L kV_L dc_L pm_L ct_L : Value} {cc PT : Addr} {eC : Value} {dC : Option Addr} {vC : Array Value} {sC : Array (Option Value)}
    (e0 : PySem.W.nsIn K mainGlobals "BadCalendar" = some (some (.ref C0)))
    (ex0 : PySem.W.excIn K C0 [.type "ValueError", .type "Exception", .type "BaseException", .type "object"] "ValueError.__new__" = true)
    (ek0 : PySem.W.keepIn K (.ref C0) = true)
    (eb0 : PySem.W.subIn K (.ref C0) (.type "BaseException") = some true)
    (et0 : PySem.W.typeIn K (.ref C0) = some (.type "type"))
    (e1 : PySem.W.nsIn K mainGlobals "BadDay" = some (some (.ref C1)))
    (ex1 : PySem.W.excIn K C1 [.type "ValueError", .type "Exception", .type "BaseException", .type "object"] "ValueError.__new__" = true)
    (ek1 : PySem.W.keepIn K (.ref C1) = true)
    (eb1 : PySem.W.subIn K (.ref C1) (.type "BaseException") = some true)
    (et1 : PySem.W.typeIn K (.ref C1) = some (.type "type"))
    (e2 : PySem.W.nsIn K mainGlobals "BadTime" = some (some (.ref C2)))
    (ex2 : PySem.W.excIn K C2 [.type "ValueError", .type "Exception", .type "BaseException", .type "object"] "ValueError.__new__" = true)
    (ek2 : PySem.W.keepIn K (.ref C2) = true)
    (eb2 : PySem.W.subIn K (.ref C2) (.type "BaseException") = some true)
    (et2 : PySem.W.typeIn K (.ref C2) = some (.type "type"))
    (e3 : PySem.W.nsIn K mainGlobals "BadRule" = some (some (.ref C3)))
    (ex3 : PySem.W.excIn K C3 [.type "ValueError", .type "Exception", .type "BaseException", .type "object"] "ValueError.__new__" = true)
    (ek3 : PySem.W.keepIn K (.ref C3) = true)
    (eb3 : PySem.W.subIn K (.ref C3) (.type "BaseException") = some true)
    (et3 : PySem.W.typeIn K (.ref C3) = some (.type "type"))
    (e4 : PySem.W.nsIn K mainGlobals "BadZone" = some (some (.ref C4)))
    (ex4 : PySem.W.excIn K C4 [.type "ValueError", .type "Exception", .type "BaseException", .type "object"] "ValueError.__new__" = true)
    (ek4 : PySem.W.keepIn K (.ref C4) = true)
    (eb4 : PySem.W.subIn K (.ref C4) (.type "BaseException") = some true)
    (et4 : PySem.W.typeIn K (.ref C4) = some (.type "type"))
    (e5 : PySem.W.nsIn K mainGlobals "BadSize" = some (some (.ref C5)))
    (ex5 : PySem.W.excIn K C5 [.type "ValueError", .type "Exception", .type "BaseException", .type "object"] "ValueError.__new__" = true)
    (ek5 : PySem.W.keepIn K (.ref C5) = true)
    (eb5 : PySem.W.subIn K (.ref C5) (.type "BaseException") = some true)
    (et5 : PySem.W.typeIn K (.ref C5) = some (.type "type"))
    (e6 : PySem.W.nsIn K mainGlobals "BadPaper" = some (some (.ref C6)))
    (ex6 : PySem.W.excIn K C6 [.type "ValueError", .type "Exception", .type "BaseException", .type "object"] "ValueError.__new__" = true)
    (ek6 : PySem.W.keepIn K (.ref C6) = true)
    (eb6 : PySem.W.subIn K (.ref C6) (.type "BaseException") = some true)
    (et6 : PySem.W.typeIn K (.ref C6) = some (.type "type"))
    (e7 : PySem.W.nsIn K mainGlobals "BadText" = some (some (.ref C7)))
    (ex7 : PySem.W.excIn K C7 [.type "ValueError", .type "Exception", .type "BaseException", .type "object"] "ValueError.__new__" = true)
    (ek7 : PySem.W.keepIn K (.ref C7) = true)
    (eb7 : PySem.W.subIn K (.ref C7) (.type "BaseException") = some true)
    (et7 : PySem.W.typeIn K (.ref C7) = some (.type "type"))
    (e8 : PySem.W.nsIn K mainGlobals "BadStore" = some (some (.ref C8)))
    (ex8 : PySem.W.excIn K C8 [.type "ValueError", .type "Exception", .type "BaseException", .type "object"] "ValueError.__new__" = true)
    (ek8 : PySem.W.keepIn K (.ref C8) = true)
    (eb8 : PySem.W.subIn K (.ref C8) (.type "BaseException") = some true)
    (et8 : PySem.W.typeIn K (.ref C8) = some (.type "type"))
    (e9 : PySem.W.nsIn K mainGlobals "NoDay" = some (some (.ref C9)))
    (ex9 : PySem.W.excIn K C9 [.type "ValueError", .type "Exception", .type "BaseException", .type "object"] "ValueError.__new__" = true)
    (ek9 : PySem.W.keepIn K (.ref C9) = true)
    (eb9 : PySem.W.subIn K (.ref C9) (.type "BaseException") = some true)
    (et9 : PySem.W.typeIn K (.ref C9) = some (.type "type"))
    (e10 : PySem.W.nsIn K mainGlobals "NoSuch" = some (some (.ref C10)))
    (ex10 : PySem.W.excIn K C10 [.type "ValueError", .type "Exception", .type "BaseException", .type "object"] "ValueError.__new__" = true)
    (ek10 : PySem.W.keepIn K (.ref C10) = true)
    (eb10 : PySem.W.subIn K (.ref C10) (.type "BaseException") = some true)
    (et10 : PySem.W.typeIn K (.ref C10) = some (.type "type"))
    (em0 : exRow K C0 [] = true)
    (em1 : exRow K C1 [C0] = true)
    (em2 : exRow K C2 [C0, C1] = true)
    (em3 : exRow K C3 [C0, C1, C2] = true)
    (em4 : exRow K C4 [C0, C1, C2, C3] = true)
    (em5 : exRow K C5 [C0, C1, C2, C3, C4] = true)
    (em6 : exRow K C6 [C0, C1, C2, C3, C4, C5] = true)
    (em7 : exRow K C7 [C0, C1, C2, C3, C4, C5, C6] = true)
    (em8 : exRow K C8 [C0, C1, C2, C3, C4, C5, C6, C7] = true)
    (em9 : exRow K C9 [C0, C1, C2, C3, C4, C5, C6, C7, C8] = true)
    (em10 : exRow K C10 [C0, C1, C2, C3, C4, C5, C6, C7, C8, C9] = true)
    (a_count_below : PySem.W.nsIn K mainGlobals "count_below" = some (some (.ref f_count_below)))
    (l_count_below : K.lookup f_count_below = some ⟨oc_count_below, od_count_below, .func (PySem.W.fnOf "count_below" "count_below" (defArgs s_count_below) (defBody s_count_below) (defScope s_count_below) .none kV_count_below dc_count_below pm_count_below an_count_below cd_count_below ct_count_below), sl_count_below⟩)
    (c_count_below : PySem.W.codeIn K cd_count_below "count_below" = true)
    (k_count_below : PySem.W.keepIn K (.ref f_count_below) = true)
    (a_day_of : PySem.W.nsIn K mainGlobals "day_of" = some (some (.ref f_day_of)))
    (l_day_of : K.lookup f_day_of = some ⟨oc_day_of, od_day_of, .func (PySem.W.fnOf "day_of" "day_of" (defArgs s_day_of) (defBody s_day_of) (defScope s_day_of) .none kV_day_of dc_day_of pm_day_of an_day_of cd_day_of ct_day_of), sl_day_of⟩)
    (c_day_of : PySem.W.codeIn K cd_day_of "day_of" = true)
    (k_day_of : PySem.W.keepIn K (.ref f_day_of) = true)
    (a_months_on : PySem.W.nsIn K mainGlobals "months_on" = some (some (.ref f_months_on)))
    (l_months_on : K.lookup f_months_on = some ⟨oc_months_on, od_months_on, .func (PySem.W.fnOf "months_on" "months_on" (defArgs s_months_on) (defBody s_months_on) (defScope s_months_on) (.ref T_months_on) kV_months_on dc_months_on pm_months_on an_months_on cd_months_on ct_months_on), sl_months_on⟩)
    (c_months_on : PySem.W.codeIn K cd_months_on "months_on" = true)
    (k_months_on : PySem.W.keepIn K (.ref f_months_on) = true)
    (lT_months_on : K.lookup T_months_on = some oT_months_on)
    (dT_months_on : oT_months_on.data = .seq #[.bool true] nT_months_on)
    (a_has_month : PySem.W.nsIn K mainGlobals "has_month" = some (some (.ref f_has_month)))
    (l_has_month : K.lookup f_has_month = some ⟨oc_has_month, od_has_month, .func (PySem.W.fnOf "has_month" "has_month" (defArgs s_has_month) (defBody s_has_month) (defScope s_has_month) .none kV_has_month dc_has_month pm_has_month an_has_month cd_has_month ct_has_month), sl_has_month⟩)
    (c_has_month : PySem.W.codeIn K cd_has_month "has_month" = true)
    (k_has_month : PySem.W.keepIn K (.ref f_has_month) = true)
    (a_has_parts : PySem.W.nsIn K mainGlobals "has_parts" = some (some (.ref f_has_parts)))
    (l_has_parts : K.lookup f_has_parts = some ⟨oc_has_parts, od_has_parts, .func (PySem.W.fnOf "has_parts" "has_parts" (defArgs s_has_parts) (defBody s_has_parts) (defScope s_has_parts) .none kV_has_parts dc_has_parts pm_has_parts an_has_parts cd_has_parts ct_has_parts), sl_has_parts⟩)
    (c_has_parts : PySem.W.codeIn K cd_has_parts "has_parts" = true)
    (k_has_parts : PySem.W.keepIn K (.ref f_has_parts) = true)
    (a_business_year : PySem.W.nsIn K mainGlobals "business_year" = some (some (.ref f_business_year)))
    (l_business_year : K.lookup f_business_year = some ⟨oc_business_year, od_business_year, .func (PySem.W.fnOf "business_year" "business_year" (defArgs s_business_year) (defBody s_business_year) (defScope s_business_year) .none kV_business_year dc_business_year pm_business_year an_business_year cd_business_year ct_business_year), sl_business_year⟩)
    (c_business_year : PySem.W.codeIn K cd_business_year "business_year" = true)
    (k_business_year : PySem.W.keepIn K (.ref f_business_year) = true)
    (a_part_of_business : PySem.W.nsIn K mainGlobals "part_of_business" = some (some (.ref f_part_of_business)))
    (l_part_of_business : K.lookup f_part_of_business = some ⟨oc_part_of_business, od_part_of_business, .func (PySem.W.fnOf "part_of_business" "part_of_business" (defArgs s_part_of_business) (defBody s_part_of_business) (defScope s_part_of_business) .none kV_part_of_business dc_part_of_business pm_part_of_business an_part_of_business cd_part_of_business ct_part_of_business), sl_part_of_business⟩)
    (c_part_of_business : PySem.W.codeIn K cd_part_of_business "part_of_business" = true)
    (k_part_of_business : PySem.W.keepIn K (.ref f_part_of_business) = true)
    (a_start_of_part : PySem.W.nsIn K mainGlobals "start_of_part" = some (some (.ref f_start_of_part)))
    (l_start_of_part : K.lookup f_start_of_part = some ⟨oc_start_of_part, od_start_of_part, .func (PySem.W.fnOf "start_of_part" "start_of_part" (defArgs s_start_of_part) (defBody s_start_of_part) (defScope s_start_of_part) .none kV_start_of_part dc_start_of_part pm_start_of_part an_start_of_part cd_start_of_part ct_start_of_part), sl_start_of_part⟩)
    (c_start_of_part : PySem.W.codeIn K cd_start_of_part "start_of_part" = true)
    (k_start_of_part : PySem.W.keepIn K (.ref f_start_of_part) = true)
    (a_weeks_pattern : PySem.W.nsIn K mainGlobals "weeks_pattern" = some (some (.ref f_weeks_pattern)))
    (l_weeks_pattern : K.lookup f_weeks_pattern = some ⟨oc_weeks_pattern, od_weeks_pattern, .func (PySem.W.fnOf "weeks_pattern" "weeks_pattern" (defArgs s_weeks_pattern) (defBody s_weeks_pattern) (defScope s_weeks_pattern) .none kV_weeks_pattern dc_weeks_pattern pm_weeks_pattern an_weeks_pattern cd_weeks_pattern ct_weeks_pattern), sl_weeks_pattern⟩)
    (c_weeks_pattern : PySem.W.codeIn K cd_weeks_pattern "weeks_pattern" = true)
    (k_weeks_pattern : PySem.W.keepIn K (.ref f_weeks_pattern) = true)
    (a_even_months : PySem.W.nsIn K mainGlobals "even_months" = some (some (.ref f_even_months)))
    (l_even_months : K.lookup f_even_months = some ⟨oc_even_months, od_even_months, .func (PySem.W.fnOf "even_months" "even_months" (defArgs s_even_months) (defBody s_even_months) (defScope s_even_months) .none kV_even_months dc_even_months pm_even_months an_even_months cd_even_months ct_even_months), sl_even_months⟩)
    (c_even_months : PySem.W.codeIn K cd_even_months "even_months" = true)
    (k_even_months : PySem.W.keepIn K (.ref f_even_months) = true)
    (a_even_place : PySem.W.nsIn K mainGlobals "even_place" = some (some (.ref f_even_place)))
    (l_even_place : K.lookup f_even_place = some ⟨oc_even_place, od_even_place, .func (PySem.W.fnOf "even_place" "even_place" (defArgs s_even_place) (defBody s_even_place) (defScope s_even_place) .none kV_even_place dc_even_place pm_even_place an_even_place cd_even_place ct_even_place), sl_even_place⟩)
    (c_even_place : PySem.W.codeIn K cd_even_place "even_place" = true)
    (k_even_place : PySem.W.keepIn K (.ref f_even_place) = true)
    (a_share_of_years : PySem.W.nsIn K mainGlobals "share_of_years" = some (some (.ref f_share_of_years)))
    (l_share_of_years : K.lookup f_share_of_years = some ⟨oc_share_of_years, od_share_of_years, .func (PySem.W.fnOf "share_of_years" "share_of_years" (defArgs s_share_of_years) (defBody s_share_of_years) (defScope s_share_of_years) .none kV_share_of_years dc_share_of_years pm_share_of_years an_share_of_years cd_share_of_years ct_share_of_years), sl_share_of_years⟩)
    (c_share_of_years : PySem.W.codeIn K cd_share_of_years "share_of_years" = true)
    (k_share_of_years : PySem.W.keepIn K (.ref f_share_of_years) = true)
    (a_due_days : PySem.W.nsIn K mainGlobals "due_days" = some (some (.ref f_due_days)))
    (l_due_days : K.lookup f_due_days = some ⟨oc_due_days, od_due_days, .func (PySem.W.fnOf "due_days" "due_days" (defArgs s_due_days) (defBody s_due_days) (defScope s_due_days) .none kV_due_days dc_due_days pm_due_days an_due_days cd_due_days ct_due_days), sl_due_days⟩)
    (c_due_days : PySem.W.codeIn K cd_due_days "due_days" = true)
    (k_due_days : PySem.W.keepIn K (.ref f_due_days) = true)
    (a_spread : PySem.W.nsIn K mainGlobals "spread" = some (some (.ref f_spread)))
    (l_spread : K.lookup f_spread = some ⟨oc_spread, od_spread, .func (PySem.W.fnOf "spread" "spread" (defArgs s_spread) (defBody s_spread) (defScope s_spread) .none kV_spread dc_spread pm_spread an_spread cd_spread ct_spread), sl_spread⟩)
    (c_spread : PySem.W.codeIn K cd_spread "spread" = true)
    (k_spread : PySem.W.keepIn K (.ref f_spread) = true)
    (a__law_dice : PySem.W.nsIn K mainGlobals "_law_dice" = some (some (.ref f__law_dice)))
    (l__law_dice : K.lookup f__law_dice = some ⟨oc__law_dice, od__law_dice, .func (PySem.W.fnOf "_law_dice" "_law_dice" (defArgs sDice) (defBody sDice) (defScope sDice) .none kV__law_dice dc__law_dice pm__law_dice an__law_dice cd__law_dice ct__law_dice), sl__law_dice⟩)
    (c__law_dice : PySem.W.codeIn K cd__law_dice "_law_dice" = true)
    (k__law_dice : PySem.W.keepIn K (.ref f__law_dice) = true)
    (a__law_roll : PySem.W.nsIn K mainGlobals "_law_roll" = some (some (.ref f__law_roll)))
    (l__law_roll : K.lookup f__law_roll = some ⟨oc__law_roll, od__law_roll, .func (PySem.W.fnOf "_law_roll" "_law_roll" (defArgs sRoll) (defBody sRoll) (defScope sRoll) .none kV__law_roll dc__law_roll pm__law_roll an__law_roll cd__law_roll ct__law_roll), sl__law_roll⟩)
    (c__law_roll : PySem.W.codeIn K cd__law_roll "_law_roll" = true)
    (k__law_roll : PySem.W.keepIn K (.ref f__law_roll) = true)
    (a__law_rounds : PySem.W.nsIn K mainGlobals "_law_rounds" = some (some (.ref f__law_rounds)))
    (l__law_rounds : K.lookup f__law_rounds = some ⟨oc__law_rounds, od__law_rounds, .func (PySem.W.fnOf "_law_rounds" "_law_rounds" (defArgs sRounds) (defBody sRounds) (defScope sRounds) .none kV__law_rounds dc__law_rounds pm__law_rounds an__law_rounds cd__law_rounds ct__law_rounds), sl__law_rounds⟩)
    (c__law_rounds : PySem.W.codeIn K cd__law_rounds "_law_rounds" = true)
    (k__law_rounds : PySem.W.keepIn K (.ref f__law_rounds) = true)
    (a__law_told : PySem.W.nsIn K mainGlobals "_law_told" = some (some (.ref f__law_told)))
    (l__law_told : K.lookup f__law_told = some ⟨oc__law_told, od__law_told, .func (PySem.W.fnOf "_law_told" "_law_told" (defArgs sTold) (defBody sTold) (defScope sTold) .none kV__law_told dc__law_told pm__law_told an__law_told cd__law_told ct__law_told), sl__law_told⟩)
    (c__law_told : PySem.W.codeIn K cd__law_told "_law_told" = true)
    (k__law_told : PySem.W.keepIn K (.ref f__law_told) = true)
    (a__law_calendar : PySem.W.nsIn K mainGlobals "_law_calendar" = some (some (.ref f__law_calendar)))
    (l__law_calendar : K.lookup f__law_calendar = some ⟨oc__law_calendar, od__law_calendar, .func (PySem.W.fnOf "_law_calendar" "_law_calendar" (defArgs s_cal) (defBody s_cal) (defScope s_cal) .none kV__law_calendar dc__law_calendar pm__law_calendar an__law_calendar cd__law_calendar ct__law_calendar), sl__law_calendar⟩)
    (c__law_calendar : PySem.W.codeIn K cd__law_calendar "_law_calendar" = true)
    (k__law_calendar : PySem.W.keepIn K (.ref f__law_calendar) = true)
    (a__law_rows : PySem.W.nsIn K mainGlobals "_law_rows" = some (some (.ref f__law_rows)))
    (l__law_rows : K.lookup f__law_rows = some ⟨oc__law_rows, od__law_rows, .func (PySem.W.fnOf "_law_rows" "_law_rows" (defArgs s_rows) (defBody s_rows) (defScope s_rows) .none kV__law_rows dc__law_rows pm__law_rows an__law_rows cd__law_rows ct__law_rows), sl__law_rows⟩)
    (c__law_rows : PySem.W.codeIn K cd__law_rows "_law_rows" = true)
    (k__law_rows : PySem.W.keepIn K (.ref f__law_rows) = true)
    (a_Calendar : PySem.W.nsIn K mainGlobals "Calendar" = some (some (.ref CC)))
    (pg_Calendar : PySem.W.plainGet K CC Str.empty = true)
    (hd_Calendar : PySem.W.hasDictIn K CC = true)
    (po_Calendar : PySem.W.plainOver K CC = true)
    (sa_Calendar : PySem.W.findIn K (.ref CC) "__setattr__" = some (some (.builtin "object.__setattr__")))
    (kc_Calendar : PySem.W.keepIn K (.ref CC) = true)
    (mk_Calendar : PySem.W.makesIn K CC = true)
    (n_Calendar_months : PySem.W.findIn K (.ref CC) "months" = some none)
    (n_Calendar_long_month : PySem.W.findIn K (.ref CC) "long_month" = some none)
    (n_Calendar_cycle : PySem.W.findIn K (.ref CC) "cycle" = some none)
    (n_Calendar_long_years : PySem.W.findIn K (.ref CC) "long_years" = some none)
    (n_Calendar_week : PySem.W.findIn K (.ref CC) "week" = some none)
    (n_Calendar_first_weekday : PySem.W.findIn K (.ref CC) "first_weekday" = some none)
    (n_Calendar_longs : PySem.W.findIn K (.ref CC) "longs" = some none)
    (n_Calendar_plain_days : PySem.W.findIn K (.ref CC) "plain_days" = some none)
    (n_Calendar_starts : PySem.W.findIn K (.ref CC) "starts" = some none)
    (m_Calendar_init : PySem.W.findIn K (.ref CC) "__init__" = some (some (.ref f_Calendar_init)))
    (i_Calendar_init : PySem.W.isFn K (.ref f_Calendar_init) = true)
    (l_Calendar_init : K.lookup f_Calendar_init = some ⟨oc_Calendar_init, od_Calendar_init, .func (PySem.W.fnOf "__init__" "Calendar.__init__" (defArgs c_init) (defBody c_init) (defScope c_init) (.ref T_Calendar_init) kV_Calendar_init dc_Calendar_init pm_Calendar_init an_Calendar_init cd_Calendar_init ct_Calendar_init), sl_Calendar_init⟩)
    (c_Calendar_init : PySem.W.codeIn K cd_Calendar_init "Calendar.__init__" = true)
    (k_Calendar_init : PySem.W.keepIn K (.ref f_Calendar_init) = true)
    (lT_Calendar_init : K.lookup T_Calendar_init = some oT_Calendar_init)
    (dT_Calendar_init : oT_Calendar_init.data = .seq #[.int 0 tk0_Calendar_init] nT_Calendar_init)
    (m_Calendar_cycle_days : PySem.W.findIn K (.ref CC) "cycle_days" = some (some (.ref f_Calendar_cycle_days)))
    (i_Calendar_cycle_days : PySem.W.isFn K (.ref f_Calendar_cycle_days) = true)
    (l_Calendar_cycle_days : K.lookup f_Calendar_cycle_days = some ⟨oc_Calendar_cycle_days, od_Calendar_cycle_days, .func (PySem.W.fnOf "cycle_days" "Calendar.cycle_days" (defArgs c_cycle_days) (defBody c_cycle_days) (defScope c_cycle_days) .none kV_Calendar_cycle_days dc_Calendar_cycle_days pm_Calendar_cycle_days an_Calendar_cycle_days cd_Calendar_cycle_days ct_Calendar_cycle_days), sl_Calendar_cycle_days⟩)
    (c_Calendar_cycle_days : PySem.W.codeIn K cd_Calendar_cycle_days "Calendar.cycle_days" = true)
    (k_Calendar_cycle_days : PySem.W.keepIn K (.ref f_Calendar_cycle_days) = true)
    (m_Calendar_is_long : PySem.W.findIn K (.ref CC) "is_long" = some (some (.ref f_Calendar_is_long)))
    (i_Calendar_is_long : PySem.W.isFn K (.ref f_Calendar_is_long) = true)
    (l_Calendar_is_long : K.lookup f_Calendar_is_long = some ⟨oc_Calendar_is_long, od_Calendar_is_long, .func (PySem.W.fnOf "is_long" "Calendar.is_long" (defArgs c_is_long) (defBody c_is_long) (defScope c_is_long) .none kV_Calendar_is_long dc_Calendar_is_long pm_Calendar_is_long an_Calendar_is_long cd_Calendar_is_long ct_Calendar_is_long), sl_Calendar_is_long⟩)
    (c_Calendar_is_long : PySem.W.codeIn K cd_Calendar_is_long "Calendar.is_long" = true)
    (k_Calendar_is_long : PySem.W.keepIn K (.ref f_Calendar_is_long) = true)
    (m_Calendar_year_days : PySem.W.findIn K (.ref CC) "year_days" = some (some (.ref f_Calendar_year_days)))
    (i_Calendar_year_days : PySem.W.isFn K (.ref f_Calendar_year_days) = true)
    (l_Calendar_year_days : K.lookup f_Calendar_year_days = some ⟨oc_Calendar_year_days, od_Calendar_year_days, .func (PySem.W.fnOf "year_days" "Calendar.year_days" (defArgs c_year_days) (defBody c_year_days) (defScope c_year_days) .none kV_Calendar_year_days dc_Calendar_year_days pm_Calendar_year_days an_Calendar_year_days cd_Calendar_year_days ct_Calendar_year_days), sl_Calendar_year_days⟩)
    (c_Calendar_year_days : PySem.W.codeIn K cd_Calendar_year_days "Calendar.year_days" = true)
    (k_Calendar_year_days : PySem.W.keepIn K (.ref f_Calendar_year_days) = true)
    (m_Calendar_month_days : PySem.W.findIn K (.ref CC) "month_days" = some (some (.ref f_Calendar_month_days)))
    (i_Calendar_month_days : PySem.W.isFn K (.ref f_Calendar_month_days) = true)
    (l_Calendar_month_days : K.lookup f_Calendar_month_days = some ⟨oc_Calendar_month_days, od_Calendar_month_days, .func (PySem.W.fnOf "month_days" "Calendar.month_days" (defArgs c_month_days) (defBody c_month_days) (defScope c_month_days) .none kV_Calendar_month_days dc_Calendar_month_days pm_Calendar_month_days an_Calendar_month_days cd_Calendar_month_days ct_Calendar_month_days), sl_Calendar_month_days⟩)
    (c_Calendar_month_days : PySem.W.codeIn K cd_Calendar_month_days "Calendar.month_days" = true)
    (k_Calendar_month_days : PySem.W.keepIn K (.ref f_Calendar_month_days) = true)
    (m_Calendar_first_of : PySem.W.findIn K (.ref CC) "first_of" = some (some (.ref f_Calendar_first_of)))
    (i_Calendar_first_of : PySem.W.isFn K (.ref f_Calendar_first_of) = true)
    (l_Calendar_first_of : K.lookup f_Calendar_first_of = some ⟨oc_Calendar_first_of, od_Calendar_first_of, .func (PySem.W.fnOf "first_of" "Calendar.first_of" (defArgs c_first_of) (defBody c_first_of) (defScope c_first_of) .none kV_Calendar_first_of dc_Calendar_first_of pm_Calendar_first_of an_Calendar_first_of cd_Calendar_first_of ct_Calendar_first_of), sl_Calendar_first_of⟩)
    (c_Calendar_first_of : PySem.W.codeIn K cd_Calendar_first_of "Calendar.first_of" = true)
    (k_Calendar_first_of : PySem.W.keepIn K (.ref f_Calendar_first_of) = true)
    (m_Calendar_number_of : PySem.W.findIn K (.ref CC) "number_of" = some (some (.ref f_Calendar_number_of)))
    (i_Calendar_number_of : PySem.W.isFn K (.ref f_Calendar_number_of) = true)
    (l_Calendar_number_of : K.lookup f_Calendar_number_of = some ⟨oc_Calendar_number_of, od_Calendar_number_of, .func (PySem.W.fnOf "number_of" "Calendar.number_of" (defArgs s_number_of) (defBody s_number_of) (defScope s_number_of) .none kV_Calendar_number_of dc_Calendar_number_of pm_Calendar_number_of an_Calendar_number_of cd_Calendar_number_of ct_Calendar_number_of), sl_Calendar_number_of⟩)
    (c_Calendar_number_of : PySem.W.codeIn K cd_Calendar_number_of "Calendar.number_of" = true)
    (k_Calendar_number_of : PySem.W.keepIn K (.ref f_Calendar_number_of) = true)
    (m_Calendar_year_of : PySem.W.findIn K (.ref CC) "year_of" = some (some (.ref f_Calendar_year_of)))
    (i_Calendar_year_of : PySem.W.isFn K (.ref f_Calendar_year_of) = true)
    (l_Calendar_year_of : K.lookup f_Calendar_year_of = some ⟨oc_Calendar_year_of, od_Calendar_year_of, .func (PySem.W.fnOf "year_of" "Calendar.year_of" (defArgs c_year_of) (defBody c_year_of) (defScope c_year_of) .none kV_Calendar_year_of dc_Calendar_year_of pm_Calendar_year_of an_Calendar_year_of cd_Calendar_year_of ct_Calendar_year_of), sl_Calendar_year_of⟩)
    (c_Calendar_year_of : PySem.W.codeIn K cd_Calendar_year_of "Calendar.year_of" = true)
    (k_Calendar_year_of : PySem.W.keepIn K (.ref f_Calendar_year_of) = true)
    (m_Calendar_date : PySem.W.findIn K (.ref CC) "date" = some (some (.ref f_Calendar_date)))
    (i_Calendar_date : PySem.W.isFn K (.ref f_Calendar_date) = true)
    (l_Calendar_date : K.lookup f_Calendar_date = some ⟨oc_Calendar_date, od_Calendar_date, .func (PySem.W.fnOf "date" "Calendar.date" (defArgs c_date) (defBody c_date) (defScope c_date) .none kV_Calendar_date dc_Calendar_date pm_Calendar_date an_Calendar_date cd_Calendar_date ct_Calendar_date), sl_Calendar_date⟩)
    (c_Calendar_date : PySem.W.codeIn K cd_Calendar_date "Calendar.date" = true)
    (k_Calendar_date : PySem.W.keepIn K (.ref f_Calendar_date) = true)
    (m_Calendar_weekday_of : PySem.W.findIn K (.ref CC) "weekday_of" = some (some (.ref f_Calendar_weekday_of)))
    (i_Calendar_weekday_of : PySem.W.isFn K (.ref f_Calendar_weekday_of) = true)
    (l_Calendar_weekday_of : K.lookup f_Calendar_weekday_of = some ⟨oc_Calendar_weekday_of, od_Calendar_weekday_of, .func (PySem.W.fnOf "weekday_of" "Calendar.weekday_of" (defArgs c_weekday_of) (defBody c_weekday_of) (defScope c_weekday_of) .none kV_Calendar_weekday_of dc_Calendar_weekday_of pm_Calendar_weekday_of an_Calendar_weekday_of cd_Calendar_weekday_of ct_Calendar_weekday_of), sl_Calendar_weekday_of⟩)
    (c_Calendar_weekday_of : PySem.W.codeIn K cd_Calendar_weekday_of "Calendar.weekday_of" = true)
    (k_Calendar_weekday_of : PySem.W.keepIn K (.ref f_Calendar_weekday_of) = true)
    (a_Day : PySem.W.nsIn K mainGlobals "Day" = some (some (.ref DD)))
    (pg_Day : PySem.W.plainGet K DD Str.empty = true)
    (hd_Day : PySem.W.hasDictIn K DD = true)
    (po_Day : PySem.W.plainOver K DD = true)
    (sa_Day : PySem.W.findIn K (.ref DD) "__setattr__" = some (some (.builtin "object.__setattr__")))
    (kc_Day : PySem.W.keepIn K (.ref DD) = true)
    (mk_Day : PySem.W.makesIn K DD = true)
    (n_Day_calendar : PySem.W.findIn K (.ref DD) "calendar" = some none)
    (n_Day_number : PySem.W.findIn K (.ref DD) "number" = some none)
    (n_Day_year : PySem.W.findIn K (.ref DD) "year" = some none)
    (n_Day_month : PySem.W.findIn K (.ref DD) "month" = some none)
    (n_Day_day : PySem.W.findIn K (.ref DD) "day" = some none)
    (n_Day_weekday : PySem.W.findIn K (.ref DD) "weekday" = some none)
    (n_Day_year_day : PySem.W.findIn K (.ref DD) "year_day" = some none)
    (m_Day_init : PySem.W.findIn K (.ref DD) "__init__" = some (some (.ref f_Day_init)))
    (i_Day_init : PySem.W.isFn K (.ref f_Day_init) = true)
    (l_Day_init : K.lookup f_Day_init = some ⟨oc_Day_init, od_Day_init, .func (PySem.W.fnOf "__init__" "Day.__init__" (defArgs d_init) (defBody d_init) (defScope d_init) .none kV_Day_init dc_Day_init pm_Day_init an_Day_init cd_Day_init ct_Day_init), sl_Day_init⟩)
    (c_Day_init : PySem.W.codeIn K cd_Day_init "Day.__init__" = true)
    (k_Day_init : PySem.W.keepIn K (.ref f_Day_init) = true)
    (m_Day_month_number : PySem.W.findIn K (.ref DD) "month_number" = some (some (.ref f_Day_month_number)))
    (i_Day_month_number : PySem.W.isFn K (.ref f_Day_month_number) = true)
    (l_Day_month_number : K.lookup f_Day_month_number = some ⟨oc_Day_month_number, od_Day_month_number, .func (PySem.W.fnOf "month_number" "Day.month_number" (defArgs s_month_number) (defBody s_month_number) (defScope s_month_number) .none kV_Day_month_number dc_Day_month_number pm_Day_month_number an_Day_month_number cd_Day_month_number ct_Day_month_number), sl_Day_month_number⟩)
    (c_Day_month_number : PySem.W.codeIn K cd_Day_month_number "Day.month_number" = true)
    (k_Day_month_number : PySem.W.keepIn K (.ref f_Day_month_number) = true)
    (n_int : PySem.W.nsIn K mainGlobals "int" = some none)
    (n_abs : PySem.W.nsIn K mainGlobals "abs" = some none)
    (n_len : PySem.W.nsIn K mainGlobals "len" = some none)
    (n_any : PySem.W.nsIn K mainGlobals "any" = some none)
    (n_sum : PySem.W.nsIn K mainGlobals "sum" = some none)
    (n_min : PySem.W.nsIn K mainGlobals "min" = some none)
    (n_max : PySem.W.nsIn K mainGlobals "max" = some none)
    (n_tuple : PySem.W.nsIn K mainGlobals "tuple" = some none)
    (n_range : PySem.W.nsIn K mainGlobals "range" = some none)
    (n_divmod : PySem.W.nsIn K mainGlobals "divmod" = some none)
    (n_list : PySem.W.nsIn K mainGlobals "list" = some none)
    (n_sorted : PySem.W.nsIn K mainGlobals "sorted" = some none)
    (n_enumerate : PySem.W.nsIn K mainGlobals "enumerate" = some none)
    (a__law_cases1 : PySem.W.nsIn K mainGlobals "_law_cases1" = some (some (.ref f__law_cases1)))
    (l__law_cases1 : K.lookup f__law_cases1 = some ⟨oc__law_cases1, od__law_cases1, .func (PySem.W.fnOf "_law_cases1" "_law_cases1" (defArgs sC1) (defBody sC1) (defScope sC1) .none kV__law_cases1 dc__law_cases1 pm__law_cases1 an__law_cases1 (.ref c2) ct__law_cases1), sl__law_cases1⟩)
    (c__law_cases1 : PySem.W.codeIn K (.ref c2) "_law_cases1" = true)
    (k__law_cases1 : PySem.W.keepIn K (.ref f__law_cases1) = true)
    (lC2 : K.lookup c2 = some ⟨eC2, dC2, .fields vC2, sC2⟩)
    (vP2 : vC2[11]? = some (.ref P2))
    (nP2 : K.lookup P2 = none)
    (hC2 : PySem.W.codeHdIn K c2 P2 = true)
    (neP : decide (P2 ≠ PT) = true)
    (aL : PySem.W.nsIn K mainGlobals "law" = some (some (.ref fL)))
    (lL : K.lookup fL = some ⟨oc_L, od_L, .func (PySem.W.fnOf "law" "law" (defArgs sLaw) (defBody sLaw) (defScope sLaw) .none kV_L dc_L pm_L an_L (.ref cc) ct_L), sl_L⟩)
    (cL : PySem.W.codeIn K (.ref cc) "law" = true)
    (lC : K.lookup cc = some ⟨eC, dC, .fields vC, sC⟩)
    (vP : vC[11]? = some (.ref PT))
    (nP : K.lookup PT = none)
    (hC : PySem.W.codeHdIn K cc PT = true) :
    ∃ (fd : FuncData) (cs : List (Addr × Addr)) (sp : Sp), (∀ p ∈ cs, h.get? p.2 = some { cls := .none, data := .fields #[] }) ∧ (∀ p ∈ cs, K.lookup p.2 = none) ∧ (∀ p ∈ cs, PySem.W.CodeHd h p.1 p.2) ∧ (∀ (s : Shared) (u : Value), BindsTo s fd ⟨[u], []⟩ [("script", u)]) ∧
    (∀ (H : Hp) (a : Addr) (ns : List Int), ns.length ≤ 63 → (∀ z ∈ ns, Builtin.Int.intBits z ≤ 1048576) → (∀ p ∈ cs, H p.2 = some (.tbl #[])) → SqL K H a (ns.map V.int) → sp [.ref a] H (fun v _ => v = .bl true) fun _ _ _ => False) ∧
    ∀ base : Heap, K.In base → base.Ns mainGlobals mg → (∀ p ∈ cs, LamX.TabB base mg p.1 p.2) → FnOk P w K mg base (L2.CX P w) 12 fa fd ["script"] sp := by
  have e := hfa.symm.trans (PySem.W.mg_of X G aL)
  cases e
  have tab : h.get? PT = some { cls := .none, data := .fields #[] } := own cc PT _ _ _ _ _ _ lL rfl rfl lC vP
  have tab2 : h.get? P2 = some { cls := .none, data := .fields #[] } := own2 _ (PySem.W.mg_of X G a__law_cases1) c2 P2 _ _ _ _ _ _ l__law_cases1 rfl rfl lC2 vP2
  refine ⟨PySem.W.fnOf "law" "law" (defArgs sLaw) (defBody sLaw) (defScope sLaw) .none kV_L dc_L pm_L an_L (.ref cc) ct_L, [(cc, PT), (c2, P2)], spLaw K PT P2, fun p hp => (by
      rcases List.mem_cons.mp hp with q | q
      · rw [q]; exact tab
      · rw [List.mem_singleton.mp q]; exact tab2), fun p hp => (by
      rcases List.mem_cons.mp hp with q | q
      · rw [q]; exact nP
      · rw [List.mem_singleton.mp q]; exact nP2), fun p hp => (by
      rcases List.mem_cons.mp hp with q | q
      · rw [q]; exact PySem.W.codeHd_of_K X hC
      · rw [List.mem_singleton.mp q]; exact PySem.W.codeHd_of_K X hC2), fun s u => .of_eq (by rfl), fun H a ns _ _ hT hS => ⟨a, ns, rfl, hS, hT _ (List.mem_cons_self ..), hT _ (List.mem_cons_of_mem _ (List.mem_singleton.mpr rfl)), of_decide_eq_true neP, fun _ => rfl⟩, fun base KB GB TB => ?_⟩
  have g : ∀ {x : Str} {v : Value}, PySem.W.nsIn K mainGlobals x = some (some v) → mg x = some v := fun e => PySem.W.mg_of X G e
  have g0 : ∀ {x : Str}, PySem.W.nsIn K mainGlobals x = some none → mg x = none := fun e => PySem.W.mg_none_of X G e
  have EX : Exs K mg (cOf [C0, C1, C2, C3, C4, C5, C6, C7, C8, C9, C10]) := by
    constructor
    · intro i hi
      match i, hi with
      | 0, _ => exact ⟨g e0, ex0, ek0, eb0, et0⟩
      | 1, _ => exact ⟨g e1, ex1, ek1, eb1, et1⟩
      | 2, _ => exact ⟨g e2, ex2, ek2, eb2, et2⟩
      | 3, _ => exact ⟨g e3, ex3, ek3, eb3, et3⟩
      | 4, _ => exact ⟨g e4, ex4, ek4, eb4, et4⟩
      | 5, _ => exact ⟨g e5, ex5, ek5, eb5, et5⟩
      | 6, _ => exact ⟨g e6, ex6, ek6, eb6, et6⟩
      | 7, _ => exact ⟨g e7, ex7, ek7, eb7, et7⟩
      | 8, _ => exact ⟨g e8, ex8, ek8, eb8, et8⟩
      | 9, _ => exact ⟨g e9, ex9, ek9, eb9, et9⟩
      | 10, _ => exact ⟨g e10, ex10, ek10, eb10, et10⟩
      | i + 11, hi => exact absurd hi (by omega)
    · intro i j hi hj
      match i, hi with
      | 0, _ =>
        match j, hj with
        | 0, _ => exact exRow_self em0
        | j + 1, hj => exact absurd hj (by omega)
      | 1, _ =>
        match j, hj with
        | 0, _ => exact exRow_mem (b := C0) em1 (by simp)
        | 1, _ => exact exRow_self em1
        | j + 2, hj => exact absurd hj (by omega)
      | 2, _ =>
        match j, hj with
        | 0, _ => exact exRow_mem (b := C0) em2 (by simp)
        | 1, _ => exact exRow_mem (b := C1) em2 (by simp)
        | 2, _ => exact exRow_self em2
        | j + 3, hj => exact absurd hj (by omega)
      | 3, _ =>
        match j, hj with
        | 0, _ => exact exRow_mem (b := C0) em3 (by simp)
        | 1, _ => exact exRow_mem (b := C1) em3 (by simp)
        | 2, _ => exact exRow_mem (b := C2) em3 (by simp)
        | 3, _ => exact exRow_self em3
        | j + 4, hj => exact absurd hj (by omega)
      | 4, _ =>
        match j, hj with
        | 0, _ => exact exRow_mem (b := C0) em4 (by simp)
        | 1, _ => exact exRow_mem (b := C1) em4 (by simp)
        | 2, _ => exact exRow_mem (b := C2) em4 (by simp)
        | 3, _ => exact exRow_mem (b := C3) em4 (by simp)
        | 4, _ => exact exRow_self em4
        | j + 5, hj => exact absurd hj (by omega)
      | 5, _ =>
        match j, hj with
        | 0, _ => exact exRow_mem (b := C0) em5 (by simp)
        | 1, _ => exact exRow_mem (b := C1) em5 (by simp)
        | 2, _ => exact exRow_mem (b := C2) em5 (by simp)
        | 3, _ => exact exRow_mem (b := C3) em5 (by simp)
        | 4, _ => exact exRow_mem (b := C4) em5 (by simp)
        | 5, _ => exact exRow_self em5
        | j + 6, hj => exact absurd hj (by omega)
      | 6, _ =>
        match j, hj with
        | 0, _ => exact exRow_mem (b := C0) em6 (by simp)
        | 1, _ => exact exRow_mem (b := C1) em6 (by simp)
        | 2, _ => exact exRow_mem (b := C2) em6 (by simp)
        | 3, _ => exact exRow_mem (b := C3) em6 (by simp)
        | 4, _ => exact exRow_mem (b := C4) em6 (by simp)
        | 5, _ => exact exRow_mem (b := C5) em6 (by simp)
        | 6, _ => exact exRow_self em6
        | j + 7, hj => exact absurd hj (by omega)
      | 7, _ =>
        match j, hj with
        | 0, _ => exact exRow_mem (b := C0) em7 (by simp)
        | 1, _ => exact exRow_mem (b := C1) em7 (by simp)
        | 2, _ => exact exRow_mem (b := C2) em7 (by simp)
        | 3, _ => exact exRow_mem (b := C3) em7 (by simp)
        | 4, _ => exact exRow_mem (b := C4) em7 (by simp)
        | 5, _ => exact exRow_mem (b := C5) em7 (by simp)
        | 6, _ => exact exRow_mem (b := C6) em7 (by simp)
        | 7, _ => exact exRow_self em7
        | j + 8, hj => exact absurd hj (by omega)
      | 8, _ =>
        match j, hj with
        | 0, _ => exact exRow_mem (b := C0) em8 (by simp)
        | 1, _ => exact exRow_mem (b := C1) em8 (by simp)
        | 2, _ => exact exRow_mem (b := C2) em8 (by simp)
        | 3, _ => exact exRow_mem (b := C3) em8 (by simp)
        | 4, _ => exact exRow_mem (b := C4) em8 (by simp)
        | 5, _ => exact exRow_mem (b := C5) em8 (by simp)
        | 6, _ => exact exRow_mem (b := C6) em8 (by simp)
        | 7, _ => exact exRow_mem (b := C7) em8 (by simp)
        | 8, _ => exact exRow_self em8
        | j + 9, hj => exact absurd hj (by omega)
      | 9, _ =>
        match j, hj with
        | 0, _ => exact exRow_mem (b := C0) em9 (by simp)
        | 1, _ => exact exRow_mem (b := C1) em9 (by simp)
        | 2, _ => exact exRow_mem (b := C2) em9 (by simp)
        | 3, _ => exact exRow_mem (b := C3) em9 (by simp)
        | 4, _ => exact exRow_mem (b := C4) em9 (by simp)
        | 5, _ => exact exRow_mem (b := C5) em9 (by simp)
        | 6, _ => exact exRow_mem (b := C6) em9 (by simp)
        | 7, _ => exact exRow_mem (b := C7) em9 (by simp)
        | 8, _ => exact exRow_mem (b := C8) em9 (by simp)
        | 9, _ => exact exRow_self em9
        | j + 10, hj => exact absurd hj (by omega)
      | 10, _ =>
        match j, hj with
        | 0, _ => exact exRow_mem (b := C0) em10 (by simp)
        | 1, _ => exact exRow_mem (b := C1) em10 (by simp)
        | 2, _ => exact exRow_mem (b := C2) em10 (by simp)
        | 3, _ => exact exRow_mem (b := C3) em10 (by simp)
        | 4, _ => exact exRow_mem (b := C4) em10 (by simp)
        | 5, _ => exact exRow_mem (b := C5) em10 (by simp)
        | 6, _ => exact exRow_mem (b := C6) em10 (by simp)
        | 7, _ => exact exRow_mem (b := C7) em10 (by simp)
        | 8, _ => exact exRow_mem (b := C8) em10 (by simp)
        | 9, _ => exact exRow_mem (b := C9) em10 (by simp)
        | 10, _ => exact exRow_self em10
        | j + 11, hj => exact absurd hj (by omega)
      | i + 11, hi => exact absurd hi (by omega)
  let CL : Nat → Addr := cOf [C0, C1, C2, C3, C4, C5, C6, C7, C8, C9, C10]
  have xBadCalendar : Exc1 K mg "BadCalendar" (CL 0) := ⟨g e0, ex0, ek0, eb0, et0⟩
  have xBadDay : Exc1 K mg "BadDay" (CL 1) := ⟨g e1, ex1, ek1, eb1, et1⟩
  have xBadTime : Exc1 K mg "BadTime" (CL 2) := ⟨g e2, ex2, ek2, eb2, et2⟩
  have xBadRule : Exc1 K mg "BadRule" (CL 3) := ⟨g e3, ex3, ek3, eb3, et3⟩
  have xBadZone : Exc1 K mg "BadZone" (CL 4) := ⟨g e4, ex4, ek4, eb4, et4⟩
  have xBadSize : Exc1 K mg "BadSize" (CL 5) := ⟨g e5, ex5, ek5, eb5, et5⟩
  have xBadPaper : Exc1 K mg "BadPaper" (CL 6) := ⟨g e6, ex6, ek6, eb6, et6⟩
  have xBadText : Exc1 K mg "BadText" (CL 7) := ⟨g e7, ex7, ek7, eb7, et7⟩
  have xBadStore : Exc1 K mg "BadStore" (CL 8) := ⟨g e8, ex8, ek8, eb8, et8⟩
  have xNoDay : Exc1 K mg "NoDay" (CL 9) := ⟨g e9, ex9, ek9, eb9, et9⟩
  have xNoSuch : Exc1 K mg "NoSuch" (CL 10) := ⟨g e10, ex10, ek10, eb10, et10⟩
  have F_count_below := fun_mk (x := "count_below") (qual := "count_below") (st := s_count_below) l_count_below c_count_below k_count_below
  have b_count_below := F_count_below.binds (ps := ["numbers", "bound"]) fun _ _ _ _ _ _ us hl => match us, hl with | [_, _], _ => rfl
  have F_day_of := fun_mk (x := "day_of") (qual := "day_of") (st := s_day_of) l_day_of c_day_of k_day_of
  have b_day_of := F_day_of.binds (ps := ["calendar", "year", "month", "day"]) fun _ _ _ _ _ _ us hl => match us, hl with | [_, _, _, _], _ => rfl
  have F_months_on : L2.FunD K "months_on" "months_on" (defArgs s_months_on) (defBody s_months_on) (defScope s_months_on) [(.bl true)] [] f_months_on _ := ⟨⟨_, _, _, _, _, _, _, _, _, _, rfl, l_months_on, c_months_on, .inr ⟨by simp, T_months_on, oT_months_on, [.bool true], nT_months_on, rfl, lT_months_on, dT_months_on, (.cons rfl .nil)⟩, .inl rfl⟩, k_months_on⟩
  obtain ⟨ds0_months_on, v0_months_on, b0_months_on⟩ := F_months_on.binds1 (ps := ["day", "many", "held"]) 3 1 (by simp) rfl fun T kV doc pm an cdv ct us its hu hi => match us, its, hu, hi with | [_, _, _], [_], _, _ => ⟨_, rfl, rfl⟩
  obtain ⟨ds1_months_on, v1_months_on, b1_months_on⟩ := F_months_on.binds1 (ps := ["day", "many", "held"]) 2 0 (by simp) rfl fun T kV doc pm an cdv ct us its hu hi => match us, its, hu, hi with | [_, _], [_], _, _ => ⟨_, rfl, rfl⟩
  have F_has_month := fun_mk (x := "has_month") (qual := "has_month") (st := s_has_month) l_has_month c_has_month k_has_month
  have b_has_month := F_has_month.binds (ps := ["calendar", "month"]) fun _ _ _ _ _ _ us hl => match us, hl with | [_, _], _ => rfl
  have F_has_parts := fun_mk (x := "has_parts") (qual := "has_parts") (st := s_has_parts) l_has_parts c_has_parts k_has_parts
  have b_has_parts := F_has_parts.binds (ps := ["calendar", "many"]) fun _ _ _ _ _ _ us hl => match us, hl with | [_, _], _ => rfl
  have F_business_year := fun_mk (x := "business_year") (qual := "business_year") (st := s_business_year) l_business_year c_business_year k_business_year
  have b_business_year := F_business_year.binds (ps := ["calendar", "number", "first_month"]) fun _ _ _ _ _ _ us hl => match us, hl with | [_, _, _], _ => rfl
  have F_part_of_business := fun_mk (x := "part_of_business") (qual := "part_of_business") (st := s_part_of_business) l_part_of_business c_part_of_business k_part_of_business
  have b_part_of_business := F_part_of_business.binds (ps := ["calendar", "number", "first_month", "many"]) fun _ _ _ _ _ _ us hl => match us, hl with | [_, _, _, _], _ => rfl
  have F_start_of_part := fun_mk (x := "start_of_part") (qual := "start_of_part") (st := s_start_of_part) l_start_of_part c_start_of_part k_start_of_part
  have b_start_of_part := F_start_of_part.binds (ps := ["calendar", "year", "first_month", "part", "many"]) fun _ _ _ _ _ _ us hl => match us, hl with | [_, _, _, _, _], _ => rfl
  have F_weeks_pattern := fun_mk (x := "weeks_pattern") (qual := "weeks_pattern") (st := s_weeks_pattern) l_weeks_pattern c_weeks_pattern k_weeks_pattern
  have b_weeks_pattern := F_weeks_pattern.binds (ps := ["calendar", "start", "pattern", "number"]) fun _ _ _ _ _ _ us hl => match us, hl with | [_, _, _, _], _ => rfl
  have F_even_months := fun_mk (x := "even_months") (qual := "even_months") (st := s_even_months) l_even_months c_even_months k_even_months
  have b_even_months := F_even_months.binds (ps := ["calendar", "first", "last", "size"]) fun _ _ _ _ _ _ us hl => match us, hl with | [_, _, _, _], _ => rfl
  have F_even_place := fun_mk (x := "even_place") (qual := "even_place") (st := s_even_place) l_even_place c_even_place k_even_place
  have b_even_place := F_even_place.binds (ps := ["calendar", "number", "size"]) fun _ _ _ _ _ _ us hl => match us, hl with | [_, _, _], _ => rfl
  have F_share_of_years := fun_mk (x := "share_of_years") (qual := "share_of_years") (st := s_share_of_years) l_share_of_years c_share_of_years k_share_of_years
  have b_share_of_years := F_share_of_years.binds (ps := ["calendar", "first", "last"]) fun _ _ _ _ _ _ us hl => match us, hl with | [_, _, _], _ => rfl
  have F_due_days := fun_mk (x := "due_days") (qual := "due_days") (st := s_due_days) l_due_days c_due_days k_due_days
  have b_due_days := F_due_days.binds (ps := ["calendar", "first", "months", "many"]) fun _ _ _ _ _ _ us hl => match us, hl with | [_, _, _, _], _ => rfl
  have F_spread := fun_mk (x := "spread") (qual := "spread") (st := s_spread) l_spread c_spread k_spread
  have b_spread := F_spread.binds (ps := ["amount", "many"]) fun _ _ _ _ _ _ us hl => match us, hl with | [_, _], _ => rfl
  have F__law_dice := fun_mk (x := "_law_dice") (qual := "_law_dice") (st := sDice) l__law_dice c__law_dice k__law_dice
  have b__law_dice := F__law_dice.binds (ps := ["cell"]) fun _ _ _ _ _ _ us hl => match us, hl with | [_], _ => rfl
  have F__law_roll := fun_mk (x := "_law_roll") (qual := "_law_roll") (st := sRoll) l__law_roll c__law_roll k__law_roll
  have b__law_roll := F__law_roll.binds (ps := ["dice", "many"]) fun _ _ _ _ _ _ us hl => match us, hl with | [_, _], _ => rfl
  have F__law_rounds := fun_mk (x := "_law_rounds") (qual := "_law_rounds") (st := sRounds) l__law_rounds c__law_rounds k__law_rounds
  have b__law_rounds := F__law_rounds.binds (ps := ["script", "most"]) fun _ _ _ _ _ _ us hl => match us, hl with | [_, _], _ => rfl
  have F__law_told := fun_mk (x := "_law_told") (qual := "_law_told") (st := sTold) l__law_told c__law_told k__law_told
  have b__law_told := F__law_told.binds (ps := ["what"]) fun _ _ _ _ _ _ us hl => match us, hl with | [_], _ => rfl
  have F__law_calendar := fun_mk (x := "_law_calendar") (qual := "_law_calendar") (st := s_cal) l__law_calendar c__law_calendar k__law_calendar
  have b__law_calendar := F__law_calendar.binds (ps := ["dice"]) fun _ _ _ _ _ _ us hl => match us, hl with | [_], _ => rfl
  have F__law_rows := fun_mk (x := "_law_rows") (qual := "_law_rows") (st := s_rows) l__law_rows c__law_rows k__law_rows
  have b__law_rows := F__law_rows.binds (ps := ["calendar", "first", "last"]) fun _ _ _ _ _ _ us hl => match us, hl with | [_, _, _], _ => rfl
  have cls_Calendar : Cls K CC := ⟨pg_Calendar, hd_Calendar, po_Calendar, sa_Calendar⟩
  have F_Calendar_init : L2.FunD K "__init__" "Calendar.__init__" (defArgs c_init) (defBody c_init) (defScope c_init) [(.int 0)] [] f_Calendar_init _ := ⟨⟨_, _, _, _, _, _, _, _, _, _, rfl, l_Calendar_init, c_Calendar_init, .inr ⟨by simp, T_Calendar_init, oT_Calendar_init, [.int 0 tk0_Calendar_init], nT_Calendar_init, rfl, lT_Calendar_init, dT_Calendar_init, (.cons ⟨_, rfl⟩ .nil)⟩, .inl rfl⟩, k_Calendar_init⟩
  obtain ⟨ds0_Calendar_init, v0_Calendar_init, b0_Calendar_init⟩ := F_Calendar_init.binds1 (ps := ["self", "months", "long_month", "cycle", "long_years", "week", "first_weekday"]) 7 1 (by simp) rfl fun T kV doc pm an cdv ct us its hu hi => match us, its, hu, hi with | [_, _, _, _, _, _, _], [_], _, _ => ⟨_, rfl, rfl⟩
  obtain ⟨ds1_Calendar_init, v1_Calendar_init, b1_Calendar_init⟩ := F_Calendar_init.binds1 (ps := ["self", "months", "long_month", "cycle", "long_years", "week", "first_weekday"]) 6 0 (by simp) rfl fun T kV doc pm an cdv ct us its hu hi => match us, its, hu, hi with | [_, _, _, _, _, _], [_], _, _ => ⟨_, rfl, rfl⟩
  have make_Calendar : Mk K CC f_Calendar_init := ⟨mk_Calendar, m_Calendar_init, i_Calendar_init, kc_Calendar⟩
  have F_Calendar_cycle_days := fun_mk (x := "cycle_days") (qual := "Calendar.cycle_days") (st := c_cycle_days) l_Calendar_cycle_days c_Calendar_cycle_days k_Calendar_cycle_days
  have b_Calendar_cycle_days := F_Calendar_cycle_days.binds (ps := ["self"]) fun _ _ _ _ _ _ us hl => match us, hl with | [_], _ => rfl
  have meth_Calendar_cycle_days : Meth K CC "cycle_days" f_Calendar_cycle_days := ⟨m_Calendar_cycle_days, i_Calendar_cycle_days, k_Calendar_cycle_days⟩
  have F_Calendar_is_long := fun_mk (x := "is_long") (qual := "Calendar.is_long") (st := c_is_long) l_Calendar_is_long c_Calendar_is_long k_Calendar_is_long
  have b_Calendar_is_long := F_Calendar_is_long.binds (ps := ["self", "year"]) fun _ _ _ _ _ _ us hl => match us, hl with | [_, _], _ => rfl
  have meth_Calendar_is_long : Meth K CC "is_long" f_Calendar_is_long := ⟨m_Calendar_is_long, i_Calendar_is_long, k_Calendar_is_long⟩
  have F_Calendar_year_days := fun_mk (x := "year_days") (qual := "Calendar.year_days") (st := c_year_days) l_Calendar_year_days c_Calendar_year_days k_Calendar_year_days
  have b_Calendar_year_days := F_Calendar_year_days.binds (ps := ["self", "year"]) fun _ _ _ _ _ _ us hl => match us, hl with | [_, _], _ => rfl
  have meth_Calendar_year_days : Meth K CC "year_days" f_Calendar_year_days := ⟨m_Calendar_year_days, i_Calendar_year_days, k_Calendar_year_days⟩
  have F_Calendar_month_days := fun_mk (x := "month_days") (qual := "Calendar.month_days") (st := c_month_days) l_Calendar_month_days c_Calendar_month_days k_Calendar_month_days
  have b_Calendar_month_days := F_Calendar_month_days.binds (ps := ["self", "year", "month"]) fun _ _ _ _ _ _ us hl => match us, hl with | [_, _, _], _ => rfl
  have meth_Calendar_month_days : Meth K CC "month_days" f_Calendar_month_days := ⟨m_Calendar_month_days, i_Calendar_month_days, k_Calendar_month_days⟩
  have F_Calendar_first_of := fun_mk (x := "first_of") (qual := "Calendar.first_of") (st := c_first_of) l_Calendar_first_of c_Calendar_first_of k_Calendar_first_of
  have b_Calendar_first_of := F_Calendar_first_of.binds (ps := ["self", "year"]) fun _ _ _ _ _ _ us hl => match us, hl with | [_, _], _ => rfl
  have meth_Calendar_first_of : Meth K CC "first_of" f_Calendar_first_of := ⟨m_Calendar_first_of, i_Calendar_first_of, k_Calendar_first_of⟩
  have F_Calendar_number_of := fun_mk (x := "number_of") (qual := "Calendar.number_of") (st := s_number_of) l_Calendar_number_of c_Calendar_number_of k_Calendar_number_of
  have b_Calendar_number_of := F_Calendar_number_of.binds (ps := ["self", "year", "month", "day"]) fun _ _ _ _ _ _ us hl => match us, hl with | [_, _, _, _], _ => rfl
  have meth_Calendar_number_of : Meth K CC "number_of" f_Calendar_number_of := ⟨m_Calendar_number_of, i_Calendar_number_of, k_Calendar_number_of⟩
  have F_Calendar_year_of := fun_mk (x := "year_of") (qual := "Calendar.year_of") (st := c_year_of) l_Calendar_year_of c_Calendar_year_of k_Calendar_year_of
  have b_Calendar_year_of := F_Calendar_year_of.binds (ps := ["self", "number"]) fun _ _ _ _ _ _ us hl => match us, hl with | [_, _], _ => rfl
  have meth_Calendar_year_of : Meth K CC "year_of" f_Calendar_year_of := ⟨m_Calendar_year_of, i_Calendar_year_of, k_Calendar_year_of⟩
  have F_Calendar_date := fun_mk (x := "date") (qual := "Calendar.date") (st := c_date) l_Calendar_date c_Calendar_date k_Calendar_date
  have b_Calendar_date := F_Calendar_date.binds (ps := ["self", "number"]) fun _ _ _ _ _ _ us hl => match us, hl with | [_, _], _ => rfl
  have meth_Calendar_date : Meth K CC "date" f_Calendar_date := ⟨m_Calendar_date, i_Calendar_date, k_Calendar_date⟩
  have F_Calendar_weekday_of := fun_mk (x := "weekday_of") (qual := "Calendar.weekday_of") (st := c_weekday_of) l_Calendar_weekday_of c_Calendar_weekday_of k_Calendar_weekday_of
  have b_Calendar_weekday_of := F_Calendar_weekday_of.binds (ps := ["self", "number"]) fun _ _ _ _ _ _ us hl => match us, hl with | [_, _], _ => rfl
  have meth_Calendar_weekday_of : Meth K CC "weekday_of" f_Calendar_weekday_of := ⟨m_Calendar_weekday_of, i_Calendar_weekday_of, k_Calendar_weekday_of⟩
  have TC : CalT K CC := ⟨cls_Calendar, n_Calendar_months, n_Calendar_long_month, n_Calendar_cycle, n_Calendar_long_years, n_Calendar_week, n_Calendar_first_weekday, n_Calendar_longs, n_Calendar_plain_days, n_Calendar_starts⟩
  have cls_Day : Cls K DD := ⟨pg_Day, hd_Day, po_Day, sa_Day⟩
  have F_Day_init := fun_mk (x := "__init__") (qual := "Day.__init__") (st := d_init) l_Day_init c_Day_init k_Day_init
  have b_Day_init := F_Day_init.binds (ps := ["self", "calendar", "number"]) fun _ _ _ _ _ _ us hl => match us, hl with | [_, _, _], _ => rfl
  have make_Day : Mk K DD f_Day_init := ⟨mk_Day, m_Day_init, i_Day_init, kc_Day⟩
  have F_Day_month_number := fun_mk (x := "month_number") (qual := "Day.month_number") (st := s_month_number) l_Day_month_number c_Day_month_number k_Day_month_number
  have b_Day_month_number := F_Day_month_number.binds (ps := ["self"]) fun _ _ _ _ _ _ us hl => match us, hl with | [_], _ => rfl
  have meth_Day_month_number : Meth K DD "month_number" f_Day_month_number := ⟨m_Day_month_number, i_Day_month_number, k_Day_month_number⟩
  have TD : DayT K DD := ⟨cls_Day, n_Day_calendar, n_Day_number, n_Day_year, n_Day_month, n_Day_day, n_Day_weekday, n_Day_year_day⟩
  have F__law_cases1 := fun_mk (x := "_law_cases1") (qual := "_law_cases1") (st := sC1) l__law_cases1 c__law_cases1 k__law_cases1
  have b__law_cases1 := F__law_cases1.binds (ps := []) fun _ _ _ _ _ _ us hl => match us, hl with | [], _ => rfl
  have n_tuple := g0 n_tuple
  have BL : Blt mg := ⟨g0 n_int, g0 n_abs⟩
  have B : BD mg := ⟨g0 n_len, g0 n_min, g0 n_max, g0 n_range, g0 n_divmod, g0 n_sum, g0 n_int, g0 n_abs⟩
  have BE0 : BE mg := ⟨n_tuple⟩
  have oCy := cm_cycle_days (P := P) (w := w) (mg := mg) (base := base) (cl := CL) F_Calendar_cycle_days TC
  have mC := mt_of cls_Calendar meth_Calendar_cycle_days F_Calendar_cycle_days oCy b_Calendar_cycle_days
  have mL := mt_of cls_Calendar meth_Calendar_is_long F_Calendar_is_long (cm_is_long (P := P) (w := w) (mg := mg) (base := base) (cl := CL) F_Calendar_is_long TC) b_Calendar_is_long
  have mW := mt_of cls_Calendar meth_Calendar_weekday_of F_Calendar_weekday_of (cm_weekday_of (P := P) (w := w) (mg := mg) (base := base) (cl := CL) F_Calendar_weekday_of TC) b_Calendar_weekday_of
  have mYD := mt_of cls_Calendar meth_Calendar_year_days F_Calendar_year_days (cm_year_days F_Calendar_year_days TC mL) b_Calendar_year_days
  have mFO := mt_of cls_Calendar meth_Calendar_first_of F_Calendar_first_of (cm_first_of F_Calendar_first_of TC mC (g0 n_divmod)) b_Calendar_first_of
  have mMD := mt_of cls_Calendar meth_Calendar_month_days F_Calendar_month_days (cm_month_days F_Calendar_month_days TC mL (g0 n_len) xBadDay) b_Calendar_month_days
  have cB := cal_of F_count_below (g a_count_below) (ok_count_below (P := P) (w := w) (base := base) F_count_below (g0 n_len)) b_count_below
  have mYO := mt_of cls_Calendar meth_Calendar_year_of F_Calendar_year_of (cm_year_of F_Calendar_year_of TC mC cB (g0 n_divmod)) b_Calendar_year_of
  have mD := mt_of cls_Calendar meth_Calendar_date F_Calendar_date (cm_date F_Calendar_date TC mYO mFO mMD) b_Calendar_date
  have oI := cm_init (cl := CL) F_Calendar_init TC mYD n_tuple (g0 n_min) (g0 n_len) (g0 n_any) (g0 n_sum) (g0 n_range) xBadCalendar
  have cN : Nw P w K mg base 3 "Calendar" CC (spNew K CC) [] := ⟨_, _, _, _, make_Calendar, g a_Calendar, oI, b0_Calendar_init, v0_Calendar_init⟩
  have nC : Nw P w K mg base 3 "Calendar" CC (spNew K CC) [.int 0] := ⟨_, _, _, _, make_Calendar, g a_Calendar, oI, b1_Calendar_init, v1_Calendar_init⟩
  have nD := nw_of make_Day (g a_Day) F_Day_init (dm_init F_Day_init TD mD mW mFO) b_Day_init
  have mNO := mt_of cls_Calendar meth_Calendar_number_of F_Calendar_number_of (ok_number_of (P := P) (w := w) (mg := mg) (base := base) (cl := CL) F_Calendar_number_of TC TD B mMD mFO xBadDay) b_Calendar_number_of
  have d_month_number := mt_of cls_Day meth_Day_month_number F_Day_month_number (ok_month_number (P := P) (w := w) (mg := mg) (base := base) (cl := CL) F_Day_month_number TC TD B) b_Day_month_number
  have c_day_of := cal_of F_day_of (g a_day_of) (ok_day_of (P := P) (w := w) (mg := mg) (base := base) (cl := CL) F_day_of TC TD B mNO nD) b_day_of
  have oMO := (ok_months_on (P := P) (w := w) (mg := mg) (base := base) (cl := CL) F_months_on TC TD B d_month_number mMD c_day_of xBadDay)
  have c_mo1 : Cal P w K mg base 7 "months_on" (sp_months_on K CC DD CL) [.bl true] := ⟨_, _, _, _, g a_months_on, k_months_on, oMO, b1_months_on, v1_months_on⟩
  have c_has_month := cal_of F_has_month (g a_has_month) (ok_has_month (P := P) (w := w) (mg := mg) (base := base) (cl := CL) F_has_month TC TD B) b_has_month
  have c_has_parts := cal_of F_has_parts (g a_has_parts) (ok_has_parts (P := P) (w := w) (mg := mg) (base := base) (cl := CL) F_has_parts TC TD B) b_has_parts
  have c_business_year := cal_of F_business_year (g a_business_year) (ok_business_year (P := P) (w := w) (mg := mg) (base := base) (cl := CL) F_business_year TC TD B c_has_month nD xBadSize) b_business_year
  have c_part_of_business := cal_of F_part_of_business (g a_part_of_business) (ok_part_of_business (P := P) (w := w) (mg := mg) (base := base) (cl := CL) F_part_of_business TC TD B c_has_parts c_business_year nD xBadSize) b_part_of_business
  have c_start_of_part := cal_of F_start_of_part (g a_start_of_part) (ok_start_of_part (P := P) (w := w) (mg := mg) (base := base) (cl := CL) F_start_of_part TC TD B c_has_month c_has_parts mNO xBadSize) b_start_of_part
  have c_weeks_pattern := cal_of F_weeks_pattern (g a_weeks_pattern) (ok_weeks_pattern (P := P) (w := w) (mg := mg) (base := base) (cl := CL) F_weeks_pattern TC B xBadSize) b_weeks_pattern
  have c_even_place := cal_of F_even_place (g a_even_place) (ok_even_place (P := P) (w := w) (mg := mg) (base := base) (cl := CL) F_even_place TC TD B nD d_month_number) b_even_place
  have c_even_months := cal_of F_even_months (g a_even_months) (ok_even_months (P := P) (w := w) (mg := mg) (base := base) (cl := CL) F_even_months TC c_even_place xBadSize) b_even_months
  have c_due_days := cal_of F_due_days (g a_due_days) (ok_due_days (P := P) (w := w) (mg := mg) (base := base) (cl := CL) F_due_days TC TD B c_mo1 nD BE0) b_due_days
  have c_spread := cal_of F_spread (g a_spread) (ok_spread (P := P) (w := w) (mg := mg) (base := base) (cl := CL) F_spread B n_tuple xBadSize) b_spread
  have c_share_of_years := cal_of F_share_of_years (g a_share_of_years) (ok_share_of_years (D := DD) (P := P) (w := w) (mg := mg) (base := base) (cl := CL) F_share_of_years TC B BE0 mYO mFO mYD xBadSize) b_share_of_years
  have cDi := cal_of F__law_dice (g a__law_dice) (ok_dice (P := P) (w := w) (base := base) F__law_dice BL) b__law_dice
  have cR := cal_of F__law_roll (g a__law_roll) (ok_roll (P := P) (w := w) (base := base) F__law_roll BL) b__law_roll
  have roll := cal_of F__law_roll (g a__law_roll) (ok_rollX (P := P) (w := w) (base := base) F__law_roll BL) b__law_roll
  have rounds := cal_of F__law_rounds (g a__law_rounds) (ok_rounds F__law_rounds cDi) b__law_rounds
  have cal := cal_of F__law_calendar (g a__law_calendar) (ok_cal F__law_calendar cR cN (g0 n_len) (g0 n_range)) b__law_calendar
  have rows := cal_of F__law_rows (g a__law_rows) (ok_rows (P := P) (w := w) (base := base) F__law_rows TC (g0 n_len) (g0 n_range) (g0 n_int) (g0 n_sum) (g0 n_enumerate)) b__law_rows
  have tF : ToldF K mg := ⟨_, _, _, _, _, _, _, _, _, _, g a__law_told, k__law_told, l__law_told, c__law_told, b__law_told⟩
  have c_cases : Cal P w K mg base 10 "_law_cases1" (spC1 P2) [] := ⟨_, _, _, _, g a__law_cases1, k__law_cases1, ok_cases l__law_cases1 c__law_cases1 (TB (c2, P2) (List.mem_cons_of_mem _ (List.mem_singleton.mpr rfl))) ⟨nC, c_part_of_business, c_start_of_part, c_weeks_pattern, c_even_months, c_spread, EX, tF⟩ B, b__law_cases1, .nil⟩
  exact ok_law (C := CC) (D := DD) (P2 := P2) (cl := CL) lL cL (TB (cc, PT) (List.mem_cons_self ..)) ⟨TC, TD, g0 n_list, g0 n_sorted, cal, rows, roll, rounds, nD, c_mo1, c_business_year, c_part_of_business, c_start_of_part, c_weeks_pattern, c_even_months, c_share_of_years, c_due_days, c_spread, c_cases, EX, tF⟩ B fun c z k t => m_lawB_ok k t
end Rw
open PySem PySem.W PyProof.Rows
set_option maxRecDepth 100000 in
set_option maxHeartbeats 0 in
theorem PySem.Challenge.cw_recurwright_k16_terms_of_business_holds : PySem.Challenge.rw_recurwright_k16_terms_of_business.Holds := by
  w_on; o_law; k_head; (case hw => w_witness2)
  k_fill
  refine Rw.walk_owns (ll := PySem.Challenge.rw_recurwright_k16_terms_of_business) (nn := 63) (kk := 12) (xx := "script") (CQ := fun w => L2.CX PySem.Challenge.pw_recurwright_k16_terms_of_business w) rfl (by decide) rfl ⟨rfl, by decide, by decide⟩ (fun w h Y => by first | exact PySem.W.km_in_of Y | exact PySem.W.kIn_of Y) ?F ?C
  case F =>
    intro w mg fa h Y KX G hmg owns
    refine' Rw.all_mk KX G hmg (owns "law" _ (by decide +kernel) hmg) (fun fy e => owns "_law_cases1" fy (by decide +kernel) e) ?e0 ?ex0 ?ek0 ?eb0 ?et0 ?e1 ?ex1 ?ek1 ?eb1 ?et1 ?e2 ?ex2 ?ek2 ?eb2 ?et2 ?e3 ?ex3 ?ek3 ?eb3 ?et3 ?e4 ?ex4 ?ek4 ?eb4 ?et4 ?e5 ?ex5 ?ek5 ?eb5 ?et5 ?e6 ?ex6 ?ek6 ?eb6 ?et6 ?e7 ?ex7 ?ek7 ?eb7 ?et7 ?e8 ?ex8 ?ek8 ?eb8 ?et8 ?e9 ?ex9 ?ek9 ?eb9 ?et9 ?e10 ?ex10 ?ek10 ?eb10 ?et10 ?em0 ?em1 ?em2 ?em3 ?em4 ?em5 ?em6 ?em7 ?em8 ?em9 ?em10 ?a_count_below ?l_count_below ?c_count_below ?k_count_below ?a_day_of ?l_day_of ?c_day_of ?k_day_of ?a_months_on ?l_months_on ?c_months_on ?k_months_on ?lT_months_on ?dT_months_on ?a_has_month ?l_has_month ?c_has_month ?k_has_month ?a_has_parts ?l_has_parts ?c_has_parts ?k_has_parts ?a_business_year ?l_business_year ?c_business_year ?k_business_year ?a_part_of_business ?l_part_of_business ?c_part_of_business ?k_part_of_business ?a_start_of_part ?l_start_of_part ?c_start_of_part ?k_start_of_part ?a_weeks_pattern ?l_weeks_pattern ?c_weeks_pattern ?k_weeks_pattern ?a_even_months ?l_even_months ?c_even_months ?k_even_months ?a_even_place ?l_even_place ?c_even_place ?k_even_place ?a_share_of_years ?l_share_of_years ?c_share_of_years ?k_share_of_years ?a_due_days ?l_due_days ?c_due_days ?k_due_days ?a_spread ?l_spread ?c_spread ?k_spread ?a__law_dice ?l__law_dice ?c__law_dice ?k__law_dice ?a__law_roll ?l__law_roll ?c__law_roll ?k__law_roll ?a__law_rounds ?l__law_rounds ?c__law_rounds ?k__law_rounds ?a__law_told ?l__law_told ?c__law_told ?k__law_told ?a__law_calendar ?l__law_calendar ?c__law_calendar ?k__law_calendar ?a__law_rows ?l__law_rows ?c__law_rows ?k__law_rows ?a_Calendar ?pg_Calendar ?hd_Calendar ?po_Calendar ?sa_Calendar ?kc_Calendar ?mk_Calendar ?n_Calendar_months ?n_Calendar_long_month ?n_Calendar_cycle ?n_Calendar_long_years ?n_Calendar_week ?n_Calendar_first_weekday ?n_Calendar_longs ?n_Calendar_plain_days ?n_Calendar_starts ?m_Calendar_init ?i_Calendar_init ?l_Calendar_init ?c_Calendar_init ?k_Calendar_init ?lT_Calendar_init ?dT_Calendar_init ?m_Calendar_cycle_days ?i_Calendar_cycle_days ?l_Calendar_cycle_days ?c_Calendar_cycle_days ?k_Calendar_cycle_days ?m_Calendar_is_long ?i_Calendar_is_long ?l_Calendar_is_long ?c_Calendar_is_long ?k_Calendar_is_long ?m_Calendar_year_days ?i_Calendar_year_days ?l_Calendar_year_days ?c_Calendar_year_days ?k_Calendar_year_days ?m_Calendar_month_days ?i_Calendar_month_days ?l_Calendar_month_days ?c_Calendar_month_days ?k_Calendar_month_days ?m_Calendar_first_of ?i_Calendar_first_of ?l_Calendar_first_of ?c_Calendar_first_of ?k_Calendar_first_of ?m_Calendar_number_of ?i_Calendar_number_of ?l_Calendar_number_of ?c_Calendar_number_of ?k_Calendar_number_of ?m_Calendar_year_of ?i_Calendar_year_of ?l_Calendar_year_of ?c_Calendar_year_of ?k_Calendar_year_of ?m_Calendar_date ?i_Calendar_date ?l_Calendar_date ?c_Calendar_date ?k_Calendar_date ?m_Calendar_weekday_of ?i_Calendar_weekday_of ?l_Calendar_weekday_of ?c_Calendar_weekday_of ?k_Calendar_weekday_of ?a_Day ?pg_Day ?hd_Day ?po_Day ?sa_Day ?kc_Day ?mk_Day ?n_Day_calendar ?n_Day_number ?n_Day_year ?n_Day_month ?n_Day_day ?n_Day_weekday ?n_Day_year_day ?m_Day_init ?i_Day_init ?l_Day_init ?c_Day_init ?k_Day_init ?m_Day_month_number ?i_Day_month_number ?l_Day_month_number ?c_Day_month_number ?k_Day_month_number ?n_int ?n_abs ?n_len ?n_any ?n_sum ?n_min ?n_max ?n_tuple ?n_range ?n_divmod ?n_list ?n_sorted ?n_enumerate ?a__law_cases1 ?l__law_cases1 ?c__law_cases1 ?k__law_cases1 ?lC2 ?vP2 ?nP2 ?hC2 ?neP ?aL ?lL ?cL ?lC ?vP ?nP ?hC
    (case e0 => k_is)
    (case ex0 => k_exc)
    (case ek0 => k_is)
    (case eb0 => k_is)
    (case et0 => k_is)
    (case e1 => k_is)
    (case ex1 => k_exc)
    (case ek1 => k_is)
    (case eb1 => k_is)
    (case et1 => k_is)
    (case e2 => k_is)
    (case ex2 => k_exc)
    (case ek2 => k_is)
    (case eb2 => k_is)
    (case et2 => k_is)
    (case e3 => k_is)
    (case ex3 => k_exc)
    (case ek3 => k_is)
    (case eb3 => k_is)
    (case et3 => k_is)
    (case e4 => k_is)
    (case ex4 => k_exc)
    (case ek4 => k_is)
    (case eb4 => k_is)
    (case et4 => k_is)
    (case e5 => k_is)
    (case ex5 => k_exc)
    (case ek5 => k_is)
    (case eb5 => k_is)
    (case et5 => k_is)
    (case e6 => k_is)
    (case ex6 => k_exc)
    (case ek6 => k_is)
    (case eb6 => k_is)
    (case et6 => k_is)
    (case e7 => k_is)
    (case ex7 => k_exc)
    (case ek7 => k_is)
    (case eb7 => k_is)
    (case et7 => k_is)
    (case e8 => k_is)
    (case ex8 => k_exc)
    (case ek8 => k_is)
    (case eb8 => k_is)
    (case et8 => k_is)
    (case e9 => k_is)
    (case ex9 => k_exc)
    (case ek9 => k_is)
    (case eb9 => k_is)
    (case et9 => k_is)
    (case e10 => k_is)
    (case ex10 => k_exc)
    (case ek10 => k_is)
    (case eb10 => k_is)
    (case et10 => k_is)
    (case em0 => kernel_rfl)
    (case em1 => kernel_rfl)
    (case em2 => kernel_rfl)
    (case em3 => kernel_rfl)
    (case em4 => kernel_rfl)
    (case em5 => kernel_rfl)
    (case em6 => kernel_rfl)
    (case em7 => kernel_rfl)
    (case em8 => kernel_rfl)
    (case em9 => kernel_rfl)
    (case em10 => kernel_rfl)
    (case a_count_below => k_is)
    (case l_count_below => k_is)
    (case c_count_below => k_is)
    (case k_count_below => k_is)
    (case a_day_of => k_is)
    (case l_day_of => k_is)
    (case c_day_of => k_is)
    (case k_day_of => k_is)
    (case a_months_on => k_is)
    (case l_months_on => k_is)
    (case c_months_on => k_is)
    (case k_months_on => k_is)
    (case lT_months_on => k_is)
    (case dT_months_on => exact rfl)
    (case a_has_month => k_is)
    (case l_has_month => k_is)
    (case c_has_month => k_is)
    (case k_has_month => k_is)
    (case a_has_parts => k_is)
    (case l_has_parts => k_is)
    (case c_has_parts => k_is)
    (case k_has_parts => k_is)
    (case a_business_year => k_is)
    (case l_business_year => k_is)
    (case c_business_year => k_is)
    (case k_business_year => k_is)
    (case a_part_of_business => k_is)
    (case l_part_of_business => k_is)
    (case c_part_of_business => k_is)
    (case k_part_of_business => k_is)
    (case a_start_of_part => k_is)
    (case l_start_of_part => k_is)
    (case c_start_of_part => k_is)
    (case k_start_of_part => k_is)
    (case a_weeks_pattern => k_is)
    (case l_weeks_pattern => k_is)
    (case c_weeks_pattern => k_is)
    (case k_weeks_pattern => k_is)
    (case a_even_months => k_is)
    (case l_even_months => k_is)
    (case c_even_months => k_is)
    (case k_even_months => k_is)
    (case a_even_place => k_is)
    (case l_even_place => k_is)
    (case c_even_place => k_is)
    (case k_even_place => k_is)
    (case a_share_of_years => k_is)
    (case l_share_of_years => k_is)
    (case c_share_of_years => k_is)
    (case k_share_of_years => k_is)
    (case a_due_days => k_is)
    (case l_due_days => k_is)
    (case c_due_days => k_is)
    (case k_due_days => k_is)
    (case a_spread => k_is)
    (case l_spread => k_is)
    (case c_spread => k_is)
    (case k_spread => k_is)
    (case a__law_dice => k_is)
    (case l__law_dice => k_is)
    (case c__law_dice => k_is)
    (case k__law_dice => k_is)
    (case a__law_roll => k_is)
    (case l__law_roll => k_is)
    (case c__law_roll => k_is)
    (case k__law_roll => k_is)
    (case a__law_rounds => k_is)
    (case l__law_rounds => k_is)
    (case c__law_rounds => k_is)
    (case k__law_rounds => k_is)
    (case a__law_told => k_is)
    (case l__law_told => k_is)
    (case c__law_told => k_is)
    (case k__law_told => k_is)
    (case a__law_calendar => k_is)
    (case l__law_calendar => k_is)
    (case c__law_calendar => k_is)
    (case k__law_calendar => k_is)
    (case a__law_rows => k_is)
    (case l__law_rows => k_is)
    (case c__law_rows => k_is)
    (case k__law_rows => k_is)
    (case a_Calendar => k_is)
    (case pg_Calendar => k_is)
    (case hd_Calendar => k_is)
    (case po_Calendar => k_is)
    (case sa_Calendar => k_is)
    (case kc_Calendar => k_is)
    (case mk_Calendar => k_is)
    (case n_Calendar_months => k_is)
    (case n_Calendar_long_month => k_is)
    (case n_Calendar_cycle => k_is)
    (case n_Calendar_long_years => k_is)
    (case n_Calendar_week => k_is)
    (case n_Calendar_first_weekday => k_is)
    (case n_Calendar_longs => k_is)
    (case n_Calendar_plain_days => k_is)
    (case n_Calendar_starts => k_is)
    (case m_Calendar_init => k_is)
    (case i_Calendar_init => k_is)
    (case l_Calendar_init => k_is)
    (case c_Calendar_init => k_is)
    (case k_Calendar_init => k_is)
    (case lT_Calendar_init => k_is)
    (case dT_Calendar_init => exact rfl)
    (case m_Calendar_cycle_days => k_is)
    (case i_Calendar_cycle_days => k_is)
    (case l_Calendar_cycle_days => k_is)
    (case c_Calendar_cycle_days => k_is)
    (case k_Calendar_cycle_days => k_is)
    (case m_Calendar_is_long => k_is)
    (case i_Calendar_is_long => k_is)
    (case l_Calendar_is_long => k_is)
    (case c_Calendar_is_long => k_is)
    (case k_Calendar_is_long => k_is)
    (case m_Calendar_year_days => k_is)
    (case i_Calendar_year_days => k_is)
    (case l_Calendar_year_days => k_is)
    (case c_Calendar_year_days => k_is)
    (case k_Calendar_year_days => k_is)
    (case m_Calendar_month_days => k_is)
    (case i_Calendar_month_days => k_is)
    (case l_Calendar_month_days => k_is)
    (case c_Calendar_month_days => k_is)
    (case k_Calendar_month_days => k_is)
    (case m_Calendar_first_of => k_is)
    (case i_Calendar_first_of => k_is)
    (case l_Calendar_first_of => k_is)
    (case c_Calendar_first_of => k_is)
    (case k_Calendar_first_of => k_is)
    (case m_Calendar_number_of => k_is)
    (case i_Calendar_number_of => k_is)
    (case l_Calendar_number_of => k_is)
    (case c_Calendar_number_of => k_is)
    (case k_Calendar_number_of => k_is)
    (case m_Calendar_year_of => k_is)
    (case i_Calendar_year_of => k_is)
    (case l_Calendar_year_of => k_is)
    (case c_Calendar_year_of => k_is)
    (case k_Calendar_year_of => k_is)
    (case m_Calendar_date => k_is)
    (case i_Calendar_date => k_is)
    (case l_Calendar_date => k_is)
    (case c_Calendar_date => k_is)
    (case k_Calendar_date => k_is)
    (case m_Calendar_weekday_of => k_is)
    (case i_Calendar_weekday_of => k_is)
    (case l_Calendar_weekday_of => k_is)
    (case c_Calendar_weekday_of => k_is)
    (case k_Calendar_weekday_of => k_is)
    (case a_Day => k_is)
    (case pg_Day => k_is)
    (case hd_Day => k_is)
    (case po_Day => k_is)
    (case sa_Day => k_is)
    (case kc_Day => k_is)
    (case mk_Day => k_is)
    (case n_Day_calendar => k_is)
    (case n_Day_number => k_is)
    (case n_Day_year => k_is)
    (case n_Day_month => k_is)
    (case n_Day_day => k_is)
    (case n_Day_weekday => k_is)
    (case n_Day_year_day => k_is)
    (case m_Day_init => k_is)
    (case i_Day_init => k_is)
    (case l_Day_init => k_is)
    (case c_Day_init => k_is)
    (case k_Day_init => k_is)
    (case m_Day_month_number => k_is)
    (case i_Day_month_number => k_is)
    (case l_Day_month_number => k_is)
    (case c_Day_month_number => k_is)
    (case k_Day_month_number => k_is)
    (case n_int => k_is)
    (case n_abs => k_is)
    (case n_len => k_is)
    (case n_any => k_is)
    (case n_sum => k_is)
    (case n_min => k_is)
    (case n_max => k_is)
    (case n_tuple => k_is)
    (case n_range => k_is)
    (case n_divmod => k_is)
    (case n_list => k_is)
    (case n_sorted => k_is)
    (case n_enumerate => k_is)
    (case a__law_cases1 => k_is)
    (case l__law_cases1 => k_is)
    (case c__law_cases1 => k_is)
    (case k__law_cases1 => k_is)
    (case lC2 => k_is)
    (case vP2 => exact rfl)
    (case nP2 => kernel_rfl)
    (case hC2 => kernel_rfl)
    (case neP => kernel_rfl)
    (case aL => k_is)
    (case lL => k_is)
    (case cL => k_is)
    (case lC => k_is)
    (case vP => exact rfl)
    (case nP => kernel_rfl)
    (case hC => kernel_rfl)
  case C =>
    intro w H s e s' z
    unfold L2.CX at z
    simp at z
