import PyProof.Rows.All
import Wide.All
import OpenK.AllK
import Wide.FinOn
import PySem.Challenge.RW_recurwright_k22_days_told_by_two_calenda
import HandS.EndOwn
import HandS.WordsExc
import HandS.Defaults
import PyProof.WalksMore
import PyProof.SumWalkG
import PyProof.MinMaxWalk
import PyProof.Rows.StrCut
import HandS.Codes
import HandS.StrMore
import PyProof.FString3
import PyProof.FString
import PyProof.Rows.StrIntSpec
import HandS.FStr
import KE.KLam
import HandS.Base
import HandS.Call
import HandS.List
import HandS.Comp
import HandS.Ends
import HandS.Text
import HandS.Exc
import HandS.ExcOwn
import HandS.TryOnly
import HandS.TryMany
import HandS.Lambda
import HandS.Iter
import HandS.Words
import HandS.Evl
import HandS.Flow
import KE.GoesMore
import KE.GoesZip
import KE.GoesEnum
import HandS.Walk
import HandS.Steps
import KE.DataEq
import HandS.Dict
import HandS.DictComp
import PyProof.EnumMake
import PyProof.EnumFor
import PyProof.Draws
import PyProof.AssignAttr
import HandS.Sort
import KE.DatumOrd
import HandS.SortKw
import HandS.Deep
import HandS.Small
import HandS.Style
import HandS.More
import HandS.SortInts
import HandS.SetFor
import HandS.Strs
import HandS.Conv
import HandS.NoneIn
import HandS.TupLe
import HandS.WordsDict
set_option Elab.async false
set_option linter.all false
set_option maxRecDepth 100000
set_option maxHeartbeats 4100000
namespace Rw
open PySem PySem.Spec PyProof.Rows L2 Evl
/-- a lambda of no captured names, as a tracked object -/
def LamO (f : Addr) (q : Str) (params : Arguments) (body : Expr) (scope : Scope) (c' : Addr) : HO :=
  .ext fun h => ∃ pm ctv, h.get? f = some (PySem.W.kla_obj "<lambda>" q params body scope [] pm c' ctv)
theorem LamO_ne {f : Addr} {q : Str} {params : Arguments} {body : Expr} {scope : Scope} {c' : Addr} (ps : Array Value) : LamO f q params body scope c' ≠ .tbl ps := fun z => by
  unfold LamO at z
  cases z
/-- the names of a lambda without parameters that captures nothing -/
structure Lam0 (scope : Scope) : Prop where
  kind : scope.kind = .function
  co : scope.isCoroutine = false
  gen : scope.isGenerator = false
  own : ∀ y ∈ scope.names, y.2 ≠ .local ∧ y.2 ≠ .cell ∧ y.2 ≠ .free
def lam0B (scope : Scope) : Bool := decide (scope.kind = .function) && !scope.isCoroutine && !scope.isGenerator && scope.names.all fun y => !decide (y.2 = .local) && !decide (y.2 = .cell) && !decide (y.2 = .free)
theorem lam0_by {scope : Scope} (h : lam0B scope = true) : Lam0 scope := by
  unfold lam0B at h
  simp only [Bool.and_eq_true, Bool.not_eq_true', decide_eq_true_eq, decide_eq_false_iff_not, List.all_eq_true] at h
  obtain ⟨⟨⟨h1, h2⟩, h3⟩, h4⟩ := h
  exact ⟨h1, h2, h3, fun y hy => ⟨(h4 y hy).1.1, (h4 y hy).1.2, (h4 y hy).2⟩⟩
theorem Lam0.clo {scope : Scope} (L : Lam0 scope) (cells : List (Str × Addr)) : cloFrom cells scope.names [] = [] := by
  have go : ∀ (names : List (Str × NameKind)) (acc : List (Str × Addr)), (∀ y ∈ names, y.2 ≠ .free) → cloFrom cells names acc = acc := by
    intro names
    induction names with
    | nil => intro acc _; rfl
    | cons a r ih =>
      obtain ⟨n, k⟩ := a
      intro acc h
      unfold cloFrom
      have hk : ¬ ((k == NameKind.free) = true) := fun e => h (n, k) List.mem_cons_self (by simpa using e)
      rw [if_neg hk]
      exact ih acc fun y hy => h y (List.mem_cons_of_mem _ hy)
  exact go scope.names [] fun y hy => (L.own y hy).2.2
abbrev lamEnv0 (q : Str) (scope : Scope) (L f c' : Addr) : Env := PySem.W.envX q scope L f (.ref c') []
def lamCx0 (P : Program) (w : World) (K : PySem.W.Frag) (mg : Str → Option Value) (base : Heap) (A : Around) (outer : List Env) (s : Shared) (H : Hp) (E : XK) (q : Str) (scope : Scope) (f c' : Addr) : Cx where
  prog := P
  w := w
  K := K
  mg := mg
  base := base
  A := A.deeper (lamEnv0 q scope s.heap.objs.size f c')
  N := []
  s_0 := s
  H_0 := H
  env := lamEnv0 q scope s.heap.objs.size f c'
  outer := outer
  stack := lamEnv0 q scope s.heap.objs.size f c' :: outer
  ex := []
  fn := fun _ => false
  calm := true
  pn := []
  xe := fun e s' => wpAny (model P w) (A.deeper (lamEnv0 q scope s.heap.objs.size f c')) (leaving (lamEnv0 q scope s.heap.objs.size f c') e) (fun _ s'' => L2.CX P w outer H s E e s'') (fun e' s'' => L2.CX P w outer H s E e' s'') s'
section
variable {P : Program} {w : World} {K : PySem.W.Frag} {mg : Str → Option Value} {base : Heap}
theorem lam_start0 {A : Around} {outer : List Env} {E : XK} {q : Str} {scope : Scope} {f c' : Addr} {hN : Heap} {tk : Nat} {s1 : Shared} {HZ : Hp} (LS : Lam0 scope) (env0 : Env0 P w K mg base A outer s1 HZ) (calm : A.handled = none)
    (newNs : hN.Ns s1.heap.objs.size fun y => ([] : List (Str × Value)).reverse.lookup y) (stays : ∀ b o, s1.heap.get? b = some o → hN.get? b = some o) :
    Inv (lamCx0 P w K mg base A outer s1 HZ E q scope f c') [] [] HZ { s1 with heap := hN, toks := tk } := by
  have noEx : ∀ b : Addr, b ∉ (lamCx0 P w K mg base A outer s1 HZ E q scope f c').ex := fun b z => absurd (show b ∈ ([] : List Addr) from z) (by simp)
  have plainN : ∀ {y : Str} {k : NameKind}, scope.names.lookup y = some k → k ≠ .local ∧ k ≠ .cell ∧ k ≠ .free := fun {y k} hl => LS.own _ (PySem.mem_of_lookup hl)
  refine ⟨⟨env0.mod, LS.kind, rfl, rfl, Nat.le_refl _, fun y z c e1 e2 => ?_, fun y isy => ?_, fun y c z _ => ?_, fun _ => calm, Around.frames_deeper env0.frames, .inr ⟨rfl, rfl⟩, fun b z => absurd z (noEx b), env0.bs, env0.bsz, fun b _ _ => noEx b,
      fun b z => absurd z (noEx b), env0.funs, env0.frf⟩,
    rfl, env0.bare, Un.kept stays, ⟨_, newNs, fun i y v e1 e2 e3 => ?_⟩, fun y c e => ?_, env0.hok.fresh (Nat.le_refl _), fun y c e => ?_, fun q hq => absurd (show q ∈ ([] : List (Addr × Obj)) ++ [] from hq) (by simp), env0.hok.kept stays, rfl⟩
  · have z : List.lookup y ([] : List (Str × Addr)) = some c := e1
    cases z
  · have isy : scope.names.lookup y = some .cell ∨ scope.names.lookup y = some .free := isy
    rcases isy with isy | isy
    · exact absurd rfl (plainN isy).2.1
    · exact absurd rfl (plainN isy).2.2
  · have z : false = true := z
    cases z
  · have e1 : ([] : List Str)[i]? = some y := e1
    simp at e1
  · have z : List.lookup y ([] : List (Str × Addr)) = some c := e
    cases z
  · have z : List.lookup y ([] : List (Str × Addr)) = some c := e
    cases z
end
section
variable {X : Cx} {pins : List (Addr × Obj)} {σ : L2.St} {H : Hp} {s : Shared}
/-- what the body of a lambda at f is worth: E what it raises; read where it runs -/
def LamRun (P : Program) (w : World) (K : PySem.W.Frag) (mg : Str → Option Value) (base : Heap) (k : Nat) (q : Str) (scope : Scope) (body : Expr) (f c' : Addr) (tb : XK → Hp → VK → Prop) : Prop :=
  ∀ (A : Around) (outer : List Env) (s : Shared) (H : Hp) (E : XK), Room k (A.deeper (lamEnv0 q scope s.heap.objs.size f c')) →
    PE (lamCx0 P w K mg base A outer s H E q scope f c') body (fun _ H1 Q1 => tb E H1 Q1)
/-- x() where x holds such a lambda -/
theorem pe_actO {W : WX} {E : XK} {k i : Nat} {a : Str} {p1 p2 : Pos} (takes : Takes X W) (hW : ∀ cls d σ' Hv, E cls d Hv → W cls d σ' Hv) (room : Room (k + 1) X.A)
    (hN : X.N[i]? = some a) (hv : Vis X.env.scope a) (hd : (a == ("__debug__" : Str)) = false := by decide) (hcd : (a == ("__classdict__" : Str)) = false := by decide) :
    PE X (.Call (.Name a p1) [] [] p2) (fun σ H Q => ∃ (f c' : Addr) (q : Str) (params : Arguments) (body : Expr) (scope : Scope) (tb : XK → Hp → VK → Prop), σ[i]? = some (some (.ref f)) ∧ H f = some (LamO f q params body scope c') ∧ H c' = some (LamX.CodeO c' q) ∧ Lam0 scope ∧
      (∀ (pm cv ctv : Value), bindArgs (PySem.W.kla_fn "<lambda>" q params body scope [] pm cv ctv) ⟨[], []⟩ = pure []) ∧ LamRun X.prog X.w X.K X.mg X.base k q scope body f c' tb ∧ tb E H Q) := by
  refine ⟨fun pz tz uz Hz Q Iz h => ?_⟩
  obtain ⟨f, c', q, params, body, scope, tb, hs, isf, isc, L, binds, runs, ht⟩ := h
  refine wpAny_Call_Name_kw (thn ((pe_var (pos := p1) (i := i) hN hv hd hcd).run pz tz uz Hz (fun v H1 => v = .ref f ∧ H1 = Hz) Iz ⟨.ref f, hs, rfl, rfl⟩) fun u sv ⟨v, H1, J1, rel, ends⟩ => ?_)
  obtain ⟨eqv, eqH⟩ := ends
  subst eqv
  rw [eqH] at J1
  obtain rfl : u = Value.ref f := rel
  obtain ⟨⟨pm, ctv, objf⟩, _, _⟩ := J1.hok f _ isf
  refine PySem.W.callWith_F0 ⟨_, _, _, _, objf⟩ ?_
  obtain ⟨⟨oc, vs, t, objc, datac, qualc⟩, _, _⟩ := J1.hok c' _ isc
  have ran : codeAny (model X.prog X.w) X.A (.call (.ref f) ⟨[], []⟩) (CR (L2.CX X.prog X.w) X.stack X.prog X.w Hz sv Q E) sv := by
    refine PySem.W.kla_callFunE room.depth objf rfl L.co L.gen rfl ⟨c', oc, vs, t, rfl, objc, datac, qualc⟩ ?_
    rw [binds]
    refine wpAny_pure (wpAny_newFunctionEnv (fun y hy => (L.own y hy).2.1) (fun y hy => absurd hy (by simp)) (fun hN newNs steps => ⟨J1.nolimit.fresh _ steps, ?_⟩) L.kind)
    show codeAny _ _ (.expr body (lamEnv0 q scope sv.heap.objs.size f c')) _ _
    have stays : ∀ b o, sv.heap.get? b = some o → hN.get? b = some o := fun b o e => steps.extBut b o (Nat.ne_of_lt (Heap.lt_size e)) (Heap.get?_push_of_some _ e)
    have J : Inv (lamCx0 X.prog X.w X.K X.mg X.base X.A X.stack sv Hz E q scope f c') [] [] Hz { sv with heap := hN, toks := sv.toks + ([] : List (Str × Value)).length } :=
      lam_start0 L J1.env0 room.hd newNs stays
    refine PySem.W.kla_codeExpr (wpAny_mono ((runs _ _ sv Hz E (room.deeper _)).run [] _ _ Hz Q J ht) (fun v s' got => ?_) fun e s' got => got)
    obtain ⟨wv, Hv, Jv, rv, q⟩ := got
    exact ⟨wv, Hv, Jv.os, Jv.bare, Jv.base, Jv.hok, rv, q⟩
  have out : Passes (L2.CX X.prog X.w) X E := passes_call takes hW
  refine wpAny_call (codeAny_mono ran fun r s' got => ?_)
  cases r with
  | error e => exact out pz uz Hz sv e s' J1 got
  | ok fl =>
    cases fl with
    | ret u => exact J1.after got
    | next => exact False.elim got
    | brk => exact False.elim got
    | cont => exact False.elim got
/-- lambda: body -/
def tLamO (T : List (Addr × Str)) (q : Str) (params : Arguments) (body : Expr) (scope : Scope) : TE := fun _ H Q => LamX.Tabs T H ∧
  ∀ f cc H1, H f = none → LamX.ExtN H H1 → LamX.Tabs T H1 → H1 f = some (LamO f q params body scope cc) → H1 cc = some (LamX.CodeO cc q) → Q (.ref f) H1
theorem pe_lamO {T : List (Addr × Str)} {c P : Addr} {params : Arguments} {body : Expr} {scope : Scope} {pos : Pos} (L : Lam0 scope) (TB : LamX.TabB X.base X.mg c P) (codeX : X.env.code = .ref c)
    (inT : (P, X.env.qual ++ "<lambda>") ∈ T) (oneT : ∀ p ∈ T, p.1 = P → p.2 = X.env.qual ++ "<lambda>") (nodef : defaultsOf params X.env = ([], [])) :
    PE X (.Lambda params body scope pos) (tLamO T (X.env.qual ++ "<lambda>") params body scope) := by
  refine ⟨fun pins s σ H Q I h => ?_⟩
  obtain ⟨tabs0, h⟩ := h
  obtain ⟨trs, atP, okP, allP⟩ := tabs0 _ inT
  have hclo : cloFrom X.env.cells scope.names [] = [] := L.clo _
  have frees : ∀ y ∈ scope.names, y.2 = .free → ∃ c, X.env.cells.lookup y.1 = some c := fun y hy e => absurd e (L.own y hy).2.2
  refine PySem.W.kla_eval nodef ?_
  have bltP : s.heap.BuiltinsAt X.mg P := TB.bm.keeps I.bk
  have heapP : s.heap.get? P = some { cls := .none, data := .fields trs } := I.hok P _ atP
  cases among : codeAmong pos trs.toList with
  | none =>
    refine PySem.W.kla_makeFunction (mg := X.mg) (c := c) (P := P) (ps := trs) (closure_ok frees) I.ok.glob (I.mod.glob.keeps I.bk) codeX (TB.code.keeps I.bk) heapP okP among TB.gP bltP fun cc tv hp tt kept ge0 lt0 rec0 tab0 => ?_
    rw [hclo]
    obtain ⟨c2, co, fs, t, f2, coAt, coData, coQual⟩ := rec0
    cases f2
    have ge1 : s.heap.objs.size ≤ hp.objs.size := Nat.le_trans ge0 (Nat.le_of_lt lt0)
    have newC : H cc = none := I.hok.fresh ge0
    have J1 := LamX.inv_table (t' := tt) (more := #[rawInt pos.line, rawInt pos.col, .ref cc]) (h' := hp) I atP kept tab0 ge0 ⟨co, fs, t, coAt, coData, coQual⟩
    have extH : LamX.ExtN H (upd (upd H P (.tbl (trs ++ #[rawInt pos.line, rawInt pos.col, .ref cc]))) cc (LamX.CodeO cc (X.env.qual ++ "<lambda>"))) := fun b o e n => by
      rw [upd_ne (ne_of_none e newC), upd_ne (fun z => n trs (Option.some.inj (e.symm.trans (by rw [z]; exact atP))))]
      exact e
    have snocL : (trs ++ #[rawInt pos.line, rawInt pos.col, .ref cc]).toList = trs.toList ++ [rawInt pos.line, rawInt pos.col, .ref cc] := by simp
    have tabs1 : LamX.Tabs T (upd (upd H P (.tbl (trs ++ #[rawInt pos.line, rawInt pos.col, .ref cc]))) cc (LamX.CodeO cc (X.env.qual ++ "<lambda>"))) := fun p hp => by
      by_cases isP : p.1 = P
      · rw [oneT p hp isP, isP]
        refine ⟨_, by rw [upd_ne (ne_of_none atP newC), upd_same], by rw [snocL]; exact PySem.TriplesOk_snoc _ _ _ _ okP, fun pp cd find => ?_⟩
        rw [snocL] at find
        rcases LamX.among_app _ okP find with z | z
        · obtain ⟨c9, f1, f2⟩ := allP pp cd z
          exact ⟨c9, f1, extH _ _ f2 LamX.codeO_ne⟩
        · exact ⟨cc, z, upd_same⟩
      · obtain ⟨trs', t1, t2, t3⟩ := tabs0 p hp
        refine ⟨trs', by rw [upd_ne (ne_of_none t1 newC), upd_ne isP]; exact t1, t2, fun pp cd find => ?_⟩
        obtain ⟨c9, f1, f2⟩ := t3 pp cd find
        exact ⟨c9, f1, extH _ _ f2 LamX.codeO_ne⟩
    -- the function object
    have objF : (hp.push (PySem.W.kla_obj "<lambda>" (X.env.qual ++ "<lambda>") params body scope [] ((X.mg "__name__").getD .none) cc tv)).get? hp.objs.size = some (PySem.W.kla_obj "<lambda>" (X.env.qual ++ "<lambda>") params body scope [] ((X.mg "__name__").getD .none) cc tv) := Heap.get?_push_size _ rfl
    generalize eqH1 : (upd (upd H P (.tbl (trs ++ #[rawInt pos.line, rawInt pos.col, .ref cc]))) cc (LamX.CodeO cc (X.env.qual ++ "<lambda>"))) = H1 at J1 extH tabs1
    have newF : H1 hp.objs.size = none := J1.hok.fresh (Nat.le_refl _)
    have J2 := Inv.laid (a := hp.objs.size) (o := LamO hp.objs.size (X.env.qual ++ "<lambda>") params body scope cc) (t' := tt) (h' := hp.push (PySem.W.kla_obj "<lambda>" (X.env.qual ++ "<lambda>") params body scope [] ((X.mg "__name__").getD .none) cc tv)) J1 (fun b u e => Heap.get?_push_of_some _ e) (Nat.le_refl _)
      ⟨⟨_, _, objF⟩, ⟨_, objF⟩, fun h1 h2 ⟨pm, ct, e⟩ st => ⟨pm, ct, st _ e⟩⟩
    have extH2 : LamX.ExtN H (upd H1 hp.objs.size (LamO hp.objs.size (X.env.qual ++ "<lambda>") params body scope cc)) := fun b o e n => by
      rw [upd_ne (ne_of_none (extH b o e n) newF)]
      exact extH b o e n
    have atC : H1 cc = some (LamX.CodeO cc (X.env.qual ++ "<lambda>")) := by rw [← eqH1]; exact upd_same
    refine ⟨.ref hp.objs.size, _, J2, rfl, h hp.objs.size cc _ (I.hok.fresh ge1) extH2 (tabs1.ext fun b o e => by rw [upd_ne (ne_of_none e newF)]; exact e) upd_same ?_⟩
    rw [upd_ne (ne_of_none atC newF)]
    exact atC
  | some cd =>
    obtain ⟨cc, e, oldC⟩ := allP pos cd among
    subst e
    refine PySem.W.kla_makeFunctionHit (mg := X.mg) (c := c) (P := P) (ps := trs) (closure_ok frees) I.ok.glob (I.mod.glob.keeps I.bk) codeX (TB.code.keeps I.bk) heapP okP among bltP fun tv hp tt kept ge1 => ?_
    rw [hclo]
    have objF : (hp.push (PySem.W.kla_obj "<lambda>" (X.env.qual ++ "<lambda>") params body scope [] ((X.mg "__name__").getD .none) cc tv)).get? hp.objs.size = some (PySem.W.kla_obj "<lambda>" (X.env.qual ++ "<lambda>") params body scope [] ((X.mg "__name__").getD .none) cc tv) := Heap.get?_push_size _ rfl
    have newF : H hp.objs.size = none := I.hok.fresh ge1
    have J2 := Inv.laid (a := hp.objs.size) (o := LamO hp.objs.size (X.env.qual ++ "<lambda>") params body scope cc) (t' := tt) (h' := hp.push (PySem.W.kla_obj "<lambda>" (X.env.qual ++ "<lambda>") params body scope [] ((X.mg "__name__").getD .none) cc tv)) I (fun b u e => Heap.get?_push_of_some _ (kept b u e)) ge1
      ⟨⟨_, _, objF⟩, ⟨_, objF⟩, fun h1 h2 ⟨pm, ct, e⟩ st => ⟨pm, ct, st _ e⟩⟩
    have extH2 : ∀ b o, H b = some o → upd H hp.objs.size (LamO hp.objs.size (X.env.qual ++ "<lambda>") params body scope cc) b = some o := fun b o e => by
      rw [upd_ne (ne_of_none e newF)]
      exact e
    exact ⟨.ref hp.objs.size, _, J2, rfl, h hp.objs.size cc _ newF (LamX.ExtN.of extH2) (tabs0.ext extH2) upd_same (extH2 _ _ oldC)⟩
end

/-- a def whose name the module has, and what it promises; it may raise -/
def Cal (P : Program) (w : World) (K : PySem.W.Frag) (mg : Str → Option Value) (base : Heap) (k : Nat) (x : Str) (sp : Sp) (dvs : List V) : Prop :=
  ∃ (f : Addr) (d : FuncData) (names : List Str) (dv : List Value), mg x = some (.ref f) ∧ PySem.W.keepIn K (.ref f) = true ∧ FnOk P w K mg base (L2.CX P w) k f d names sp ∧ Binds K d names dv ∧ Vals dvs dv
section
variable {X : Cx} {k j : Nat} {x : Str} {sp : Sp} {dvs : List V} {E : XK} {p pos : Pos} {e : Expr} {es : List Expr} {t : TA}
theorem pe_k (c : Cal X.prog X.w X.K X.mg X.base k x sp dvs) (room : Room j X.A) (le : k ≤ j) (out : Passes (L2.CX X.prog X.w) X E) (args : PA X (e :: es) t) (gl : Gl X x := by rfl)
    (plain : (x == ("__debug__" : Str)) = false := by decide) (stars : starEach (e :: es) X.env = (false, eval e X.env) :: starEach es X.env := by rfl) (nostar : (backTo pos (starEach es X.env)).any (·.1) = false := by rfl) :
    PE X (.Call (.Name x p) (e :: es) [] pos) (tCall sp dvs E t) :=
  let ⟨_, _, _, _, at_, kp, F, b, d⟩ := c
  pe_call F (room.mono le) gl at_ kp b d out args plain stars nostar
theorem pe_k0 (c : Cal X.prog X.w X.K X.mg X.base k x sp dvs) (room : Room j X.A) (le : k ≤ j) (out : Passes (L2.CX X.prog X.w) X E) (gl : Gl X x := by rfl)
    (plain : (x == ("__debug__" : Str)) = false := by decide) : PE X (.Call (.Name x p) [] [] pos) (tCall sp dvs E tNil) :=
  let ⟨_, _, _, _, at_, kp, F, b, d⟩ := c
  pe_call0 F (room.mono le) gl at_ kp b d out plain
/-- what a def lets out is taken by its caller, a def likewise -/
theorem passE {X : Cx} {E : XK} {E1 : Value → Shared → Prop} (hs : X.stack = X.env :: X.outer := by rfl) (hf : X.env.frame = some X.env.locals := by rfl) (hex : X.ex = [] := by rfl)
    (hx : X.xe = fun e s' => wpAny (model X.prog X.w) X.A (leaving X.env e) (fun _ s'' => L2.CX X.prog X.w X.outer X.H_0 X.s_0 E e s'') E1 s' := by rfl) : Passes (L2.CX X.prog X.w) X E :=
  passes_call (takes_of hs hf hex hx) fun _ _ _ _ h => h
end
/-! ### the classes of errors -/
structure Exc1 (K : PySem.W.Frag) (mg : Str → Option Value) (x : Str) (C : Addr) : Prop where
  g : mg x = some (.ref C)
  x : PySem.W.excIn K C [.type "ValueError", .type "Exception", .type "BaseException", .type "object"] "ValueError.__new__" = true
  k : PySem.W.keepIn K (.ref C) = true
  b : PySem.W.subIn K (.ref C) (.type "BaseException") = some true
  t : PySem.W.typeIn K (.ref C) = some (.type "type")
def excName : Nat → Str
  | 0 => "BadCalendar"
  | 1 => "BadDay"
  | 2 => "BadTime"
  | 3 => "BadRule"
  | 4 => "BadZone"
  | 5 => "BadSize"
  | 6 => "BadPaper"
  | 7 => "BadText"
  | 8 => "BadStore"
  | 9 => "NoDay"
  | 10 => "NoSuch"
  | _ => ""
def kindName : Nat → Str
  | 0 => "calendar"
  | 1 => "day"
  | 2 => "time"
  | 3 => "rule"
  | 4 => "zone"
  | 5 => "size"
  | 6 => "paper"
  | 7 => "text"
  | 8 => "store"
  | 9 => "no day"
  | 10 => "no such"
  | _ => ""
structure Exs (K : PySem.W.Frag) (mg : Str → Option Value) (c : Nat → Addr) : Prop where
  e : ∀ i, i < 11 → Exc1 K mg (excName i) (c i)
  m : ∀ i j, i < 11 → j ≤ i → PySem.W.exmOne K (.ref (c i)) (.ref (c j)) = some (decide (i = j))
/-- told of an error: its kind -/
def ETold (c : Nat → Addr) (Q : VK) : XK := fun cls _ H => ∃ i, i < 11 ∧ cls = .ref (c i) ∧ Q (.str (kindName i)) H
def spTold (P : Program) (w : World) (K : PySem.W.Frag) (mg : Str → Option Value) (base : Heap) (c : Nat → Addr) (k : Nat) : Sp := fun vs H Q _ =>
  ∃ (f c' : Addr) (q : Str) (params : Arguments) (body : Expr) (scope : Scope) (tb : XK → Hp → VK → Prop), vs = [.ref f] ∧ H f = some (LamO f q params body scope c') ∧ H c' = some (LamX.CodeO c' q) ∧ Lam0 scope ∧
    (∀ (pm cv ctv : Value), bindArgs (PySem.W.kla_fn "<lambda>" q params body scope [] pm cv ctv) ⟨[], []⟩ = pure []) ∧ LamRun P w K mg base k q scope body f c' tb ∧ tb (ETold c Q) H Q
section
variable {X : Cx}
/-- raise X('..') -/
theorem ps_raiseX {C : Addr} {x m : Str} {j : Nat} {p p2 pos pos2 : Pos} {E : XK} {E1 : Value → Shared → Prop} (T : Exc1 X.K X.mg x C) (hc : X.calm = true := by rfl) (hg : Gl X x := by rfl) (hs : X.stack = X.env :: X.outer := by rfl) (hf : X.env.frame = some X.env.locals := by rfl) (hex : X.ex = [] := by rfl)
    (hx : X.xe = fun e s' => wpAny (model X.prog X.w) X.A (leaving X.env e) (fun _ s'' => L2.CX X.prog X.w X.outer X.H_0 X.s_0 E e s'') E1 s' := by rfl) (hdb : (x == ("__debug__" : Str)) = false := by decide) :
    PS X (.Raise (some (.Call (.Name x p) [.Constant (.str m) j p2] [] pos)) none pos2) (fun _ _ H => E (.ref C) none H) :=
  ps_raise hc (takes_of hs hf hex hx) (pmk_own PySem.F.excBase_ValueError T.x T.g T.k (raises_own T.b T.t) hg hdb)
end
/-! ### evaluation -/
theorem et_chain {σ : L2.St} {H : Hp} {ta tb tc : TE} {x y z : V} {r r' : R2} {b b' : Bool} (ha : Ev ta σ H x) (hb : Ev tb σ H y) (hc : b = true → Ev tc σ H z) (hr : RV r x y H (.bl b)) (hr' : b = true → RV r' y z H (.bl b')) : Ev (tChain r r' ta tb tc) σ H (.bl (b && b')) := fun H1 e Q q =>
  ha H1 e _ fun H2 e2 => hb H2 (e.trans e2) _ fun H3 e3 => hr H3 ((e.trans e2).trans e3) _ fun H4 e4 => ⟨b, rfl, by
    cases b with
    | true =>
      rw [if_pos rfl]
      exact hc rfl H4 (((e.trans e2).trans e3).trans e4) _ fun H5 e5 => hr' rfl H5 ((((e.trans e2).trans e3).trans e4).trans e5) Q fun H6 e6 => q H6 (((((e2).trans e3).trans e4).trans e5).trans e6)
    | false =>
      rw [if_neg Bool.false_ne_true]
      exact q H4 ((e2.trans e3).trans e4)⟩
theorem rc_int1 {H : Hp} {i : Int} : RC (fun xs H Q => (∃ i, xs = [V.int i] ∧ Q (V.int i) H) ∨ ∃ k, xs = [V.bl k] ∧ Q (V.int (if k = true then 1 else 0)) H) [.int i] H (.int i) := fun H1 _ _ q => .inl ⟨i, rfl, q H1 (Ex.refl H1)⟩
theorem rc_int1b {H : Hp} {k : Bool} : RC (fun xs H Q => (∃ i, xs = [V.int i] ∧ Q (V.int i) H) ∨ ∃ k, xs = [V.bl k] ∧ Q (V.int (if k = true then 1 else 0)) H) [.bl k] H (.int (if k = true then 1 else 0)) := fun H1 _ _ q => .inr ⟨k, rfl, q H1 (Ex.refl H1)⟩
theorem rc_abs {H : Hp} {i : Int} : RC (fun xs H Q => ∃ i, xs = [V.int i] ∧ Q (V.int (if i < 0 then -i else i)) H) [.int i] H (.int (if i < 0 then -i else i)) := fun H1 _ _ q => ⟨i, rfl, q H1 (Ex.refl H1)⟩
def ExB (d : Addr) (H H' : Hp) : Prop := ∀ x o, x ≠ d → H x = some o → H' x = some o
theorem ExB.of {d : Addr} {H H' : Hp} (e : Ex H H') : ExB d H H' := fun x o _ h => e x o h
theorem ExB.upd {d : Addr} {H H' : Hp} {o : HO} (e : ExB d H H') : ExB d H (upd H' d o) := fun x u n h => by rw [upd_ne n]; exact e x u n h
theorem ExB.trans {d : Addr} {H H1 H2 : Hp} (a : ExB d H H1) (b : ExB d H1 H2) : ExB d H H2 := fun x o n h => b x o n (a x o n h)
theorem ExB.ex {d : Addr} {H H1 H2 : Hp} (a : ExB d H H1) (b : Ex H1 H2) : ExB d H H2 := fun x o n h => b x o (a x o n h)
end Rw
namespace Rw
open PySem PySem.Spec PyProof.Rows L2 Evl
/-! ### what a def gives: a value, a new list, a new tuple, or an error -/
inductive Rs where
  | ok (v : V)
  | lst (xs : List V)
  | tup (xs : List V)
  | err (i : Nat)
  deriving DecidableEq
def Out (c : Nat → Addr) (H : Hp) (Q : VK) (E : XK) : Rs → Prop
  | .ok v => ∀ H', Ex H H' → Q v H'
  | .lst xs => ∀ p H', H p = none → Ex H H' → H' p = some (.lst xs) → Q (.ref p) H'
  | .tup xs => ∀ p H', H p = none → Ex H H' → H' p = some (.tup xs) → Q (.ref p) H'
  | .err i => ∀ H', Ex H H' → E (.ref (c i)) none H'
theorem Out.mono {c : Nat → Addr} {H H1 : Hp} {Q : VK} {E : XK} {r : Rs} (e : Ex H H1) (o : Out c H Q E r) : Out c H1 Q E r := by
  cases r with
  | ok v => exact fun H' e' => o H' (e.trans e')
  | lst xs => exact fun p H' hp e' h => o p H' (fresh_back e hp) (e.trans e') h
  | tup xs => exact fun p H' hp e' h => o p H' (fresh_back e hp) (e.trans e') h
  | err i => exact fun H' e' => o H' (e.trans e')
def spF (c : Nat → Addr) (f : List V → Option Rs) : Sp := fun vs H Q E => ∃ r, f vs = some r ∧ Out c H Q E r
section
variable {c : Nat → Addr} {f : List V → Option Rs} {σ : L2.St} {H : Hp} {vs dvs : List V} {ta : TA} {E : XK} {z : V} {xs : List V}
theorem ev_F (h : EvA ta σ H vs) (hf : f (vs ++ dvs) = some (.ok z)) : Ev (tCall (spF c f) dvs E ta) σ H z := fun H1 e Q q =>
  h H1 e _ fun H2 e2 => ⟨_, hf, fun H3 e3 => q H3 (e2.trans e3)⟩
theorem el_F (h : EvA ta σ H vs) (hf : f (vs ++ dvs) = some (.lst xs)) : EvL (tCall (spF c f) dvs E ta) σ H xs := fun H1 e Q q =>
  h H1 e _ fun H2 e2 => ⟨_, hf, fun p H3 hp e3 h3 => q p H3 (fresh_back e2 hp) (e2.trans e3) h3⟩
theorem eu_F (h : EvA ta σ H vs) (hf : f (vs ++ dvs) = some (.tup xs)) : EvU (tCall (spF c f) dvs E ta) σ H xs := fun H1 e Q q =>
  h H1 e _ fun H2 e2 => ⟨_, hf, fun p H3 hp e3 h3 => q p H3 (fresh_back e2 hp) (e2.trans e3) h3⟩
/-- a call that raises: whatever is wanted of its value -/
theorem er_F {i : Nat} (h : EvA ta σ H vs) (hf : f (vs ++ dvs) = some (.err i)) (k : ∀ H1, Ex H H1 → E (.ref (c i)) none H1) (Q : VK) : tCall (spF c f) dvs E ta σ H Q :=
  h H (Ex.refl H) _ fun H2 e2 => ⟨_, hf, fun H3 e3 => k H3 (e2.trans e3)⟩
end
/-! ### two figures -/
def twoL (n : Int) : List Nat := [48 + n.toNat / 10, 48 + n.toNat % 10]
theorem two_text (n : Int) (h0 : 0 ≤ n) (h1 : n < 100) : (if decide (n < 10) = true then (⟨#[48]⟩ : Str) ++ Str.ofString (toString n) else Str.ofString (toString n)) = SX.S (twoL n) := by
  have all : ∀ m : Fin 100, (if decide (((m.val : Nat) : Int) < 10) = true then (⟨#[48]⟩ : Str) ++ Str.ofString (toString ((m.val : Nat) : Int)) else Str.ofString (toString ((m.val : Nat) : Int))) = SX.S (twoL ((m.val : Nat) : Int)) := by decide +kernel
  have e := all ⟨n.toNat, by omega⟩
  have en : ((n.toNat : Nat) : Int) = n := Int.toNat_of_nonneg h0
  rw [show ((⟨n.toNat, by omega⟩ : Fin 100).val) = n.toNat from rfl, en] at e
  exact e
section
variable {X : Cx}
/-- f'{e:02d}' -/
def tTwo (te : TE) : TE := fun σ H Q => te σ H fun x H1 => ∃ n : Int, x = .int n ∧ 0 ≤ n ∧ n < 100 ∧ Q (.str (SX.S (twoL n))) H1
theorem pe_two {e : Expr} {te : TE} {k : Nat} {p1 p2 pos p3 : Pos} (hD : X.base.NoDigits) (he : PE X e te) : PE X (.JoinedStr [.FormattedValue e (-1) (some (.JoinedStr [.Constant (.str "02d") k p1] p2)) pos] p3) (tTwo te) := by
  refine pe_joined1 ⟨fun pins s σ H Q I h => ?_⟩
  refine wpAny_FormattedValue_spec (thn (he.run pins s σ H _ I h) ?_)
  rintro v s1 ⟨x, H1, I1, r1, n, rfl, h0, h1, q⟩
  obtain ⟨t, rfl⟩ := r1
  have hs : PE X (.JoinedStr [.Constant (.str "02d") k p1] p2) (tC (.str "02d")) := pe_joined1 pe_str
  refine thn (hs.run pins s1 σ H1 (fun v H' => v = .str "02d" ∧ H' = H1) I1 ⟨rfl, rfl⟩) ?_
  rintro r s2 ⟨y, H2, I2, r2, rfl, rfl⟩
  obtain ⟨t2, rfl⟩ := r2
  refine ⟨_, t2, rfl, ?_⟩
  refine formatField_int_specOf (hD.keeps I2.bk) (by have : n.natAbs < 100 := by omega
                                                     exact lt_digitLimit_of_lt (by omega)) (by decide +kernel) (fun W hW F => ?_) (by decide)
  have e := F.pad2 (by decide +kernel) (hW.trans (by decide +kernel)) h0 h1
  rw [two_text n h0 h1] at e
  exact ⟨.str _, H2, I2.tok _, ⟨_, rfl⟩, by rw [e]; exact q⟩
end
theorem ev_two {te : TE} {σ : L2.St} {H : Hp} {n : Int} (h : Ev te σ H (.int n)) (h0 : 0 ≤ n) (h1 : n < 100) : Ev (tTwo te) σ H (.str (SX.S (twoL n))) := fun H1 e Q q =>
  h H1 e _ fun H2 e2 => ⟨n, rfl, h0, h1, q H2 e2⟩
/-! ### comprehensions that keep all -/
theorem given_all (n : Nat) (v : Nat → V) : given n (fun _ => true) v = (List.range n).map v := by
  unfold given
  rw [List.filter_eq_self.mpr fun _ _ => rfl]
theorem given_map {xs ys : List V} {v : Nat → V} (hl : xs.length = ys.length) (h : ∀ i y, ys[i]? = some y → v i = y) : given xs.length (fun _ => true) v = ys := by
  rw [given_all]
  refine List.ext_getElem? fun i => ?_
  rw [List.getElem?_map, hl]
  by_cases hi : i < ys.length
  · rw [List.getElem?_range hi, List.getElem?_eq_getElem hi]
    show some (v i) = some ys[i]
    rw [h i _ (List.getElem?_eq_getElem hi)]
  · rw [List.getElem?_eq_none (by rw [List.length_range]; omega), List.getElem?_eq_none (by omega)]
    rfl
theorem et_yes {σ : L2.St} {H : Hp} : EvT tYes σ H true := fun H1 _ _ q => q H1 (Ex.refl H1)
section
variable {K : PySem.W.Frag} {σ : L2.St} {H : Hp} {te tl : TE} {t : TT} {j : Nat} {vs : List Nat} {xs ys : List V}
/-- a comprehension over a new tuple -/
theorem el_lcNU (f : Nat → Bool) (v : Nat → V) (h : EvU tl σ H xs) (hz : xs.length ≤ 40000) (hw : ∀ x, wipe ((wipe σ vs).set j (some x)) vs = wipe σ vs)
    (tested : ∀ (i : Nat) (x : V) H1, Ex H H1 → xs[i]? = some x → EvT t ((wipe σ vs).set j (some x)) H1 (f i)) (he : ∀ (i : Nat) (x : V) H1, Ex H H1 → xs[i]? = some x → f i = true → Ev te ((wipe σ vs).set j (some x)) H1 (v i)) :
    EvL (tLc (iTup K tl) (gName j) t te vs) σ H (given xs.length f v) := fun H0 e Q q => h H0 e _ fun a H1 _ e1 hx => ⟨a, rfl, ⟨xs, st_of hx⟩, fun Dl hD =>
  lc_tup (xs := xs) (Cw H1 f v Dl) ⟨hD, Ex.new hD, upd_same⟩ (fun i H' _ p => st_of (p.2.1 a _ hx)) (fun i x H' hi p => ⟨hw x, cw_turn p (Nat.lt_of_lt_of_le (List.getElem?_eq_some_iff.mp hi).1 (Nat.le_trans hz (by decide))) (tested i x H1 (e.trans e1) hi) (fun hf => he i x H1 (e.trans e1) hi hf)⟩)
    (fun Hz pz => q Dl Hz (fresh_back e1 pz.1) (e1.trans pz.2.1) pz.2.2)⟩
/-- all items of a new tuple, each made another -/
theorem el_mapNU (h : EvU tl σ H xs) (hz : xs.length ≤ 40000) (hw : ∀ x, wipe ((wipe σ vs).set j (some x)) vs = wipe σ vs) (hl : xs.length = ys.length)
    (he : ∀ (i : Nat) (x y : V) H1, Ex H H1 → xs[i]? = some x → ys[i]? = some y → Ev te ((wipe σ vs).set j (some x)) H1 y) :
    EvL (tLc (iTup K tl) (gName j) tYes te vs) σ H ys := by
  have g := el_lcNU (K := K) (t := tYes) (te := te) (fun _ => true) (fun i => ys.getD i .non) h hz hw (fun _ _ _ _ _ => et_yes) fun i x H1 e hx _ => by
    have hi : i < ys.length := by
      have q := (List.getElem?_eq_some_iff.mp hx).1
      omega
    have ey : ys.getD i .non = ys[i] := by rw [List.getD_eq_getElem?_getD, List.getElem?_eq_getElem hi]; rfl
    rw [ey]
    exact he i x _ H1 e hx (List.getElem?_eq_getElem hi)
  rw [given_map hl fun i y hy => by rw [List.getD_eq_getElem?_getD, hy]; rfl] at g
  exact g
/-- all items of a list, each made another -/
theorem el_mapL {a : Addr} (h : Ev tl σ H (.ref a)) (hx : SqL K H a xs) (hz : xs.length ≤ 40000) (hw : ∀ x, wipe ((wipe σ vs).set j (some x)) vs = wipe σ vs) (hl : xs.length = ys.length)
    (he : ∀ (i : Nat) (x y : V) H1, Ex H H1 → xs[i]? = some x → ys[i]? = some y → Ev te ((wipe σ vs).set j (some x)) H1 y) :
    EvL (tLc (iList K tl) (gName j) tYes te vs) σ H ys := by
  have g := el_lcL (K := K) (t := tYes) (te := te) (fun _ => true) (fun i => ys.getD i .non) h hx hz hw (fun _ _ _ _ _ => et_yes) fun i x H1 e hx _ => by
    have hi : i < ys.length := by
      have q := (List.getElem?_eq_some_iff.mp hx).1
      omega
    have ey : ys.getD i .non = ys[i] := by rw [List.getD_eq_getElem?_getD, List.getElem?_eq_getElem hi]; rfl
    rw [ey]
    exact he i x _ H1 e hx (List.getElem?_eq_getElem hi)
  rw [given_map hl fun i y hy => by rw [List.getD_eq_getElem?_getD, hy]; rfl] at g
  exact g
/-- sep.join(new list) -/
theorem ev_join {to : TE} {a : Str} {zs : List Str} (ho : Ev to σ H (.str a)) (he : EvL te σ H (zs.map V.str)) (hz : (zs.map (·.length)).sum + zs.length * a.length ≤ 16777216) :
    Ev (tM1 (fun x xs H Q => ∃ a p, ∃ ys : List Str, x = .str a ∧ xs = [.ref p] ∧ (SqL K H p (ys.map V.str) ∨ SqT K H p (ys.map V.str)) ∧ (ys.map (·.length)).sum + ys.length * a.length ≤ 16777216 ∧ Q (.str (Txt.join a ys)) H) to te) σ H (.str (Txt.join a zs)) := fun H1 e Q q =>
  ho H1 e _ fun H2 e2 => ⟨⟨a, rfl⟩, he H2 (e.trans e2) _ fun p H3 _ e3 h3 => ⟨a, p, zs, rfl, rfl, .inl (sq_of h3), hz, q H3 (e2.trans e3)⟩⟩
end
end Rw
namespace Rw
open PySem PySem.Spec PyProof.Rows L2 Evl SX
/-! ### texts of figures -/
def isDig (c : Nat) : Bool := decide (48 ≤ c) && decide (c ≤ 57)
theorem figs_cps : (("0123456789" : Str)).cps = #[48, 49, 50, 51, 52, 53, 54, 55, 56, 57] := by decide +kernel
theorem figs_has (c : Nat) : (("0123456789" : Str)).cps.contains c = isDig c := by
  rw [figs_cps]
  unfold isDig
  rw [Bool.eq_iff_iff]
  simp only [Array.contains_eq_mem, Bool.and_eq_true, decide_eq_true_eq]
  simp only [List.mem_toArray, List.mem_cons, List.not_mem_nil, or_false]
  omega
theorem extract_S (l : List Nat) (i j : Nat) : PySem.Builtin.Str.strSub (S l) i j = S ((l.drop i).take (j - i)) := by
  unfold PySem.Builtin.Str.strSub
  refine TL.ext_tl ?_
  show ((S l).cps.extract i j).toList = (l.drop i).take (j - i)
  rw [Array.toList_extract, List.extract_eq_take_drop]
theorem drop_takeWhile (p : Nat → Bool) (l : List Nat) : l.drop (l.takeWhile p).length = l.dropWhile p := by
  induction l with
  | nil => rfl
  | cons a r ih =>
    rw [List.takeWhile_cons, List.dropWhile_cons]
    cases h : p a with
    | true => simpa using ih
    | false => rfl
theorem lstrip_S (l : List Nat) : Txt.lstripChars (S l) "0123456789" = S (l.dropWhile isDig) := by
  unfold Txt.lstripChars
  rw [PyProof.Rows.stripBy_eq, show (("0123456789" : Str)).cps.contains = isDig from funext figs_has]
  unfold stripLo stripHi
  rw [if_pos rfl, if_neg (by decide), extract_S]
  show S ((l.drop (l.takeWhile isDig).length).take ((S l).length - (l.takeWhile isDig).length)) = _
  rw [S_len, drop_takeWhile, List.take_of_length_le]
  have e := congrArg List.length (List.takeWhile_append_dropWhile (p := isDig) (l := l))
  rw [List.length_append] at e
  omega
theorem cut_figs (l : List Nat) : cutS (S l) none (some ((l.length : Int) - ((l.dropWhile isDig).length : Int))) = S (l.takeWhile isDig) := by
  have e := congrArg List.length (List.takeWhile_append_dropWhile (p := isDig) (l := l))
  rw [List.length_append] at e
  have ez : (l.length : Int) - ((l.dropWhile isDig).length : Int) = (((l.takeWhile isDig).length : Nat) : Int) := by omega
  rw [ez]
  unfold cutS
  rw [HT.sIx_none, HT.sIx_nat, S_len, List.drop_zero]
  have em : min (l.takeWhile isDig).length l.length = (l.takeWhile isDig).length := by omega
  rw [em, Nat.sub_zero]
  show S (l.take (l.takeWhile isDig).length) = _
  have t : l.take (l.takeWhile isDig).length = l.takeWhile isDig := by
    conv => lhs; rw [← List.takeWhile_append_dropWhile (p := isDig) (l := l)]
    have hp : ∀ (m : List Nat), (m.takeWhile isDig ++ m.dropWhile isDig).takeWhile isDig = m.takeWhile isDig := fun m => by rw [List.takeWhile_append_dropWhile]
    rw [hp, List.take_left]
  rw [t]
theorem cut_one (l : List Nat) : cutS (S l) none (some 1) = S (l.take 1) := by
  unfold cutS
  rw [HT.sIx_none, show HT.sIx (S l).length (S l).length (some 1) = min 1 (S l).length from HT.sIx_nat _ _ 1, S_len, List.drop_zero, Nat.sub_zero]
  show S (l.take (min 1 l.length)) = _
  cases l with
  | nil => rfl
  | cons a r =>
    rw [show min 1 (a :: r).length = 1 by rw [List.length_cons]; omega]
theorem cut_rest (l : List Nat) : cutS (S l) (some 1) none = S (l.drop 1) := by
  unfold cutS
  rw [HT.sIx_none, show HT.sIx (S l).length 0 (some 1) = min 1 (S l).length from HT.sIx_nat _ _ 1, S_len]
  show S ((l.drop (min 1 l.length)).take (l.length - min 1 l.length)) = _
  cases l with
  | nil => rfl
  | cons a r =>
    rw [show min 1 (a :: r).length = 1 by rw [List.length_cons]; omega, List.take_of_length_le (by rw [List.length_drop]; omega)]
/-! ### letters -/
def letAt (c : Nat) : Int := if c = 100 then 0 else if c = 104 then 1 else if c = 109 then 2 else if c = 115 then 3 else -1
theorem dhms_S : ("dhms" : Str) = S [100, 104, 109, 115] := by decide +kernel
theorem find_let (c : Nat) : Txt.find "dhms" (S [c]) = letAt c := by
  by_cases h : c = 100 ∨ c = 104 ∨ c = 109 ∨ c = 115
  · rcases h with rfl | rfl | rfl | rfl <;> decide +kernel
  · have hn : c ∉ [100, 104, 109, 115] := by
      intro hm
      simp only [List.mem_cons, List.not_mem_nil, or_false] at hm
      exact h hm
    have e := in_one [100, 104, 109, 115] c
    rw [decide_eq_false hn, Bool.not_eq_false', List.isEmpty_iff] at e
    unfold Txt.find
    rw [dhms_S, e]
    unfold letAt
    rw [if_neg (by omega), if_neg (by omega), if_neg (by omega), if_neg (by omega)]
theorem letAt_lt (c : Nat) : letAt c < 4 := by
  unfold letAt
  split
  · decide
  · split
    · decide
    · split
      · decide
      · split <;> decide
def sizeAt (p : Int) : Int := [86400, 3600, 60, 1].getD p.toNat 0
/-! ### a length read -/
/-- what the loop makes of what is left, seconds so far, and the last letter -/
def rlLoop : Nat → List Nat → Int → Int → Rs
  | 0, _, _, _ => .err 7
  | k + 1, l, sec, last =>
    if l = [] then .ok (.int sec) else
    match l.dropWhile isDig with
    | [] => .err 7
    | x :: more =>
      if letAt x ≤ last ∨ ¬ (0 < (l.takeWhile isDig).length ∧ (l.takeWhile isDig).length < 7) ∨ ¬ (l.takeWhile isDig = TL.numL (NumText.digitsVal (l.takeWhile isDig))) then .err 7
      else rlLoop k more (sec + (NumText.digitsVal (l.takeWhile isDig) : Nat) * sizeAt (letAt x)) (letAt x)
theorem rlLoop_succ (k : Nat) (l : List Nat) (sec last : Int) : rlLoop (k + 1) l sec last = if l = [] then .ok (.int sec) else
    match l.dropWhile isDig with
    | [] => .err 7
    | x :: more =>
      if letAt x ≤ last ∨ ¬ (0 < (l.takeWhile isDig).length ∧ (l.takeWhile isDig).length < 7) ∨ ¬ (l.takeWhile isDig = TL.numL (NumText.digitsVal (l.takeWhile isDig))) then .err 7
      else rlLoop k more (sec + (NumText.digitsVal (l.takeWhile isDig) : Nat) * sizeAt (letAt x)) (letAt x) := rfl
def mReadLen (l : List Nat) : Rs := if l = [] then .err 7 else rlLoop (l.length + 1) l 0 (-1)
theorem isDig_letter {x : Nat} (h : 57 < x) : isDig x = false := by
  unfold isDig
  rw [decide_eq_false (show ¬ x ≤ 57 by omega), Bool.and_false]
theorem numL_dig (n : Nat) : ∀ c ∈ TL.numL n, isDig c = true := fun c hc => by
  have h := TL.numL_digits n c hc
  unfold isDig
  rw [decide_eq_true h.1, decide_eq_true h.2]
  rfl
theorem tw_app {a r : List Nat} {x : Nat} (ha : ∀ c ∈ a, isDig c = true) (hx : isDig x = false) : (a ++ x :: r).takeWhile isDig = a ∧ (a ++ x :: r).dropWhile isDig = x :: r := by
  induction a with
  | nil =>
    rw [List.nil_append, List.takeWhile_cons, List.dropWhile_cons, hx]
    exact ⟨rfl, rfl⟩
  | cons b a ih =>
    have hb := ha b List.mem_cons_self
    obtain ⟨h1, h2⟩ := ih fun c hc => ha c (List.mem_cons_of_mem _ hc)
    rw [List.cons_append, List.takeWhile_cons, List.dropWhile_cons, hb]
    exact ⟨by rw [if_pos rfl, h1], by rw [if_pos rfl, h2]⟩
/-- one piece of a told length -/
theorem rl_piece {k n x : Nat} {more : List Nat} {sec last : Int} (hn : n < 1000000) (hx : 57 < x) (hl : last < letAt x) :
    rlLoop (k + 1) (TL.numL n ++ x :: more) sec last = rlLoop k more (sec + (n : Int) * sizeAt (letAt x)) (letAt x) := by
  obtain ⟨h1, h2⟩ := tw_app (a := TL.numL n) (r := more) (numL_dig n) (isDig_letter hx)
  have hne : ¬ (TL.numL n ++ x :: more = []) := by simp
  have l1 : 0 < (TL.numL n).length := List.length_pos_iff.mpr (TL.numL_ne n)
  have l2 : (TL.numL n).length ≤ 6 := TL.numL_len (by decide) (by show n < 1000000; exact hn)
  rw [rlLoop_succ, if_neg hne, h2, h1, TL.numL_val]
  dsimp only
  rw [if_neg]
  rintro (h | h | h)
  · omega
  · exact h ⟨l1, by omega⟩
  · exact h rfl
theorem rl_end {k : Nat} {sec last : Int} : rlLoop (k + 1) [] sec last = .ok (.int sec) := by
  rw [rlLoop_succ, if_pos rfl]
end Rw
namespace Rw
open PySem PySem.Spec PyProof.Rows L2 Evl SX
/-! ### a length told -/
def tlWords : List (Nat × Nat) → Nat → List (List Nat)
  | [], _ => []
  | (c, z) :: r, s => if z ≤ s then (TL.numL (s / z) ++ [c]) :: tlWords r (s % z) else tlWords r s
def tlUnits : List (Nat × Nat) := [(100, 86400), (104, 3600), (109, 60), (115, 1)]
def tlText (s : Nat) : List Nat := if s = 0 then [48, 115] else (tlWords tlUnits s).flatten
def tlVal : List (Nat × Nat) → Nat → Nat
  | [], _ => 0
  | (_, z) :: r, s => if z ≤ s then s / z * z + tlVal r (s % z) else tlVal r s
theorem tlVal_all (s : Nat) : tlVal tlUnits s = s := by
  unfold tlUnits
  simp only [tlVal]
  split <;> split <;> split <;> split <;> omega
theorem rl_words : ∀ (r : List (Nat × Nat)) (s k : Nat) (sec last : Int), (∀ p ∈ r, 57 < p.1 ∧ sizeAt (letAt p.1) = (p.2 : Int)) → r.Pairwise (fun a b => letAt a.1 < letAt b.1) → (∀ p ∈ r, last < letAt p.1) → s < 1000000 →
    (tlWords r s).length < k → rlLoop k (tlWords r s).flatten sec last = .ok (.int (sec + (tlVal r s : Nat)))
  | [], s, k, sec, last, _, _, _, _, hk => by
    obtain ⟨k, rfl⟩ : ∃ j, k = j + 1 := ⟨k - 1, by have : 0 < k := hk; omega⟩
    show rlLoop (k + 1) [] sec last = _
    rw [rl_end]
    simp [tlVal]
  | (c, z) :: r, s, k, sec, last, hp, hs, hl, hn, hk => by
    obtain ⟨h57, hz⟩ := hp (c, z) List.mem_cons_self
    rw [List.pairwise_cons] at hs
    unfold tlWords tlVal
    unfold tlWords at hk
    by_cases q : z ≤ s
    · rw [if_pos q] at hk
      rw [if_pos q, if_pos q]
      obtain ⟨k, rfl⟩ : ∃ j, k = j + 1 := ⟨k - 1, by rw [List.length_cons] at hk; omega⟩
      have e : (((TL.numL (s / z) ++ [c]) :: tlWords r (s % z)) : List (List Nat)).flatten = TL.numL (s / z) ++ c :: (tlWords r (s % z)).flatten := by simp
      rw [e, rl_piece (Nat.lt_of_le_of_lt (Nat.div_le_self _ _) hn) h57 (hl (c, z) List.mem_cons_self)]
      rw [rl_words r (s % z) k _ _ (fun p h => hp p (List.mem_cons_of_mem _ h)) hs.2 (fun p h => hs.1 p h) (Nat.lt_of_le_of_lt (Nat.mod_le _ _) hn) (by rw [List.length_cons] at hk; omega), hz]
      rw [Int.natCast_add, Int.natCast_mul, Int.add_assoc]
    · rw [if_neg q] at hk
      rw [if_neg q, if_neg q]
      exact rl_words r s k sec last (fun p h => hp p (List.mem_cons_of_mem _ h)) hs.2 (fun p h => hl p (List.mem_cons_of_mem _ h)) hn hk
theorem words_len : ∀ (r : List (Nat × Nat)) (s : Nat), (tlWords r s).length ≤ (tlWords r s).flatten.length
  | [], _ => Nat.le_refl _
  | (c, z) :: r, s => by
    unfold tlWords
    split
    · have h := words_len r (s % z)
      rw [List.length_cons, List.flatten_cons, List.length_append, List.length_append]
      show _ ≤ _ + 1 + _
      omega
    · exact words_len r s
/-- told and read -/
theorem read_told (s : Nat) (h : s < 1000000) : mReadLen (tlText s) = .ok (.int (s : Int)) := by
  unfold tlText
  by_cases h0 : s = 0
  · subst h0
    rw [if_pos rfl]
    decide +kernel
  · rw [if_neg h0]
    have go : ∀ k, (tlWords tlUnits s).length < k → rlLoop k (tlWords tlUnits s).flatten 0 (-1) = .ok (.int (s : Int)) := fun k hk => by
      rw [rl_words tlUnits s k 0 (-1) (by decide) (by decide) (by decide) h hk, tlVal_all, Int.zero_add]
    unfold mReadLen
    have hne : ¬ ((tlWords tlUnits s).flatten = []) := fun e => by
      have g := go 5 (by
        have : (tlWords tlUnits s).length ≤ 0 := by
          have w := words_len tlUnits s
          rw [e] at w
          exact w
        omega)
      rw [e, rl_end] at g
      have z : (0 : Int) = (s : Int) := by
        injection g with g
        injection g with g
      omega
    rw [if_neg hne]
    exact go _ (Nat.lt_succ_of_le (words_len tlUnits s))
/-! ### what stands in a told length -/
theorem tlText_units (s : Nat) : (tlWords tlUnits s) = (if 86400 ≤ s then [TL.numL (s / 86400) ++ [100]] else []) ++ ((if 3600 ≤ s % 86400 then [TL.numL (s % 86400 / 3600) ++ [104]] else []) ++
    ((if 60 ≤ s % 3600 then [TL.numL (s % 3600 / 60) ++ [109]] else []) ++ (if 1 ≤ s % 60 then [TL.numL (s % 60) ++ [115]] else []))) := by
  unfold tlUnits
  simp only [tlWords]
  have m1 : s % 86400 % 3600 = s % 3600 := by omega
  have m2 : s % 3600 % 60 = s % 60 := by omega
  have step3 : ∀ t, (if 1 ≤ t then [TL.numL (t / 1) ++ [115]] else []) = (if 1 ≤ t then [TL.numL t ++ [115]] else []) := fun t => by rw [Nat.div_one]
  have f3 : ∀ t, t < 60 → (if 60 ≤ t then (TL.numL (t / 60) ++ [109]) :: (if 1 ≤ t % 60 then [TL.numL (t % 60 / 1) ++ [115]] else []) else (if 1 ≤ t then [TL.numL (t / 1) ++ [115]] else [])) = (if 60 ≤ t then [TL.numL (t / 60) ++ [109]] else []) ++ (if 1 ≤ t % 60 then [TL.numL (t % 60) ++ [115]] else []) := fun t ht => by
    rw [if_neg (show ¬ 60 ≤ t by omega), if_neg (show ¬ 60 ≤ t by omega), step3, show t % 60 = t by omega]
    rfl
  have g3 : ∀ t, (if 60 ≤ t then (TL.numL (t / 60) ++ [109]) :: (if 1 ≤ t % 60 then [TL.numL (t % 60 / 1) ++ [115]] else []) else (if 1 ≤ t then [TL.numL (t / 1) ++ [115]] else [])) = (if 60 ≤ t then [TL.numL (t / 60) ++ [109]] else []) ++ (if 1 ≤ t % 60 then [TL.numL (t % 60) ++ [115]] else []) := fun t => by
    by_cases h : 60 ≤ t
    · rw [if_pos h, if_pos h, step3]
      rfl
    · exact f3 t (by omega)
  have g2 : ∀ t, (if 3600 ≤ t then (TL.numL (t / 3600) ++ [104]) :: (if 60 ≤ t % 3600 then (TL.numL (t % 3600 / 60) ++ [109]) :: (if 1 ≤ t % 3600 % 60 then [TL.numL (t % 3600 % 60 / 1) ++ [115]] else []) else (if 1 ≤ t % 3600 then [TL.numL (t % 3600 / 1) ++ [115]] else []))
      else (if 60 ≤ t then (TL.numL (t / 60) ++ [109]) :: (if 1 ≤ t % 60 then [TL.numL (t % 60 / 1) ++ [115]] else []) else (if 1 ≤ t then [TL.numL (t / 1) ++ [115]] else []))) =
      (if 3600 ≤ t then [TL.numL (t / 3600) ++ [104]] else []) ++ ((if 60 ≤ t % 3600 then [TL.numL (t % 3600 / 60) ++ [109]] else []) ++ (if 1 ≤ t % 60 then [TL.numL (t % 60) ++ [115]] else [])) := fun t => by
    by_cases h : 3600 ≤ t
    · rw [if_pos h, if_pos h, g3 (t % 3600), show t % 3600 % 60 = t % 60 by omega]
      rfl
    · rw [if_neg h, if_neg h, g3 t, show t % 3600 = t by omega]
      rfl
  by_cases h : 86400 ≤ s
  · rw [if_pos h, if_pos h, g2 (s % 86400), m1, show s % 86400 % 60 = s % 60 by omega]
    rfl
  · rw [if_neg h, if_neg h, g2 s, show s % 86400 = s by omega]
    rfl
theorem numL_head {n : Nat} (h : 0 < n) : (TL.numL n).head? ≠ some 48 := by
  induction n using Nat.strongRecOn with
  | ind n ih =>
    by_cases q : n < 10
    · rw [TL.numL_lt q]
      intro e
      have e : 48 + n = 48 := Option.some.inj e
      omega
    · rw [TL.numL_step (by omega)]
      cases hz : TL.numL (n / 10) with
      | nil => exact absurd hz (TL.numL_ne _)
      | cons a r =>
        have g := ih (n / 10) (by omega) (by omega)
        rw [hz] at g
        exact g
theorem mem_opt {x c n : Nat} {p : Prop} [Decidable p] (hx : 57 < x) : x ∈ (if p then [TL.numL n ++ [c]] else []).flatten ↔ p ∧ x = c := by
  by_cases h : p
  · rw [if_pos h]
    have f : x ∉ TL.numL n := TL.numL_free (.inr hx)
    simp [f, h]
  · rw [if_neg h]
    simp [h]
theorem let_mem {x s : Nat} (hx : 57 < x) : x ∈ (tlWords tlUnits s).flatten ↔ (86400 ≤ s ∧ x = 100) ∨ (3600 ≤ s % 86400 ∧ x = 104) ∨ (60 ≤ s % 3600 ∧ x = 109) ∨ (1 ≤ s % 60 ∧ x = 115) := by
  rw [tlText_units, List.flatten_append, List.flatten_append, List.flatten_append, List.mem_append, List.mem_append, List.mem_append, mem_opt hx, mem_opt hx, mem_opt hx, mem_opt hx]
theorem d_in (s : Nat) : decide (100 ∈ tlText s) = decide (86400 ≤ s) := by
  unfold tlText
  by_cases h : s = 0
  · subst h
    decide
  · rw [if_neg h]
    refine decide_eq_decide.mpr ?_
    rw [let_mem (by decide)]
    omega
theorem s_in (s : Nat) : decide (115 ∈ tlText s) = (decide (0 < s % 60) || decide (s = 0)) := by
  unfold tlText
  by_cases h : s = 0
  · subst h
    decide
  · rw [if_neg h, decide_eq_false h, Bool.or_false]
    refine decide_eq_decide.mpr ?_
    rw [let_mem (by decide)]
    omega
def okSign (c : Nat) : Bool := isDig c || decide (c ∈ [100, 104, 109, 115])
theorem words_ok : ∀ (r : List (Nat × Nat)) (s : Nat), (∀ p ∈ r, okSign p.1 = true) → ∀ c ∈ (tlWords r s).flatten, okSign c = true
  | [], _, _, c, h => by cases h
  | (a, z) :: r, s, hp, c, h => by
    unfold tlWords at h
    split at h
    · rw [List.flatten_cons, List.mem_append, List.mem_append, List.mem_singleton] at h
      rcases h with (h | rfl) | h
      · unfold okSign
        rw [numL_dig _ c h]
        rfl
      · exact hp (c, z) List.mem_cons_self
      · exact words_ok r _ (fun p h => hp p (List.mem_cons_of_mem _ h)) c h
    · exact words_ok r s (fun p h => hp p (List.mem_cons_of_mem _ h)) c h
theorem text_ok (s : Nat) : ∀ c ∈ tlText s, okSign c = true := by
  unfold tlText
  split
  · decide
  · exact words_ok tlUnits s (by decide)
theorem words_head : ∀ (r : List (Nat × Nat)) (s : Nat), (∀ p ∈ r, 0 < p.2) → (tlWords r s).flatten.head? ≠ some 48
  | [], _, _ => by
    show ([] : List Nat).head? ≠ some 48
    decide
  | (a, z) :: r, s, hp => by
    have hz : 0 < z := hp (a, z) List.mem_cons_self
    unfold tlWords
    split
    · rename_i q
      rw [List.flatten_cons, List.append_assoc]
      have g := numL_head (n := s / z) (Nat.div_pos q hz)
      cases e : TL.numL (s / z) with
      | nil => exact absurd e (TL.numL_ne _)
      | cons b m =>
        rw [e] at g
        exact g
    · exact words_head r s fun p h => hp p (List.mem_cons_of_mem _ h)
theorem text_head {s : Nat} (h : 0 < s) : (tlText s).head? ≠ some 48 := by
  unfold tlText
  rw [if_neg (by omega)]
  exact words_head tlUnits s (by decide)
theorem text_days {s : Nat} (h : 86400 ≤ s) : ∃ more, tlText s = TL.numL (s / 86400) ++ ([100] ++ more) := by
  unfold tlText
  rw [if_neg (by omega), tlText_units, if_pos h]
  exact ⟨_, by rw [List.flatten_append, List.flatten_singleton, List.append_assoc]⟩
theorem words_short : ∀ (r : List (Nat × Nat)) (s : Nat), s < 1000000 → (tlWords r s).flatten.length ≤ 7 * r.length
  | [], _, _ => Nat.zero_le _
  | (a, z) :: r, s, h => by
    unfold tlWords
    split
    · have g := words_short r (s % z) (Nat.lt_of_le_of_lt (Nat.mod_le _ _) h)
      have l := TL.numL_len (n := s / z) (k := 6) (by decide) (by show s / z < 1000000; exact Nat.lt_of_le_of_lt (Nat.div_le_self _ _) h)
      have er : ((a, z) :: r).length = r.length + 1 := rfl
      have e1 : ([a] : List Nat).length = 1 := rfl
      rw [List.flatten_cons, List.length_append, List.length_append, er, e1]
      omega
    · have g := words_short r s h
      have er : ((a, z) :: r).length = r.length + 1 := rfl
      omega
theorem text_short {s : Nat} (h : s < 1000000) : (tlText s).length ≤ 28 := by
  unfold tlText
  split
  · decide
  · exact words_short tlUnits s h
end Rw
namespace Rw
open PySem PySem.Spec PyProof.Rows L2 Evl SX
/-! ### texts and new lists, evaluated -/
section
variable {K : PySem.W.Frag} {σ : L2.St} {H : Hp} {to te ta tb : TE} {a b z : Str} {xs ys : List V}
theorem ev_m1 {r : V → List V → Hp → VK → Prop} {x y v : V} (ho : Ev to σ H (.str a)) (he : Ev te σ H y) (hr : ∀ H1 (Q : VK), Q v H1 → r (.str a) [y] H1 Q) : Ev (tM1 r to te) σ H v := fun H1 e Q q =>
  ho H1 e _ fun H2 e2 => ⟨⟨a, rfl⟩, he H2 (e.trans e2) _ fun H3 e3 => hr H3 Q (q H3 (e2.trans e3))⟩
theorem ev_lstrip (ho : Ev to σ H (.str a)) (he : Ev te σ H (.str b)) (hz : a.length ≤ 100000) : Ev (tM1 (fun x xs H Q => ∃ a b, x = .str a ∧ xs = [.str b] ∧ a.length ≤ sizeLine ∧ Q (.str (Txt.lstripChars a b)) H) to te) σ H (.str (Txt.lstripChars a b)) :=
  ev_m1 (x := .str a) ho he fun H1 Q q => ⟨a, b, rfl, rfl, sz_of hz, q⟩
theorem ev_strip (ho : Ev to σ H (.str a)) (he : Ev te σ H (.str b)) (hz : a.length ≤ 100000) : Ev (tM1 (fun x xs H Q => ∃ a b, x = .str a ∧ xs = [.str b] ∧ a.length ≤ sizeLine ∧ Q (.str (Txt.stripChars a b)) H) to te) σ H (.str (Txt.stripChars a b)) :=
  ev_m1 (x := .str a) ho he fun H1 Q q => ⟨a, b, rfl, rfl, sz_of hz, q⟩
theorem ev_find (ho : Ev to σ H (.str a)) (he : Ev te σ H (.str b)) : Ev (tM1 (fun x xs H Q => ∃ a b, x = .str a ∧ xs = [.str b] ∧ Q (.int (Txt.find a b)) H) to te) σ H (.int (Txt.find a b)) :=
  ev_m1 (x := .str a) ho he fun H1 Q q => ⟨a, b, rfl, rfl, q⟩
theorem ev_lenS (h : Ev ta σ H (.str z)) (hz : z.length ≤ 100000) : Ev (tCB (fun xs H Q => ∃ z, xs = [.str z] ∧ z.length ≤ sizeLine ∧ Q (.int z.length) H) (tCons ta tNil)) σ H (.int (z.length : Nat)) := fun H1 e Q q =>
  h H1 e _ fun H2 e2 => ⟨z, rfl, sz_of hz, q H2 e2⟩
theorem ev_lenL {p : Addr} (h : Ev ta σ H (.ref p)) (hs : SqL K H p xs) : Ev (tCB (fun xs H Q => ∃ p ys, xs = [.ref p] ∧ (SqL K H p ys ∨ SqT K H p ys) ∧ Q (.int ys.length) H) (tCons ta tNil)) σ H (.int (xs.length : Nat)) := fun H1 e Q q =>
  h H1 e _ fun H2 e2 => ⟨p, xs, rfl, .inl (ex_l (e.trans e2) hs), q H2 e2⟩
theorem ev_slS {tl th : TO} {lo hi : Option Int} (h : Ev te σ H (.str z)) (h1 : EvO tl σ H lo) (h2 : EvO th σ H hi) (hz : z.length ≤ 100000) : Ev (tSl rSlS te tl th) σ H (.str (cutS z lo hi)) := fun H1 e Q q =>
  h H1 e _ fun H2 e2 => h1 H2 (e.trans e2) _ fun H3 e3 => h2 H3 ((e.trans e2).trans e3) _ fun H4 e4 => ⟨z, rfl, sz_of hz, q H4 ((e2.trans e3).trans e4)⟩
theorem ev_intS {n : Int} (h : Ev ta σ H (.str z)) (hn : intText? z = some n) (hz : z.length ≤ 640) : Ev (tCB (fun xs H Q => ∃ a n, xs = [.str a] ∧ PySem.intText? a = some n ∧ a.length ≤ 640 ∧ Q (.int n) H) (tCons ta tNil)) σ H (.int n) := fun H1 e Q q =>
  h H1 e _ fun H2 e2 => ⟨z, n, rfl, hn, hz, q H2 e2⟩
theorem ev_strI {n : Int} (h : Ev ta σ H (.int n)) (hn : n.natAbs.log2 < 1920) : Ev (tCB (fun xs H Q => ∃ i, xs = [.int i] ∧ i.natAbs.log2 < 1920 ∧ Q (.str (toString i)) H) (tCons ta tNil)) σ H (.str (toString n)) := fun H1 e Q q =>
  h H1 e _ fun H2 e2 => ⟨n, rfl, hn, q H2 e2⟩
theorem ev_anyN {bs : List Bool} (h : EvL te σ H (bs.map V.bl)) : Ev (tCB (rAny K) (tCons te tNil)) σ H (.bl (bs.any id)) := fun H1 e Q q =>
  h H1 e _ fun p H2 _ e2 h2 => ⟨p, bs, rfl, sq_of h2, q H2 e2⟩
theorem el_cat (ha : EvL ta σ H xs) (hb : EvL tb σ H ys) (hz : xs.length + ys.length ≤ 100000) : EvL (tOp rCat ta tb) σ H (xs ++ ys) := fun H1 e Q q =>
  ha H1 e _ fun p H2 hp e2 h2 => hb H2 (e.trans e2) _ fun p2 H3 hp2 e3 h3 => ⟨p, p2, xs, ys, rfl, rfl, e3 p _ h2, h3, sz_of hz, fun l hl => q l _ (fresh_back (e2.trans e3) hl) ((e2.trans e3).trans (Ex.new hl)) upd_same⟩
theorem el_split (ho : Ev to σ H (.str a)) (he : Ev te σ H (.str b)) (hb : (b.length == 0) = false) (hz : a.length ≤ 90000) :
    EvL (tM1 (fun x xs H Q => ∃ a b, x = .str a ∧ xs = [.str b] ∧ (b.length == 0) = false ∧ a.length + 2 ≤ sizeLine ∧ rNewStrs (Txt.split a b) H Q) to te) σ H ((Txt.split a b).map V.str) := fun H1 e Q q =>
  ho H1 e _ fun H2 e2 => ⟨⟨a, rfl⟩, he H2 (e.trans e2) _ fun H3 e3 => ⟨a, b, rfl, rfl, hb, sz_of (by omega), fun p hp => q p _ (fresh_back (e2.trans e3) hp) ((e2.trans e3).trans (Ex.new hp)) upd_same⟩⟩
theorem et_val {b : Bool} (h : Ev te σ H (.bl b)) : EvT (tB te) σ H b := et_B h
end
/-! ### words of figures -/
theorem tw_last {p : Nat → Bool} {x : Nat} (hx : p x = false) : ∀ a : List Nat, ((a ++ [x]).takeWhile p).length ≤ a.length
  | [] => by
    rw [List.nil_append, List.takeWhile_cons, hx]
    exact Nat.le_refl _
  | b :: a => by
    rw [List.cons_append, List.takeWhile_cons]
    split
    · have h := tw_last hx a
      rw [List.length_cons, List.length_cons]
      omega
    · exact Nat.zero_le _
theorem strip_S (l : List Nat) : (Txt.stripChars (S l) "0123456789" = "") ↔ l.all isDig = true := by
  have he : ("" : Str) = S [] := by decide +kernel
  rw [he]
  unfold Txt.stripChars
  rw [PyProof.Rows.stripBy_eq, show (("0123456789" : Str)).cps.contains = isDig from funext figs_has]
  unfold stripLo stripHi
  rw [if_pos rfl, if_pos rfl, extract_S]
  show S ((l.drop (l.takeWhile isDig).length).take ((S l).length - ((l.drop (l.takeWhile isDig).length).reverse.takeWhile isDig).length - (l.takeWhile isDig).length)) = S [] ↔ _
  rw [S_len, drop_takeWhile]
  have e := congrArg List.length (List.takeWhile_append_dropWhile (p := isDig) (l := l))
  rw [List.length_append] at e
  cases hd : l.dropWhile isDig with
  | nil =>
    rw [List.take_nil]
    refine ⟨fun _ => ?_, fun _ => rfl⟩
    have t := List.takeWhile_append_dropWhile (p := isDig) (l := l)
    rw [hd, List.append_nil] at t
    rw [← t]
    exact List.all_takeWhile
  | cons x r =>
    have hx : isDig x = false := by
      have q := List.head_dropWhile_not (p := isDig) (l := l) (by rw [hd]; exact List.cons_ne_nil _ _)
      simpa [hd] using q
    have lt := tw_last (p := isDig) hx r.reverse
    rw [List.length_reverse] at lt
    rw [hd, List.length_cons] at e
    rw [List.reverse_cons]
    refine ⟨fun q => ?_, fun q => ?_⟩
    · exfalso
      obtain ⟨m, hm⟩ : ∃ m, l.length - ((r.reverse ++ [x]).takeWhile isDig).length - (l.takeWhile isDig).length = m + 1 := ⟨l.length - ((r.reverse ++ [x]).takeWhile isDig).length - (l.takeWhile isDig).length - 1, by omega⟩
      rw [hm, List.take_succ_cons] at q
      exact List.cons_ne_nil _ _ (S_inj q)
    · exfalso
      have hm : x ∈ l := by
        rw [← List.takeWhile_append_dropWhile (p := isDig) (l := l), hd]
        exact List.mem_append_right _ List.mem_cons_self
      have z := List.all_eq_true.mp q x hm
      rw [hx] at z
      cases z
/-- return f(..): what f gives -/
theorem s_retF {c : Nat → Addr} {f : List V → Option Rs} {σ : L2.St} {H : Hp} {vs dvs : List V} {ta : TA} {E : XK} {Q : VK} {D : Ends} {r : Rs} (h : EvA ta σ H vs) (hf : f (vs ++ dvs) = some r) (o : Out c H Q E r) (hD : D.rt = Q) : tRet (tCall (spF c f) dvs E ta) D σ H := by
  subst hD
  exact h H (Ex.refl H) _ fun H2 e2 => ⟨r, hf, o.mono e2⟩
theorem at_map {ns : List Int} {i : Nat} (h : i < ns.length) : atI (ns.map V.int) (i : Int) = some (.int (ns.getD i 0)) :=
  atI_nat (by rw [List.getElem?_map, List.getElem?_eq_getElem h, List.getD_eq_getElem?_getD, List.getElem?_eq_getElem h]; rfl)
end Rw
namespace Rw
open PySem PySem.Spec PyProof.Rows L2
/-- a text's signs beside a tuple's items: new pairs -/
def ItST (K : PySem.W.Frag) (z : Str) (b : Addr) : It where
  go := fun i H => ∃ (c : Nat) (ys : List V) (y : V), z.cps[i]? = some c ∧ SqT K H b ys ∧ ys[i]? = some y
  yld := fun i H v H' => ∃ (T : Addr) (c : Nat) (y : V), v = .ref T ∧ H T = none ∧ H' = upd H T (.tup [.str ⟨#[c]⟩, y]) ∧ z.cps[i]? = some c ∧ ∀ ys, SqT K H b ys → ys[i]? = some y
  stop := fun i H => ∃ ys : List V, SqT K H b ys ∧ i ≤ z.cps.size ∧ i ≤ ys.length ∧ (i = z.cps.size ∨ i = ys.length)
/-- where such a zip stands: its five cells -/
structure StST (z : Str) (tz : Tok) (b a0 a1 a2 a3 a4 : Addr) (i : Nat) (h : Heap) : Prop where
  zip : IsZip h a0 a1 a2 .none
  two : IsTupOf2 h a1 (.ref a3) (.ref a4)
  res : ∃ u v, IsTupOf2 h a2 u v
  txt : h.IsStrIter a3 (strIterType z) z tz i
  tup : h.IsTupleIter a4 b i
theorem ne_next {b N : Nat} (h : b < N) : b ≠ N + 1 := by omega
theorem iter_at {h h' : Heap} {a : Addr} {T : String} {z : Str} {t : Tok} {i : Nat} (x : h.IsStrIter a T z t i) (k : ∀ o, h.get? a = some o → h'.get? a = some o) : h'.IsStrIter a T z t i := by
  obtain ⟨o, e, c, d⟩ := x
  exact ⟨o, k o e, c, d⟩
theorem five_of {a0 a1 a2 a3 a4 x : Addr} (h : x ∈ [a0, a1, a2, a3, a4]) : x = a0 ∨ x = a1 ∨ x = a2 ∨ x = a3 ∨ x = a4 := by simpa using h
theorem StST.cells {z : Str} {tz : Tok} {b a0 a1 a2 a3 a4 : Addr} {i : Nat} {h : Heap} (S : StST z tz b a0 a1 a2 a3 a4 i h) : ∀ x ∈ [a0, a1, a2, a3, a4], ∃ o, h.get? x = some o ∧ ∀ v, o.data ≠ .cell v := fun x hx => by
  obtain ⟨u, v, r⟩ := S.res
  obtain ⟨o3, e3, _, d3⟩ := S.txt
  obtain ⟨o4, e4, _, d4⟩ := S.tup
  rcases five_of hx with rfl | rfl | rfl | rfl | rfl
  · exact ⟨_, S.zip, fun v q => by cases q⟩
  · exact ⟨_, S.two, fun v q => by cases q⟩
  · exact ⟨_, r, fun v q => by cases q⟩
  · exact ⟨o3, e3, fun v q => by rw [d3] at q; cases q⟩
  · exact ⟨o4, e4, fun v q => by rw [d4] at q; cases q⟩
theorem turn_st {P : Program} {w : World} {K : PySem.W.Frag} {elts : List Expr} {kk : Nat} {tp : Pos} {z : Str} {tz : Tok} {b N : Addr} (hb : b < N) :
    Turn P w K (.Tuple elts kk tp) (ItST K z b) [N + 4, N + 2, N + 3, N, N + 1] (N + 4) (StST z tz b (N + 4) (N + 2) (N + 3) N (N + 1)) where
  mem := List.mem_cons_self ..
  obj := fun i h S => S.cells
  keep := fun i h h' S k => by
    obtain ⟨u, v, r⟩ := S.res
    exact ⟨k _ (by simp) _ S.zip, k _ (by simp) _ S.two, ⟨u, v, k _ (by simp) _ r⟩, iter_at S.txt fun o e => k _ (by simp) o e, S.tup.at fun o e => k _ (by simp) o e⟩
  item := by
    rintro X rfl rfl rfl hc i pins s σ H E I hf S ⟨c, ys, y, hz, hy, hi⟩
    have apart := zip_sep2 (N := N) (fp1 := []) (fp2 := [b]) (fun x hx => by simp at hx) (fun x hx => by simp at hx; rw [hx]; exact hb)
    obtain ⟨us, rv, tupb, _⟩ := I.tuple hy
    obtain ⟨uy, huy, ry⟩ := rv.get hi
    obtain ⟨u, v, r⟩ := S.res
    have nb : b ≠ N + 1 := ne_next hb
    have h1 : i < z.cps.size := by
      cases Nat.lt_or_ge i z.cps.size with
      | inl q => exact q
      | inr q =>
        rw [Array.getElem?_eq_none q] at hz
        cases hz
    have h2 : i < us.toArray.size := by
      have q := (List.getElem?_eq_some_iff.mp huy).1
      simpa using q
    refine wpAny_pyNext_zipD2_item apart (Draws.text (by rw [show X.A.in1.handled = X.A.handled from rfl]; exact I.ok.hd hc) N z tz) (Draws.tuple (by rw [show X.A.in1.handled = X.A.handled from rfl]; exact I.ok.hd hc) (N + 1) b nb us.toArray) S.zip S.two r S.txt ⟨S.tup, tupb⟩ h1 h2 fun x1 x2 h' tk y1 y2 b1 b2 d1 d2 b5 b6 kp => ?_
    obtain ⟨c', tc, hc', rfl⟩ := y1
    rw [hz] at hc'
    obtain rfl : c = c' := Option.some.inj hc'
    have ex2 : uy = x2 := Option.some.inj (huy.symm.trans (by simpa using y2))
    subst ex2
    have kp5 : ∀ x o, x ∉ [N + 4, N + 2, N + 3, N, N + 1] → s.heap.get? x = some o → h'.get? x = some o := fun x o nx e => kp x o (fun q => nx (by simp [q])) (fun q => nx (by simp [q])) (fun q => nx (by simp [q])) (fun q => nx (by simp [q])) e
    have lt4 : N + 4 < s.heap.objs.size := Heap.lt_size S.zip
    refine ⟨_, rfl, wpAny_letOwnedTupleGo_zip (s := { s with heap := h', toks := tk }) b1 fun h2' z2 sb => ?_⟩
    have pr : h2'.get? s.heap.objs.size = some { cls := .type "tuple", data := .seq #[.str ⟨#[c]⟩ tc, uy] } := (sb.2 _ (Nat.ne_of_gt lt4)).trans b5
    have new : ObjOk X.prog X.w (upd H s.heap.objs.size (.tup [.str ⟨#[c]⟩, y])) h2' s.heap.objs.size (.tup [.str ⟨#[c]⟩, y]) :=
      ⟨by show 2 ≤ sizeLine; decide, [.str ⟨#[c]⟩ tc, uy], .cons ⟨tc, rfl⟩ (.cons ry .nil), ⟨_, pr, rfl, _, rfl⟩⟩
    have J := I.turnedNew (t' := tk) (ch := [N + 4, N + 2, N + 3, N, N + 1]) (h' := h2') (fun x o nx e => (sb.2 x (fun q => nx (by simp [q]))).trans (kp5 x o nx e)) hf (Nat.le_refl _) new
    refine ⟨.ref s.heap.objs.size, _, J, rfl, ⟨_, c, y, rfl, I.hok.fresh (Nat.le_refl _), rfl, hz, fun l hl => by rw [I.tuple_inj hl hy]; exact hi⟩, ⟨z2, ?_, ⟨.str ⟨#[c]⟩ tc, uy, ?_⟩, ?_, ?_⟩, fun x hx => ?_⟩
    · exact (sb.2 _ apart.TIz).trans (kp _ _ apart.TIz apart.TITO apart.TIi1 apart.TIi2 S.two)
    · exact (sb.2 _ apart.TOz).trans b2
    · exact iter_at d1 fun o e => (sb.2 _ apart.zi1.symm).trans e
    · exact d2.1.at fun o e => (sb.2 _ apart.zi2.symm).trans e
    · obtain ⟨o, eo, _⟩ := S.cells x hx
      rw [upd_ne (Nat.ne_of_lt (Heap.lt_size eo))]
      exact (hf x hx).1
  done := by
    rintro X rfl rfl rfl hc i pins s σ H E I hf S ⟨ys, hy, l1, l2, hend⟩
    have apart := zip_sep2 (N := N) (fp1 := []) (fp2 := [b]) (fun x hx => by simp at hx) (fun x hx => by simp at hx; rw [hx]; exact hb)
    obtain ⟨us, rv, tupb, _⟩ := I.tuple hy
    obtain ⟨u, v, r⟩ := S.res
    have nb : b ≠ N + 1 := ne_next hb
    have el : us.toArray.size = ys.length := by rw [List.size_toArray, rv.length]
    refine wpAny_pyNext_zipD2_end apart (Draws.text (by rw [show X.A.in1.handled = X.A.handled from rfl]; exact I.ok.hd hc) N z tz) (Draws.tuple (by rw [show X.A.in1.handled = X.A.handled from rfl]; exact I.ok.hd hc) (N + 1) b nb us.toArray) S.zip S.two r S.txt ⟨S.tup, tupb⟩ l1 (by rw [el]; exact l2) (by rw [el]; exact hend) fun h' tk kp => ⟨rfl, ?_⟩
    exact I.turnedL (t' := tk) (ch := [N + 4, N + 2, N + 3, N, N + 1]) (fun x o nx e => kp x o (fun q => nx (by simp [q])) (fun q => nx (by simp [q])) (fun q => nx (by simp [q])) (fun q => nx (by simp [q])) e) hf
  self := fun A i s Q E S q => wpAny_pyIter_zip S.zip q
/-- zip(text, tuple) -/
def iZipST (K : PySem.W.Frag) (ta : TA) : TI := fun σ H R => ta σ H fun vs H1 => ∃ (z : Str) (b : Addr) (ys : List V), vs = [.str z, .ref b] ∧ SqT K H1 b ys ∧ R (ItST K z b) H1
theorem pi_zipST {X : Cx} {e e2 : Expr} {ta : TA} {p pos tp : Pos} {elts : List Expr} {kk : Nat} (hm : X.mg "zip" = none) (ha : PA X [e, e2] ta) (hg : Gl X "zip" := by rfl)
    (stars : starEach [e, e2] X.env = (false, eval e X.env) :: starEach [e2] X.env := by rfl) (plain : (backTo pos (starEach [e2] X.env)).any (·.1) = false := by rfl) :
    PI X (.Tuple elts kk tp) (.Call (.Name "zip" p) [e, e2] [] pos) (iZipST X.K ta) := by
  constructor
  intro pins s σ H R I h
  refine Call_ (ld_blt I hg hm PyProof.Rows.boot_zip (PyProof.Rows.callWith_type1 (thn (ha.run pos pins s σ H _ I h) ?_) stars plain))
  rintro us s1 ⟨vs, H1, J, r, z, b, ys, rfl, hy, q⟩
  match us, r with
  | [u1, u2], .cons r1 (.cons r2 .nil) =>
    obtain ⟨tz, rfl⟩ := r1
    obtain rfl : u2 = Value.ref b := r2
    obtain ⟨its, rv, tupb, _⟩ := J.tuple hy
    have hb : b < s1.heap.objs.size := by
      obtain ⟨o, e, _⟩ := id tupb
      exact Heap.lt_size e
    refine zip_begins2 (begins_text z tz) (begins_tuple b its.toArray) trivial tupb fun h' g0 g1 g2 g3 g4 _ kp => wpAny_pyIter_zip g0 ?_
    refine ⟨s1.heap.objs.size + 4, _, _, _, H1, rfl, J.kept (t' := s1.toks) kp, turn_st (tz := tz) hb, ⟨g0, g1, ⟨_, _, g2⟩, ⟨_, g3, rfl, rfl⟩, ⟨_, g4, rfl, rfl⟩⟩, fun x hx => ?_, q⟩
    have le : s1.heap.objs.size ≤ x := by
      rcases five_of hx with q | q | q | q | q
      · rw [q]; exact Nat.le_add_right ..
      · rw [q]; exact Nat.le_add_right ..
      · rw [q]; exact Nat.le_add_right ..
      · rw [q]; exact Nat.le_refl _
      · rw [q]; exact Nat.le_add_right ..
    exact J.fpOk le (J.hok.fresh le)
/-- a loop over such a zip, of as many signs as items -/
theorem for_zipST {K : PySem.W.Frag} {z : Str} {b : Addr} {ys : List V} {g : TG} {tb : TS} {D : Ends} {σ : L2.St} {H : Hp} (hl : z.cps.size = ys.length) (Pv : Nat → L2.St → Hp → Prop) (h0 : Pv 0 σ H) (hq : ∀ i σ H, Pv i σ H → SqT K H b ys)
    (hs : ∀ (i : Nat) (c : Nat) (y : V) (T : Addr) (σ : L2.St) (H : Hp), z.cps[i]? = some c → ys[i]? = some y → Pv i σ H → H T = none → g (.ref T) σ (upd H T (.tup [.str ⟨#[c]⟩, y])) fun σ2 H2 => tb { D with nx := Pv (i + 1), ct := Pv (i + 1), bk := D.nx } σ2 H2) (hd : ∀ σ H, Pv ys.length σ H → D.nx σ H) :
    ∃ Wd : Nat → Nat → L2.St → Hp → Prop, (∃ m, Wd 0 m σ H) ∧ ∀ i m σ H, Wd i m σ H →
      ((ItST K z b).stop i H ∧ D.nx σ H) ∨ ((ItST K z b).go i H ∧ ∃ N : L2.St → Hp → Prop, (∀ σ' H', N σ' H' → ∃ m', m' < m ∧ Wd (i + 1) m' σ' H') ∧ ∀ v H', (ItST K z b).yld i H v H' → g v σ H' fun σ2 H2 => tb { D with nx := N, ct := N, bk := D.nx } σ2 H2) := by
  refine ⟨fun i m σ H => m + i = ys.length ∧ Pv i σ H, ⟨ys.length, rfl, h0⟩, ?_⟩
  rintro i m σ H ⟨em, p⟩
  have q := hq i σ H p
  cases m with
  | zero =>
    have e : i = ys.length := by omega
    subst e
    exact .inl ⟨⟨ys, q, by omega, Nat.le_refl _, .inr rfl⟩, hd σ H p⟩
  | succ m =>
    have lt : i < ys.length := by omega
    have ltz : i < z.cps.size := by omega
    refine .inr ⟨⟨z.cps[i], ys, ys[i], Array.getElem?_eq_getElem ltz, q, List.getElem?_eq_getElem lt⟩, Pv (i + 1), fun σ' H' p' => ⟨m, Nat.lt_succ_self m, by omega, p'⟩, ?_⟩
    rintro v H' ⟨T, c, y, rfl, hT, rfl, hc, hy⟩
    exact hs i c y T σ H hc (hy ys q) p hT
end Rw
namespace Rw
open PySem PySem.Spec PyProof.Rows L2 Evl SX
section
variable {K : PySem.W.Frag} {σ : L2.St} {H : Hp} {t1 t2 te tl : TE} {ta : TA} {D : Ends} {tu tz : TS}
theorem empty_cat (y : Str) : Str.empty ++ y = y := by
  have e : Str.empty = S [] := by decide +kernel
  rw [e, ← S_tl y, S_cat, List.nil_append]
/-- f'{n}{y}' -/
theorem ev_js2 {n : Int} {y : Str} (h1 : Ev t1 σ H (.int n)) (h2 : Ev t2 σ H (.str y)) (hn : n.natAbs.log2 < 1920) (hy : y.length ≤ 1000) (hz : (Str.ofString (toString n)).length ≤ 1000) :
    Ev (fun σ H Q => tJs [tFmt t1, tFmt t2] Str.empty σ H fun out H1 => Q (.str out) H1) σ H (.str (Str.ofString (toString n) ++ y)) := fun H1 e Q q =>
  h1 H1 e _ fun H2 e2 => .inr ⟨n, rfl, hn, _, rfl, by rw [empty_cat]; exact sz_of (Nat.le_trans hz (by decide)), h2 H2 (e.trans e2) _ fun H3 e3 => .inl ⟨y, rfl, sz_of (Nat.le_trans hy (by decide)), _, rfl, by
    rw [empty_cat, ← S_tl (Str.ofString (toString n)), ← S_tl y, S_cat, S_len, List.length_append, ← S_len, ← S_len, S_tl, S_tl]
    exact sz_of (by omega), by
    rw [empty_cat]
    exact q H3 (e2.trans e3)⟩⟩
/-- a loop over zip(text, tuple), the names at i and j -/
theorem q_forZ {z : Str} {b : Addr} {ys : List V} {i j : Nat} (h : EvA ta σ H [.str z, .ref b]) (hy : SqT K H b ys) (hl : z.cps.size = ys.length) (Pv : Nat → L2.St → Hp → Prop) (h0 : ∀ H1, Ex H H1 → Pv 0 σ H1)
    (hq : ∀ n σ' H', Pv n σ' H' → SqT K H' b ys)
    (hs : ∀ (n : Nat) (c : Nat) (y : V) (T : Addr) σ' H', z.cps[n]? = some c → ys[n]? = some y → Pv n σ' H' → H' T = none → tu { D with nx := Pv (n + 1), ct := Pv (n + 1), bk := tz D } ((σ'.set i (some (.str ⟨#[c]⟩))).set j (some y)) (upd H' T (.tup [.str ⟨#[c]⟩, y])))
    (hd : ∀ σ' H', Pv ys.length σ' H' → tz D σ' H') : tSeq (tFor (iZipST K ta) (gTup K 2 (gCons (gName i) (gCons (gName j) gNil))) tu) tz D σ H :=
  h H (Ex.refl H) _ fun H1 e => ⟨z, b, ys, rfl, ex_t e hy, for_zipST hl Pv (h0 H1 e) hq (fun n c y T σ' H' hc hy' hp hT =>
    ⟨T, _, rfl, SqT.of upd_same, rfl, _, _, rfl, _, _, rfl, rfl, hs n c y T σ' H' hc hy' hp hT⟩) hd⟩
/-- sep.join(list) -/
theorem ev_joinL {to : TE} {a : Str} {zs : List Str} {l : Addr} (ho : Ev to σ H (.str a)) (he : Ev te σ H (.ref l)) (hl : SqL K H l (zs.map V.str)) (hz : (zs.map (·.length)).sum + zs.length * a.length ≤ 16777216) :
    Ev (tM1 (fun x xs H Q => ∃ a p, ∃ ys : List Str, x = .str a ∧ xs = [.ref p] ∧ (SqL K H p (ys.map V.str) ∨ SqT K H p (ys.map V.str)) ∧ (ys.map (·.length)).sum + ys.length * a.length ≤ 16777216 ∧ Q (.str (Txt.join a ys)) H) to te) σ H (.str (Txt.join a zs)) := fun H1 e Q q =>
  ho H1 e _ fun H2 e2 => ⟨⟨a, rfl⟩, he H2 (e.trans e2) _ fun H3 e3 => ⟨a, l, zs, rfl, rfl, .inl (ex_l ((e.trans e2).trans e3) hl), hz, q H3 (e2.trans e3)⟩⟩
theorem s_joinL_flat (l : List (List Nat)) : TL.joinL [] l = l.flatten := by
  induction l with
  | nil => rfl
  | cons a r ih =>
    cases r with
    | nil => simp [TL.joinL]
    | cons b r =>
      simp only [TL.joinL, List.flatten_cons] at ih ⊢
      rw [ih]
      simp
end
end Rw
namespace Rw
open PySem PySem.Spec PyProof.Rows L2 Evl SX
section
variable {K : PySem.W.Frag} {σ : L2.St} {H : Hp} {te tl ta tb : TE} {t : TT} {j : Nat} {vs : List Nat} {xs ys : List V}
/-- all items of a list display, each made another -/
theorem el_mapNL (h : EvL tl σ H xs) (hz : xs.length ≤ 40000) (hw : ∀ x, wipe ((wipe σ vs).set j (some x)) vs = wipe σ vs) (hl : xs.length = ys.length)
    (he : ∀ (i : Nat) (x y : V) H1, Ex H H1 → xs[i]? = some x → ys[i]? = some y → Ev te ((wipe σ vs).set j (some x)) H1 y) :
    EvL (tLc (iList K tl) (gName j) tYes te vs) σ H ys := by
  have g := el_lcNL (K := K) (t := tYes) (te := te) (fun _ => true) (fun i => ys.getD i .non) h hz hw (fun _ _ _ _ _ => et_yes) fun i x H1 e hx _ => by
    have hi : i < ys.length := by
      have q := (List.getElem?_eq_some_iff.mp hx).1
      omega
    have ey : ys.getD i .non = ys[i] := by rw [List.getD_eq_getElem?_getD, List.getElem?_eq_getElem hi]; rfl
    rw [ey]
    exact he i x _ H1 e hx (List.getElem?_eq_getElem hi)
  rw [given_map hl fun i y hy => by rw [List.getD_eq_getElem?_getD, hy]; rfl] at g
  exact g
/-- a comprehension over the signs of a text -/
theorem el_lcStr {z : Str} (f : Nat → Bool) (v : Nat → V) (h : Ev tl σ H (.str z)) (hz : z.cps.size ≤ 40000) (hw : ∀ x, wipe ((wipe σ vs).set j (some x)) vs = wipe σ vs)
    (ht : ∀ (i c : Nat) H1, Ex H H1 → z.cps[i]? = some c → EvT t ((wipe σ vs).set j (some (.str ⟨#[c]⟩))) H1 (f i)) (he : ∀ (i c : Nat) H1, Ex H H1 → z.cps[i]? = some c → f i = true → Ev te ((wipe σ vs).set j (some (.str ⟨#[c]⟩))) H1 (v i)) :
    EvL (tLc (iStr tl) (gName j) t te vs) σ H (given z.cps.size f v) := fun H0 e Q q => h H0 e _ fun H1 e1 => ⟨z, rfl, fun Dl hD =>
  lc_it walk_str (Cw H1 f v Dl) ⟨hD, Ex.new hD, upd_same⟩ (fun _ _ _ _ => trivial) (fun i x Ha Hb hi p y => by
    obtain ⟨rfl, c, hc, rfl⟩ := y
    exact ⟨hw _, cw_turn p (by omega) (ht i c H1 (e.trans e1) hc) (fun hf => he i c H1 (e.trans e1) hc hf)⟩)
    (fun Hz pz => q Dl Hz (fresh_back e1 pz.1) (e1.trans pz.2.1) pz.2.2)⟩
theorem given_none {n : Nat} {v : Nat → V} : given n (fun _ => false) v = [] := by
  unfold given
  rw [List.filter_eq_nil_iff.mpr (fun a _ => by decide)]
  rfl
/-- two new lists of no items -/
theorem ev_noneNe (ha : EvL ta σ H []) : Ev (tOp (rNeD K) ta (tLst tNil)) σ H (.bl false) :=
  ev_opLL ha (el_lst ea_nil (by decide)) fun p q H1 h1 h2 e => fun H2 e2 Q k => ⟨.list [], .list [], .lst (SqL.of (e2 _ _ h1)) .nil, .lst (SqL.of (e2 _ _ h2)) .nil, rfl, rfl, k H2 (Ex.refl H2)⟩
theorem ev_noneEq (ha : EvL ta σ H []) : Ev (tOp (rEqD K) ta (tLst tNil)) σ H (.bl true) :=
  ev_opLL ha (el_lst ea_nil (by decide)) fun p q H1 h1 h2 e => fun H2 e2 Q k => ⟨.list [], .list [], .lst (SqL.of (e2 _ _ h1)) .nil, .lst (SqL.of (e2 _ _ h2)) .nil, rfl, rfl, k H2 (Ex.refl H2)⟩
theorem eqv_three (a b d : Int) : PyData.eqv (.tuple [.int a, .int b, .int d]) (.tuple [.int a, .int b, .int d]) = true := by
  simp [PyData.eqv, PyData.eqvAll]
/-- two new tuples of the same three ints -/
theorem ev_tupNe {a b d : Int} (ha : EvU ta σ H [.int a, .int b, .int d]) (hb : EvU tb σ H [.int a, .int b, .int d]) : Ev (tOp (rNeD K) ta tb) σ H (.bl false) :=
  ev_opUU ha hb fun p q H1 h1 h2 e => fun H2 e2 Q k => ⟨.tuple [.int a, .int b, .int d], .tuple [.int a, .int b, .int d], .tup (SqT.of (e2 _ _ h1)) (.cons (.int a) (.cons (.int b) (.cons (.int d) .nil))), .tup (SqT.of (e2 _ _ h2)) (.cons (.int a) (.cons (.int b) (.cons (.int d) .nil))), rfl, rfl, by rw [eqv_three]; exact k H2 (Ex.refl H2)⟩
end
end Rw
namespace Rw
open PySem PySem.Spec PyProof.Rows L2 Evl
/-! ### sum and min of a tuple of ints -/
section
variable {P : Program} {w : World} {A : Around} {E : Value → Shared → Prop} {s : Shared} {t : Addr} {items : Array Value} {ns : List Int}
theorem ints_at {items : Array Value} {ns : List Int} (hi : IntsAre items.toList ns) {i : Nat} {v : Value} (h : items[i]? = some v) : ∃ k, v = .int (ns.getD i 0) k := by
  have go : ∀ (us : List Value) (ns : List Int), IntsAre us ns → ∀ (i : Nat) (v : Value), us[i]? = some v → ∃ k, v = Value.int (ns.getD i 0) k := by
    intro us ns h
    induction h with
    | nil => intro i v e; simp at e
    | cons n t h ih =>
      intro i v e
      cases i with
      | zero => exact ⟨t, (Option.some.inj e).symm⟩
      | succ i => exact ih i v e
  exact go _ _ hi i v (by rw [Array.getElem?_toList]; exact h)
theorem iter_tup {Q : Value → Shared → Prop} (hl : s.heap.IsTuple t items)
    (h : ∀ sv : Shared, sv = { s with heap := s.heap.push { cls := .type "tuple_iterator", data := .fields #[.ref t, .int 0 0] } } → (sv.heap.IsTupleIter s.heap.objs.size t 0 ∧ sv.heap.IsTuple t items) → (∀ b ∈ [s.heap.objs.size, t], b < sv.heap.objs.size) → t ≠ s.heap.objs.size → Q (.ref s.heap.objs.size) sv) :
    wpAny (model P w) A (pyIter (.ref t)) Q E s := by
  have lt : t < s.heap.objs.size := let ⟨_, e, _⟩ := hl; Heap.lt_size e
  have there : (s.heap.push { cls := .type "tuple_iterator", data := .fields #[.ref t, .int 0 0] }).IsTuple t items := let ⟨o, e, k, n, d⟩ := hl; ⟨o, Heap.get?_push_of_some _ e, k, n, d⟩
  refine wpAny_pyIter_tuple hl (h _ rfl ⟨⟨_, Heap.get?_push_size _ rfl, rfl, rfl⟩, there⟩ (fun b hb => ?_) (Nat.ne_of_lt lt))
  have e : (s.heap.push { cls := .type "tuple_iterator", data := .fields #[.ref t, .int 0 0] }).objs.size = s.heap.objs.size + 1 := Heap.size_push _ _
  show b < (s.heap.push _).objs.size
  rw [e]
  simp only [List.mem_cons, List.not_mem_nil, or_false] at hb
  have lt' : (t : Nat) < s.heap.objs.size := lt
  rcases hb with z | z
  · rw [z]; exact Nat.lt_succ_self _
  · rw [z]; exact Nat.lt_succ_of_lt lt'
theorem kept_old {h' : Heap} {o1 : Obj} (hk : ∀ b o, b ∉ [s.heap.objs.size] → (s.heap.push o1).get? b = some o → h'.get? b = some o) : ∀ b o, s.heap.get? b = some o → h'.get? b = some o := fun b o e =>
  hk b o (fun z => by
    rw [List.mem_singleton] at z
    have q := Heap.lt_size e
    rw [z] at q
    exact absurd q (Nat.lt_irrefl _)) (Heap.get?_push_of_some _ e)
theorem sum_getD (ns : List Int) : preSum (fun i => ns.getD i 0) ns.length = ns.sum := by
  have go : ∀ j, j ≤ ns.length → preSum (fun i => ns.getD i 0) j = (ns.take j).sum := by
    intro j
    induction j with
    | zero => intro _; rfl
    | succ j ih =>
      intro h
      have hj : j < ns.length := by omega
      rw [preSum, ih (by omega), List.take_succ_eq_append_getElem hj, List.sum_append, List.getD_eq_getElem?_getD, List.getElem?_eq_getElem hj]
      simp
  rw [go _ (Nat.le_refl _), List.take_length]
theorem sum_tup {Q : Value → Shared → Prop} (hh : A.handled = none) (hl : s.heap.IsTuple t items) (hi : IntsAre items.toList ns) (hn : items.size = ns.length)
    (h : ∀ h' tk k, (∀ b o, s.heap.get? b = some o → h'.get? b = some o) → Q (.int ns.sum k) { s with heap := h', toks := tk }) : wpAny (model P w) A (call (.builtin "sum") [.ref t]) Q E s := by
  refine call_sum_walkG (iter_tup hl fun sv e st hfp hne => ?_)
  subst e
  refine ⟨_, _, _, _, _, _, fun i => ns.getD i 0, rfl, Walks.tuple (A := A.in1) hh _ t hne items, st, hfp, fun i v e => ints_at hi e, fun h' tk k hk => ?_⟩
  have g := h h' tk k (kept_old hk)
  rw [hn, sum_getD]
  exact g
theorem min_tup {Q : Value → Shared → Prop} (hh : A.handled = none) (hl : s.heap.IsTuple t items) (hi : IntsAre items.toList ns) (hn : items.size = ns.length) (hne0 : 0 < ns.length)
    (h : ∀ h' tk M k, (∀ b o, s.heap.get? b = some o → h'.get? b = some o) → M ∈ ns → (∀ a, a ∈ ns → M ≤ a) → Q (.int M k) { s with heap := h', toks := tk }) : wpAny (model P w) A (call (.builtin "min") [.ref t]) Q E s := by
  refine call_min_walk (iter_tup hl fun sv e st hfp hne => ?_)
  subst e
  refine ⟨_, _, _, _, _, _, _, rfl, Walks.tuple (A := A.in1) hh _ t hne items, st, hfp, by omega, CmpOf.ints_lt (fun i => ns.getD i 0) (fun i v e => ints_at hi e), fun v h' tk hP hk => ?_⟩
  obtain ⟨k, rfl⟩ := ints_at hi hP
  obtain ⟨h1, h2⟩ := argBest_lt (fun i => ns.getD i 0) (items.size - 1)
  refine h h' tk _ k (kept_old hk) ?_ fun a ha => ?_
  · have hlt : argBest (fun i j => decide (ns.getD i 0 < ns.getD j 0)) (items.size - 1) < ns.length := by omega
    rw [List.getD_eq_getElem?_getD, List.getElem?_eq_getElem hlt]
    exact List.getElem_mem hlt
  · obtain ⟨j, hj, rfl⟩ := List.getElem_of_mem ha
    have g := h2 j (by omega)
    have e : ns[j] = ns.getD j 0 := by rw [List.getD_eq_getElem?_getD, List.getElem?_eq_getElem hj]; rfl
    rw [e]
    exact g
end
section
variable {X : Cx}
def rSumT (K : PySem.W.Frag) : List V → Hp → VK → Prop := fun vs H Q => ∃ (a : Addr) (ns : List Int), vs = [V.ref a] ∧ SqT K H a (ns.map V.int) ∧ Q (.int ns.sum) H
def rMinT (K : PySem.W.Frag) : List V → Hp → VK → Prop := fun vs H Q => ∃ (a : Addr) (ns : List Int), vs = [V.ref a] ∧ SqT K H a (ns.map V.int) ∧ 0 < ns.length ∧ ∀ m, m ∈ ns → (∀ y, y ∈ ns → m ≤ y) → Q (.int m) H
theorem cr_sumT (hc : X.calm = true) : CallR X (.builtin "sum") (rSumT X.K) := by
  intro pins s σ H vs us Q I r h
  obtain ⟨a, ns, rfl, hs, q⟩ := h
  obtain ⟨its, rv, hl, _⟩ := I.tuple hs
  rw [Vals.ref1 r]
  exact sum_tup (I.ok.hd hc) hl rv.ints (by rw [List.size_toArray, ← rv.length, List.length_map]) fun h' tk k hk => ⟨.int _, H, I.kept hk, ⟨_, rfl⟩, q⟩
theorem cr_minT (hc : X.calm = true) : CallR X (.builtin "min") (rMinT X.K) := by
  intro pins s σ H vs us Q I r h
  obtain ⟨a, ns, rfl, hs, h0, q⟩ := h
  obtain ⟨its, rv, hl, _⟩ := I.tuple hs
  rw [Vals.ref1 r]
  exact min_tup (I.ok.hd hc) hl rv.ints (by rw [List.size_toArray, ← rv.length, List.length_map]) h0 fun h' tk M k hk h1 h2 => ⟨.int _, H, I.kept hk, ⟨_, rfl⟩, q M h1 h2⟩
end
end Rw
/-! The mathematics of calendars: years by a cycle, months, days' numbers. Nothing of a program in it. -/
namespace Cy
structure Ca where
  months : List Int
  lm : Int
  cycle : Int
  ly : List Int
  week : Int
  fw : Int
structure Ca.Ok (c : Ca) : Prop where
  some : c.months ≠ []
  pos : ∀ m ∈ c.months, 1 ≤ m
  lm0 : 0 ≤ c.lm
  lm1 : c.lm < (c.months.length : Int)
  cy : 1 ≤ c.cycle
  ly : ∀ y ∈ c.ly, 0 ≤ y ∧ y < c.cycle
  wk : 1 ≤ c.week
  fw0 : 0 ≤ c.fw
  fw1 : c.fw < c.week
namespace Ca
variable (c : Ca)
def long (y : Int) : Bool := decide (y % c.cycle ∈ c.ly)
def plain : Int := c.months.sum
def yearDays (y : Int) : Int := if c.long y = true then c.plain + 1 else c.plain
def startN : Nat → Int
  | 0 => 0
  | n + 1 => startN n + c.yearDays (n : Int)
def cyc : Int := c.startN c.cycle.toNat
def firstOf (y : Int) : Int := y / c.cycle * c.cyc + c.startN (y % c.cycle).toNat
def weekday (n : Int) : Int := (n + c.fw) % c.week
def md (y : Int) (m : Nat) : Int := if (m : Int) = c.lm ∧ c.long y = true then c.months.getD m 0 + 1 else c.months.getD m 0
/-- days of a year ahead of its month m -/
def ahead (y : Int) : Nat → Int
  | 0 => 0
  | m + 1 => ahead y m + c.md y m
variable {c}
theorem sum_pos : ∀ (l : List Int), (∀ m ∈ l, 1 ≤ m) → (l.length : Int) ≤ l.sum
  | [], _ => by simp
  | a :: l, h => by
    have g := sum_pos l fun m hm => h m (List.mem_cons_of_mem _ hm)
    have q := h a List.mem_cons_self
    rw [List.sum_cons, List.length_cons]
    omega
theorem plain_pos (k : c.Ok) : 1 ≤ c.plain := by
  have g := sum_pos c.months k.pos
  have n := List.length_pos_iff.mpr k.some
  unfold plain
  omega
theorem days_pos (k : c.Ok) (y : Int) : 1 ≤ c.yearDays y := by
  have g := plain_pos k
  unfold yearDays
  split <;> omega
theorem long_mod (y : Int) : c.long (y % c.cycle) = c.long y := by
  unfold long
  rw [Int.emod_emod_of_dvd y (Int.dvd_refl _)]
theorem long_add (y t : Int) : c.long (y + t * c.cycle) = c.long y := by
  unfold long
  rw [Int.add_mul_emod_self_right]
theorem days_mod (y : Int) : c.yearDays (y % c.cycle) = c.yearDays y := by
  unfold yearDays
  rw [long_mod]
theorem first_add (y t : Int) (k : c.Ok) : c.firstOf (y + t * c.cycle) = c.firstOf y + t * c.cyc := by
  unfold firstOf
  have h := k.cy
  rw [Int.add_mul_ediv_right _ _ (by omega), Int.add_mul_emod_self_right, Int.add_mul]
  omega
theorem first_succ (k : c.Ok) (y : Int) : c.firstOf (y + 1) = c.firstOf y + c.yearDays y := by
  have h := k.cy
  have r0 := Int.emod_nonneg y (show c.cycle ≠ 0 by omega)
  have r1 := Int.emod_lt_of_pos y (show 0 < c.cycle by omega)
  have e := Int.emod_add_mul_ediv y c.cycle
  have dm := days_mod (c := c) y
  unfold firstOf
  generalize hr : y % c.cycle = r at *
  generalize hq : y / c.cycle = q at *
  have hy : y = r + q * c.cycle := by rw [Int.mul_comm q]; omega
  by_cases l : r + 1 < c.cycle
  · have e1 : (y + 1) % c.cycle = r + 1 := by
      rw [hy, show r + q * c.cycle + 1 = (r + 1) + q * c.cycle by omega, Int.add_mul_emod_self_right, Int.emod_eq_of_lt (by omega) l]
    have e2 : (y + 1) / c.cycle = q := by
      rw [hy, show r + q * c.cycle + 1 = (r + 1) + q * c.cycle by omega, Int.add_mul_ediv_right _ _ (by omega), Int.ediv_eq_zero_of_lt (by omega) l]
      omega
    rw [e1, e2, show (r + 1).toNat = r.toNat + 1 by omega]
    show _ + (c.startN r.toNat + c.yearDays ((r.toNat : Nat) : Int)) = _
    rw [Int.toNat_of_nonneg r0, dm]
    omega
  · have er : r + 1 = c.cycle := by omega
    have e1 : (y + 1) % c.cycle = 0 := by
      rw [hy, show r + q * c.cycle + 1 = (r + 1) + q * c.cycle by omega, Int.add_mul_emod_self_right, er, Int.emod_self]
    have e2 : (y + 1) / c.cycle = q + 1 := by
      rw [hy, show r + q * c.cycle + 1 = (r + 1) + q * c.cycle by omega, Int.add_mul_ediv_right _ _ (by omega), er, Int.ediv_self (by omega)]
      omega
    rw [e1, e2, Int.add_mul]
    have ec : c.cyc = c.startN r.toNat + c.yearDays y := by
      unfold cyc
      rw [← er, show (r + 1).toNat = r.toNat + 1 by omega]
      show c.startN r.toNat + c.yearDays ((r.toNat : Nat) : Int) = _
      rw [Int.toNat_of_nonneg r0, dm]
    show q * c.cyc + 1 * c.cyc + 0 = _
    omega
theorem first_le (k : c.Ok) (y : Int) : ∀ n : Nat, c.firstOf y + (n : Int) ≤ c.firstOf (y + (n : Int))
  | 0 => by simp
  | n + 1 => by
    have g := first_le k y n
    have s := first_succ k (y + (n : Int))
    have d := days_pos k (y + (n : Int))
    rw [show y + ((n + 1 : Nat) : Int) = y + (n : Int) + 1 by omega]
    omega
theorem first_lt (k : c.Ok) {y z : Int} (h : y < z) : c.firstOf y < c.firstOf z := by
  have g := first_le k y (z - y).toNat
  rw [Int.toNat_of_nonneg (by omega), show y + (z - y) = z by omega] at g
  omega
/-- the one year of a day -/
theorem year_one (k : c.Ok) {n y z : Int} (h1 : c.firstOf y ≤ n) (h2 : n < c.firstOf (y + 1)) (g1 : c.firstOf z ≤ n) (g2 : n < c.firstOf (z + 1)) : y = z := by
  rcases Int.lt_trichotomy y z with h | h | h
  · have q : c.firstOf (y + 1) ≤ c.firstOf z := by
      rcases Int.lt_or_eq_of_le (show y + 1 ≤ z by omega) with e | e
      · exact Int.le_of_lt (first_lt k e)
      · rw [e]; exact Int.le_refl _
    omega
  · exact h
  · have q : c.firstOf (z + 1) ≤ c.firstOf y := by
      rcases Int.lt_or_eq_of_le (show z + 1 ≤ y by omega) with e | e
      · exact Int.le_of_lt (first_lt k e)
      · rw [e]; exact Int.le_refl _
    omega
theorem first_zero (k : c.Ok) : c.firstOf 0 = 0 := by
  unfold firstOf
  rw [Int.zero_ediv, Int.zero_emod, Int.zero_mul]
  rfl
theorem cyc_pos (k : c.Ok) : 1 ≤ c.cyc := by
  have h := k.cy
  have g := first_lt k (show (0 : Int) < 0 + 1 * c.cycle by omega)
  rw [first_add 0 1 k, first_zero k] at g
  omega
theorem first_small (k : c.Ok) {n : Nat} (h : (n : Int) < c.cycle) : c.firstOf (n : Int) = c.startN n := by
  unfold firstOf
  rw [Int.ediv_eq_zero_of_lt (by omega) h, Int.emod_eq_of_lt (by omega) h, Int.zero_mul, Int.zero_add, Int.toNat_natCast]
theorem start_first (k : c.Ok) {n : Nat} (h : (n : Int) ≤ c.cycle) : c.startN n = c.firstOf (n : Int) := by
  rcases Int.lt_or_eq_of_le h with e | e
  · exact (first_small k e).symm
  · have g := first_add 0 1 k
    rw [first_zero k, Int.zero_add, Int.one_mul, Int.zero_add, Int.one_mul] at g
    rw [e, g]
    unfold cyc
    rw [← e, Int.toNat_natCast]
/-- the year of a day, as the cycle's table tells it: p, how many of the table's starts are below the rest and one -/
theorem year_by (k : c.Ok) {n : Int} {p : Nat} (h1 : ∀ i : Nat, i < p → c.startN i < n % c.cyc + 1) (h2 : ∀ i : Nat, p ≤ i → (i : Int) ≤ c.cycle → n % c.cyc + 1 ≤ c.startN i) :
    c.firstOf (n / c.cyc * c.cycle + p - 1) ≤ n ∧ n < c.firstOf (n / c.cyc * c.cycle + p - 1 + 1) := by
  have cp := cyc_pos k
  have r0 := Int.emod_nonneg n (show c.cyc ≠ 0 by omega)
  have r1 := Int.emod_lt_of_pos n (show 0 < c.cyc by omega)
  have e := Int.emod_add_mul_ediv n c.cyc
  have p0 : 0 < p := by
    rcases Nat.eq_zero_or_pos p with z | z
    · have g := h2 0 (by omega) (by have := k.cy; omega)
      have : c.startN 0 = 0 := rfl
      omega
    · exact z
  have p1 : (p : Int) ≤ c.cycle := by
    rcases Int.lt_or_le c.cycle (p : Int) with z | z
    · have g := h1 c.cycle.toNat (by have := k.cy; omega)
      have : c.startN c.cycle.toNat = c.cyc := rfl
      omega
    · exact z
  have a1 := h1 (p - 1) (by omega)
  have a2 := h2 p (Nat.le_refl _) p1
  have b1 := start_first k (n := p - 1) (by omega)
  have b2 := start_first k (n := p) p1
  have f1 := first_add ((p - 1 : Nat) : Int) (n / c.cyc) k
  have f2 := first_add (p : Int) (n / c.cyc) k
  rw [show n / c.cyc * c.cycle + (p : Int) - 1 = ((p - 1 : Nat) : Int) + n / c.cyc * c.cycle by omega, f1, show ((p - 1 : Nat) : Int) + n / c.cyc * c.cycle + 1 = (p : Int) + n / c.cyc * c.cycle by omega, f2]
  rw [Int.mul_comm] at e
  omega
/-! ### months -/
theorem ahead_sum (y : Int) : ∀ m : Nat, m ≤ c.months.length → c.ahead y m = (c.months.take m).sum + if c.lm < (m : Int) ∧ 0 ≤ c.lm ∧ c.long y = true then 1 else 0
  | 0, _ => by
    have : ¬ (c.lm < ((0 : Nat) : Int) ∧ 0 ≤ c.lm ∧ c.long y = true) := by omega
    rw [if_neg this]
    rfl
  | m + 1, h => by
    have g := ahead_sum y m (by omega)
    have hm : m < c.months.length := by omega
    rw [show c.ahead y (m + 1) = c.ahead y m + c.md y m from rfl, g, List.take_succ_eq_append_getElem hm, List.sum_append]
    unfold md
    rw [show c.months.getD m 0 = c.months[m] by rw [List.getD_eq_getElem?_getD, List.getElem?_eq_getElem hm]; rfl]
    have e1 : [c.months[m]].sum = c.months[m] := by simp
    rw [e1]
    by_cases hl : c.long y = true
    · by_cases h0 : 0 ≤ c.lm
      · rcases Int.lt_trichotomy c.lm (m : Int) with q | q | q
        · rw [if_pos ⟨q, h0, hl⟩, if_neg (by omega), if_pos ⟨by omega, h0, hl⟩]
          omega
        · rw [if_neg (by omega), if_pos ⟨q.symm, hl⟩, if_pos ⟨by omega, h0, hl⟩]
          omega
        · rw [if_neg (by omega), if_neg (by omega), if_neg (by omega)]
          omega
      · rw [if_neg (by omega), if_neg (by omega), if_neg (by omega)]
        omega
    · rw [if_neg (fun z => hl z.2.2), if_neg (fun z => hl z.2), if_neg (fun z => hl z.2.2)]
      omega
theorem ahead_all (k : c.Ok) (y : Int) : c.ahead y c.months.length = c.yearDays y := by
  rw [ahead_sum y _ (Nat.le_refl _), List.take_length]
  unfold yearDays plain
  have h0 := k.lm0
  have h1 := k.lm1
  by_cases hl : c.long y = true
  · rw [if_pos ⟨h1, h0, hl⟩, if_pos hl]
  · rw [if_neg (fun z => hl z.2.2), if_neg hl]
    omega
theorem md_pos (k : c.Ok) (y : Int) {m : Nat} (h : m < c.months.length) : 1 ≤ c.md y m := by
  have g := k.pos c.months[m] (List.getElem_mem h)
  unfold md
  rw [show c.months.getD m 0 = c.months[m] by rw [List.getD_eq_getElem?_getD, List.getElem?_eq_getElem h]; rfl]
  split <;> omega
theorem ahead_mono (k : c.Ok) (y : Int) {m n : Nat} (h : m < n) (hn : n ≤ c.months.length) : c.ahead y m < c.ahead y n := by
  induction n with
  | zero => omega
  | succ n ih =>
    have g := md_pos k y (m := n) (by omega)
    rw [show c.ahead y (n + 1) = c.ahead y n + c.md y n from rfl]
    rcases Nat.lt_or_ge m n with q | q
    · have := ih q (by omega)
      omega
    · have e : m = n := by omega
      rw [e]
      omega
theorem month_one (k : c.Ok) {y r : Int} {m n : Nat} (hm : m < c.months.length) (hn : n < c.months.length) (a1 : c.ahead y m ≤ r) (a2 : r < c.ahead y (m + 1)) (b1 : c.ahead y n ≤ r) (b2 : r < c.ahead y (n + 1)) : m = n := by
  rcases Nat.lt_trichotomy m n with h | h | h
  · have q : c.ahead y (m + 1) ≤ c.ahead y n := by
      rcases Nat.lt_or_eq_of_le (show m + 1 ≤ n from h) with e | e
      · exact Int.le_of_lt (ahead_mono k y e (by omega))
      · rw [e]; exact Int.le_refl _
    omega
  · exact h
  · have q : c.ahead y (n + 1) ≤ c.ahead y m := by
      rcases Nat.lt_or_eq_of_le (show n + 1 ≤ m from h) with e | e
      · exact Int.le_of_lt (ahead_mono k y e (by omega))
      · rw [e]; exact Int.le_refl _
    omega
/-- what a day's date is -/
structure At (c : Ca) (n y : Int) (m : Nat) (d : Int) : Prop where
  m1 : m < c.months.length
  d0 : 0 ≤ d
  d1 : d < c.md y m
  num : n = c.firstOf y + c.ahead y m + d
theorem At.year {n y d : Int} {m : Nat} (k : c.Ok) (a : c.At n y m d) : c.firstOf y ≤ n ∧ n < c.firstOf (y + 1) := by
  have h0 : 0 ≤ c.ahead y m := by
    rcases Nat.eq_zero_or_pos m with z | z
    · rw [z]; exact Int.le_refl _
    · have := ahead_mono k y z (Nat.le_of_lt a.m1)
      have e : c.ahead y 0 = 0 := rfl
      omega
  have h1 : c.ahead y (m + 1) ≤ c.yearDays y := by
    rw [← ahead_all k y]
    rcases Nat.lt_or_eq_of_le (show m + 1 ≤ c.months.length from a.m1) with e | e
    · exact Int.le_of_lt (ahead_mono k y e (Nat.le_refl _))
    · rw [e]; exact Int.le_refl _
  have h2 : c.ahead y (m + 1) = c.ahead y m + c.md y m := rfl
  have s := first_succ k y
  have := a.num
  have := a.d0
  have := a.d1
  omega
theorem At.one {n y y' d d' : Int} {m m' : Nat} (k : c.Ok) (a : c.At n y m d) (b : c.At n y' m' d') : y = y' ∧ m = m' ∧ d = d' := by
  have e := year_one k (a.year k).1 (a.year k).2 (b.year k).1 (b.year k).2
  subst e
  have h2 : c.ahead y (m + 1) = c.ahead y m + c.md y m := rfl
  have h3 : c.ahead y (m' + 1) = c.ahead y m' + c.md y m' := rfl
  have := a.num
  have := b.num
  have := a.d0
  have := a.d1
  have := b.d0
  have := b.d1
  have e : m = m' := month_one k (y := y) (r := n - c.firstOf y) a.m1 b.m1 (by omega) (by omega) (by omega) (by omega)
  subst e
  exact ⟨rfl, rfl, by omega⟩
end Ca
end Cy
namespace Rw
open PySem PySem.Spec PyProof.Rows L2 Evl Cy
/-! ### objects, evaluated -/
section
variable {K : PySem.W.Frag} {σ : L2.St} {H : Hp} {to te td ty : TE} {a C dx : Addr} {fs : List (Str × V)} {f : Str} {v z : V}
theorem ev_fld (ho : Ev to σ H (.ref a)) (hi : H a = some (.ins C dx fs)) (hc : Cls K C) (hn : NoAttr K C f) (hl : fs.lookup f = some v) : Ev (tFld K to f) σ H v := fun H1 e Q q =>
  ho H1 e _ fun H2 e2 => ⟨a, C, dx, fs, v, rfl, (e.trans e2) _ _ hi, hc, hn, hl, q H2 e2⟩
theorem ev_din {d : Addr} {kvs : List (Key × V)} {k : Key} (hy : Ev ty σ H (kV k)) (hd : Ev td σ H (.ref d)) (h : H d = some (.dK kvs)) : Ev (tDIn ty td) σ H (.bl (valV kvs k).isSome) := fun H1 e Q q =>
  hy H1 e _ fun H2 e2 => hd H2 (e.trans e2) _ fun H3 e3 => ⟨d, _, rfl, DGet.k (((e.trans e2).trans e3) _ _ h), q H3 (e2.trans e3)⟩
end
/-! ### a calendar in the heap -/
def startsL (c : Ca) : List V := ((List.range (c.cycle.toNat + 1)).map fun i => V.int (c.startN i))
def calF (c : Ca) (tm ty dl ts : Addr) : List (Str × V) :=
  [("months", .ref tm), ("long_month", .int c.lm), ("cycle", .int c.cycle), ("long_years", .ref ty), ("week", .int c.week), ("first_weekday", .int c.fw), ("longs", .ref dl), ("plain_days", .int c.plain), ("starts", .ref ts)]
/-- a calendar's object at a; full: its table of starts is whole -/
def CalB (full : Bool) (K : PySem.W.Frag) (C : Addr) (H : Hp) (a : Addr) (c : Ca) : Prop := ∃ dx tm ty dl ts kvs st, H a = some (.ins C dx (calF c tm ty dl ts)) ∧ SqT K H tm (c.months.map V.int) ∧ SqT K H ty (c.ly.map V.int) ∧
  H dl = some (.dK kvs) ∧ (∀ i : Int, (valV kvs (.inl i)).isSome = decide (i ∈ c.ly)) ∧ SqL K H ts st ∧ (full = true → st = startsL c)
theorem CalB.ex {b : Bool} {K : PySem.W.Frag} {C : Addr} {H H' : Hp} {a : Addr} {c : Ca} (h : CalB b K C H a c) (e : Ex H H') : CalB b K C H' a c := by
  obtain ⟨dx, tm, ty, dl, ts, kvs, st, h1, h2, h3, h4, h5, h6, h7⟩ := h
  exact ⟨dx, tm, ty, dl, ts, kvs, st, e _ _ h1, ex_t e h2, ex_t e h3, e _ _ h4, h5, ex_l e h6, h7⟩
theorem CalB.weak {b : Bool} {K : PySem.W.Frag} {C : Addr} {H : Hp} {a : Addr} {c : Ca} (h : CalB b K C H a c) : CalB false K C H a c := by
  obtain ⟨dx, tm, ty, dl, ts, kvs, st, h1, h2, h3, h4, h5, h6, h7⟩ := h
  exact ⟨dx, tm, ty, dl, ts, kvs, st, h1, h2, h3, h4, h5, h6, fun z => nomatch z⟩
abbrev CalP := CalB true
/-- bounds within which all numbers of a calendar are small -/
structure Small (c : Ca) : Prop where
  ok : c.Ok
  cy : c.cycle < 100000
  len : c.months.length < 1000
  cyc : c.cyc < 1000000000
  wk : c.week < 1000000
/-- a promise about a calendar: what is answered is a plain function of it -/
def spB (b : Bool) (K : PySem.W.Frag) (C : Addr) (cl : Nat → Addr) (f : Ca → List V → Option Rs) : Sp := fun vs H Q E => ∃ a c ws r, vs = .ref a :: ws ∧ CalB b K C H a c ∧ Small c ∧ f c ws = some r ∧ Out cl H Q E r
abbrev spM := spB true
section
variable {K : PySem.W.Frag} {C : Addr} {cl : Nat → Addr} {f : Ca → List V → Option Rs} {σ : L2.St} {H : Hp} {to : TE} {ta : TA} {E : XK} {a : Addr} {c : Ca} {ws dvs : List V} {z : V} {xs : List V} {m : Str}
/-- calendar.m(..) -/
theorem mt_run {b : Bool} {r : Rs} {Q : VK} (ho : Ev to σ H (.ref a)) (ha : EvA ta σ H ws) (hc : CalB b K C H a c) (hs : Small c) (hm : ∀ tm ty dl ts, (calF c tm ty dl ts).lookup m = none) (hf : f c (ws ++ dvs) = some r) (H1 : Hp) (e : Ex H H1) (o : Out cl H1 Q E r) :
    tMeth C m (spB b K C cl f) dvs E to ta σ H1 Q := ho H1 e _ fun H2 e2 => by
  obtain ⟨dx, tm, ty, dl, ts, kvs, st, h1, hr⟩ := hc.ex (e.trans e2)
  refine ⟨a, dx, _, rfl, h1, hm _ _ _ _, ha H2 (e.trans e2) _ fun H3 e3 => ⟨a, c, ws ++ dvs, r, rfl, hc.ex ((e.trans e2).trans e3), hs, hf, o.mono (e2.trans e3)⟩⟩
theorem ev_M {b : Bool} (ho : Ev to σ H (.ref a)) (ha : EvA ta σ H ws) (hc : CalB b K C H a c) (hs : Small c) (hm : ∀ tm ty dl ts, (calF c tm ty dl ts).lookup m = none) (hf : f c (ws ++ dvs) = some (.ok z)) :
    Ev (tMeth C m (spB b K C cl f) dvs E to ta) σ H z := fun H1 e Q q => mt_run ho ha hc hs hm hf H1 e fun H2 e2 => q H2 e2
theorem eu_M {b : Bool} (ho : Ev to σ H (.ref a)) (ha : EvA ta σ H ws) (hc : CalB b K C H a c) (hs : Small c) (hm : ∀ tm ty dl ts, (calF c tm ty dl ts).lookup m = none) (hf : f c (ws ++ dvs) = some (.tup xs)) :
    EvU (tMeth C m (spB b K C cl f) dvs E to ta) σ H xs := fun H1 e Q q => mt_run ho ha hc hs hm hf H1 e fun p H2 hp e2 h2 => q p H2 hp e2 h2
/-- f(calendar, ..) -/
theorem ev_G {b : Bool} (ha : EvA ta σ H (.ref a :: ws)) (hc : CalB b K C H a c) (hs : Small c) (hf : f c (ws ++ dvs) = some (.ok z)) : Ev (tCall (spB b K C cl f) dvs E ta) σ H z := fun H1 e Q q =>
  ha H1 e _ fun H2 e2 => ⟨a, c, ws ++ dvs, _, rfl, hc.ex (e.trans e2), hs, hf, fun H3 e3 => q H3 (e2.trans e3)⟩
end
theorem ev_lenT {K : PySem.W.Frag} {σ : L2.St} {H : Hp} {ta : TE} {p : Addr} {xs : List V} (h : Ev ta σ H (.ref p)) (hs : SqT K H p xs) : Ev (tCB (fun xs H Q => ∃ p ys, xs = [.ref p] ∧ (SqL K H p ys ∨ SqT K H p ys) ∧ Q (.int ys.length) H) (tCons ta tNil)) σ H (.int (xs.length : Nat)) := fun H1 e Q q =>
  h H1 e _ fun H2 e2 => ⟨p, xs, rfl, .inr (ex_t (e.trans e2) hs), q H2 e2⟩
/-- divmod of ints is a new pair -/
theorem eu_divmod {σ : L2.St} {H : Hp} {ta tb : TE} {i j : Int} (ha : Ev ta σ H (.int i)) (hb : Ev tb σ H (.int j)) (hc : CDiv i j) :
    EvU (tCB (fun xs H Q => ∃ i j, xs = [.int i, .int j] ∧ CDiv i j ∧ ∀ p, H p = none → Q (.ref p) (upd H p (.tup [.int (i / j), .int (i % j)]))) (tCons ta (tCons tb tNil))) σ H [.int (i / j), .int (i % j)] := fun H1 e Q q =>
  ha H1 e _ fun H2 e2 => hb H2 (e.trans e2) _ fun H3 e3 => ⟨i, j, rfl, hc, fun p hp => q p _ (fresh_back (e2.trans e3) hp) ((e2.trans e3).trans (Ex.new hp)) upd_same⟩
/-- a, b = a new pair -/
theorem q_pair {K : PySem.W.Frag} {σ : L2.St} {H : Hp} {te : TE} {i j : Nat} {x y : V} {D : Ends} {tz : TS} (h : EvU te σ H [x, y]) (k : ∀ H1, Ex H H1 → tz D ((σ.set i (some x)).set j (some y)) H1) : tSeq (tAsg te (gTup K 2 (gCons (gName i) (gCons (gName j) gNil)))) tz D σ H :=
  h H (Ex.refl H) _ fun p H1 hp e h1 => ⟨p, [x, y], rfl, SqT.of h1, rfl, _, _, rfl, _, _, rfl, rfl, k H1 e⟩
end Rw
namespace Rw
open PySem PySem.Spec PyProof.Rows L2 Evl Cy
/-- a method that keeps a promise; it may raise -/
def Mt (P : Program) (w : World) (K : PySem.W.Frag) (mg : Str → Option Value) (base : Heap) (k : Nat) (C : Addr) (m : Str) (sp : Sp) (dvs : List V) : Prop :=
  ∃ (f : Addr) (d : FuncData) (names : List Str) (dv : List Value), Cls K C ∧ Meth K C m f ∧ FnOk P w K mg base (L2.CX P w) k f d names sp ∧ Binds K d names dv ∧ Vals dvs dv
section
variable {X : Cx} {k j : Nat} {C : Addr} {m : Str} {sp : Sp} {dvs : List V} {E : XK} {apos pos : Pos} {o e : Expr} {es : List Expr} {t : TA} {ta : TE}
theorem pe_mk {pl : Sem Bool} (c : Mt X.prog X.w X.K X.mg X.base k C m sp dvs) (room : Room j X.A) (le : k ≤ j) (out : Passes (L2.CX X.prog X.w) X E) (obj : PE X o ta) (args : PA X (e :: es) t)
    (stars : starEach (e :: es) X.env = (false, eval e X.env) :: starEach es X.env := by rfl) (nostar : (backTo pos (starEach es X.env)).any (·.1) = false := by rfl)
    (way : eval (.Call (.Attribute o m apos) (e :: es) [] pos) X.env = (do let u ← eval o X.env; standAt apos.atName; let (g, us) ← holding [u] (getMethod u m pl); callWith pos g us (backTo pos (starEach (e :: es) X.env)) (backToKw pos (keywordEach [] X.env))) := by rfl) :
    PE X (.Call (.Attribute o m apos) (e :: es) [] pos) (tMeth C m sp dvs E ta t) :=
  let ⟨_, _, _, _, cl, me, F, b, d⟩ := c
  pe_meth obj cl me F (room.mono le) b d out args stars nostar way
theorem pe_mk0 {pl : Sem Bool} (c : Mt X.prog X.w X.K X.mg X.base k C m sp dvs) (room : Room j X.A) (le : k ≤ j) (out : Passes (L2.CX X.prog X.w) X E) (obj : PE X o ta)
    (way : eval (.Call (.Attribute o m apos) [] [] pos) X.env = (do let u ← eval o X.env; standAt apos.atName; let (g, us) ← holding [u] (getMethod u m pl); callWith pos g us (backTo pos (starEach [] X.env)) (backToKw pos (keywordEach [] X.env))) := by rfl) :
    PE X (.Call (.Attribute o m apos) [] [] pos) (tMeth C m sp dvs E ta tNil) :=
  let ⟨_, _, _, _, cl, me, F, b, d⟩ := c
  pe_meth0 obj cl me F (room.mono le) b d out way
end
section
variable {c : Ca} {tm ty dl ts : Addr}
theorem calF_months : (calF c tm ty dl ts).lookup ("months" : Str) = some (V.ref tm) := rfl
theorem calF_lm : (calF c tm ty dl ts).lookup ("long_month" : Str) = some (V.int c.lm) := rfl
theorem calF_cycle : (calF c tm ty dl ts).lookup ("cycle" : Str) = some (V.int c.cycle) := rfl
theorem calF_ly : (calF c tm ty dl ts).lookup ("long_years" : Str) = some (V.ref ty) := rfl
theorem calF_week : (calF c tm ty dl ts).lookup ("week" : Str) = some (V.int c.week) := rfl
theorem calF_fw : (calF c tm ty dl ts).lookup ("first_weekday" : Str) = some (V.int c.fw) := rfl
theorem calF_longs : (calF c tm ty dl ts).lookup ("longs" : Str) = some (V.ref dl) := rfl
theorem calF_plain : (calF c tm ty dl ts).lookup ("plain_days" : Str) = some (V.int c.plain) := rfl
theorem calF_starts : (calF c tm ty dl ts).lookup ("starts" : Str) = some (V.ref ts) := rfl
end
structure CalT (K : PySem.W.Frag) (C : Addr) : Prop where
  cls : Cls K C
  months : NoAttr K C "months"
  lm : NoAttr K C "long_month"
  cycle : NoAttr K C "cycle"
  ly : NoAttr K C "long_years"
  week : NoAttr K C "week"
  fw : NoAttr K C "first_weekday"
  longs : NoAttr K C "longs"
  plain : NoAttr K C "plain_days"
  starts : NoAttr K C "starts"
/-! ### what the methods answer -/
theorem range_count (p : Nat → Bool) {k : Nat} : ∀ N : Nat, k ≤ N → (∀ i, i < k → p i = true) → (∀ i, k ≤ i → i < N → p i = false) → (List.range N).countP p = k
  | 0, h, _, _ => by
    have e : k = 0 := by omega
    rw [e]
    rfl
  | N + 1, h, h1, h2 => by
    rw [List.range_succ, List.countP_append]
    rcases Nat.lt_or_ge N k with q | q
    · have e : k = N + 1 := by omega
      have g := range_count p (k := N) N (Nat.le_refl _) (fun i hi => h1 i (by omega)) (fun i a b => by omega)
      rw [g, e]
      simp [h1 N q]
    · have g := range_count p (k := k) N q h1 (fun i a b => h2 i a (by omega))
      rw [g]
      simp [h2 N q (by omega)]
def yearOf (c : Ca) (n : Int) : Int := n / c.cyc * c.cycle + (((List.range (c.cycle.toNat + 1)).countP fun i => decide (c.startN i < n % c.cyc + 1) : Nat) : Int) - 1
def monthOf (c : Ca) (y r : Int) : Nat := (List.range c.months.length).countP fun m => decide (c.ahead y (m + 1) ≤ r)
theorem start_mono {c : Ca} (k : c.Ok) {i j : Nat} (h : i < j) (hj : (j : Int) ≤ c.cycle) : c.startN i < c.startN j := by
  rw [Ca.start_first k (n := i) (by omega), Ca.start_first k hj]
  exact Ca.first_lt k (by omega)
theorem year_count {c : Ca} (k : c.Ok) (b : Int) {p : Nat} (hp : p ≤ c.cycle.toNat + 1) (h1 : ∀ i : Nat, i < p → c.startN i < b) (h2 : ∀ i : Nat, p ≤ i → i < c.cycle.toNat + 1 → b ≤ c.startN i) :
    (List.range (c.cycle.toNat + 1)).countP (fun i => decide (c.startN i < b)) = p :=
  range_count _ _ hp (fun i hi => decide_eq_true (h1 i hi)) fun i a b' => decide_eq_false (by have := h2 i a b'; omega)
/-- where the table's starts pass a bound -/
theorem starts_cut {c : Ca} (k : c.Ok) (b : Int) : ∃ p : Nat, p ≤ c.cycle.toNat + 1 ∧ (∀ i : Nat, i < p → c.startN i < b) ∧ (∀ i : Nat, p ≤ i → i < c.cycle.toNat + 1 → b ≤ c.startN i) := by
  have hc := k.cy
  have go : ∀ N : Nat, N ≤ c.cycle.toNat + 1 → ∃ p : Nat, p ≤ N ∧ (∀ i : Nat, i < p → c.startN i < b) ∧ (∀ i : Nat, p ≤ i → i < N → b ≤ c.startN i) := by
    intro N
    induction N with
    | zero => intro _; exact ⟨0, Nat.le_refl _, fun i h => by omega, fun i _ h => by omega⟩
    | succ N ih =>
      intro hN
      obtain ⟨p, p0, p1, p2⟩ := ih (by omega)
      rcases Nat.lt_or_eq_of_le p0 with q | q
      · refine ⟨p, by omega, p1, fun i a e => ?_⟩
        rcases Nat.lt_or_eq_of_le (Nat.lt_succ_iff.mp e) with z | z
        · exact p2 i a z
        · have g := p2 p (Nat.le_refl _) q
          have l := start_mono k (i := p) (j := N) q (by omega)
          rw [z]
          omega
      · by_cases z : c.startN N < b
        · exact ⟨N + 1, Nat.le_refl _, fun i h => by
            rcases Nat.lt_or_eq_of_le (Nat.lt_succ_iff.mp h) with e | e
            · exact p1 i (by omega)
            · rw [e]; exact z, fun i a e => by omega⟩
        · exact ⟨p, by omega, p1, fun i a e => by
            have e2 : i = N := by omega
            rw [e2]
            omega⟩
  exact go _ (Nat.le_refl _)
theorem yearOf_spec {c : Ca} (k : c.Ok) (n : Int) : c.firstOf (yearOf c n) ≤ n ∧ n < c.firstOf (yearOf c n + 1) := by
  obtain ⟨p, p0, p1, p2⟩ := starts_cut k (n % c.cyc + 1)
  have e := year_count k (n % c.cyc + 1) p0 p1 p2
  have g := Ca.year_by k (n := n) (p := p) p1 (fun i a b => p2 i a (by omega))
  unfold yearOf
  rw [e]
  exact g
theorem month_count {c : Ca} (k : c.Ok) {y r : Int} {m : Nat} (hm : m < c.months.length) (h1 : c.ahead y m ≤ r) (h2 : r < c.ahead y (m + 1)) : monthOf c y r = m := by
  unfold monthOf
  refine range_count _ _ (by omega) (fun i hi => decide_eq_true ?_) fun i a b => decide_eq_false ?_
  · rcases Nat.lt_or_eq_of_le (show i + 1 ≤ m from hi) with e | e
    · have := Ca.ahead_mono k y e (by omega)
      omega
    · rw [e]; exact h1
  · rcases Nat.lt_or_eq_of_le a with e | e
    · have := Ca.ahead_mono k y (show m + 1 < i + 1 by omega) (by omega)
      omega
    · rw [← e]
      omega
theorem month_there {c : Ca} (k : c.Ok) {y r : Int} (h0 : 0 ≤ r) (h1 : r < c.yearDays y) : ∃ m : Nat, m < c.months.length ∧ c.ahead y m ≤ r ∧ r < c.ahead y (m + 1) := by
  rw [← Ca.ahead_all k y] at h1
  have go : ∀ N : Nat, r < c.ahead y N → N ≤ c.months.length → ∃ m : Nat, m < c.months.length ∧ c.ahead y m ≤ r ∧ r < c.ahead y (m + 1) := by
    intro N
    induction N with
    | zero =>
      intro h _
      have e : c.ahead y 0 = 0 := rfl
      omega
    | succ N ih =>
      intro h hN
      by_cases q : r < c.ahead y N
      · exact ih q (by omega)
      · exact ⟨N, by omega, by omega, h⟩
  exact go _ h1 (Nat.le_refl _)
def dateM (c : Ca) (n : Int) : Nat := monthOf c (yearOf c n) (n - c.firstOf (yearOf c n))
def dateD (c : Ca) (n : Int) : Int := n - c.firstOf (yearOf c n) - c.ahead (yearOf c n) (dateM c n)
theorem date_at {c : Ca} (k : c.Ok) (n : Int) : c.At n (yearOf c n) (dateM c n) (dateD c n) := by
  obtain ⟨y0, y1⟩ := yearOf_spec k n
  have s := Ca.first_succ k (yearOf c n)
  obtain ⟨m, m0, m1, m2⟩ := month_there k (y := yearOf c n) (r := n - c.firstOf (yearOf c n)) (by omega) (by omega)
  have e := month_count k m0 m1 m2
  have e2 : c.ahead (yearOf c n) (m + 1) = c.ahead (yearOf c n) m + c.md (yearOf c n) m := rfl
  unfold dateD dateM
  rw [e]
  exact ⟨m0, by omega, by omega, by omega⟩
def fCycleDays (c : Ca) : List V → Option Rs
  | [] => some (.ok (.int c.cyc))
  | _ => none
def fIsLong (c : Ca) : List V → Option Rs
  | [.int y] => some (.ok (.bl (c.long y)))
  | _ => none
def fYearDays (c : Ca) : List V → Option Rs
  | [.int y] => some (.ok (.int (c.yearDays y)))
  | _ => none
def fMonthDays (c : Ca) : List V → Option Rs
  | [.int y, .int m] => some (if 0 ≤ m ∧ m < (c.months.length : Int) then .ok (.int (c.md y m.toNat)) else .err 1)
  | _ => none
def fFirstOf (c : Ca) : List V → Option Rs
  | [.int y] => some (.ok (.int (c.firstOf y)))
  | _ => none
def fYearOf (c : Ca) : List V → Option Rs
  | [.int n] => some (.ok (.int (yearOf c n)))
  | _ => none
def fDate (c : Ca) : List V → Option Rs
  | [.int n] => some (.tup [.int (yearOf c n), .int (dateM c n : Nat), .int (dateD c n)])
  | _ => none
def fWeekday (c : Ca) : List V → Option Rs
  | [.int n] => some (.ok (.int (c.weekday n)))
  | _ => none
end Rw
namespace Rw
open PySem PySem.Spec PyProof.Rows L2 Evl Cy
/-! ### an object in the making -/
section
variable {K : PySem.W.Frag} {σ : L2.St} {H : Hp} {to tv ta te tl : TE} {a C dx p : Addr} {fs : List (Str × V)} {f : Str} {y : V} {xs ys : List V} {D : Ends} {tz : TS}
theorem sqT_b {H' : Hp} (e : ExB a H H') (ha : H a = some (.ins C dx fs)) (h : SqT K H p xs) : SqT K H' p xs := by
  rcases h with (h | ⟨o, h⟩) | h
  · exact .inl (.inl (e _ _ (fun z => by rw [z, ha] at h; cases h) h))
  · exact .inl (.inr ⟨o, e _ _ (fun z => by rw [z, ha] at h; cases h) h⟩)
  · exact .inr h
theorem sqL_b {H' : Hp} (e : ExB a H H') (ha : H a = some (.ins C dx fs)) (h : SqL K H p xs) : SqL K H' p xs := by
  rcases h with (h | ⟨o, h⟩) | h
  · exact .inl (.inl (e _ _ (fun z => by rw [z, ha] at h; cases h) h))
  · exact .inl (.inr ⟨o, e _ _ (fun z => by rw [z, ha] at h; cases h) h⟩)
  · exact .inr h
theorem yes_if {A B : Prop} (h : A) : if true = true then A else B := (if_pos rfl).symm ▸ h
theorem sqT_u {t : Addr} {l : List V} {o : HO} (h : SqT K H p xs) (hl : H t = some (.lst l)) : SqT K (upd H t o) p xs := by
  rcases h with (h | ⟨q, h⟩) | h
  · exact .inl (.inl (by rw [upd_ne (fun z => by rw [z, hl] at h; cases h)]; exact h))
  · exact .inl (.inr ⟨q, by rw [upd_ne (fun z => by rw [z, hl] at h; cases h)]; exact h⟩)
  · exact .inr h
/-- an expression whose value, in the heap then, is so -/
def EvX (te : TE) (σ : L2.St) (H : Hp) (R : V → Hp → Prop) : Prop := ∀ H1, Ex H H1 → ∀ Q : VK, (∀ y H2, Ex H1 H2 → R y H2 → Q y H2) → te σ H1 Q
theorem q_fldB (hv : Ev tv σ H y) (ho : Ev to σ H (.ref a)) (hi : H a = some (.ins C dx fs)) (c : Cls K C) (n : NoAttr K C f) (hl : fs.length < 1000) (k : ∀ G, ExB a H G → G a = some (.ins C dx (putF f y fs)) → tz D σ G) : tSeq (sFld K to tv f) tz D σ H :=
  hv H (Ex.refl H) _ fun H1 e1 => ho H1 e1 _ fun H2 e2 => ⟨a, C, dx, fs, rfl, e2 _ _ (e1 _ _ hi), c, n, hl, k _ (ExB.of (e1.trans e2)).upd upd_same⟩
theorem q_fldX {R : V → Hp → Prop} (hv : EvX tv σ H R) (ho : Ev to σ H (.ref a)) (hi : H a = some (.ins C dx fs)) (c : Cls K C) (n : NoAttr K C f) (hl : fs.length < 1000)
    (st : ∀ y H1 H2, R y H1 → H1 a = some (.ins C dx fs) → ExB a H1 H2 → R y H2) (k : ∀ y G, ExB a H G → G a = some (.ins C dx (putF f y fs)) → R y G → tz D σ G) : tSeq (sFld K to tv f) tz D σ H :=
  hv H (Ex.refl H) _ fun y H1 e1 r => ho H1 e1 _ fun H2 e2 => ⟨a, C, dx, fs, rfl, e2 _ _ (e1 _ _ hi), c, n, hl, k y _ (ExB.of (e1.trans e2)).upd upd_same (st y H1 _ r (e1 _ _ hi) (ExB.of e2).upd)⟩
def SqA (K : PySem.W.Frag) (H : Hp) (p : Addr) (xs : List V) : Prop := SqL K H p xs ∨ SqT K H p xs
theorem SqA.ex {H H' : Hp} (h : SqA K H p xs) (e : Ex H H') : SqA K H' p xs := h.elim (fun h => .inl (ex_l e h)) fun h => .inr (ex_t e h)
theorem SqA.b {H' : Hp} (e : ExB a H H') (ha : H a = some (.ins C dx fs)) (h : SqA K H p xs) : SqA K H' p xs := h.elim (fun h => .inl (sqL_b e ha h)) fun h => .inr (sqT_b e ha h)
/-- tuple(xs): a new one, or the same -/
theorem ev_tupOf (h : Ev ta σ H (.ref p)) (hs : SqA K H p xs) :
    EvX (tCB (fun xs H Q => ∃ p ys, xs = [.ref p] ∧ ((SqL K H p ys ∧ ∀ l, H l = none → Q (.ref l) (upd H l (.tup ys))) ∨ (SqT K H p ys ∧ Q (.ref p) H))) (tCons ta tNil)) σ H (fun y H2 => ∃ q, y = .ref q ∧ SqT K H2 q xs) := fun H1 e Q k =>
  h H1 e _ fun H2 e2 => by
    refine ⟨p, xs, rfl, ?_⟩
    rcases hs.ex (e.trans e2) with g | g
    · exact .inl ⟨g, fun l hl => k _ _ (e2.trans (Ex.new hl)) ⟨l, rfl, SqT.of upd_same⟩⟩
    · exact .inr ⟨g, k _ _ e2 ⟨p, rfl, g⟩⟩
theorem dp_ints : ∀ ns : List Int, DpAll K H (ns.map V.int) (ns.map PyData.int)
  | [] => .nil
  | n :: r => .cons (.int n) (dp_ints r)
theorem lay_ints : ∀ ns : List Int, PyData.canLayAll0 (ns.map PyData.int) = true
  | [] => rfl
  | n :: r => by
    rw [List.map_cons, PyData.canLayAll0, lay_ints r]
    rfl
theorem depth_ints : ∀ ns : List Int, PyData.depthAll (ns.map PyData.int) = 0
  | [] => rfl
  | n :: r => by
    rw [List.map_cons, PyData.depthAll, depth_ints r]
    rfl
theorem shaped_ints (ns : List Int) : SeqAt.shaped (.tuple (ns.map PyData.int)) = true := by
  unfold SeqAt.shaped
  rw [PyData.canLay0, lay_ints, PyData.depth, depth_ints]
  rfl
/-- a tuple of ints, not empty, is not () -/
theorem ev_noTup {ns : List Int} (h : Ev ta σ H (.ref p)) (hs : SqT K H p (ns.map V.int)) (hn : ns ≠ []) : Ev (tOp (rEqD K) ta (tTup tNil)) σ H (.bl false) :=
  ev_opU h (eu_tup ea_nil (by decide)) fun q H1 h1 e => fun H2 e2 Q k => ⟨.tuple (ns.map .int), .tuple [], .tup (ex_t (e.trans e2) hs) (dp_ints ns), .tup (SqT.of (e2 _ _ h1)) .nil, shaped_ints ns, rfl, by
    cases ns with
    | nil => exact absurd rfl hn
    | cons n r => exact k H2 (Ex.refl H2)⟩
theorem et_min {ns : List Int} {b : Int} (h : Ev ta σ H (.ref p)) (hs : SqT K H p (ns.map V.int)) (hn : ns ≠ []) (hb : ∀ m ∈ ns, b ≤ m) : EvT (tTest (tOp (rI0 fun i j => .bl (decide (i < j))) (tCB (rMinT K) (tCons ta tNil)) (tC (.int b)))) σ H false := fun H1 e Q q =>
  h H1 e _ fun H2 e2 => ⟨p, ns, rfl, ex_t (e.trans e2) hs, List.length_pos_iff.mpr hn, fun m hm _ => ⟨m, b, rfl, rfl, false, congrArg V.bl (decide_eq_false (by have := hb m hm; omega)), q H2 e2⟩⟩
theorem ev_sumT {ns : List Int} (h : Ev ta σ H (.ref p)) (hs : SqT K H p (ns.map V.int)) : Ev (tCB (rSumT K) (tCons ta tNil)) σ H (.int ns.sum) := fun H1 e Q q =>
  h H1 e _ fun H2 e2 => ⟨p, ns, rfl, ex_t (e.trans e2) hs, q H2 e2⟩
theorem ev_newL (h : EvL te σ H xs) : EvX te σ H (fun y H2 => ∃ q, y = .ref q ∧ H2 q = some (.lst xs) ∧ H q = none) := fun H1 e Q k => h H1 e _ fun q H2 hq e2 h2 => k _ _ e2 ⟨q, rfl, h2, fresh_back e hq⟩
/-- all items of a tuple that stands, each made another -/
theorem el_mapT {j : Nat} {vs : List Nat} (h : Ev tl σ H (.ref p)) (hx : SqT K H p xs) (hz : xs.length ≤ 40000) (hw : ∀ x, wipe ((wipe σ vs).set j (some x)) vs = wipe σ vs) (hl : xs.length = ys.length)
    (he : ∀ (i : Nat) (x y : V) H1, Ex H H1 → xs[i]? = some x → ys[i]? = some y → Ev te ((wipe σ vs).set j (some x)) H1 y) : EvL (tLc (iTup K tl) (gName j) tYes te vs) σ H ys := fun H0 e Q q => h H0 e _ fun H1 e1 => by
  have ey : given xs.length (fun _ => true) (fun i => ys.getD i .non) = ys := given_map hl fun i y hy => by rw [List.getD_eq_getElem?_getD, hy]; rfl
  refine ⟨p, rfl, ⟨xs, ex_t (e.trans e1) hx⟩, fun Dl hD => lc_tup (xs := xs) (Cw H1 (fun _ => true) (fun i => ys.getD i .non) Dl) ⟨hD, Ex.new hD, upd_same⟩ (fun i H' _ c => ex_t ((e.trans e1).trans c.2.1) hx) (fun i x H' hi c => ?_) (fun H' c => ?_)⟩
  · have hi2 := (List.getElem?_eq_some_iff.mp hi).1
    refine ⟨hw x, cw_turn c (by omega) et_yes fun _ => ?_⟩
    have hiy : i < ys.length := by omega
    have eg : ys.getD i .non = ys[i] := by rw [List.getD_eq_getElem?_getD, List.getElem?_eq_getElem hiy]; rfl
    rw [eg]
    exact he i x _ H1 (e.trans e1) hi (List.getElem?_eq_getElem hiy)
  · have g := c.2.2
    rw [ey] at g
    exact q Dl H' (fresh_back e1 c.1) (e1.trans c.2.1) g
/-- {n: True for n in a tuple of ints} -/
theorem ev_dictTrue {ns : List Int} {j : Nat} {vs : List Nat} (h : Ev tl σ H (.ref p)) (hs : SqT K H p (ns.map V.int)) (hz : ns.length ≤ 100000) (hw : ∀ x, wipe ((wipe σ vs).set j (some x)) vs = wipe σ vs) (hj : ∀ x, ((wipe σ vs).set j (some x))[j]? = some (some x)) :
    EvX (tDc (iTup K tl) (gName j) tYes (tVar j) (tC (.bl true)) vs) σ H (fun y H2 => ∃ d kvs, y = .ref d ∧ H2 d = some (.dK kvs) ∧ ∀ i : Int, (valV kvs (.inl i)).isSome = decide (i ∈ ns)) := fun H0 e Q k => h H0 e _ fun H1 e1 =>
  ⟨p, rfl, ⟨_, ex_t (e.trans e1) hs⟩, fun Dd hD => dc_tup (xs := ns.map V.int) (fun i H' => Ex H1 H' ∧ ∃ kvs : List (Key × V), H' Dd = some (.dK kvs) ∧ kvs.length ≤ i ∧ ∀ q : Int, (valV kvs (.inl q)).isSome = decide (q ∈ ns.take i))
    ⟨Ex.new hD, [], upd_same, Nat.le_refl _, fun q => by simp [valV]⟩ (fun i H' _ c => ex_t ((e.trans e1).trans c.1) hs) (fun i x H' hi c => by
      obtain ⟨eH, kvs, g1, g2, g3⟩ := c
      have hlt := (List.getElem?_eq_some_iff.mp hi).1
      rw [List.length_map] at hlt
      rw [List.getElem?_map, List.getElem?_eq_getElem hlt] at hi
      obtain rfl : V.int ns[i] = x := Option.some.inj hi
      refine ⟨hw _, ?_⟩
      simp only [tYes, ↓reduceIte]
      refine ⟨_, hj _, kvs, .inl ns[i], rfl, g1, sz_lt (by omega), Ex.mut eH hD, _, upd_same, Nat.le_trans (length_putK _ _ _) (by omega), fun q => ?_⟩
      rw [valV_put, List.take_succ_eq_append_getElem hlt]
      by_cases z : (Sum.inl q : Key) = Sum.inl ns[i]
      · rw [if_pos z]
        injection z with z
        rw [z]
        exact (decide_eq_true (List.mem_append_right _ List.mem_cons_self)).symm
      · rw [if_neg z, g3 q]
        have z2 : ¬ q = ns[i] := fun y => z (by rw [y])
        exact decide_eq_decide.mpr ⟨fun h => List.mem_append_left _ h, fun h => (List.mem_append.mp h).elim id fun h => absurd (List.mem_singleton.mp h) z2⟩) (fun H' c => by
      obtain ⟨eH, kvs, g1, g2, g3⟩ := c
      rw [List.length_map, List.take_length] at g3
      exact k _ _ (e1.trans eH) ⟨Dd, kvs, rfl, g1, g3⟩)⟩
end
end Rw
namespace Rw
open PySem PySem.Spec PyProof.Rows L2 Evl Cy
/-- a class whose making keeps a promise; it may raise -/
def Nw (P : Program) (w : World) (K : PySem.W.Frag) (mg : Str → Option Value) (base : Heap) (k : Nat) (x : Str) (C : Addr) (sp : Sp) (dvs : List V) : Prop :=
  ∃ (f : Addr) (d : FuncData) (names : List Str) (dv : List Value), Mk K C f ∧ mg x = some (.ref C) ∧ FnOk P w K mg base (L2.CX P w) k f d names sp ∧ Binds K d names dv ∧ Vals dvs dv
section
variable {X : Cx} {k j : Nat} {x : Str} {C : Addr} {sp : Sp} {dvs : List V} {E : XK} {p pos : Pos} {e : Expr} {es : List Expr} {t : TA}
theorem pe_nw (c : Nw X.prog X.w X.K X.mg X.base k x C sp dvs) (room : Room j X.A) (le : k + 1 ≤ j) (out : Passes (L2.CX X.prog X.w) X E) (args : PA X (e :: es) t) (gl : Gl X x := by rfl)
    (plain : (x == ("__debug__" : Str)) = false := by decide) (stars : starEach (e :: es) X.env = (false, eval e X.env) :: starEach es X.env := by rfl) (nostar : (backTo pos (starEach es X.env)).any (·.1) = false := by rfl) :
    PE X (.Call (.Name x p) (e :: es) [] pos) (tMake C sp dvs E t) :=
  let ⟨_, _, _, _, M, at_, F, b, d⟩ := c
  pe_make M F (room.mono le) gl at_ b d out args plain stars nostar
end
/-! ### what a heap keeps while dice are rolled -/
def Rel (d : Addr) (H H' : Hp) : Prop := ExB d H H' ∧ ∃ a b c, H' d = some (.lst [.int a, .int b, .int c])
section
variable {d p : Addr} {H H1 H2 : Hp} {o : HO}
theorem Rel.ex (r : Rel d H H1) (e : Ex H1 H2) : Rel d H H2 := ⟨r.1.ex e, let ⟨a, b, c, h⟩ := r.2; ⟨a, b, c, e _ _ h⟩⟩
theorem Rel.ne (r : Rel d H H1) (h : H1 p = none) : p ≠ d := fun z => by
  obtain ⟨a, b, c, g⟩ := r.2
  rw [← z, h] at g
  cases g
theorem Rel.back (r : Rel d H H1) (h : H1 p = none) : H p = none := by
  cases e : H p with
  | none => rfl
  | some o =>
    have g := r.1 p o (r.ne h) e
    rw [h] at g
    cases g
/-- an object of ours is written -/
theorem Rel.mut (r : Rel d H H1) (h : H p = none) (n : p ≠ d) : Rel d H (upd H1 p o) :=
  ⟨fun b u hb e => by rw [upd_ne (fun z => by rw [z, h] at e; cases e)]; exact r.1 b u hb e, let ⟨a, b, c, g⟩ := r.2; ⟨a, b, c, by rw [upd_ne (Ne.symm n)]; exact g⟩⟩
theorem Rel.trans (r : Rel d H H1) (s : Rel d H1 H2) : Rel d H H2 := ⟨r.1.trans s.1, s.2⟩
theorem rd_rollR {σ : L2.St} {i : Nat} {m : Int} {Q : VK} {tm : TE} (r : Rel d H H1) (hσ : σ[i]? = some (some (.ref d))) (hm : Ev tm σ H1 (.int m)) (h0 : 0 < m) (h1 : m < 1000000) (cont : ∀ v H2, 0 ≤ v → v < m → Rel d H H2 → Rel d H1 H2 → Q (.int v) H2) (sp : Sp)
    (hsp : ∀ (H : Hp) (Q : VK) (a b c : Int), H d = some (.lst [.int a, .int b, .int c]) → (∀ (v a' b' c' : Int) H', 0 ≤ v → v < m → ExB d H H' → H' d = some (.lst [.int a', .int b', .int c']) → Q (.int v) H') → sp [.ref d, .int m] H Q E0) :
    tCall sp [] E0 (tCons (tVar i) (tCons tm tNil)) σ H1 Q := by
  have hv : EvA (tCons (tVar i) (tCons tm tNil)) σ H1 [.ref d, .int m] := ea_cons (ev_var hσ) (ea_cons hm ea_nil)
  refine hv H1 (Ex.refl H1) _ fun H2 e2 => ?_
  obtain ⟨a, b, c, g⟩ := r.2
  refine hsp H2 _ a b c (e2 _ _ g) fun v a' b' c' H' v0 v1 eB hd => ?_
  have s : Rel d H1 H' := ⟨(ExB.of e2).trans eB, _, _, _, hd⟩
  exact cont v H' v0 v1 (r.trans s) s
end
/-! ### small calendars -/
theorem start_le {c : Ca} (hp : 0 ≤ c.plain) : ∀ n : Nat, c.startN n ≤ (n : Int) * (c.plain + 1)
  | 0 => by show (0 : Int) ≤ _; omega
  | n + 1 => by
    have g := start_le hp n
    have s : c.startN (n + 1) = c.startN n + c.yearDays (n : Int) := rfl
    have y : c.yearDays (n : Int) ≤ c.plain + 1 := by
      unfold Ca.yearDays
      split <;> omega
    rw [s, show ((n + 1 : Nat) : Int) = (n : Int) + 1 by omega, Int.add_mul]
    omega
theorem sum_top (b : Int) : ∀ l : List Int, (∀ m ∈ l, m ≤ b) → l.sum ≤ (l.length : Int) * b
  | [], _ => by simp
  | a :: l, h => by
    have g := sum_top b l fun m hm => h m (List.mem_cons_of_mem _ hm)
    have q := h a List.mem_cons_self
    rw [List.sum_cons, List.length_cons, show ((l.length + 1 : Nat) : Int) = (l.length : Int) + 1 by omega, Int.add_mul]
    omega
structure Tiny (c : Ca) : Prop where
  len : c.months.length ≤ 3
  mon : ∀ m ∈ c.months, 2 ≤ m ∧ m ≤ 5
  cy : c.cycle ≤ 3
  wk : c.week ≤ 4
  ly : c.ly.Pairwise (· < ·)
theorem Tiny.small {c : Ca} (k : c.Ok) (t : Tiny c) : Small c := by
  have p1 := Ca.plain_pos k
  have p2 : c.plain ≤ 15 := by
    have g := sum_top 5 c.months fun m hm => (t.mon m hm).2
    have l := t.len
    unfold Ca.plain
    omega
  have cy := k.cy
  have l := t.len
  refine ⟨k, by have := t.cy; omega, by omega, ?_, by have := t.wk; omega⟩
  have g := start_le (c := c) (by omega) c.cycle.toNat
  have tc := t.cy
  have e : c.cyc = c.startN c.cycle.toNat := rfl
  rw [e]
  have h3 : c.cycle.toNat = 1 ∨ c.cycle.toNat = 2 ∨ c.cycle.toNat = 3 := by omega
  rcases h3 with z | z | z <;> rw [z] at g ⊢ <;> omega
end Rw
namespace Rw
open PySem PySem.Spec PyProof.Rows L2 Evl Cy
/-! ### enumerate(tuple) -/
theorem enum_new1 {x : Value} {cell : Obj} {At : Heap → Prop} (B : Begins x cell At) :
    Meets (Builtin.«enumerate.__new__» ⟨[.type "enumerate", x], []⟩) (fun _ R s => At s.heap ∧ R (.ok (.ret (.ref (s.heap.push cell).objs.size)))
      { s with heap := (s.heap.push cell).push { cls := .type "enumerate", data := .fields #[.none, .bool false, .ref s.heap.objs.size, rawInt 0, .none, .none] } }) :=
  .of_wp fun P w A R s ask => by
    obtain ⟨h0, gs, dr, tk, sys⟩ := s
    obtain ⟨at0, ask⟩ := ask
    have same := sub_enumerate
    have begins : ∀ {A' : Around} {E' : Value → Shared → Prop} {Q' : Value → Shared → Prop}, Q' (.ref h0.objs.size) ⟨h0.push cell, gs, dr, tk, sys⟩ → wpAny (model P w) A' (pyIter x) Q' E' ⟨h0, gs, dr, tk, sys⟩ := fun q => B.iter P w _ _ ⟨h0, gs, dr, tk, sys⟩ _ at0 q
    wp_walk using begins
    refine wpAny_stack_any fun _ => wpAny_pure ?_
    split
    · rename_i t _ _ _ _ _
      cases (t == Value.type "enumerate") <;> (wp_walk using begins; exact ⟨_, rfl, ask⟩)
    · wp_walk using begins
      exact ⟨_, rfl, ask⟩
theorem call_enum1 {P : Program} {w : World} {A : Around} {E : Value → Shared → Prop} {s : Shared} {x : Value} {cell : Obj} {At : Heap → Prop} {Q : Value → Shared → Prop} (B : Begins x cell At) (at0 : At s.heap)
    (k : ∀ g, IsEnum g (s.heap.objs.size + 1) s.heap.objs.size 0 .none → g.get? s.heap.objs.size = some cell → (∀ b o, s.heap.get? b = some o → g.get? b = some o) → Q (.ref (s.heap.objs.size + 1)) { s with heap := g }) :
    wpAny (model P w) A (call (.type "enumerate") [x]) Q E s := by
  refine callType_new F.called_enumerate (by decide) (F.typeCall_enumerate_1 _) (F.newCall_enumerate_1 _) (fun obj => F.args_object_init_2 obj _) F.entry_enumerate_new (enum_new1 B) ⟨at0, ?_⟩
  have size1 : (s.heap.push cell).objs.size = s.heap.objs.size + 1 := Heap.size_push ..
  show _ ∧ _
  rw [size1]
  have made : IsEnum ((s.heap.push cell).push { cls := .type "enumerate", data := .fields #[.none, .bool false, .ref s.heap.objs.size, rawInt 0, .none, .none] }) (s.heap.objs.size + 1) s.heap.objs.size 0 .none := by
    have g := Heap.get?_push_size (s.heap.push cell) (o := { cls := .type "enumerate", data := .fields #[.none, .bool false, .ref s.heap.objs.size, rawInt 0, .none, .none] }) rfl
    rw [size1] at g
    exact g
  exact ⟨⟨_, made, rfl⟩, k _ made (Heap.get?_push_of_some _ (Heap.get?_push_size _ B.free)) fun b o e => Heap.get?_push_of_some _ (Heap.get?_push_of_some _ e)⟩
def ItEn (K : PySem.W.Frag) (b : Addr) : It where
  go := fun i H => ∃ (ys : List V) (y : V), SqT K H b ys ∧ ys[i]? = some y
  yld := fun i H v H' => ∃ (T : Addr) (y : V), v = .ref T ∧ H T = none ∧ H' = upd H T (.tup [.int (i : Nat), y]) ∧ ∀ ys, SqT K H b ys → ys[i]? = some y
  stop := fun i H => ∃ ys : List V, SqT K H b ys ∧ i = ys.length
/-- where it stands: its two cells -/
structure StEn (b N : Addr) (i : Nat) (h : Heap) : Prop where
  en : ∃ old, IsEnum h (N + 1) N ((i : Nat) : Int) old
  tup : h.IsTupleIter N b i
theorem two_of {N x : Addr} (h : x ∈ [N + 1, N]) : x = N + 1 ∨ x = N := by simpa using h
theorem turn_en {P : Program} {w : World} {K : PySem.W.Frag} {elts : List Expr} {kk : Nat} {tp : Pos} {b N : Addr} (hb : b < N) :
    Turn P w K (.Tuple elts kk tp) (ItEn K b) [N + 1, N] (N + 1) (StEn b N) where
  mem := List.mem_cons_self ..
  obj := fun i h S x hx => by
    obtain ⟨old, e⟩ := S.en
    obtain ⟨o, eo, _, d⟩ := S.tup
    rcases two_of hx with rfl | rfl
    · exact ⟨_, e, fun v q => by cases q⟩
    · exact ⟨o, eo, fun v q => by rw [d] at q; cases q⟩
  keep := fun i h h' S k => ⟨let ⟨old, e⟩ := S.en; ⟨old, k _ (by simp) _ e⟩, S.tup.at fun o e => k _ (by simp) o e⟩
  item := by
    rintro X rfl rfl rfl hc i pins s σ H E I hf S ⟨ys, y, hy, hi⟩
    obtain ⟨us, rv, tupb, _⟩ := I.tuple hy
    obtain ⟨uy, huy, ry⟩ := rv.get hi
    obtain ⟨old, e⟩ := S.en
    have nb : b ≠ N := Nat.ne_of_lt hb
    have h2 : i < us.toArray.size := by simpa using (List.getElem?_eq_some_iff.mp huy).1
    have lt1 : N + 1 < s.heap.objs.size := Heap.lt_size e
    refine wpAny_pyNext_enum_itemD (Draws.tuple (by rw [show X.A.in1.handled = X.A.handled from rfl]; exact I.ok.hd hc) N b nb us.toArray) e ⟨S.tup, tupb⟩ h2 (Nat.succ_ne_self N) (by
      intro z
      simp only [List.mem_cons, List.not_mem_nil, or_false] at z
      rcases z with z | z
      · exact Nat.succ_ne_self N z
      · rw [← z] at hb
        exact absurd (Nat.lt_of_succ_lt hb) (Nat.lt_irrefl _)) fun x2 h' tk hx ho hs hT hsz hk => ?_
    have ex2 : uy = x2 := Option.some.inj (huy.symm.trans (by simpa using hx))
    subst ex2
    refine ⟨_, rfl, wpAny_letOwnedTupleGo_enum (s := { s with heap := h', toks := tk + 1 }) ho fun h2' e2 sb => ?_⟩
    have pr : h2'.get? s.heap.objs.size = some { cls := .type "tuple", data := .seq #[.int i tk, uy] } := (sb.2 _ (Nat.ne_of_gt lt1)).trans hT
    have new : ObjOk X.prog X.w (upd H s.heap.objs.size (.tup [.int (i : Nat), y])) h2' s.heap.objs.size (.tup [.int (i : Nat), y]) :=
      ⟨by show 2 ≤ sizeLine; decide, [.int i tk, uy], .cons ⟨tk, rfl⟩ (.cons ry .nil), ⟨_, pr, rfl, _, rfl⟩⟩
    have J := I.turnedNew (t' := tk + 1) (ch := [N + 1, N]) (h' := h2') (fun x o nx q => (sb.2 x (fun z => nx (by simp [z]))).trans (hk x o (fun z => nx (by simp [z])) (fun z => nx (by simp [z])) q)) hf (Nat.le_refl _) new
    refine ⟨.ref s.heap.objs.size, _, J, rfl, ⟨_, y, rfl, I.hok.fresh (Nat.le_refl _), rfl, fun l hl => by rw [I.tuple_inj hl hy]; exact hi⟩, ⟨⟨_, by rw [show ((i + 1 : Nat) : Int) = (i : Int) + 1 by omega]; exact e2⟩, hs.1.at fun o q => (sb.2 N (Nat.ne_of_lt (Nat.lt_succ_self N))).trans q⟩, fun x hx => ?_⟩
    have lt : x < s.heap.objs.size := by
      rcases two_of hx with rfl | rfl
      · exact lt1
      · exact Nat.lt_of_succ_lt lt1
    rw [upd_ne (Nat.ne_of_lt lt)]
    exact (hf x hx).1
  done := by
    rintro X rfl rfl rfl hc i pins s σ H E I hf S ⟨ys, hy, hend⟩
    obtain ⟨us, rv, tupb, _⟩ := I.tuple hy
    obtain ⟨old, e⟩ := S.en
    have nb : b ≠ N := Nat.ne_of_lt hb
    have el : us.toArray.size = i := by rw [List.size_toArray, ← rv.length, hend]
    obtain ⟨f0, f1, f2, f3, f4, f5⟩ := hf N (by simp)
    exact wpAny_pyNext_enum_endD (Draws.tuple (by rw [show X.A.in1.handled = X.A.handled from rfl]; exact I.ok.hd hc) N b nb us.toArray) e (by rw [el]; exact ⟨S.tup, tupb⟩) fun h' eb => ⟨rfl, I.turned (t' := s.toks) (fun x o hx q => eb x o hx q) f0 f1 f3 f4 f5⟩
  self := fun A i s Q E S q => let ⟨_, e⟩ := S.en; wpAny_pyIter_enum e q
def iEnumT (K : PySem.W.Frag) (ta : TA) : TI := fun σ H R => ta σ H fun vs H1 => ∃ (b : Addr) (ys : List V), vs = [.ref b] ∧ SqT K H1 b ys ∧ R (ItEn K b) H1
theorem pi_enumT {X : Cx} {e : Expr} {ta : TA} {p pos tp : Pos} {elts : List Expr} {kk : Nat} (hm : X.mg "enumerate" = none) (ha : PA X [e] ta) (hg : Gl X "enumerate" := by rfl) (stars : starEach [e] X.env = [(false, eval e X.env)] := by rfl) :
    PI X (.Tuple elts kk tp) (.Call (.Name "enumerate" p) [e] [] pos) (iEnumT X.K ta) := by
  constructor
  intro pins s σ H R I h
  refine Call_ (ld_blt I hg hm boot_enumerate (PyProof.Rows.callWith_type1 (thn (ha.run pos pins s σ H _ I h) ?_) stars rfl))
  rintro us s1 ⟨vs, H1, J, r, b, ys, rfl, hy, q⟩
  match us, r with
  | [u], .cons r1 .nil =>
    obtain rfl : u = Value.ref b := r1
    obtain ⟨its, rv, tupb, _⟩ := J.tuple hy
    have hb : b < s1.heap.objs.size := by
      obtain ⟨o, e, _⟩ := id tupb
      exact Heap.lt_size e
    refine call_enum1 (begins_tuple b its.toArray) tupb fun g g1 g2 kp => wpAny_pyIter_enum g1 ?_
    refine ⟨s1.heap.objs.size + 1, _, _, _, H1, rfl, J.kept (t' := s1.toks) kp, turn_en hb, ⟨⟨_, g1⟩, ⟨_, g2, rfl, rfl⟩⟩, fun x hx => ?_, q⟩
    have le : s1.heap.objs.size ≤ x := by
      rcases two_of hx with z | z
      · rw [z]; exact Nat.le_add_right ..
      · rw [z]; exact Nat.le_refl _
    exact J.fpOk le (J.hok.fresh le)
end Rw
namespace Rw
open PySem PySem.Spec PyProof.Rows L2 Evl Cy
section
variable {K : PySem.W.Frag} {σ : L2.St} {H : Hp} {tl te : TE} {p : Addr} {xs ys : List V}
theorem walk_en : Walk (ItEn K p) xs.length (fun H => SqT K H p xs) (fun i H v H' => ∃ T y, v = .ref T ∧ H T = none ∧ H' = upd H T (.tup [.int (i : Nat), y]) ∧ xs[i]? = some y) :=
  ⟨fun i _ hi q => ⟨xs, xs[i], q, List.getElem?_eq_getElem hi⟩, fun _ q => ⟨xs, q, rfl⟩, fun i _ x _ _ q y => let ⟨T, z, e1, e2, e3, e4⟩ := y; ⟨T, z, e1, e2, e3, e4 xs q⟩⟩
/-- [.. for i, x in enumerate(a tuple)] -/
theorem el_enT {i j : Nat} {vs : List Nat} (h : Ev tl σ H (.ref p)) (hx : SqT K H p xs) (hz : xs.length ≤ 40000) (hw : ∀ x y, wipe (((wipe σ vs).set i (some x)).set j (some y)) vs = wipe σ vs) (hl : xs.length = ys.length)
    (he : ∀ (n : Nat) (x y : V) H1, Ex H H1 → xs[n]? = some x → ys[n]? = some y → Ev te (((wipe σ vs).set i (some (.int (n : Nat)))).set j (some x)) H1 y) :
    EvL (tLc (iEnumT K (tCons tl tNil)) (gTup K 2 (gCons (gName i) (gCons (gName j) gNil))) tYes te vs) σ H ys := fun H0 e Q q => h H0 e _ fun H1 e1 => by
  have ey : given xs.length (fun _ => true) (fun n => ys.getD n .non) = ys := given_map hl fun n y hy => by rw [List.getD_eq_getElem?_getD, hy]; rfl
  refine ⟨p, xs, rfl, ex_t (e.trans e1) hx, fun Dl hD => lc_it (walk_en (xs := xs)) (Cw H1 (fun _ => true) (fun n => ys.getD n .non) Dl) ⟨hD, Ex.new hD, upd_same⟩ (fun n H' _ c => ex_t ((e.trans e1).trans c.2.1) hx) (fun n x Ha Hb hn c y => ?_) (fun H' c => ?_)⟩
  · obtain ⟨T, y, rfl, hT, rfl, hy⟩ := y
    have c2 : Cw H1 (fun _ => true) (fun n => ys.getD n .non) Dl n (upd Ha T (.tup [.int (n : Nat), y])) := ⟨c.1, c.2.1.trans (Ex.new hT), (Ex.new hT) _ _ c.2.2⟩
    refine ⟨T, _, rfl, SqT.of upd_same, rfl, _, _, rfl, _, _, rfl, rfl, hw _ _, cw_turn c2 (by omega) et_yes fun _ => ?_⟩
    have hny : n < ys.length := by omega
    have eg : ys.getD n .non = ys[n] := by rw [List.getD_eq_getElem?_getD, List.getElem?_eq_getElem hny]; rfl
    rw [eg]
    exact he n y _ H1 (e.trans e1) hy (List.getElem?_eq_getElem hny)
  · have g := c.2.2
    rw [ey] at g
    exact q Dl H' (fresh_back e1 c.1) (e1.trans c.2.1) g
theorem ev_sumL {ta : TE} {ns : List Int} (h : Ev ta σ H (.ref p)) (hs : SqL K H p (ns.map V.int)) : Ev (tCB (rSum K) (tCons ta tNil)) σ H (.int ns.sum) := fun H1 e Q q =>
  h H1 e _ fun H2 e2 => ⟨p, ns, rfl, ex_l (e.trans e2) hs, q H2 e2⟩
theorem inV_ints (y : Int) (ns : List Int) : inV (.int y) (ns.map V.int) = decide (y ∈ ns) := by
  unfold inV
  rw [Bool.eq_iff_iff, List.any_eq_true, decide_eq_true_eq]
  constructor
  · rintro ⟨v, hv, e⟩
    obtain ⟨n, hn, rfl⟩ := List.mem_map.mp hv
    have z : n = y := by simpa [eqV] using e
    rw [← z]
    exact hn
  · intro h
    exact ⟨.int y, List.mem_map.mpr ⟨y, h, rfl⟩, by simp [eqV]⟩
theorem flat_ints (ns : List Int) : (ns.map V.int).all flatV = true := by
  rw [List.all_map, List.all_eq_true]
  intro n _
  rfl
end
section
variable {X : Cx} {e : Expr} {f : Str} {pos : Pos} {ta : TE}
theorem pe_fldK {K : PySem.W.Frag} (he : PE X e ta) (hb : attributeBase e f X.env (eval e X.env) = eval e X.env) (h : X.K = K := by rfl) : PE X (.Attribute e f pos) (tFld K ta f) := by
  subst h
  exact pe_fld he hb
theorem op_inK {K : PySem.W.Frag} (h : X.K = K := by rfl) : OpR X (compareOp .In) (rIn K false) := by
  subst h
  exact op_in_seq
end
end Rw
namespace Rw
open PySem PySem.Spec PyProof.Rows L2 Evl Cy
/-- o.f as one of several targets -/
def gFld (K : PySem.W.Frag) (to : TE) (f : Str) : TG := fun v σ H Q => to σ H fun x H1 => ∃ a C dx fs, x = .ref a ∧ H1 a = some (.ins C dx fs) ∧ Cls K C ∧ NoAttr K C f ∧ fs.length < 1000 ∧ Q σ (upd H1 a (.ins C dx (putF f v fs)))
theorem pg_fldT {X : Cx} {o : Expr} {f : Str} {pos : Pos} {to : TE} (ho : PE X o to) : PG X (.Attribute o f pos) (gFld X.K to f) := by
  refine ⟨fun pins s σ H v u Q I r h => ?_⟩
  rw [assign_Attribute]
  refine wpAny_bind (wpAny_holding (thn (ho.run pins s σ H _ I h) fun ov s1 ⟨x, H1, I1, r1, a, C, dx, fs, ex, ea, cl, na, le, q⟩ => ?_))
  subst ex
  obtain rfl : ov = Value.ref a := r1
  refine wpAny_bind (wpAny_standAt (wpAny_bind (wpAny_holding (setattr_ok I1 ea cl na le r fun s2 I2 => ?_))))
  exact wpAny_release ⟨σ, _, I2, q⟩
theorem s_fldB {K : PySem.W.Frag} {σ : L2.St} {H : Hp} {to tv : TE} {a C dx : Addr} {fs : List (Str × V)} {f : Str} {y : V} {D : Ends} (hv : Ev tv σ H y) (ho : Ev to σ H (.ref a)) (hi : H a = some (.ins C dx fs)) (c : Cls K C) (n : NoAttr K C f) (hl : fs.length < 1000) (k : ∀ G, ExB a H G → G a = some (.ins C dx (putF f y fs)) → D.nx σ G) : sFld K to tv f D σ H :=
  hv H (Ex.refl H) _ fun H1 e1 => ho H1 e1 _ fun H2 e2 => ⟨a, C, dx, fs, rfl, e2 _ _ (e1 _ _ hi), c, n, hl, k _ (ExB.of (e1.trans e2)).upd upd_same⟩
theorem s_retMake {σ : L2.St} {H : Hp} {ta : TA} {C : Addr} {sp : Sp} {dvs vs : List V} {E : XK} {D : Ends} (h : EvA ta σ H vs)
    (k : ∀ H1, Ex H H1 → ∀ x dx, H1 x = none → H1 dx = none → dx ≠ x → sp (.ref x :: (vs ++ dvs)) (upd (upd H1 dx (.own x)) x (.ins C dx [])) (fun v H2 => v = .non ∧ D.rt (.ref x) H2) E) : tRet (tMake C sp dvs E ta) D σ H :=
  h H (Ex.refl H) _ fun H1 e1 => k H1 e1
end Rw
namespace Rw
open PySem PySem.Spec PyProof.Rows L2 Evl Cy
/-! ### a range that a name holds -/
def iRngV (te : TE) : TI := fun σ H R => te σ H fun v H1 => ∃ a lo hi, v = .ref a ∧ H1 a = some (.rng lo hi) ∧ (-(2 ^ 62) ≤ lo ∧ lo < 2 ^ 62 ∧ -(2 ^ 62) ≤ hi ∧ hi < 2 ^ 62) ∧ R (Itr lo (hi - lo).toNat) H1
theorem pi_rngV {X : Cx} {tg e : Expr} {te : TE} (he : PE X e te) : PI X tg e (iRngV te) := by
  refine ⟨fun pins s σ H R I h => ?_⟩
  refine thn (he.run pins s σ H _ I h) fun v s1 ⟨y, H1, I1, r1, a, lo, hi, e, ho, b, q⟩ => ?_
  subst e
  obtain rfl : v = Value.ref a := r1
  obtain ⟨t, u, z, at_⟩ := I1.hok a _ ho
  refine wpAny_pyIter_range (show IsRange s1.heap a lo hi 1 t u z from at_) (small_one b.1 b.2.1 b.2.2.1 b.2.2.2) ?_
  refine ⟨s1.heap.objs.size, [s1.heap.objs.size], _, _, H1, rfl, I1.kept (t' := s1.toks) fun b o e => Heap.get?_push_of_some _ e, turn_range _ lo (hi - lo).toNat, ?_, fun b hb => ?_, q⟩
  · have e1 : lo + ((0 : Nat) : Int) * 1 = lo := by simp
    have e2 : (((hi - lo).toNat : Nat) : Int) - ((0 : Nat) : Int) = Builtin.Range.rangeSize lo hi 1 := by
      rw [rangeSize_one]
      split <;> omega
    show IsRangeIter _ _ (lo + ((0 : Nat) : Int) * 1) ((((hi - lo).toNat : Nat) : Int) - ((0 : Nat) : Int)) 1
    rw [e1, e2]
    exact Heap.get?_push_size _ rfl
  · obtain rfl : b = s1.heap.objs.size := by simpa using hb
    exact I1.fpOk (Nat.le_refl _) (I1.hok.fresh (Nat.le_refl _))
theorem ev_rng {σ : L2.St} {H : Hp} {ta : TA} {lo hi : Int} (h : EvA ta σ H [.int lo, .int hi]) :
    EvX (tCB (fun vs H Q => ∃ i j, vs = [V.int i, V.int j] ∧ ∀ p, H p = none → Q (.ref p) (upd H p (.rng i j))) ta) σ H (fun y H2 => ∃ q, y = .ref q ∧ H2 q = some (.rng lo hi)) := fun H1 e Q k =>
  h H1 e _ fun H2 e2 => ⟨lo, hi, rfl, fun p hp => k _ _ (e2.trans (Ex.new hp)) ⟨p, rfl, upd_same⟩⟩
section
variable {K : PySem.W.Frag} {σ : L2.St} {H : Hp} {te tl : TE} {t : TT}
/-- a comprehension over such a range -/
theorem el_lcRng {a : Addr} {lo hi : Int} {j : Nat} {vs : List Nat} (f : Nat → Bool) (v : Nat → V) (h : Ev tl σ H (.ref a)) (hx : H a = some (.rng lo hi)) (hb : -(2 ^ 62) ≤ lo ∧ lo < 2 ^ 62 ∧ -(2 ^ 62) ≤ hi ∧ hi < 2 ^ 62) (hz : (hi - lo).toNat ≤ 40000) (hw : ∀ x, wipe ((wipe σ vs).set j (some x)) vs = wipe σ vs)
    (ht : ∀ (i : Nat) H1, Ex H H1 → i < (hi - lo).toNat → EvT t ((wipe σ vs).set j (some (.int (lo + i)))) H1 (f i)) (he : ∀ (i : Nat) H1, Ex H H1 → i < (hi - lo).toNat → f i = true → Ev te ((wipe σ vs).set j (some (.int (lo + i)))) H1 (v i)) :
    EvL (tLc (iRngV tl) (gName j) t te vs) σ H (given (hi - lo).toNat f v) := fun H0 e Q q => h H0 e _ fun H1 e1 => ⟨a, lo, hi, rfl, (e.trans e1) _ _ hx, hb, fun Dl hD =>
  lc_range (lo := lo) (n := (hi - lo).toNat) (Cw H1 f v Dl) ⟨hD, Ex.new hD, upd_same⟩ (fun i Hi hi' c => ⟨hw _, cw_turn c (by omega) (ht i H1 (e.trans e1) hi') (fun hf => he i H1 (e.trans e1) hi' hf)⟩)
    (fun Hz c => q Dl Hz (fresh_back e1 c.1) (e1.trans c.2.1) c.2.2)⟩
end
end Rw
namespace Rw
open PySem.W
open PySem PySem.Spec PyProof.Rows L2 Evl Cy
/-! ### max(a list of ints, default=an int) -/
theorem hold_ints {h : Heap} : ∀ {us : List Value} {ns : List Int}, IntsAre us ns → HoldAll h us ns
  | _, _, .nil => HoldAll.nil
  | _, _, .cons n t r => HoldAll.cons ⟨_, .int n t⟩ (hold_ints r)
/-- the greatest of ints, d of none -/
def maxD (d : Int) : List Int → Int
  | [] => d
  | y :: ys => maxOf y ys
def rMaxD (K : PySem.W.Frag) : List V → List V → Hp → VK → Prop := fun vs zs H Q => ∃ (a : Addr) (ns : List Int) (d : Int), vs = [V.ref a] ∧ zs = [V.int d] ∧ SqL K H a (ns.map V.int) ∧ Q (.int (maxD d ns)) H
theorem cr_maxD {X : Cx} (hc : X.calm = true) (hu : X.A.units + 64 < cLine) : CallRK X (.builtin "max") ["default"] (rMaxD X.K) := by
  intro pins s σ H vs zs us ws Q I r rz h
  obtain ⟨a, ns, d, rfl, rfl, hs, q⟩ := h
  obtain ⟨its, rv, hl, _⟩ := I.list hs
  rw [Vals.ref1 r]
  obtain ⟨t, rfl⟩ : ∃ t, ws = [Value.int d t] := by
    cases rz with
    | cons z zs =>
      cases zs
      obtain ⟨t, rfl⟩ := z
      exact ⟨t, rfl⟩
  refine max_list_datum_default (α := Int) (I.ok.hd hc) hl.isList (hold_ints rv.ints) (Nat.lt_of_le_of_lt (Nat.add_le_add_left (show 1 + 0 ≤ 64 by decide) _) hu) (fun e h' tk hk => ?_) fun y ys i v h' tk e hi hv hk => ?_
  · subst e
    exact ⟨.int d, H, I.kept hk, ⟨_, rfl⟩, q⟩
  · subst e
    obtain ⟨as, hr⟩ := hv
    obtain ⟨t2, rfl⟩ : ∃ t2, v = Value.int (maxOf y ys) t2 := by
      have hr : Reads h' v (.int (maxOf y ys)) as := hr
      cases hr
      exact ⟨_, rfl⟩
    exact ⟨.int (maxOf y ys), H, I.kept hk, ⟨_, rfl⟩, q⟩
theorem maxOf_facts : ∀ (ys : List Int) (y : Int), y ≤ maxOf y ys ∧ (∀ z ∈ ys, z ≤ maxOf y ys) ∧ (maxOf y ys = y ∨ maxOf y ys ∈ ys)
  | [], y => ⟨Int.le_refl _, fun z h => (by cases h), .inl rfl⟩
  | a :: r, y => by
    have e : maxOf y (a :: r) = maxOf (if DatumOrd.lt y a = true then a else y) r := rfl
    have l : DatumOrd.lt y a = decide (y < a) := rfl
    obtain ⟨h1, h2, h3⟩ := maxOf_facts r (if DatumOrd.lt y a = true then a else y)
    rw [e]
    rw [l] at h1 h2 h3 ⊢
    by_cases q : y < a
    · rw [decide_eq_true q, if_pos rfl] at h1 h2 h3 ⊢
      refine ⟨by omega, fun z hz => ?_, ?_⟩
      · rcases List.mem_cons.mp hz with rfl | hz
        · exact h1
        · exact h2 z hz
      · rcases h3 with h3 | h3
        · exact .inr (by rw [h3]; exact List.mem_cons_self)
        · exact .inr (List.mem_cons_of_mem _ h3)
    · rw [decide_eq_false q, if_neg Bool.false_ne_true] at h1 h2 h3 ⊢
      refine ⟨h1, fun z hz => ?_, ?_⟩
      · rcases List.mem_cons.mp hz with rfl | hz
        · omega
        · exact h2 z hz
      · rcases h3 with h3 | h3
        · exact .inl h3
        · exact .inr (List.mem_cons_of_mem _ h3)
theorem ev_maxD {K : PySem.W.Frag} {σ : L2.St} {H : Hp} {te td : TE} {ns : List Int} {d : Int} (h : EvL te σ H (ns.map V.int)) (hd : ∀ H1, Ex H H1 → Ev td σ H1 (.int d)) : Ev (tCKw (rMaxD K) (tCons te tNil) (tCons td tNil)) σ H (.int (maxD d ns)) := fun H1 e Q q =>
  h H1 e _ fun p H2 hp e2 h2 => hd H2 (e.trans e2) H2 (Ex.refl H2) _ fun H3 e3 => ⟨p, ns, d, rfl, rfl, SqL.of (e3 _ _ h2), q H3 (e2.trans e3)⟩
theorem q_asgX {σ : L2.St} {H : Hp} {te : TE} {i : Nat} {R : V → Hp → Prop} {D : Ends} {tz : TS} (h : EvX te σ H R) (k : ∀ y H1, Ex H H1 → R y H1 → tz D (σ.set i (some y)) H1) : tSeq (tAsg te (gName i)) tz D σ H := h H (Ex.refl H) _ fun y H1 e r => k y H1 e r
theorem given_true {n : Nat} {v : Nat → V} : Evl.given n (fun _ => true) v = (List.range n).map v := by
  unfold Evl.given
  rw [List.filter_eq_self.mpr fun a _ => rfl]
/-- tuple(a new list) -/
theorem eu_tupNew {K : PySem.W.Frag} {σ : L2.St} {H : Hp} {te : TE} {xs : List V} (h : EvL te σ H xs) :
    EvU (tCB (fun xs H Q => ∃ p ys, xs = [.ref p] ∧ ((SqL K H p ys ∧ ∀ l, H l = none → Q (.ref l) (upd H l (.tup ys))) ∨ (SqT K H p ys ∧ Q (.ref p) H))) (tCons te tNil)) σ H xs := fun H1 e Q q =>
  h H1 e _ fun p H2 hp e2 h2 => ⟨p, xs, rfl, .inl ⟨SqL.of h2, fun l hl => q l _ (fresh_back e2 hl) (e2.trans (Ex.new hl)) upd_same⟩⟩
end Rw
namespace Rw
open PySem PySem.Spec PyProof.Rows L2 Evl
local macro_rules | `(tactic| walk_at "sq") => `(tactic| first | assumption | exact SqL.of (by assumption) | exact SqT.of (by assumption))
local macro_rules | `(tactic| walk_at "at") => `(tactic| first | exact atI_nat (j := 0) rfl | exact atI_nat (j := 1) rfl | exact atI_nat (j := 2) rfl | exact atI_nat (j := 3) rfl)
local macro_rules | `(tactic| walk_at "rv") => `(tactic| first
  | with_reducible exact rv_I0
  | ((with_reducible refine' rv_I ?k1); (case k1 => first | (show (0 : Int) < _; omega) | exact ⟨by omega, by omega⟩ | exact .inr ⟨by omega, by omega⟩ | exact .inl ⟨by omega, by omega⟩ | exact ⟨by decide, by decide, by decide⟩))
  | ((with_reducible refine' rv_eq ?k1); (case k1 => exact rfl))
  | ((with_reducible refine' rv_ne ?k1); (case k1 => exact rfl))
  | (refine' rv_ixL ?k1 ?k2; (case k1 => walk_at "sq"); (case k2 => walk_at "at"))
  | (refine' rv_ixT ?k1 ?k2; (case k1 => walk_at "sq"); (case k2 => walk_at "at")))
local macro_rules | `(tactic| walk_at "rc") => `(tactic| first | exact rc_int1 | exact rc_int1b | exact rc_abs)
local macro_rules | `(tactic| walk_at "ea") => `(tactic| first
  | with_reducible exact ea_nil
  | ((with_reducible refine' ea_cons ?k1 ?k2); (case k1 => walk_at "ev"); (case k2 => walk_at "ea")))
local macro_rules | `(tactic| walk_at "ev") => `(tactic| first
  | with_reducible exact ev_c
  | ((with_reducible refine' ev_var ?k1); (case k1 => exact rfl))
  | ((with_reducible refine' ev_op ?k1 ?k2 ?k3); (case k1 => walk_at "ev"); (case k2 => walk_at "ev"); (case k3 => walk_at "rv"))
  | ((with_reducible refine' et_chain ?k1 ?k2 ?k3 ?k4 ?k5); (case k1 => walk_at "ev"); (case k2 => walk_at "ev"); (case k3 => (intro _; walk_at "ev")); (case k4 => walk_at "rv"); (case k5 => (intro _; walk_at "rv")))
  | ((with_reducible refine' ev_cb ?k1 ?k2); (case k1 => walk_at "ea"); (case k2 => walk_at "rc")))
local macro_rules | `(tactic| walk_at "et") => `(tactic| first
  | ((with_reducible refine' et_test ?k1); (case k1 => walk_at "ev"))
  | ((with_reducible refine' et_B ?k1); (case k1 => walk_at "ev"))
  | ((with_reducible refine' et_and ?k1 ?k2); (case k1 => walk_at "et"); (case k2 => (intro _; walk_at "et")))
  | ((with_reducible refine' et_or ?k1 ?k2); (case k1 => walk_at "et"); (case k2 => (intro _; walk_at "et")))
  | ((with_reducible refine' et_not ?k1); (case k1 => walk_at "et")))
def topS (i : Nat) : Stmt := PySem.Challenge.pw_recurwright_k22_days_told_by_two_calenda.main.body.getD i (.Pass ⟨0, 0, 0, 0⟩)
abbrev sDice : Stmt := topS 24
abbrev sRoll : Stmt := topS 25
theorem scDice : FnScope ["cell"] ["cell"] (defScope sDice) := ⟨rfl, rfl, rfl, by decide +kernel, rfl, by decide +kernel, by decide +kernel⟩
theorem scRoll : FnScope ["dice", "many", "found"] ["dice", "many"] (defScope sRoll) := ⟨rfl, rfl, rfl, by decide +kernel, rfl, by decide +kernel, by decide +kernel⟩
/-- the text's own names of built-ins -/
structure Blt (mg : Str → Option Value) : Prop where
  int : mg "int" = none
  abs : mg "abs" = none
section
variable {P : Program} {w : World} {K : PySem.W.Frag} {mg : Str → Option Value} {base : Heap}
def spDice : Sp := fun vs H Q _ => ∃ n : Int, vs = [.int n] ∧ ∀ p a b c H', H p = none → Ex H H' → H' p = some (.lst [.int a, .int b, .int c]) → Q (.ref p) H'
theorem ok_dice {f : Addr} {fd : FuncData} (F : Fun K "_law_dice" "_law_dice" sDice f fd) (B : Blt mg) : FnOk P w K mg base (L2.CX P w) 1 f fd ["cell"] spDice := by
  refine F.okX scDice (fun vs H Q E h => ?_) (fun cdv A outer s H vs Q E hr h => ?_)
  · obtain ⟨n, rfl, _⟩ := h
    rfl
  · obtain ⟨n, rfl, q⟩ := h
    refine ⟨_, pss_cons (ps_if (pt_chain op_lt op_lt (pe_op op_sub pe_int pe_int) (pv 0) pe_int)
        (pss_one (ps_ret (pe_lst (pa_cons (pe_callB call_abs (by rfl) B.abs (by decide +kernel) (pa_cons (pv 0) pa_nil)) (pa_cons pe_int (pa_cons pe_int pa_nil)))))) pss_nil)
      (pss_one (ps_ret (pe_lst (pa_cons (pv 0) (pa_cons (pe_op op_add pe_int (pe_op op_mod (pe_callTy call_int1 (by rfl) B.int (by decide +kernel) (pa_cons (pv 0) pa_nil)) pe_int))
        (pa_cons (pe_callTy call_int1 (by rfl) B.int (by decide +kernel) (pa_cons (pe_cmpR op_ge (pv 0) (pe_op op_pow pe_int pe_int) (nomark _)) pa_nil)) pa_nil)))))), ?_⟩
    refine q_when (by walk_at "et") (fun hb H1 e1 => ?_) (fun hb H1 e1 => ?_)
    · exact s_retL (el_lst (by walk_at "ea") (by show 3 ≤ 100000; decide)) fun p H2 hp e2 h2 => q p _ _ _ H2 (fresh_back e1 hp) (e1.trans e2) h2
    · exact s_retL (el_lst (by walk_at "ea") (by show 3 ≤ 100000; decide)) fun p H2 hp e2 h2 => q p _ _ _ H2 (fresh_back e1 hp) (e1.trans e2) h2
def spRoll : Sp := fun vs H Q _ => ∃ (d : Addr) (a b c m : Int), vs = [.ref d, .int m] ∧ H d = some (.lst [.int a, .int b, .int c]) ∧ 0 < m ∧ m < 1000000 ∧
  ∀ (v a' b' c' : Int) H', 0 ≤ v → v < m → ExB d H H' → H' d = some (.lst [.int a', .int b', .int c']) → Q (.int v) H'
theorem ok_roll {f : Addr} {fd : FuncData} (F : Fun K "_law_roll" "_law_roll" sRoll f fd) (B : Blt mg) : FnOk P w K mg base (L2.CX P w) 1 f fd ["dice", "many"] spRoll := by
  refine F.okX scRoll (fun vs H Q E h => ?_) (fun cdv A outer s H vs Q E hr h => ?_)
  · obtain ⟨d, a, b, c, m, rfl, _⟩ := h
    rfl
  · obtain ⟨d, a, b, c, m, rfl, hd, h0, h1, q⟩ := h
    refine ⟨_, pss_cons (ps_if (PW.pt (pw_or (pt_cmpR op_eq (pe_ix ix_list (pv 0) pe_int (fun _ _ => rfl)) pe_int (nomark _)) (pw_or1 (PW.pt (pw_and (pt_cmpR op_eq (pe_ix ix_list (pv 0) pe_int (fun _ _ => rfl)) pe_int (nomark _)) (pw_and1 (pt_cmpR op_gt (pe_ix ix_list (pv 0) pe_int (fun _ _ => rfl)) pe_int (nomark _))))))))
        (pss_cons (ps_set (i := 2) scRoll.nd rfl (.inl rfl) (pe_op op_mod (pe_callTy call_int1 (by rfl) B.int (by decide +kernel) (pa_cons (pe_ix ix_list (pv 0) pe_int (fun _ _ => rfl)) pa_nil)) (pv 1)))
        (pss_cons (ps_asg (pe_op op_fdiv (pe_ix ix_list (pv 0) pe_int (fun _ _ => rfl)) (pv 1)) (pg_sub (pv 0) pe_int set_list))
        (pss_one (ps_ret (pv 2))))) pss_nil)
      (pss_cons (ps_asg pe_int (pg_sub (pv 0) pe_int set_list))
      (pss_cons (ps_asg (pe_op op_mod (pe_callTy call_int1 (by rfl) B.int (by decide +kernel) (pa_cons (pe_op op_add (pe_op op_add (pe_op op_mul (pe_ix ix_list (pv 0) pe_int (fun _ _ => rfl)) pe_int) (pe_op op_mul (pe_ix ix_list (pv 0) pe_int (fun _ _ => rfl)) pe_int)) pe_int) pa_nil)) pe_int) (pg_sub (pv 0) pe_int set_list))
      (pss_cons (ps_asg (pe_op op_add (pe_ix ix_list (pv 0) pe_int (fun _ _ => rfl)) pe_int) (pg_sub (pv 0) pe_int set_list))
      (pss_one (ps_ret (pe_op op_mod (pe_callTy call_int1 (by rfl) B.int (by decide +kernel) (pa_cons (pe_op op_add (pe_op op_fdiv (pe_ix ix_list (pv 0) pe_int (fun _ _ => rfl)) pe_int) (pe_ix ix_list (pv 0) pe_int (fun _ _ => rfl))) pa_nil)) (pv 1))))))), ?_⟩
    refine q_when (by walk_at "et") (fun hb H1 e1 => ?_) (fun hb H1 e1 => ?_)
    · have hd1 := e1 d _ hd
      refine q_asg (by walk_at "ev") fun H2 e2 => ?_
      have hd2 := e2 d _ hd1
      refine q_setL (j := 0) hd2 (by walk_at "ev") (by walk_at "ev") (by exact ev_c) (by show 0 < 3; decide) fun H3 e3 => ?_
      refine s_ret (by walk_at "ev") fun H4 e4 => ?_
      exact q _ _ _ _ H4 (Int.emod_nonneg _ (by omega)) (Int.emod_lt_of_pos _ h0) (((ExB.of ((e1.trans e2).trans e3)).upd).ex e4) (e4 d _ upd_same)
    · have hd1 := e1 d _ hd
      refine q_setL (j := 2) hd1 (by walk_at "ev") (by walk_at "ev") (by exact ev_c) (by show 2 < 3; decide) fun H2 e2 => ?_
      have hd2 : upd H2 d (.lst [.int a, .int b, .int 0]) d = some _ := upd_same
      refine q_setL (xs := [.int a, .int b, .int 0]) (j := 0) hd2 (by walk_at "ev") (by walk_at "ev") (by exact ev_c) (by show 0 < 3; decide) fun H3 e3 => ?_
      have b1 : ExB d H (upd H2 d (.lst [.int a, .int b, .int 0])) := (ExB.of (e1.trans e2)).upd
      generalize hz : (a * 48271 + b * 69621 + 11) % 2147483647 = z
      have hd3 : upd H3 d (.lst [.int z, .int b, .int 0]) d = some _ := upd_same
      refine q_setL (xs := [.int z, .int b, .int 0]) (j := 1) hd3 (by walk_at "ev") (by walk_at "ev") (by exact ev_c) (by show 1 < 3; decide) fun H4 e4 => ?_
      have b2 : ExB d H (upd H3 d (.lst [.int z, .int b, .int 0])) := (b1.ex e3).upd
      have hd4 : upd H4 d (.lst [.int z, .int (b + 1), .int 0]) d = some _ := upd_same
      have b3 : ExB d H (upd H4 d (.lst [.int z, .int (b + 1), .int 0])) := (b2.ex e4).upd
      refine s_ret (v := .int ((z / 7 + z) % m)) (by walk_at "ev") fun H5 e5 => ?_
      exact q _ _ _ _ H5 (Int.emod_nonneg _ (by omega)) (Int.emod_lt_of_pos _ h0) (b3.ex e5) (e5 d _ hd4)
end
abbrev sTold : Stmt := topS 27
theorem scTold : FnScope ["what"] ["what"] (defScope sTold) := ⟨rfl, rfl, rfl, by decide +kernel, rfl, by decide +kernel, by decide +kernel⟩
section
variable {P : Program} {w : World} {K : PySem.W.Frag} {mg : Str → Option Value} {base : Heap}
theorem ok_told {f : Addr} {fd : FuncData} {c : Nat → Addr} {k : Nat} (F : Fun K "_law_told" "_law_told" sTold f fd) (B : Exs K mg c) : FnOk P w K mg base (L2.CX P w) (k + 2) f fd ["what"] (spTold P w K mg base c k) := by
  refine F.okX scTold (fun vs H Q E h => ?_) (fun cdv A outer s H vs Q E hr h => ?_)
  · obtain ⟨f, c', q, params, body, scope, tb, rfl, _⟩ := h
    rfl
  · obtain ⟨f, c', q, params, body, scope, tb, rfl, hf, hc, L, hb, hl, ht⟩ := h
    refine ⟨_, pss_one (ps_try_many (tb := fun W D σ H => ∃ (f c' : Addr) (q : Str) (params : Arguments) (body : Expr) (scope : Scope) (tb : XK → Hp → VK → Prop), σ[0]? = some (some (.ref f)) ∧ H f = some (LamO f q params body scope c') ∧ H c' = some (LamX.CodeO c' q) ∧ Lam0 scope ∧
          (∀ (pm cv ctv : Value), bindArgs (PySem.W.kla_fn "<lambda>" q params body scope [] pm cv ctv) ⟨[], []⟩ = pure []) ∧ LamRun P w K mg base k q scope body f c' tb ∧ ∃ E' : XK, (∀ cls d σ' H', E' cls d H' → W cls d σ' H') ∧ tb E' H D.rt) rfl rfl takes_none5
        (fun W pn xe tk _ => ⟨fun pins s' σ H' D I h' => ?_⟩)
        (HdsOk.cons ⟨rfl, by decide, .inl (B.e 0 (by decide)).g⟩ (fun _ _ _ _ _ _ _ => pss_one (ps_ret pe_str)) (HdsOk.cons ⟨rfl, by decide, .inl (B.e 1 (by decide)).g⟩ (fun _ _ _ _ _ _ _ => pss_one (ps_ret pe_str)) (HdsOk.cons ⟨rfl, by decide, .inl (B.e 2 (by decide)).g⟩ (fun _ _ _ _ _ _ _ => pss_one (ps_ret pe_str)) (HdsOk.cons ⟨rfl, by decide, .inl (B.e 3 (by decide)).g⟩ (fun _ _ _ _ _ _ _ => pss_one (ps_ret pe_str)) (HdsOk.cons ⟨rfl, by decide, .inl (B.e 4 (by decide)).g⟩ (fun _ _ _ _ _ _ _ => pss_one (ps_ret pe_str)) (HdsOk.cons ⟨rfl, by decide, .inl (B.e 5 (by decide)).g⟩ (fun _ _ _ _ _ _ _ => pss_one (ps_ret pe_str)) (HdsOk.cons ⟨rfl, by decide, .inl (B.e 6 (by decide)).g⟩ (fun _ _ _ _ _ _ _ => pss_one (ps_ret pe_str)) (HdsOk.cons ⟨rfl, by decide, .inl (B.e 7 (by decide)).g⟩ (fun _ _ _ _ _ _ _ => pss_one (ps_ret pe_str)) (HdsOk.cons ⟨rfl, by decide, .inl (B.e 8 (by decide)).g⟩ (fun _ _ _ _ _ _ _ => pss_one (ps_ret pe_str)) (HdsOk.cons ⟨rfl, by decide, .inl (B.e 9 (by decide)).g⟩ (fun _ _ _ _ _ _ _ => pss_one (ps_ret pe_str)) (HdsOk.cons ⟨rfl, by decide, .inl (B.e 10 (by decide)).g⟩ (fun _ _ _ _ _ _ _ => pss_one (ps_ret pe_str)) (HdsOk.nil))))))))))))), ?_⟩
    · obtain ⟨f, c', q, params, body, scope, tb, h1, h2, h3, h4, h5, h6, E', hE, h7⟩ := h'
      exact (pss_one (ps_ret (pe_actO (E := E') (i := 0) (k := k) tk hE hr rfl (.inl rfl)))).run pins s' σ H' D I ⟨f, c', q, params, body, scope, tb, h1, h2, h3, h4, h5, h6, h7⟩
    · refine ⟨f, c', q, params, body, scope, tb, rfl, hf, hc, L, hb, hl, ETold c Q, fun cls d σ' H' hE => ?_, ht⟩
      obtain ⟨i, hi, rfl, q⟩ := hE
      exact ⟨decide (i = 0), B.m i 0 hi (by omega), fun hb _ _ => (by obtain rfl : i = 0 := of_decide_eq_true hb; exact q), fun hb0 => (by have n0 := of_decide_eq_false hb0; exact ⟨decide (i = 1), B.m i 1 hi (by omega), fun hb _ _ => (by obtain rfl : i = 1 := of_decide_eq_true hb; exact q), fun hb1 => (by have n1 := of_decide_eq_false hb1; exact ⟨decide (i = 2), B.m i 2 hi (by omega), fun hb _ _ => (by obtain rfl : i = 2 := of_decide_eq_true hb; exact q), fun hb2 => (by have n2 := of_decide_eq_false hb2; exact ⟨decide (i = 3), B.m i 3 hi (by omega), fun hb _ _ => (by obtain rfl : i = 3 := of_decide_eq_true hb; exact q), fun hb3 => (by have n3 := of_decide_eq_false hb3; exact ⟨decide (i = 4), B.m i 4 hi (by omega), fun hb _ _ => (by obtain rfl : i = 4 := of_decide_eq_true hb; exact q), fun hb4 => (by have n4 := of_decide_eq_false hb4; exact ⟨decide (i = 5), B.m i 5 hi (by omega), fun hb _ _ => (by obtain rfl : i = 5 := of_decide_eq_true hb; exact q), fun hb5 => (by have n5 := of_decide_eq_false hb5; exact ⟨decide (i = 6), B.m i 6 hi (by omega), fun hb _ _ => (by obtain rfl : i = 6 := of_decide_eq_true hb; exact q), fun hb6 => (by have n6 := of_decide_eq_false hb6; exact ⟨decide (i = 7), B.m i 7 hi (by omega), fun hb _ _ => (by obtain rfl : i = 7 := of_decide_eq_true hb; exact q), fun hb7 => (by have n7 := of_decide_eq_false hb7; exact ⟨decide (i = 8), B.m i 8 hi (by omega), fun hb _ _ => (by obtain rfl : i = 8 := of_decide_eq_true hb; exact q), fun hb8 => (by have n8 := of_decide_eq_false hb8; exact ⟨decide (i = 9), B.m i 9 hi (by omega), fun hb _ _ => (by obtain rfl : i = 9 := of_decide_eq_true hb; exact q), fun hb9 => (by have n9 := of_decide_eq_false hb9; exact ⟨decide (i = 10), B.m i 10 hi (by omega), fun hb _ _ => (by obtain rfl : i = 10 := of_decide_eq_true hb; exact q), fun hb10 => (by have n10 := of_decide_eq_false hb10; exact (by omega : False).elim)⟩)⟩)⟩)⟩)⟩)⟩)⟩)⟩)⟩)⟩)⟩
end
end Rw
namespace Rw
open PySem PySem.Spec PyProof.Rows L2 Evl
/-- a lambda with its captured cells, as a tracked object -/
def LamC (f : Addr) (q : Str) (params : Arguments) (body : Expr) (scope : Scope) (cells : List (Str × Addr)) (cc : Addr) : HO :=
  .ext fun h => ∃ pm tv, h.get? f = some (PySem.W.kla_obj "<lambda>" q params body scope cells pm cc tv)
section
variable {X : Cx} {pins : List (Addr × Obj)} {σ : L2.St} {H : Hp} {s : Shared}
/-- x(), in a def that the lambda's maker called: Z is that def's context, entered at s -/
theorem pe_actC {CXg : CXT} {Eg : XK} {Ng : List Str} {qg : Str} {sg : Scope} {g f cc : Addr} {cdg : Value} {params : Arguments} {body : Expr} {scope : Scope} {k i : Nat} {a : Str} {pn : List (Addr × Obj)} {xe : Value → Shared → Prop} {W : WX} {E : XK} {tb : TE} {p1 p2 : Pos}
    (I : Inv X pins σ H s) (L : LamX.LamS X.env.scope scope) (binds : ∀ (pm cv ctv : Value), bindArgs (PySem.W.kla_fn "<lambda>" (X.env.qual ++ "<lambda>") params body scope (cloFrom X.env.cells scope.names []) pm cv ctv) ⟨[], []⟩ = pure [])
    (takes : Takes ((cxOf CXg X.prog X.w X.K X.mg X.base Ng qg sg g cdg X.A X.stack s H Eg).tr pn xe) W) (hW : ∀ cls d σ' H', E cls d H' → W cls d σ' H') (room : Room (k + 1) (X.A.deeper (envOfC qg sg s.heap.objs.size g cdg)))
    (runs : ∀ (A : Around) (outer : List Env) (s : Shared) (H : Hp), Room k (A.deeper (LamX.lamEnv X scope s.heap.objs.size f cc)) → PE (LamX.lamCx X A outer s H E scope f cc) body tb)
    (hN : Ng[i]? = some a) (hv : Vis sg a) (hd : (a == ("__debug__" : Str)) = false := by decide) (hcd : (a == ("__classdict__" : Str)) = false := by decide) :
    PE ((cxOf CXg X.prog X.w X.K X.mg X.base Ng qg sg g cdg X.A X.stack s H Eg).tr pn xe) (.Call (.Name a p1) [] [] p2)
      (fun σZ HZ Q => σZ[i]? = some (some (.ref f)) ∧ HZ f = some (LamC f (X.env.qual ++ "<lambda>") params body scope (cloFrom X.env.cells scope.names []) cc) ∧ HZ cc = some (LamX.CodeO cc (X.env.qual ++ "<lambda>")) ∧ tb σ HZ Q) := by
  refine ⟨fun pz tz uz Hz Q Iz ask => ?_⟩
  obtain ⟨isf, atf, atc, ask⟩ := ask
  refine wpAny_Call_Name_kw (thn ((pe_var (pos := p1) (i := i) hN hv hd hcd).run pz tz uz Hz (fun v H1 => v = .ref f ∧ H1 = Hz) Iz ⟨.ref f, isf, rfl, rfl⟩) fun u sv ⟨v, H1, J1, rel, ends⟩ => ?_)
  obtain ⟨rfl, eqH⟩ := ends
  rw [eqH] at J1
  obtain rfl : u = Value.ref f := rel
  obtain ⟨⟨pm, tv, objf⟩, _, _⟩ := J1.hok f _ atf
  refine PySem.W.callWith_F0 ⟨_, _, _, _, objf⟩ ?_
  obtain ⟨⟨oc, vs, t, objc, datac, qualc⟩, _, _⟩ := J1.hok cc _ atc
  have ran : codeAny (model X.prog X.w) (X.A.deeper (envOfC qg sg s.heap.objs.size g cdg)) (.call (.ref f) ⟨[], []⟩) (CR (L2.CX X.prog X.w) (envOfC qg sg s.heap.objs.size g cdg :: X.stack) X.prog X.w Hz sv Q E) sv := by
    refine PySem.W.kla_callFunE room.depth objf rfl L.co L.gen rfl ⟨cc, oc, vs, t, rfl, objc, datac, qualc⟩ ?_
    rw [binds]
    refine wpAny_pure (wpAny_newFunctionEnv (fun y hy => (L.own y hy).2) (fun y hy => absurd hy (by simp)) (fun hN newNs steps => ⟨J1.nolimit.fresh _ steps, ?_⟩) L.kind)
    show codeAny _ _ (.expr body (LamX.lamEnv X scope sv.heap.objs.size f cc)) _ _
    have stays : ∀ b o, sv.heap.get? b = some o → hN.get? b = some o := fun b o e => steps.extBut b o (Nat.ne_of_lt (Heap.lt_size e)) (Heap.get?_push_of_some _ e)
    have Jv : Inv (LamX.lamCx X (X.A.deeper (envOfC qg sg s.heap.objs.size g cdg)) (envOfC qg sg s.heap.objs.size g cdg :: X.stack) sv Hz E scope f cc) [] σ Hz { sv with heap := hN, toks := sv.toks + ([] : List (Str × Value)).length } :=
      LamX.lam_start2 I L J1.env0 room.hd J1.base newNs stays
    refine PySem.W.kla_codeExpr (wpAny_mono ((runs _ _ sv Hz (room.deeper _)).run [] _ _ Hz Q Jv ask) (fun v s' got => ?_) fun e s' got => got)
    obtain ⟨wv, Hv, Kv, rv, q⟩ := got
    exact ⟨wv, Hv, Kv.os, Kv.bare, Kv.base, Kv.hok, rv, q⟩
  refine wpAny_call (codeAny_mono ran fun r s' got => ?_)
  cases r with
  | error e => exact (passes_call takes hW) pz uz Hz sv e s' J1 got
  | ok fl =>
    cases fl with
    | ret u => exact J1.after got
    | next => exact False.elim got
    | brk => exact False.elim got
    | cont => exact False.elim got
end
/-- _law_told(e), e a lambda of this very def, kept with its cells -/
def tToldC (X : Cx) (c : Nat → Addr) (k : Nat) (ta : TA) : TE := fun σ H Q => ta σ H fun vs H1 => ∃ (f cc : Addr) (params : Arguments) (body : Expr) (scope : Scope) (t : XK → TE), vs = [.ref f] ∧ H1 f = some (LamC f (X.env.qual ++ "<lambda>") params body scope (cloFrom X.env.cells scope.names []) cc) ∧ H1 cc = some (LamX.CodeO cc (X.env.qual ++ "<lambda>")) ∧ LamX.LamS X.env.scope scope ∧
  (∀ (pm cv ctv : Value), bindArgs (PySem.W.kla_fn "<lambda>" (X.env.qual ++ "<lambda>") params body scope (cloFrom X.env.cells scope.names []) pm cv ctv) ⟨[], []⟩ = pure []) ∧
  (∀ (A : Around) (outer : List Env) (s : Shared) (H : Hp) (E : XK), Room k (A.deeper (LamX.lamEnv X scope s.heap.objs.size f cc)) → PE (LamX.lamCx X A outer s H E scope f cc) body (t E)) ∧ t (ETold c Q) σ H1 Q
theorem pe_toldC {X : Cx} {c : Nat → Addr} {k : Nat} {g : Addr} {oc kV dc pm cdv ct : Value} {od an : Option Addr} {osl : Array (Option Value)} {p pos : Pos} {e : Expr} {ta : TA} (B : Exs X.K X.mg c) (hm : X.mg "_law_told" = some (.ref g)) (kp : PySem.W.keepIn X.K (.ref g) = true)
    (lk : X.K.lookup g = some ⟨oc, od, .func (PySem.W.fnOf "_law_told" "_law_told" (defArgs sTold) (defBody sTold) (defScope sTold) .none kV dc pm an cdv ct), osl⟩) (hcg : PySem.W.codeIn X.K cdv "_law_told" = true) (b : Binds X.K (PySem.W.fnOf "_law_told" "_law_told" (defArgs sTold) (defBody sTold) (defScope sTold) .none kV dc pm an cdv ct) ["what"] [])
    (room : Room (k + 2) X.A) (ha : PA X [e] ta) (hg : Gl X "_law_told" := by rfl) (he : starEach [e] X.env = (false, eval e X.env) :: starEach [] X.env := by rfl) (hpl : (backTo pos (starEach [] X.env)).any (·.1) = false := by rfl) :
    PE X (.Call (.Name "_law_told" p) [e] [] pos) (tToldC X c k ta) := by
  refine ⟨fun pins s σ H Q I h => ?_⟩
  refine wpAny_Call_Name_kw (ld_glob I hg hm ?_ (by decide))
  refine PySem.W.callWith_K (h₀ := X.base) I.ok.mod.kin kp (thn (ha.run pos pins s σ H _ I h) fun us s1 ⟨vs, H1, I1, r, q⟩ => ⟨I1.kIn, ?_⟩) he hpl
  obtain ⟨f, cc, params, body, scope, t, rfl, atf, atc, L, binds, runs, q⟩ := q
  obtain rfl : us = [Value.ref f] := Vals.ref1 r
  have ran : codeAny (model X.prog X.w) X.A (.call (.ref g) ⟨[.ref f], []⟩) (CR (L2.CX X.prog X.w) X.stack X.prog X.w H1 s1 Q E0) s1 := by
    refine LamX.run_ofS (N := ["what"]) (ps := ["what"]) (us := [.ref f]) (vs := [.ref f]) lk hcg scTold room I1.env0 (b s1 [.ref f] I1.kIn rfl) (.cons rfl .nil) rfl fun room' => ?_
    refine ⟨_, pss_one (ps_try_many (tb := fun W D σZ HZ => ∃ E' : XK, (∀ cls d σ' H', E' cls d H' → W cls d σ' H') ∧ σZ[0]? = some (some (.ref f)) ∧ HZ f = some (LamC f (X.env.qual ++ "<lambda>") params body scope (cloFrom X.env.cells scope.names []) cc) ∧ HZ cc = some (LamX.CodeO cc (X.env.qual ++ "<lambda>")) ∧ t E' σ HZ D.rt) rfl rfl takes_none5
        (fun W pn xe tk _ => ⟨fun pz s' uz Hz D Iz h' => ?_⟩)
        (HdsOk.cons ⟨rfl, by decide, .inl (B.e 0 (by decide)).g⟩ (fun _ _ _ _ _ _ _ => pss_one (ps_ret pe_str)) (HdsOk.cons ⟨rfl, by decide, .inl (B.e 1 (by decide)).g⟩ (fun _ _ _ _ _ _ _ => pss_one (ps_ret pe_str)) (HdsOk.cons ⟨rfl, by decide, .inl (B.e 2 (by decide)).g⟩ (fun _ _ _ _ _ _ _ => pss_one (ps_ret pe_str)) (HdsOk.cons ⟨rfl, by decide, .inl (B.e 3 (by decide)).g⟩ (fun _ _ _ _ _ _ _ => pss_one (ps_ret pe_str)) (HdsOk.cons ⟨rfl, by decide, .inl (B.e 4 (by decide)).g⟩ (fun _ _ _ _ _ _ _ => pss_one (ps_ret pe_str)) (HdsOk.cons ⟨rfl, by decide, .inl (B.e 5 (by decide)).g⟩ (fun _ _ _ _ _ _ _ => pss_one (ps_ret pe_str)) (HdsOk.cons ⟨rfl, by decide, .inl (B.e 6 (by decide)).g⟩ (fun _ _ _ _ _ _ _ => pss_one (ps_ret pe_str)) (HdsOk.cons ⟨rfl, by decide, .inl (B.e 7 (by decide)).g⟩ (fun _ _ _ _ _ _ _ => pss_one (ps_ret pe_str)) (HdsOk.cons ⟨rfl, by decide, .inl (B.e 8 (by decide)).g⟩ (fun _ _ _ _ _ _ _ => pss_one (ps_ret pe_str)) (HdsOk.cons ⟨rfl, by decide, .inl (B.e 9 (by decide)).g⟩ (fun _ _ _ _ _ _ _ => pss_one (ps_ret pe_str)) (HdsOk.cons ⟨rfl, by decide, .inl (B.e 10 (by decide)).g⟩ (fun _ _ _ _ _ _ _ => pss_one (ps_ret pe_str)) (HdsOk.nil))))))))))))), ?_⟩
    · obtain ⟨E', hE, g1, g2, g3, g4⟩ := h'
      exact (pss_one (ps_ret (pe_actC (E := E') (i := 0) (k := k) I1 L binds tk hE room' (fun A outer s H hr2 => runs A outer s H E' hr2) rfl (.inl rfl)))).run pz s' uz Hz D Iz ⟨g1, g2, g3, g4⟩
    · refine ⟨ETold c Q, fun cls d σ' H' hE => ?_, rfl, atf, atc, q⟩
      obtain ⟨i, hi, rfl, q⟩ := hE
      exact ⟨decide (i = 0), B.m i 0 hi (by omega), fun hb _ _ => (by obtain rfl : i = 0 := of_decide_eq_true hb; exact q), fun hb0 => (by have n0 := of_decide_eq_false hb0; exact ⟨decide (i = 1), B.m i 1 hi (by omega), fun hb _ _ => (by obtain rfl : i = 1 := of_decide_eq_true hb; exact q), fun hb1 => (by have n1 := of_decide_eq_false hb1; exact ⟨decide (i = 2), B.m i 2 hi (by omega), fun hb _ _ => (by obtain rfl : i = 2 := of_decide_eq_true hb; exact q), fun hb2 => (by have n2 := of_decide_eq_false hb2; exact ⟨decide (i = 3), B.m i 3 hi (by omega), fun hb _ _ => (by obtain rfl : i = 3 := of_decide_eq_true hb; exact q), fun hb3 => (by have n3 := of_decide_eq_false hb3; exact ⟨decide (i = 4), B.m i 4 hi (by omega), fun hb _ _ => (by obtain rfl : i = 4 := of_decide_eq_true hb; exact q), fun hb4 => (by have n4 := of_decide_eq_false hb4; exact ⟨decide (i = 5), B.m i 5 hi (by omega), fun hb _ _ => (by obtain rfl : i = 5 := of_decide_eq_true hb; exact q), fun hb5 => (by have n5 := of_decide_eq_false hb5; exact ⟨decide (i = 6), B.m i 6 hi (by omega), fun hb _ _ => (by obtain rfl : i = 6 := of_decide_eq_true hb; exact q), fun hb6 => (by have n6 := of_decide_eq_false hb6; exact ⟨decide (i = 7), B.m i 7 hi (by omega), fun hb _ _ => (by obtain rfl : i = 7 := of_decide_eq_true hb; exact q), fun hb7 => (by have n7 := of_decide_eq_false hb7; exact ⟨decide (i = 8), B.m i 8 hi (by omega), fun hb _ _ => (by obtain rfl : i = 8 := of_decide_eq_true hb; exact q), fun hb8 => (by have n8 := of_decide_eq_false hb8; exact ⟨decide (i = 9), B.m i 9 hi (by omega), fun hb _ _ => (by obtain rfl : i = 9 := of_decide_eq_true hb; exact q), fun hb9 => (by have n9 := of_decide_eq_false hb9; exact ⟨decide (i = 10), B.m i 10 hi (by omega), fun hb _ _ => (by obtain rfl : i = 10 := of_decide_eq_true hb; exact q), fun hb10 => (by have n10 := of_decide_eq_false hb10; exact (by omega : False).elim)⟩)⟩)⟩)⟩)⟩)⟩)⟩)⟩)⟩)⟩)⟩
  refine wpAny_call (codeAny_mono ran fun r s2 got => ?_)
  cases r with
  | error e => exact passL pins σ H1 s1 e s2 I1 got
  | ok fl =>
    cases fl with
    | ret u => exact I1.after got
    | next => exact False.elim got
    | brk => exact False.elim got
    | cont => exact False.elim got
end Rw
namespace Rw
open PySem PySem.Spec PyProof.Rows L2 Evl Cy
/-! ### kinds of values: what stands for what -/
structure Ty (α : Type) where
  r : Hp → V → α → Prop
  up : ∀ {H H' : Hp} {v : V} {x : α}, Ex H H' → r H v x → r H' v x
inductive All2 {α β : Type} (R : α → β → Prop) : List α → List β → Prop
  | nil : All2 R [] []
  | cons {a b l m} : R a b → All2 R l m → All2 R (a :: l) (b :: m)
namespace All2
variable {α β : Type} {R S : α → β → Prop} {l : List α} {m : List β}
theorem imp (h : All2 R l m) (k : ∀ a b, R a b → S a b) : All2 S l m := by
  induction h with
  | nil => exact .nil
  | cons r _ ih => exact .cons (k _ _ r) ih
theorem len (h : All2 R l m) : l.length = m.length := by
  induction h with
  | nil => rfl
  | cons _ _ ih => rw [List.length_cons, List.length_cons, ih]
theorem app {l' : List α} {m' : List β} (h : All2 R l m) (k : All2 R l' m') : All2 R (l ++ l') (m ++ m') := by
  induction h with
  | nil => exact k
  | cons r _ ih => exact .cons r ih
theorem one {a : α} {b : β} (h : R a b) : All2 R [a] [b] := .cons h .nil
theorem at_ (h : All2 R l m) : ∀ {i : Nat} {a : α}, l[i]? = some a → ∃ b, m[i]? = some b ∧ R a b := by
  induction h with
  | nil => intro i a e; simp at e
  | cons r _ ih =>
    intro i a e
    cases i with
    | zero => exact ⟨_, rfl, by simp at e; rw [← e]; exact r⟩
    | succ i => exact ih (by simpa using e)
theorem at2 (h : All2 R l m) : ∀ {i : Nat} {b : β}, m[i]? = some b → ∃ a, l[i]? = some a ∧ R a b := by
  induction h with
  | nil => intro i a e; simp at e
  | cons r _ ih =>
    intro i a e
    cases i with
    | zero => exact ⟨_, rfl, by simp at e; rw [← e]; exact r⟩
    | succ i => exact ih (by simpa using e)
end All2
def kI : Ty Int := ⟨fun _ v x => v = .int x, fun _ h => h⟩
def kB : Ty Bool := ⟨fun _ v x => v = .bl x, fun _ h => h⟩
def kS : Ty Str := ⟨fun _ v x => v = .str x, fun _ h => h⟩
def kN : Ty Unit := ⟨fun _ v _ => v = .non, fun _ h => h⟩
/-- a pointer to what may change -/
def kPtr (d : Addr) : Ty Unit := ⟨fun _ v _ => v = .ref d, fun _ h => h⟩
/-- None, or what stands for a value (and is not None) -/
def kO {α : Type} (t : Ty α) : Ty (Option α) := ⟨fun H v x => match x with | none => v = .non | some y => t.r H v y ∧ v ≠ .non, fun {H H' v x} e h => by
  cases x with
  | none => exact h
  | some y => exact ⟨t.up e h.1, h.2⟩⟩
section
variable (K : PySem.W.Frag) {α β γ δ ε ζ : Type}
theorem all2_up (t : Ty α) {H H' : Hp} (e : Ex H H') {vs : List V} {xs : List α} (h : All2 (t.r H) vs xs) : All2 (t.r H') vs xs := h.imp fun _ _ => t.up e
def kL (t : Ty α) : Ty (List α) := ⟨fun H v xs => ∃ p vs, v = .ref p ∧ SqL K H p vs ∧ All2 (t.r H) vs xs, fun e ⟨p, vs, a, b, c⟩ => ⟨p, vs, a, ex_l e b, all2_up t e c⟩⟩
def kT (t : Ty α) : Ty (List α) := ⟨fun H v xs => ∃ p vs, v = .ref p ∧ SqT K H p vs ∧ All2 (t.r H) vs xs, fun e ⟨p, vs, a, b, c⟩ => ⟨p, vs, a, ex_t e b, all2_up t e c⟩⟩
def k2 (a : Ty α) (b : Ty β) : Ty (α × β) := ⟨fun H v x => ∃ p u w, v = .ref p ∧ SqT K H p [u, w] ∧ a.r H u x.1 ∧ b.r H w x.2, fun e ⟨p, u, w, h1, h2, h3, h4⟩ => ⟨p, u, w, h1, ex_t e h2, a.up e h3, b.up e h4⟩⟩
def k3 (a : Ty α) (b : Ty β) (c : Ty γ) : Ty (α × β × γ) := ⟨fun H v x => ∃ p u1 u2 u3, v = .ref p ∧ SqT K H p [u1, u2, u3] ∧ a.r H u1 x.1 ∧ b.r H u2 x.2.1 ∧ c.r H u3 x.2.2, fun e ⟨p, u1, u2, u3, h1, h2, h3, h4, h5⟩ => ⟨p, u1, u2, u3, h1, ex_t e h2, a.up e h3, b.up e h4, c.up e h5⟩⟩
end
/-! ### the heap but for what may change -/
def del (M : List Addr) (H : Hp) : Hp := fun a => if a ∈ M then none else H a
section
variable {M A : List Addr} {H H' H1 H2 : Hp} {a d p : Addr} {o : HO}
theorem del_some : del M H a = some o ↔ a ∉ M ∧ H a = some o := by
  unfold del
  by_cases h : a ∈ M
  · simp [h]
  · simp [h]
theorem ex_del (e : Ex H H') : Ex (del M H) (del M H') := fun a o h => del_some.mpr ⟨(del_some.mp h).1, e _ _ (del_some.mp h).2⟩
theorem del_le : Ex (del M H) H := fun a o h => (del_some.mp h).2
/-- less is kept, more may change -/
theorem ex_sub (s : ∀ a ∈ A, a ∈ M) (e : Ex (del A H) (del A H')) : Ex (del M H) (del M H') := fun a o h => by
  obtain ⟨n, h⟩ := del_some.mp h
  exact del_some.mpr ⟨n, (del_some.mp (e a o (del_some.mpr ⟨fun z => n (s a z), h⟩))).2⟩
theorem ex_of {H H' : Hp} (e : Ex H H') : Ex (del A H) (del A H') := ex_del e
/-- something new becomes changeable -/
theorem del_new (h : H p = none) : Ex (del M H) (del (p :: M) H) := fun a o e => by
  obtain ⟨n, e⟩ := del_some.mp e
  refine del_some.mpr ⟨fun z => ?_, e⟩
  rcases List.mem_cons.mp z with z | z
  · rw [z, h] at e; cases e
  · exact n z
theorem del_free : Ex (del (p :: M) H) (del M H) := fun a o e => by
  obtain ⟨n, e⟩ := del_some.mp e
  exact del_some.mpr ⟨fun z => n (List.mem_cons_of_mem _ z), e⟩
theorem del_upd (h : d ∈ M) : del M (upd H d o) = del M H := by
  funext a
  unfold del
  by_cases k : a ∈ M
  · rw [if_pos k, if_pos k]
  · rw [if_neg k, if_neg k]
    exact upd_ne fun z => k (by rw [z]; exact h)
theorem del_nil : del [] H = H := rfl
end
/-! ### what may change, and what it is -/
structure Cell where
  a : Addr
  α : Type
  r : Hp → HO → α → Prop
  up : ∀ {H H' : Hp} {o : HO} {x : α}, Ex H H' → r H o x → r H' o x
  x : α
abbrev ads (S : List Cell) : List Addr := S.map (·.a)
structure Holds (M : List Addr) (S : List Cell) (H : Hp) : Prop where
  at_ : ∀ c ∈ S, c.a ∈ M ∧ ∃ o, H c.a = some o ∧ c.r (del M H) o c.x
  one : (ads S).Nodup
  live : ∀ m ∈ M, H m ≠ none
/-- three numbers: dice | a list in the making -/
def cDice (d : Addr) (x : Int × Int × Int) : Cell := ⟨d, Int × Int × Int, fun _ o x => o = .lst [.int x.1, .int x.2.1, .int x.2.2], fun _ h => h, x⟩
def cL {α : Type} (d : Addr) (t : Ty α) (x : List α) : Cell := ⟨d, List α, fun H o x => ∃ vs, o = .lst vs ∧ All2 (t.r H) vs x, fun e ⟨vs, a, b⟩ => ⟨vs, a, all2_up t e b⟩, x⟩
section
variable {M : List Addr} {S S' : List Cell} {H H' H1 H2 : Hp} {a d p : Addr} {o : HO}
theorem Holds.sub (w : Holds M S H) : ∀ a ∈ ads S, a ∈ M := fun a h => by
  obtain ⟨c, hc, e⟩ := List.mem_map.mp h
  rw [← e]
  exact (w.at_ c hc).1
theorem Holds.grow (w : Holds M S H) (e : Ex (del (ads S) H) (del (ads S) H')) : Ex (del M H) (del M H') := ex_sub w.sub e
theorem Holds.ex (w : Holds M S H) (e : Ex H H') : Holds M S H' :=
  ⟨fun c hc => let ⟨h1, o, h2, h3⟩ := w.at_ c hc; ⟨h1, o, e _ _ h2, c.up (ex_del e) h3⟩, w.one, fun m hm => by
    cases h : H m with
    | none => exact absurd h (w.live m hm)
    | some o => rw [e m o h]; exact fun z => nomatch z⟩
/-- a cell is written -/
theorem Holds.put {k : Nat} {c c' : Cell} (w : Holds M S H) (hk : S[k]? = some c) (ha : c'.a = c.a) (hr : c'.r (del M H) o c'.x) : Holds M (S.set k c') (upd H c.a o) := by
  have lt : k < S.length := (List.getElem?_eq_some_iff.mp hk).1
  have hm : c.a ∈ M := (w.at_ c (List.mem_of_getElem? hk)).1
  have e : ads (S.set k c') = ads S := by
    unfold ads
    rw [List.map_set]
    apply List.ext_getElem? fun i => ?_
    rw [List.getElem?_set]
    by_cases h : k = i
    · subst h
      rw [if_pos rfl, List.length_map, if_pos lt, List.getElem?_map, hk, ha]
      rfl
    · rw [if_neg h]
  refine ⟨fun x hx => ?_, by rw [e]; exact w.one, fun m hm => by
    unfold upd
    split
    · exact fun z => nomatch z
    · exact w.live m hm⟩
  rw [del_upd hm]
  obtain ⟨i, hi⟩ := List.mem_iff_getElem?.mp hx
  rw [List.getElem?_set] at hi
  by_cases h : k = i
  · subst h
    rw [if_pos rfl, if_pos lt] at hi
    obtain rfl := Option.some.inj hi
    exact ⟨by rw [ha]; exact hm, o, by rw [ha]; exact upd_same, hr⟩
  · rw [if_neg h] at hi
    obtain ⟨h1, u, h2, h3⟩ := w.at_ x (List.mem_of_getElem? hi)
    refine ⟨h1, u, ?_, h3⟩
    rw [upd_ne ?_]
    · exact h2
    · intro z
      have g1 : (ads S)[i]? = some x.a := by unfold ads; rw [List.getElem?_map, hi]; rfl
      have g2 : (ads S)[k]? = some c.a := by unfold ads; rw [List.getElem?_map, hk]; rfl
      rw [z] at g1
      have li : i < (ads S).length := (List.getElem?_eq_some_iff.mp g1).1
      have q := (List.getElem?_inj li w.one).mp (g1.trans g2.symm)
      exact h q.symm
theorem ads_set {k : Nat} {c c' : Cell} (hk : S[k]? = some c) (ha : c'.a = c.a) : ads (S.set k c') = ads S := by
  have lt : k < S.length := (List.getElem?_eq_some_iff.mp hk).1
  unfold ads
  rw [List.map_set]
  apply List.ext_getElem? fun i => ?_
  rw [List.getElem?_set]
  by_cases h : k = i
  · subst h
    rw [if_pos rfl, List.length_map, if_pos lt, List.getElem?_map, hk, ha]
    rfl
  · rw [if_neg h]
/-- something new that may change -/
theorem Holds.new {c : Cell} (w : Holds M S H) (hn : H c.a = none) (e : Ex H H') (hc : H' c.a = some o) (hr : c.r (del (c.a :: M) H') o c.x) : Holds (c.a :: M) (c :: S) H' := by
  have w' := w.ex e
  have nm : c.a ∉ M := fun z => w.live _ z hn
  refine ⟨fun x hx => ?_, ?_, fun m hm => ?_⟩
  · rcases List.mem_cons.mp hx with z | z
    · rw [z]
      exact ⟨List.mem_cons_self, o, hc, hr⟩
    · obtain ⟨h1, u, h2, h3⟩ := w.at_ x z
      exact ⟨List.mem_cons_of_mem _ h1, u, e _ _ h2, x.up ((del_new hn).trans (ex_del e)) h3⟩
  · show (c.a :: ads S).Nodup
    exact List.nodup_cons.mpr ⟨fun z => nm (w.sub _ z), w.one⟩
  · rcases List.mem_cons.mp hm with z | z
    · rw [z, hc]
      exact fun z => nomatch z
    · exact w'.live m z
/-- it changes no more -/
theorem Holds.drop {c : Cell} (w : Holds (c.a :: M) (c :: S) H) (hn : c.a ∉ M) : Holds M S H := by
  refine ⟨fun x hx => ?_, (List.nodup_cons.mp w.one).2, fun m hm => w.live m (List.mem_cons_of_mem _ hm)⟩
  obtain ⟨h1, u, h2, h3⟩ := w.at_ x (List.mem_cons_of_mem _ hx)
  refine ⟨?_, u, h2, x.up del_free h3⟩
  rcases List.mem_cons.mp h1 with z | z
  · exact absurd (List.mem_map.mpr ⟨x, hx, z⟩) (List.nodup_cons.mp w.one).1
  · exact z
end
end Rw
namespace Rw
open PySem PySem.Spec PyProof.Rows L2 Evl Cy
/-- an answer, or an error's kind -/
inductive Re (α : Type) where
  | ok (x : α)
  | er (k : Nat)
def Re.bind {α β : Type} (r : Re α) (f : α → Re β) : Re β := match r with | .ok x => f x | .er k => .er k
/-- what an expression comes to: from any heap that has I beside what may change (M, told by S) -/
structure Em {α : Type} (E : XK) (cl : Nat → Addr) (M : List Addr) (te : TE) (σ : L2.St) (I : Hp) (S : List Cell) (t : Ty α) (r : Re α) (S' : List Cell) : Prop where
  ad : ads S' = ads S
  run : ∀ H1, Ex I (del M H1) → Holds M S H1 → ∀ Q : VK, (∀ x v H2, r = .ok x → Ex (del (ads S) H1) (del (ads S) H2) → Holds M S' H2 → t.r (del M H2) v x → Q v H2) →
    (∀ k H2, r = .er k → Ex (del (ads S) H1) (del (ads S) H2) → Holds M S' H2 → E (.ref (cl k)) none H2) → te σ H1 Q
structure Et (E : XK) (cl : Nat → Addr) (M : List Addr) (tt : TT) (σ : L2.St) (I : Hp) (S : List Cell) (r : Re Bool) (S' : List Cell) : Prop where
  ad : ads S' = ads S
  run : ∀ H1, Ex I (del M H1) → Holds M S H1 → ∀ Q : Bool → Hp → Prop, (∀ b H2, r = .ok b → Ex (del (ads S) H1) (del (ads S) H2) → Holds M S' H2 → Q b H2) →
    (∀ k H2, r = .er k → Ex (del (ads S) H1) (del (ads S) H2) → Holds M S' H2 → E (.ref (cl k)) none H2) → tt σ H1 Q
structure Ea {α : Type} (E : XK) (cl : Nat → Addr) (M : List Addr) (ta : TA) (σ : L2.St) (I : Hp) (S : List Cell) (A : Hp → List V → α → Prop) (r : Re α) (S' : List Cell) : Prop where
  ad : ads S' = ads S
  run : ∀ H1, Ex I (del M H1) → Holds M S H1 → ∀ Q : List V → Hp → Prop, (∀ x vs H2, r = .ok x → Ex (del (ads S) H1) (del (ads S) H2) → Holds M S' H2 → A (del M H2) vs x → Q vs H2) →
    (∀ k H2, r = .er k → Ex (del (ads S) H1) (del (ads S) H2) → Holds M S' H2 → E (.ref (cl k)) none H2) → ta σ H1 Q
abbrev AR (α : Type) := Hp → List V → α → Prop
def a0 : AR Unit := fun _ vs _ => vs = []
def aC {α β : Type} (t : Ty α) (A : AR β) : AR (α × β) := fun H vs a => ∃ v r, vs = v :: r ∧ t.r H v a.1 ∧ A H r a.2
/-- an operation on values -/
def Op2 {α β γ : Type} (r : R2) (q1 : Ty α) (x : α) (q2 : Ty β) (y : β) (q3 : Ty γ) (z : γ) : Prop :=
  ∀ (M : List Addr) (u w : V) (H : Hp), (∀ m ∈ M, H m ≠ none) → q1.r (del M H) u x → q2.r (del M H) w y → ∀ Q : VK, (∀ v H', Ex H H' → q3.r (del M H') v z → Q v H') → r u w H Q
def Op1 {α γ : Type} (r : V → Hp → VK → Prop) (q1 : Ty α) (x : α) (q3 : Ty γ) (z : γ) : Prop :=
  ∀ (M : List Addr) (u : V) (H : Hp), (∀ m ∈ M, H m ≠ none) → q1.r (del M H) u x → ∀ Q : VK, (∀ v H', Ex H H' → q3.r (del M H') v z → Q v H') → r u H Q
def OpN {α γ : Type} (r : List V → Hp → VK → Prop) (A : AR α) (x : α) (q3 : Ty γ) (z : γ) : Prop :=
  ∀ (M : List Addr) (us : List V) (H : Hp), (∀ m ∈ M, H m ≠ none) → A (del M H) us x → ∀ Q : VK, (∀ v H', Ex H H' → q3.r (del M H') v z → Q v H') → r us H Q
section
variable {α β γ δ : Type} {E : XK} {cl : Nat → Addr} {M : List Addr} {σ : L2.St} {I I' H H' : Hp} {S S' S1 S2 S3 : List Cell} {te ta tb tc to : TE} {tt tu : TT} {tr : TA} {t : Ty α} {u : Ty β} {w : Ty γ} {x : α} {y : β} {z : γ} {v : V}
theorem ads_tr (a : ads S1 = ads S) (e1 : Ex (del (ads S) H) (del (ads S) H')) {H2 : Hp} (e2 : Ex (del (ads S1) H') (del (ads S1) H2)) : Ex (del (ads S) H) (del (ads S) H2) := by
  rw [a] at e2
  exact e1.trans e2
theorem Em.mono (h : Em E cl M te σ I S t (.ok x) S') (e : Ex I I') : Em E cl M te σ I' S t (.ok x) S' := ⟨h.ad, fun H1 a => h.run H1 (e.trans a)⟩
theorem em_eq {x' : α} (h : Em E cl M te σ I S t (.ok x) S') (e : x = x') : Em E cl M te σ I S t (.ok x') S' := by
  rw [← e]
  exact h
theorem et_eq {b b' : Bool} (h : Et E cl M tt σ I S (.ok b) S') (e : b = b') : Et E cl M tt σ I S (.ok b') S' := by
  rw [← e]
  exact h
/-- another kind of the same value -/
theorem em_ty {t' : Ty β} {x' : β} (h : Em E cl M te σ I S t (.ok x) S') (k : ∀ H v, t.r H v x → t'.r H v x') : Em E cl M te σ I S t' (.ok x') S' :=
  ⟨h.ad, fun H1 a b Q q _ => h.run H1 a b Q (fun x2 v H2 e f g r => q _ v H2 rfl f g (by cases e; exact k _ _ r)) (fun k H2 e => nomatch e)⟩
/-- nothing is raised: from a plain evaluation -/
theorem em_mk (a : ads S' = ads S) (h : ∀ H1, Ex I (del M H1) → Holds M S H1 → ∀ Q : VK, (∀ v H2, Ex (del (ads S) H1) (del (ads S) H2) → Holds M S' H2 → t.r (del M H2) v x → Q v H2) → te σ H1 Q) : Em E cl M te σ I S t (.ok x) S' :=
  ⟨a, fun H1 i w Q q _ => h H1 i w Q fun v H2 e w' r => q x v H2 rfl e w' r⟩
theorem em_of (h : Em E cl M te σ I S t (.ok x) S') (H1 : Hp) (i : Ex I (del M H1)) (w : Holds M S H1) (Q : VK) (q : ∀ v H2, Ex (del (ads S) H1) (del (ads S) H2) → Holds M S' H2 → t.r (del M H2) v x → Q v H2) : te σ H1 Q :=
  h.run H1 i w Q (fun x2 v H2 e f g r => q v H2 f g (by cases e; exact r)) (fun k H2 e => nomatch e)
theorem et_of {b : Bool} (h : Et E cl M tt σ I S (.ok b) S') (H1 : Hp) (i : Ex I (del M H1)) (w : Holds M S H1) (Q : Bool → Hp → Prop) (q : ∀ H2, Ex (del (ads S) H1) (del (ads S) H2) → Holds M S' H2 → Q b H2) : tt σ H1 Q :=
  h.run H1 i w Q (fun x2 H2 e f g => by cases e; exact q H2 f g) (fun k H2 e => nomatch e)
theorem ea_of {A : AR α} (h : Ea E cl M tr σ I S A (.ok x) S') (H1 : Hp) (i : Ex I (del M H1)) (w : Holds M S H1) (Q : List V → Hp → Prop) (q : ∀ vs H2, Ex (del (ads S) H1) (del (ads S) H2) → Holds M S' H2 → A (del M H2) vs x → Q vs H2) : tr σ H1 Q :=
  h.run H1 i w Q (fun x2 v H2 e f g r => q v H2 f g (by cases e; exact r)) (fun k H2 e => nomatch e)
theorem et_mk {b : Bool} (a : ads S' = ads S) (h : ∀ H1, Ex I (del M H1) → Holds M S H1 → ∀ Q : Bool → Hp → Prop, (∀ H2, Ex (del (ads S) H1) (del (ads S) H2) → Holds M S' H2 → Q b H2) → tt σ H1 Q) : Et E cl M tt σ I S (.ok b) S' :=
  ⟨a, fun H1 i w Q q _ => h H1 i w Q fun H2 e w' => q b H2 rfl e w'⟩
theorem em_var {i : Nat} (h : σ[i]? = some (some v)) (r : t.r I v x) : Em E cl M (tVar i) σ I S t (.ok x) S :=
  em_mk rfl fun H1 i w Q q => ⟨v, h, q v H1 (Ex.refl _) w (t.up i r)⟩
theorem em_c (r : t.r I v x) : Em E cl M (tC v) σ I S t (.ok x) S :=
  em_mk rfl fun H1 i w Q q => q v H1 (Ex.refl _) w (t.up i r)
theorem em_int {i : Int} : Em E cl M (tC (.int i)) σ I S kI (.ok i) S := em_c rfl
theorem em_bl {b : Bool} : Em E cl M (tC (.bl b)) σ I S kB (.ok b) S := em_c rfl
theorem em_str {s : Str} : Em E cl M (tC (.str s)) σ I S kS (.ok s) S := em_c rfl
theorem em_op {r : R2} (ha : Em E cl M ta σ I S t (.ok x) S1) (hb : Em E cl M tb σ I S1 u (.ok y) S2) (ho : Op2 r t x u y w z) : Em E cl M (tOp r ta tb) σ I S w (.ok z) S2 :=
  em_mk (hb.ad.trans ha.ad) fun H1 i w Q q => em_of ha H1 i w _ fun v1 H2 e1 w1 r1 => em_of hb H2 (i.trans (w.grow e1)) w1 _ fun v2 H3 e2 w2 r2 =>
    ho M v1 v2 H3 w2.live (t.up (w1.grow e2) r1) r2 Q fun v H4 e3 r3 => q v H4 ((ads_tr ha.ad e1 e2).trans (ex_del e3)) (w2.ex e3) r3
theorem em_un {r : V → Hp → VK → Prop} (ha : Em E cl M ta σ I S t (.ok x) S1) (ho : Op1 r t x w z) : Em E cl M (tUn r ta) σ I S w (.ok z) S1 :=
  em_mk ha.ad fun H1 i w Q q => em_of ha H1 i w _ fun v1 H2 e1 w1 r1 => ho M v1 H2 w1.live r1 Q fun v H4 e3 r3 => q v H4 (e1.trans (ex_del e3)) (w1.ex e3) r3
/-- a < b < c, nothing changed by the last -/
theorem em_chain {r r' : R2} {b b' : Bool} (ha : Em E cl M ta σ I S t (.ok x) S1) (hb : Em E cl M tb σ I S1 u (.ok y) S2) (hc : b = true → Em E cl M tc σ I S2 w (.ok z) S2) (ho : Op2 r t x u y kB b) (ho' : Op2 r' u y w z kB b') : Em E cl M (tChain r r' ta tb tc) σ I S kB (.ok (b && b')) S2 :=
  em_mk (hb.ad.trans ha.ad) fun H1 i w Q q => em_of ha H1 i w _ fun v1 H2 e1 w1 r1 => em_of hb H2 (i.trans (w.grow e1)) w1 _ fun v2 H3 e2 w2 r2 =>
    ho M v1 v2 H3 w2.live (t.up (w1.grow e2) r1) r2 _ fun v H4 e3 r3 => by
      have e13 := (ads_tr ha.ad e1 e2).trans (ex_del e3)
      refine ⟨b, r3, ?_⟩
      cases b with
      | true =>
        rw [if_pos rfl]
        refine em_of (hc rfl) H4 (i.trans (w.grow e13)) (w2.ex e3) _ fun v4 H5 e4 w4 r4 => ?_
        have a2 : ads S2 = ads S := hb.ad.trans ha.ad
        have w3 := w2.ex e3
        refine ho' M v2 v4 H5 w4.live (u.up ((ex_del e3).trans (w3.grow e4)) r2) r4 Q fun v5 H6 e5 r5 => q v5 H6 ((ads_tr a2 e13 e4).trans (ex_del e5)) (w4.ex e5) ?_
        rw [Bool.true_and]
        exact r5
      | false =>
        rw [if_neg Bool.false_ne_true]
        exact q _ H4 e13 (w2.ex e3) rfl
/-- tests -/
theorem gt_test {b : Bool} (h : Em E cl M te σ I S kB (.ok b) S') : Et E cl M (tTest te) σ I S (.ok b) S' := et_mk h.ad fun H1 i w Q q => em_of h H1 i w _ fun v H2 e w' r => ⟨b, r, q H2 e w'⟩
theorem gt_B {b : Bool} (h : Em E cl M te σ I S kB (.ok b) S') : Et E cl M (L2.tB te) σ I S (.ok b) S' := et_mk h.ad fun H1 i w Q q => em_of h H1 i w _ fun v H2 e w' r => ⟨b, r, q H2 e w'⟩
theorem gt_yes : Et E cl M tYes σ I S (.ok true) S := et_mk rfl fun H1 i w Q q => q H1 (Ex.refl _) w
theorem gt_not {b : Bool} (h : Et E cl M tt σ I S (.ok b) S') : Et E cl M (tNot tt) σ I S (.ok (!b)) S' := et_mk h.ad fun H1 i w Q q => et_of h H1 i w _ fun H2 e w' => q H2 e w'
theorem gt_and {a b : Bool} (h : Et E cl M tt σ I S (.ok a) S1) (k : a = true → Et E cl M tu σ I S1 (.ok b) S1) : Et E cl M (tAnd tt tu) σ I S (.ok (a && b)) S1 := et_mk h.ad fun H1 i w Q q => et_of h H1 i w _ fun H2 e w' => by
  cases a with
  | true =>
    rw [if_pos rfl]
    exact et_of (k rfl) H2 (i.trans (w.grow e)) w' _ fun H3 e2 w2 => q H3 (ads_tr h.ad e e2) w2
  | false =>
    rw [if_neg Bool.false_ne_true]
    exact q H2 e w'
theorem gt_or {a b : Bool} (h : Et E cl M tt σ I S (.ok a) S1) (k : a = false → Et E cl M tu σ I S1 (.ok b) S1) : Et E cl M (tOr tt tu) σ I S (.ok (a || b)) S1 := et_mk h.ad fun H1 i w Q q => et_of h H1 i w _ fun H2 e w' => by
  cases a with
  | true =>
    rw [if_pos rfl]
    exact q H2 e w'
  | false =>
    rw [if_neg Bool.false_ne_true]
    exact et_of (k rfl) H2 (i.trans (w.grow e)) w' _ fun H3 e2 w2 => q H3 (ads_tr h.ad e e2) w2
theorem em_andV {a b : Bool} (h : Em E cl M ta σ I S kB (.ok a) S1) (k : a = true → Em E cl M tb σ I S1 kB (.ok b) S1) : Em E cl M (tAndV ta tb) σ I S kB (.ok (a && b)) S1 := em_mk h.ad fun H1 i w Q q => em_of h H1 i w _ fun v H2 e w' r => by
  refine ⟨a, r, ?_⟩
  cases a with
  | true =>
    rw [if_pos rfl]
    exact em_of (k rfl) H2 (i.trans (w.grow e)) w' _ fun v2 H3 e2 w2 r2 => q v2 H3 (ads_tr h.ad e e2) w2 r2
  | false =>
    rw [if_neg Bool.false_ne_true]
    exact q _ H2 e w' rfl
theorem em_orV {a b : Bool} (h : Em E cl M ta σ I S kB (.ok a) S1) (k : a = false → Em E cl M tb σ I S1 kB (.ok b) S1) : Em E cl M (tOrV ta tb) σ I S kB (.ok (a || b)) S1 := em_mk h.ad fun H1 i w Q q => em_of h H1 i w _ fun v H2 e w' r => by
  refine ⟨a, r, ?_⟩
  cases a with
  | true =>
    rw [if_pos rfl]
    exact q _ H2 e w' rfl
  | false =>
    rw [if_neg Bool.false_ne_true]
    exact em_of (k rfl) H2 (i.trans (w.grow e)) w' _ fun v2 H3 e2 w2 r2 => q v2 H3 (ads_tr h.ad e e2) w2 r2
theorem em_notV {a : Bool} (h : Em E cl M ta σ I S kB (.ok a) S1) : Em E cl M (tNotV ta) σ I S kB (.ok (!a)) S1 := em_mk h.ad fun H1 i w Q q => em_of h H1 i w _ fun v H2 e w' r => ⟨a, r, q _ H2 e w' rfl⟩
theorem em_if {b : Bool} {x' : α} (h : Et E cl M tt σ I S (.ok b) S1) (h1 : b = true → Em E cl M ta σ I S1 t (.ok x) S1) (h2 : b = false → Em E cl M tb σ I S1 t (.ok x') S1) : Em E cl M (tIf tt ta tb) σ I S t (.ok (cond b x x')) S1 := em_mk h.ad fun H1 i w Q q => et_of h H1 i w _ fun H2 e w' => by
  cases b with
  | true =>
    rw [if_pos rfl]
    exact em_of (h1 rfl) H2 (i.trans (w.grow e)) w' _ fun v2 H3 e2 w2 r2 => q v2 H3 (ads_tr h.ad e e2) w2 r2
  | false =>
    rw [if_neg Bool.false_ne_true]
    exact em_of (h2 rfl) H2 (i.trans (w.grow e)) w' _ fun v2 H3 e2 w2 r2 => q v2 H3 (ads_tr h.ad e e2) w2 r2
/-- arguments, displays -/
theorem em_nil : Ea E cl M tNil σ I S a0 (.ok ()) S := ⟨rfl, fun H1 i w Q q _ => q () [] H1 rfl (Ex.refl _) w rfl⟩
theorem em_cons {A : AR β} (h : Em E cl M te σ I S t (.ok x) S1) (k : Ea E cl M tr σ I S1 A (.ok y) S2) : Ea E cl M (tCons te tr) σ I S (aC t A) (.ok (x, y)) S2 :=
  ⟨k.ad.trans h.ad, fun H1 i w Q q _ => em_of h H1 i w _ fun v H2 e w1 r => ea_of k H2 (i.trans (w.grow e)) w1 _ fun vs H3 e2 w2 r2 => q (x, y) (v :: vs) H3 rfl (ads_tr h.ad e e2) w2 ⟨v, vs, rfl, t.up (w1.grow e2) r, r2⟩⟩
variable (K : PySem.W.Frag)
theorem fresh_not {M : List Addr} {H : Hp} {p : Addr} (l : ∀ m ∈ M, H m ≠ none) (h : H p = none) : p ∉ M := fun z => l p z h
theorem del_at {M : List Addr} {H : Hp} {p : Addr} {o : HO} (n : p ∉ M) (h : H p = some o) : del M H p = some o := del_some.mpr ⟨n, h⟩
theorem em_t2 (h : Ea E cl M tr σ I S (aC t (aC u a0)) (.ok (x, y, ())) S') : Em E cl M (tTup tr) σ I S (k2 K t u) (.ok (x, y)) S' :=
  em_mk h.ad fun H1 i w Q q => ea_of h H1 i w _ fun vs H2 e w1 r => by
    obtain ⟨v1, r1, rfl, g1, v2, r2, rfl, g2, rfl⟩ := r
    refine ⟨by show 2 ≤ sizeLine; decide, fun p hp => q _ _ (e.trans (ex_del (Ex.new hp))) (w1.ex (Ex.new hp)) ⟨p, v1, v2, rfl, st_of (del_at (fresh_not w1.live hp) upd_same), t.up (ex_del (Ex.new hp)) g1, u.up (ex_del (Ex.new hp)) g2⟩⟩
theorem em_t3 (h : Ea E cl M tr σ I S (aC t (aC u (aC w a0))) (.ok (x, y, z, ())) S') : Em E cl M (tTup tr) σ I S (k3 K t u w) (.ok (x, y, z)) S' :=
  em_mk h.ad fun H1 i w0 Q q => ea_of h H1 i w0 _ fun vs H2 e w1 r => by
    obtain ⟨v1, r1, rfl, g1, v2, r2, rfl, g2, v3, r3, rfl, g3, rfl⟩ := r
    refine ⟨by show 3 ≤ sizeLine; decide, fun p hp => q _ _ (e.trans (ex_del (Ex.new hp))) (w1.ex (Ex.new hp)) ⟨p, v1, v2, v3, rfl, st_of (del_at (fresh_not w1.live hp) upd_same), t.up (ex_del (Ex.new hp)) g1, u.up (ex_del (Ex.new hp)) g2, w.up (ex_del (Ex.new hp)) g3⟩⟩
/-- all of one kind -/
def aL (t : Ty α) : AR (List α) := fun H vs xs => All2 (t.r H) vs xs
theorem em_nilL : Ea E cl M tNil σ I S (aL t) (.ok []) S := ⟨rfl, fun H1 i w Q q _ => q _ [] H1 rfl (Ex.refl _) w .nil⟩
theorem em_consL {xs : List α} (h : Em E cl M te σ I S t (.ok x) S1) (k : Ea E cl M tr σ I S1 (aL t) (.ok xs) S2) : Ea E cl M (tCons te tr) σ I S (aL t) (.ok (x :: xs)) S2 :=
  ⟨k.ad.trans h.ad, fun H1 i w Q q _ => em_of h H1 i w _ fun v H2 e w1 r => ea_of k H2 (i.trans (w.grow e)) w1 _ fun vs H3 e2 w2 r2 => q _ (v :: vs) H3 rfl (ads_tr h.ad e e2) w2 (.cons (t.up (w1.grow e2) r) r2)⟩
theorem em_lst {xs : List α} (h : Ea E cl M tr σ I S (aL t) (.ok xs) S') (hl : xs.length ≤ 100000) : Em E cl M (tLst tr) σ I S (kL K t) (.ok xs) S' :=
  em_mk h.ad fun H1 i w Q q => ea_of h H1 i w _ fun vs H2 e w1 r => ⟨sz_of (by rw [r.len]; exact hl), fun p hp => q _ _ (e.trans (ex_del (Ex.new hp))) (w1.ex (Ex.new hp)) ⟨p, vs, rfl, sq_of (del_at (fresh_not w1.live hp) upd_same), all2_up t (ex_del (Ex.new hp)) r⟩⟩
theorem em_tupL {xs : List α} (h : Ea E cl M tr σ I S (aL t) (.ok xs) S') (hl : xs.length ≤ 100000) : Em E cl M (tTup tr) σ I S (kT K t) (.ok xs) S' :=
  em_mk h.ad fun H1 i w Q q => ea_of h H1 i w _ fun vs H2 e w1 r => ⟨sz_of (by rw [r.len]; exact hl), fun p hp => q _ _ (e.trans (ex_del (Ex.new hp))) (w1.ex (Ex.new hp)) ⟨p, vs, rfl, st_of (del_at (fresh_not w1.live hp) upd_same), all2_up t (ex_del (Ex.new hp)) r⟩⟩
variable {K}
theorem em_cb {A : AR α} {r : List V → Hp → VK → Prop} (h : Ea E cl M tr σ I S A (.ok x) S') (ho : OpN r A x w z) : Em E cl M (tCB r tr) σ I S w (.ok z) S' :=
  em_mk h.ad fun H1 i w Q q => ea_of h H1 i w _ fun vs H2 e w1 r => ho M vs H2 w1.live r Q fun v H3 e3 r3 => q v H3 (e.trans (ex_del e3)) (w1.ex e3) r3
end
/-! ### operations -/
section
variable {K : PySem.W.Frag} {α β γ : Type} {i j : Int} {b c : Bool} {s s' : Str} {t : Ty α} {u : Ty β}
theorem o_I {g : Int → Int → Int} : Op2 (rI0 fun i j => .int (g i j)) kI i kI j kI (g i j) := fun M u w H l a b Q q => ⟨i, j, a, b, q _ H (Ex.refl H) rfl⟩
theorem o_IB {g : Int → Int → Bool} : Op2 (rI0 fun i j => .bl (g i j)) kI i kI j kB (g i j) := fun M u w H l a b Q q => ⟨i, j, a, b, q _ H (Ex.refl H) rfl⟩
theorem o_IC {C : Int → Int → Prop} {g : Int → Int → Int} (h : C i j) : Op2 (rI C fun i j => .int (g i j)) kI i kI j kI (g i j) := fun M u w H l a b Q q => ⟨i, j, a, b, h, q _ H (Ex.refl H) rfl⟩
theorem o_eqI : Op2 rEq kI i kI j kB (decide (i = j)) := fun M u w H l a b Q q => by
  cases a; cases b
  exact ⟨rfl, q _ H (Ex.refl H) (by show V.bl _ = V.bl _; congr 1; simp)⟩
theorem o_neI : Op2 rNe kI i kI j kB (!decide (i = j)) := fun M u w H l a b Q q => by
  cases a; cases b
  exact ⟨rfl, q _ H (Ex.refl H) (by show V.bl _ = V.bl _; congr 1; simp)⟩
theorem o_eqS : Op2 rEq kS s kS s' kB (decide (s = s')) := fun M u w H l a b Q q => by
  cases a; cases b
  exact ⟨rfl, q _ H (Ex.refl H) (by show V.bl _ = V.bl _; congr 1; simp)⟩
theorem o_neS : Op2 rNe kS s kS s' kB (!decide (s = s')) := fun M u w H l a b Q q => by
  cases a; cases b
  exact ⟨rfl, q _ H (Ex.refl H) (by show V.bl _ = V.bl _; congr 1; simp)⟩
theorem o_eqB : Op2 rEq kB b kB c kB (decide (b = c)) := fun M u w H l a b Q q => by
  cases a; cases b
  exact ⟨rfl, q _ H (Ex.refl H) (by show V.bl _ = V.bl _; congr 1; simp)⟩
theorem o_neB : Op2 rNe kB b kB c kB (!decide (b = c)) := fun M u w H l a b Q q => by
  cases a; cases b
  exact ⟨rfl, q _ H (Ex.refl H) (by show V.bl _ = V.bl _; congr 1; simp)⟩
theorem o_ixL {xs : List α} {n : Nat} {x : α} (h : xs[n]? = some x) (hi : i = (n : Int)) : Op2 (rIxL K) (kL K t) xs kI i t x := fun M u w H l a b Q q => by
  obtain ⟨p, vs, rfl, hp, ha⟩ := a
  obtain rfl : w = .int i := b
  obtain ⟨v, hv, hr⟩ := ha.at2 h
  exact ⟨p, vs, i, v, rfl, rfl, ex_l del_le hp, by rw [hi]; exact atI_nat hv, q v H (Ex.refl H) hr⟩
theorem o_ixT {xs : List α} {n : Nat} {x : α} (h : xs[n]? = some x) (hi : i = (n : Int)) : Op2 (rIxT K) (kT K t) xs kI i t x := fun M u w H l a b Q q => by
  obtain ⟨p, vs, rfl, hp, ha⟩ := a
  obtain rfl : w = .int i := b
  obtain ⟨v, hv, hr⟩ := ha.at2 h
  exact ⟨p, vs, i, v, rfl, rfl, ex_t del_le hp, by rw [hi]; exact atI_nat hv, q v H (Ex.refl H) hr⟩
theorem o_ix20 {x : α × β} : Op2 (rIxT K) (k2 K t u) x kI 0 t x.1 := fun M v w H l a b Q q => by
  obtain ⟨p, v1, v2, rfl, hp, h1, h2⟩ := a
  obtain rfl : w = .int 0 := b
  exact ⟨p, _, 0, v1, rfl, rfl, ex_t del_le hp, rfl, q _ H (Ex.refl H) h1⟩
theorem o_ix21 {x : α × β} : Op2 (rIxT K) (k2 K t u) x kI 1 u x.2 := fun M v w H l a b Q q => by
  obtain ⟨p, v1, v2, rfl, hp, h1, h2⟩ := a
  obtain rfl : w = .int 1 := b
  exact ⟨p, _, 1, v2, rfl, rfl, ex_t del_le hp, rfl, q _ H (Ex.refl H) h2⟩
theorem o_ix30 {w : Ty γ} {x : α × β × γ} : Op2 (rIxT K) (k3 K t u w) x kI 0 t x.1 := fun M v w H l a b Q q => by
  obtain ⟨p, v1, v2, v3, rfl, hp, h1, h2, h3⟩ := a
  obtain rfl : w = .int 0 := b
  exact ⟨p, _, 0, v1, rfl, rfl, ex_t del_le hp, rfl, q _ H (Ex.refl H) h1⟩
theorem o_ix31 {w : Ty γ} {x : α × β × γ} : Op2 (rIxT K) (k3 K t u w) x kI 1 u x.2.1 := fun M v w H l a b Q q => by
  obtain ⟨p, v1, v2, v3, rfl, hp, h1, h2, h3⟩ := a
  obtain rfl : w = .int 1 := b
  exact ⟨p, _, 1, v2, rfl, rfl, ex_t del_le hp, rfl, q _ H (Ex.refl H) h2⟩
theorem o_ix32 {w : Ty γ} {x : α × β × γ} : Op2 (rIxT K) (k3 K t u w) x kI 2 w x.2.2 := fun M v w H l a b Q q => by
  obtain ⟨p, v1, v2, v3, rfl, hp, h1, h2, h3⟩ := a
  obtain rfl : w = .int 2 := b
  exact ⟨p, _, 2, v3, rfl, rfl, ex_t del_le hp, rfl, q _ H (Ex.refl H) h3⟩
end
end Rw
namespace Rw
open PySem PySem.Spec PyProof.Rows L2 Evl Cy
/-! ### walks -/
def rng (lo hi : Int) : List Int := (List.range (hi - lo).toNat).map fun (k : Nat) => lo + (k : Int)
theorem rng_len {lo hi : Int} : (rng lo hi).length = (hi - lo).toNat := by unfold rng; rw [List.length_map, List.length_range]
theorem rng_at {lo hi x : Int} {i : Nat} (h : (rng lo hi)[i]? = some x) : x = lo + (i : Int) ∧ i < (hi - lo).toNat := by
  have l := (List.getElem?_eq_some_iff.mp h).1
  rw [rng_len] at l
  unfold rng at h
  rw [List.getElem?_map, List.getElem?_range l] at h
  exact ⟨(Option.some.inj h).symm, l⟩
theorem rng_mem {lo hi x : Int} : x ∈ rng lo hi ↔ lo ≤ x ∧ x < hi := by
  unfold rng
  rw [List.mem_map]
  constructor
  · rintro ⟨k, hk, rfl⟩
    rw [List.mem_range] at hk
    omega
  · intro h
    exact ⟨(x - lo).toNat, by rw [List.mem_range]; omega, by omega⟩
structure Ei {α : Type} (E : XK) (cl : Nat → Addr) (M : List Addr) (wi : TI) (σ : L2.St) (I : Hp) (S : List Cell) (t : Ty α) (xs : List α) (S' : List Cell) : Prop where
  ad : ads S' = ads S
  run : ∀ H1, Ex I (del M H1) → Holds M S H1 → ∀ R : It → Hp → Prop, (∀ J H2 G Y, Ex (del (ads S) H1) (del (ads S) H2) → Holds M S' H2 → Walk J xs.length G Y → (∀ H', Ex (del M H2) (del M H') → G H') →
    (∀ i H v H' x, xs[i]? = some x → Ex (del M H2) (del M H) → Y i H v H' → Ex H H' ∧ ∀ M', (∀ m ∈ M', H m ≠ none) → Ex (del M H2) (del M' H) → t.r (del M' H') v x) → R J H2) → wi σ H1 R
def Eg {α : Type} (g : TG) (t : Ty α) (σ : L2.St) (B : Hp → α → L2.St → Prop) : Prop := ∀ v H x I, t.r I v x → Ex I H → ∀ k : L2.St → Hp → Prop, (∀ σ', B I x σ' → k σ' H) → g v σ H k
section
variable {K : PySem.W.Frag} {α β γ δ R τ : Type} {E : XK} {cl : Nat → Addr} {M : List Addr} {σ : L2.St} {I I' H H' : Hp} {S S' S1 S2 S3 : List Cell} {te ta tb tc to : TE} {tt : TT} {tr : TA} {t : Ty α} {u : Ty β} {w' : Ty γ} {x : α} {y : β} {v : V} {xs : List α}
theorem ei_L (h : Em E cl M te σ I S (kL K t) (.ok xs) S') : Ei E cl M (iList K te) σ I S t xs S' :=
  ⟨h.ad, fun H1 i w R q => em_of h H1 i w _ fun v H2 e w1 r => by
    obtain ⟨p, vs, rfl, hp, ha⟩ := r
    refine ⟨p, rfl, ⟨vs, ex_l del_le hp⟩, q _ H2 (fun H => SqL K H p vs) _ e w1 (by rw [← ha.len]; exact walk_list) (fun H' e2 => ex_l (e2.trans del_le) hp) ?_⟩
    intro i H v H' x hx e2 y
    obtain ⟨rfl, hv⟩ := y
    obtain ⟨v', hv', r⟩ := ha.at2 hx
    rw [hv] at hv'
    obtain rfl := Option.some.inj hv'
    exact ⟨Ex.refl _, fun M' l e3 => t.up e3 r⟩⟩
theorem ei_T (h : Em E cl M te σ I S (kT K t) (.ok xs) S') : Ei E cl M (iTup K te) σ I S t xs S' :=
  ⟨h.ad, fun H1 i w R q => em_of h H1 i w _ fun v H2 e w1 r => by
    obtain ⟨p, vs, rfl, hp, ha⟩ := r
    refine ⟨p, rfl, ⟨vs, ex_t del_le hp⟩, q _ H2 (fun H => SqT K H p vs) _ e w1 (by rw [← ha.len]; exact walk_tup) (fun H' e2 => ex_t (e2.trans del_le) hp) ?_⟩
    intro i H v H' x hx e2 y
    obtain ⟨rfl, hv⟩ := y
    obtain ⟨v', hv', r⟩ := ha.at2 hx
    rw [hv] at hv'
    obtain rfl := Option.some.inj hv'
    exact ⟨Ex.refl _, fun M' l e3 => t.up e3 r⟩⟩
theorem ei_R1 {n : Int} (h : Ea E cl M tr σ I S (aC kI a0) (.ok (n, ())) S') (b : -(2 ^ 62) ≤ n ∧ n < 2 ^ 62) : Ei E cl M (iRng1 tr) σ I S kI (rng 0 n) S' :=
  ⟨h.ad, fun H1 i w R q => ea_of h H1 i w _ fun vs H2 e w1 r => by
    obtain ⟨v, rs, rfl, rfl, rfl⟩ := r
    refine ⟨n, rfl, b.1, b.2, q _ H2 (fun _ => True) _ e w1 (by rw [rng_len, show n - 0 = n by omega]; exact walk_range) (fun _ _ => trivial) ?_⟩
    intro i H v H' x hx e2 y
    obtain ⟨rfl, rfl⟩ := y
    exact ⟨Ex.refl _, fun M' l e3 => by rw [(rng_at hx).1]; rfl⟩⟩
theorem ei_R2 {lo n : Int} (h : Ea E cl M tr σ I S (aC kI (aC kI a0)) (.ok (lo, n, ())) S') (b : -(2 ^ 62) ≤ lo ∧ lo < 2 ^ 62 ∧ -(2 ^ 62) ≤ n ∧ n < 2 ^ 62) : Ei E cl M (iRng2 tr) σ I S kI (rng lo n) S' :=
  ⟨h.ad, fun H1 i w R q => ea_of h H1 i w _ fun vs H2 e w1 r => by
    obtain ⟨v, rs, rfl, rfl, v2, rs2, rfl, rfl, rfl⟩ := r
    refine ⟨lo, n, rfl, b, q _ H2 (fun _ => True) _ e w1 (by rw [rng_len]; exact walk_range) (fun _ _ => trivial) ?_⟩
    intro i H v H' x hx e2 y
    obtain ⟨rfl, rfl⟩ := y
    exact ⟨Ex.refl _, fun M' l e3 => by rw [(rng_at hx).1]; rfl⟩⟩
/-! ### targets -/
theorem eg_name {j : Nat} : Eg (gName j) t σ (fun I x σ' => ∃ v, t.r I v x ∧ σ' = σ.set j (some v)) := fun v H x I r e k q => q _ ⟨v, r, rfl⟩
theorem eg_2 {i j : Nat} : Eg (gTup K 2 (gCons (gName i) (gCons (gName j) gNil))) (k2 K t u) σ (fun I x σ' => ∃ v w, t.r I v x.1 ∧ u.r I w x.2 ∧ σ' = (σ.set i (some v)).set j (some w)) := fun v H x I r e k q => by
  obtain ⟨p, v1, v2, rfl, hp, h1, h2⟩ := r
  exact ⟨p, _, rfl, ex_t e hp, rfl, v1, [v2], rfl, v2, [], rfl, rfl, q _ ⟨v1, v2, h1, h2, rfl⟩⟩
theorem eg_3 {i j l : Nat} : Eg (gTup K 3 (gCons (gName i) (gCons (gName j) (gCons (gName l) gNil)))) (k3 K t u w') σ (fun I x σ' => ∃ v1 v2 v3, t.r I v1 x.1 ∧ u.r I v2 x.2.1 ∧ w'.r I v3 x.2.2 ∧ σ' = ((σ.set i (some v1)).set j (some v2)).set l (some v3)) := fun v H x I r e k q => by
  obtain ⟨p, v1, v2, v3, rfl, hp, h1, h2, h3⟩ := r
  exact ⟨p, _, rfl, ex_t e hp, rfl, v1, [v2, v3], rfl, v2, [v3], rfl, v3, [], rfl, rfl, q _ ⟨v1, v2, v3, h1, h2, h3, rfl⟩⟩
/-! ### comprehensions -/
theorem all2_new (t : Ty α) {D : Addr} {H : Hp} {vs : List V} (h : H D = none) (a : All2 (t.r (del M H)) vs xs) : All2 (t.r (del (D :: M) H)) vs xs := all2_up t (del_new h) a
theorem ex_lone {D : Addr} {H2 H' : Hp} {o : HO} (hD : H2 D = none) (e : Ex (del (D :: M) (upd H2 D o)) (del (D :: M) H')) : Ex (del M H2) (del (D :: M) H') := fun a u h => by
  obtain ⟨n, h⟩ := del_some.mp h
  have nd : a ≠ D := fun z => by rw [z, hD] at h; cases h
  exact e a u (del_some.mpr ⟨fun z => by rcases List.mem_cons.mp z with z | z; exact nd z; exact n z, by rw [upd_ne nd]; exact h⟩)
theorem del_le2 {D : Addr} {H : Hp} : Ex (del (D :: M) H) (del M H) := del_free
/-- the tests and the elements may change what may change: s told by Sx -/
def runE {β τ : Type} (ct : α → τ → Bool × τ) (f : α → τ → β × τ) : List α → τ → List β × τ
  | [], s => ([], s)
  | x :: xs, s => if (ct x s).1 = true then ((f x (ct x s).2).1 :: (runE ct f xs (f x (ct x s).2).2).1, (runE ct f xs (f x (ct x s).2).2).2) else runE ct f xs (ct x s).2
theorem runE_app {ct : α → τ → Bool × τ} {f : α → τ → β × τ} : ∀ (xs : List α) (x : α) (s : τ), runE ct f (xs ++ [x]) s =
    (if (ct x (runE ct f xs s).2).1 = true then ((runE ct f xs s).1 ++ [(f x (ct x (runE ct f xs s).2).2).1], (f x (ct x (runE ct f xs s).2).2).2) else ((runE ct f xs s).1, (ct x (runE ct f xs s).2).2))
  | [], x, s => by
    show runE ct f [x] s = _
    simp only [runE, List.nil_append]
    rfl
  | a :: xs, x, s => by
    simp only [List.cons_append, runE]
    by_cases h : (ct a s).1 = true
    · simp only [if_pos h]
      rw [runE_app xs x]
      split <;> rfl
    · simp only [if_neg h]
      exact runE_app xs x _
theorem em_lcE {wi : TI} {g : TG} {vs : List Nat} {B : Hp → α → L2.St → Prop} {ct : α → τ → Bool × τ} {f : α → τ → β × τ} {Sx : τ → List Cell} {s0 : τ} (hi : Ei E cl M wi σ I S t xs (Sx s0)) (hz : xs.length ≤ 100000 - 1) (hS : ∀ s, ads (Sx s) = ads (Sx s0))
    (hg : Eg g t (wipe σ vs) B) (hw : ∀ I x σ', B I x σ' → wipe σ' vs = wipe σ vs)
    (ht : ∀ D acc I' x s σ', Ex I I' → x ∈ xs → B I' x σ' → Et E cl (D :: M) tt σ' I' (cL D u acc :: Sx s) (.ok (ct x s).1) (cL D u acc :: Sx (ct x s).2))
    (he : ∀ D acc I' x s σ', Ex I I' → x ∈ xs → (ct x s).1 = true → B I' x σ' → Em E cl (D :: M) te σ' I' (cL D u acc :: Sx (ct x s).2) u (.ok (f x (ct x s).2).1) (cL D u acc :: Sx (f x (ct x s).2).2)) :
    Em E cl M (tLc wi g tt te vs) σ I S (kL K u) (.ok (runE ct f xs s0).1) (Sx (runE ct f xs s0).2) := by
  refine em_mk ((hS _).trans hi.ad) fun H0 i0 w0 Q q => hi.run H0 i0 w0 _ fun J H2 G Y e2 w2 wk gG gY D hD => ?_
  let acc : Nat → List β := fun i => (runE ct f (xs.take i) s0).1
  let st : Nat → τ := fun i => (runE ct f (xs.take i) s0).2
  let Pv : Nat → Hp → Prop := fun i H' => Holds (D :: M) (cL D u (acc i) :: Sx (st i)) H' ∧ Ex (del (D :: ads (Sx s0)) (upd H2 D (.lst []))) (del (D :: ads (Sx s0)) H')
  have dM : D ∉ M := fresh_not w2.live hD
  have toM : ∀ {i H'}, Pv i H' → Ex (del M H2) (del (D :: M) H') := fun {i H'} p => by
    refine ex_lone (o := .lst []) hD (ex_sub (A := D :: ads (Sx s0)) (fun a h => ?_) p.2)
    rcases List.mem_cons.mp h with z | z
    · rw [z]; exact List.mem_cons_self
    · exact List.mem_cons_of_mem _ (w2.sub a z)
  have stop : ∀ i, i < xs.length → ∃ x, xs[i]? = some x := fun i hi => ⟨xs[i], by simp [hi]⟩
  have accLen : ∀ i, (acc i).length ≤ i := by
    intro i
    have : ∀ (l : List α) (s : τ), (runE ct f l s).1.length ≤ l.length := by
      intro l
      induction l with
      | nil => intro s; exact Nat.le_refl _
      | cons a l ih =>
        intro s
        simp only [runE]
        split
        · simp only [List.length_cons]
          exact Nat.succ_le_succ (ih _)
        · exact Nat.le_succ_of_le (ih _)
    exact Nat.le_trans (this _ _) (by rw [List.length_take]; omega)
  refine lc_it wk Pv ⟨?_, Ex.refl _⟩ (fun i H' hi p => gG H' ((toM p).trans del_le2)) (fun i v H Hy hi p y => ?_) (fun H' p => ?_)
  · have e0 : acc 0 = [] := by show (runE ct f (xs.take 0) s0).1 = []; rw [List.take_zero]; rfl
    have e1 : st 0 = s0 := by show (runE ct f (xs.take 0) s0).2 = s0; rw [List.take_zero]; rfl
    show Holds (D :: M) (cL D u (acc 0) :: Sx (st 0)) _
    rw [e0, e1]
    exact w2.new (c := cL D u []) hD (Ex.new hD) upd_same ⟨[], rfl, .nil⟩
  · obtain ⟨x, hx⟩ := stop i hi
    have xm : x ∈ xs := List.mem_of_getElem? hx
    obtain ⟨eH, rv⟩ := gY i H v Hy x hx ((toM p).trans del_le2) y
    have rx := rv (D :: M) p.1.live (toM p)
    have wy := p.1.ex eH
    have i1 : Ex I (del (D :: M) Hy) := ((i0.trans (w0.grow e2)).trans (toM p)).trans (ex_del eH)
    refine hg v Hy x _ rx del_le _ fun σ' b => ⟨hw _ x σ' b, ?_⟩
    have tk : xs.take (i + 1) = xs.take i ++ [x] := by rw [List.take_add_one, hx]; rfl
    have nx : runE ct f (xs.take (i + 1)) s0 = (if (ct x (st i)).1 = true then (acc i ++ [(f x (ct x (st i)).2).1], (f x (ct x (st i)).2).2) else (acc i, (ct x (st i)).2)) := by rw [tk, runE_app]
    have fr : Ex (del (D :: ads (Sx s0)) (upd H2 D (.lst []))) (del (D :: ads (Sx s0)) Hy) := p.2.trans (ex_del eH)
    have same : ∀ s, ads (cL D u (acc i) :: Sx s) = D :: ads (Sx s0) := fun s => by show D :: ads (Sx s) = _; rw [hS s]
    refine et_of (ht D (acc i) _ x (st i) σ' i1 xm b) Hy (Ex.refl _) wy _ fun H3 e3 w3 => ?_
    rw [same] at e3
    cases hc : (ct x (st i)).1 with
    | true =>
      rw [if_pos rfl]
      have i3 : Ex (del (D :: M) Hy) (del (D :: M) H3) := wy.grow (by rw [same]; exact e3)
      refine em_of (he D (acc i) _ x _ σ' i1 xm hc b) H3 i3 w3 _ fun vy H4 e4 w4 r4 => ?_
      rw [same] at e4
      obtain ⟨_, o4, h4, ys, rfl, a4⟩ := w4.at_ _ List.mem_cons_self
      refine ⟨ys, h4, ?_, ?_, ?_⟩
      · rw [All2.len a4]
        exact sz_lt (by have := accLen i; show (acc i).length < _; omega)
      · have a1 : acc (i + 1) = acc i ++ [(f x (ct x (st i)).2).1] := by show (runE ct f (xs.take (i + 1)) s0).1 = _; rw [nx]; simp [hc]
        have s1 : st (i + 1) = (f x (ct x (st i)).2).2 := by show (runE ct f (xs.take (i + 1)) s0).2 = _; rw [nx]; simp [hc]
        show Holds (D :: M) (cL D u (acc (i + 1)) :: Sx (st (i + 1))) _
        rw [a1, s1]
        exact w4.put (k := 0) (c := cL D u (acc i)) (c' := cL D u (acc i ++ [(f x (ct x (st i)).2).1])) rfl rfl ⟨_, rfl, a4.app (.one r4)⟩
      · rw [show del (D :: ads (Sx s0)) (upd H4 D (.lst (ys ++ [vy]))) = del (D :: ads (Sx s0)) H4 from del_upd List.mem_cons_self]
        exact (fr.trans e3).trans e4
    | false =>
      rw [if_neg Bool.false_ne_true]
      refine ⟨?_, fr.trans e3⟩
      have a1 : acc (i + 1) = acc i := by show (runE ct f (xs.take (i + 1)) s0).1 = _; rw [nx]; simp [hc]
      have s1 : st (i + 1) = (ct x (st i)).2 := by show (runE ct f (xs.take (i + 1)) s0).2 = _; rw [nx]; simp [hc]
      rw [a1, s1]
      exact w3
  · have al : acc xs.length = (runE ct f xs s0).1 := by show (runE ct f (xs.take xs.length) s0).1 = _; rw [List.take_length]
    have sl : st xs.length = (runE ct f xs s0).2 := by show (runE ct f (xs.take xs.length) s0).2 = _; rw [List.take_length]
    obtain ⟨pw, pe⟩ := p
    rw [al, sl] at pw
    obtain ⟨_, o4, h4, ys, rfl, a4⟩ := pw.at_ _ List.mem_cons_self
    refine q _ H' ?_ (pw.drop (c := cL D u _) dM) ⟨D, ys, rfl, sq_of (del_at dM h4), all2_up u del_le2 a4⟩
    rw [← hi.ad]
    rw [← hi.ad] at e2
    exact e2.trans ((ex_lone (M := ads (Sx s0)) hD pe).trans del_le2)
/-- nothing changed by them -/
theorem runE_pure {c : α → Bool} {f : α → β} : ∀ (xs : List α) (s : τ), runE (fun x s => (c x, s)) (fun x s => (f x, s)) xs s = ((xs.filter c).map f, s)
  | [], s => rfl
  | x :: xs, s => by
    simp only [runE]
    rw [runE_pure xs s]
    cases h : c x
    · simp [List.filter_cons, h]
    · simp [List.filter_cons, h]
theorem em_lc {wi : TI} {g : TG} {vs : List Nat} {B : Hp → α → L2.St → Prop} (c : α → Bool) (f : α → β) (hi : Ei E cl M wi σ I S t xs S1) (hz : xs.length ≤ 100000 - 1) (hg : Eg g t (wipe σ vs) B) (hw : ∀ I x σ', B I x σ' → wipe σ' vs = wipe σ vs)
    (ht : ∀ M' S' I' x σ', Ex I I' → x ∈ xs → B I' x σ' → Et E cl M' tt σ' I' S' (.ok (c x)) S') (he : ∀ M' S' I' x σ', Ex I I' → x ∈ xs → c x = true → B I' x σ' → Em E cl M' te σ' I' S' u (.ok (f x)) S') :
    Em E cl M (tLc wi g tt te vs) σ I S (kL K u) (.ok ((xs.filter c).map f)) S1 := by
  have h := em_lcE (K := K) (u := u) (te := te) (tt := tt) (ct := fun x (s : Unit) => (c x, s)) (f := fun x (s : Unit) => (f x, s)) (Sx := fun _ => S1) (s0 := ()) hi hz (fun _ => rfl) hg hw (fun D acc I' x s σ' a b d => ht _ _ I' x σ' a b d) (fun D acc I' x s σ' a b d z => he _ _ I' x σ' a b d z)
  rw [runE_pure] at h
  exact h
end
end Rw
namespace Rw
open PySem PySem.Spec PyProof.Rows L2 Evl Cy
/-! ### a mirror's words -/
/-- a value, then the rest -/
def lt {α R : Type} (x : α) (k : α → R) : R := k x
/-- a value or an error, then the rest -/
def lr {α β : Type} (r : Re α) (k : α → Re β) : Re β := match r with | .ok x => k x | .er e => .er e
/-- a part with what comes behind it -/
def jn {τ R : Type} (k : τ → R) (b : (τ → R) → R) : R := b k
/-- a for: the turn is told how to go on and how to stop -/
def forK {α τ R : Type} (b : α → τ → (τ → R) → (τ → R) → R) (k : τ → R) : List α → τ → R
  | [], s => k s
  | x :: xs, s => b x s (fun s' => forK b k xs s') k
/-- a while, so many turns at most -/
def whK {τ R : Type} (c : τ → Bool) (b : τ → (τ → R) → (τ → R) → R) (k : τ → R) : Nat → τ → R
  | 0, s => k s
  | n + 1, s => cond (c s) (b s (fun s' => whK c b k n s') k) (k s)
section
variable {K : PySem.W.Frag} {α β γ δ R τ : Type} {E : XK} {cl : Nat → Addr} {M : List Addr} {σ : L2.St} {I I' H H' : Hp} {S S' S1 S2 S3 : List Cell} {te ta tb tc to : TE} {tt : TT} {tr : TA} {t : Ty α} {u : Ty β} {x : α} {y : β} {v : V} {xs : List α} {P : R → Prop} {k : α → R} {D : Ends} {tz tu tw : TS} {g : TG}
/-- what is kept from H to H2 -/
structure Gr (M : List Addr) (S : List Cell) (H H2 : Hp) : Prop where
  fr : Ex (del (ads S) H) (del (ads S) H2)
  im : Ex (del M H) (del M H2)
theorem Gr.of (w : Holds M S H) (e : Ex (del (ads S) H) (del (ads S) H')) : Gr M S H H' := ⟨e, w.grow e⟩
theorem g_asg {i : Nat} (w : Holds M S H) (o : P (lt x k)) (h : Em E cl M te σ (del M H) S t (.ok x) S') (c : ∀ x' v H2, x' = x → P (k x') → Gr M S H H2 → Holds M S' H2 → t.r (del M H2) v x' → tz D (σ.set i (some v)) H2) : tSeq (tAsg te (gName i)) tz D σ H :=
  em_of h H (Ex.refl _) w _ fun v H2 e w2 r => c x v H2 rfl o (.of w e) w2 r
theorem g_asgL {i : Nat} (w : Holds M S H) (o : P (lt x k)) (h : Em E cl M te σ (del M H) S t (.ok x) S') (c : ∀ x' v H2, x' = x → P (k x') → Gr M S H H2 → Holds M S' H2 → t.r (del M H2) v x' → D.nx (σ.set i (some v)) H2) : tAsg te (gName i) D σ H :=
  em_of h H (Ex.refl _) w _ fun v H2 e w2 r => c x v H2 rfl o (.of w e) w2 r
/-- the same of any target -/
theorem g_asgG {B : Hp → α → L2.St → Prop} (w : Holds M S H) (hg : Eg g t σ B) (o : P (lt x k)) (h : Em E cl M te σ (del M H) S t (.ok x) S') (c : ∀ x' σ' H2, x' = x → P (k x') → Gr M S H H2 → Holds M S' H2 → B (del M H2) x' σ' → tz D σ' H2) : tSeq (tAsg te g) tz D σ H :=
  em_of h H (Ex.refl _) w _ fun v H2 e w2 r => hg v H2 x _ r del_le _ fun σ' b => c x σ' H2 rfl o (.of w e) w2 b
/-- an error may leave it -/
theorem g_asgX {i : Nat} {P : Re β → Prop} {k : α → Re β} {r : Re α} (w : Holds M S H) (o : P (lr r k)) (h : Em E cl M te σ (del M H) S t r S') (c : ∀ x' v H2, r = .ok x' → P (k x') → Gr M S H H2 → Holds M S' H2 → t.r (del M H2) v x' → tz D (σ.set i (some v)) H2)
    (c2 : ∀ e H2, r = .er e → P (.er e) → Gr M S H H2 → Holds M S' H2 → E (.ref (cl e)) none H2) : tSeq (tAsg te (gName i)) tz D σ H :=
  h.run H (Ex.refl _) w _ (fun x v H2 z e w2 r => c x v H2 z (by subst z; exact o) (.of w e) w2 r) fun e H2 z e2 w2 => c2 e H2 z (by subst z; exact o) (.of w e2) w2
theorem g_asgGX {B : Hp → α → L2.St → Prop} {P : Re β → Prop} {k : α → Re β} {r : Re α} (w : Holds M S H) (hg : Eg g t σ B) (o : P (lr r k)) (h : Em E cl M te σ (del M H) S t r S') (c : ∀ x' σ' H2, r = .ok x' → P (k x') → Gr M S H H2 → Holds M S' H2 → B (del M H2) x' σ' → tz D σ' H2)
    (c2 : ∀ e H2, r = .er e → P (.er e) → Gr M S H H2 → Holds M S' H2 → E (.ref (cl e)) none H2) : tSeq (tAsg te g) tz D σ H :=
  h.run H (Ex.refl _) w _ (fun x v H2 z e w2 r => hg v H2 x _ r del_le _ fun σ' b => c x σ' H2 z (by subst z; exact o) (.of w e) w2 b) fun e H2 z e2 w2 => c2 e H2 z (by subst z; exact o) (.of w e2) w2
/-- a, b = x, y -/
theorem g_par {i j : Nat} {kk : α → β → R} (w : Holds M S H) (o : P (lt x fun a => lt y fun b => kk a b)) (h : Ea E cl M tr σ (del M H) S (aC t (aC u a0)) (.ok (x, y, ())) S') (c : ∀ x' y' v1 v2 H2, x' = x → y' = y → P (kk x' y') → Gr M S H H2 → Holds M S' H2 → t.r (del M H2) v1 x' → u.r (del M H2) v2 y' → tz D ((σ.set i (some v1)).set j (some v2)) H2) : tSeq (tPar i j tr) tz D σ H :=
  ea_of h H (Ex.refl _) w _ fun vs H2 e w2 r => by
    obtain ⟨v1, r1, rfl, g1, v2, r2, rfl, g2, rfl⟩ := r
    exact ⟨v1, v2, rfl, c x y v1 v2 H2 rfl rfl o (.of w e) w2 g1 g2⟩
theorem g_if {A B : R} {b : Bool} (w : Holds M S H) (o : P (cond b A B)) (h : Et E cl M tt σ (del M H) S (.ok b) S') (c1 : b = true → P A → ∀ H2, Gr M S H H2 → Holds M S' H2 → tu { D with nx := tz D } σ H2) (c2 : b = false → P B → ∀ H2, Gr M S H H2 → Holds M S' H2 → tw { D with nx := tz D } σ H2) : tSeq (tIfS tt tu tw) tz D σ H :=
  et_of h H (Ex.refl _) w _ fun H2 e w2 => by
    cases b with
    | true => exact c1 rfl o H2 (.of w e) w2
    | false => exact c2 rfl o H2 (.of w e) w2
theorem g_ifL {A B : R} {b : Bool} (w : Holds M S H) (o : P (cond b A B)) (h : Et E cl M tt σ (del M H) S (.ok b) S') (c1 : b = true → P A → ∀ H2, Gr M S H H2 → Holds M S' H2 → tu D σ H2) (c2 : b = false → P B → ∀ H2, Gr M S H H2 → Holds M S' H2 → tw D σ H2) : tIfS tt tu tw D σ H :=
  et_of h H (Ex.refl _) w _ fun H2 e w2 => by
    cases b with
    | true => exact c1 rfl o H2 (.of w e) w2
    | false => exact c2 rfl o H2 (.of w e) w2
theorem g_when {A B : R} {b : Bool} (w : Holds M S H) (o : P (cond b A B)) (h : Et E cl M tt σ (del M H) S (.ok b) S') (c1 : b = true → P A → ∀ H2, Gr M S H H2 → Holds M S' H2 → tu { D with nx := tz D } σ H2) (c2 : b = false → P B → ∀ H2, Gr M S H H2 → Holds M S' H2 → tz D σ H2) : tSeq (tIfS tt tu tNext) tz D σ H := g_if w o h c1 c2
/-- the same, what follows being shown once -/
theorem g_join {τ : Type} {kk : τ → R} {b : (τ → R) → R} {ts : TS} (Rel : τ → L2.St → Hp → Prop) (o : P (jn kk b)) (c1 : P (b kk) → ts { D with nx := fun σ' H' => ∃ s, P (kk s) ∧ Rel s σ' H' } σ H) (c2 : ∀ s σ' H', P (kk s) → Rel s σ' H' → tz D σ' H') : tCut ts tz D σ H :=
  ⟨fun σ' H' => ∃ s, P (kk s) ∧ Rel s σ' H', c1 o, fun σ' H' ⟨s, p, r⟩ => c2 s σ' H' p r⟩
theorem g_ret (w : Holds M S H) (h : Em E cl M te σ (del M H) S t (.ok x) S') (c : ∀ v H2, Gr M S H H2 → Holds M S' H2 → t.r (del M H2) v x → D.rt v H2) : tRet te D σ H :=
  em_of h H (Ex.refl _) w _ fun v H2 e w2 r => c v H2 (.of w e) w2 r
theorem g_retX {r : Re α} (w : Holds M S H) (h : Em E cl M te σ (del M H) S t r S') (c : ∀ x v H2, r = .ok x → Gr M S H H2 → Holds M S' H2 → t.r (del M H2) v x → D.rt v H2) (c2 : ∀ e H2, r = .er e → Gr M S H H2 → Holds M S' H2 → E (.ref (cl e)) none H2) : tRet te D σ H :=
  h.run H (Ex.refl _) w _ (fun x v H2 z e w2 r => c x v H2 z (.of w e) w2 r) fun e H2 z e2 w2 => c2 e H2 z (.of w e2) w2
theorem g_drop (w : Holds M S H) (o : P (lt x k)) (h : Em E cl M te σ (del M H) S t (.ok x) S') (c : ∀ x' H2, x' = x → P (k x') → Gr M S H H2 → Holds M S' H2 → tz D σ H2) : tSeq (tDrop te) tz D σ H :=
  em_of h H (Ex.refl _) w _ fun v H2 e w2 r => c x H2 rfl o (.of w e) w2
theorem Gr.trans (a : Gr M S H H') {H2 : Hp} (s : ads S' = ads S) (b : Gr M S' H' H2) : Gr M S H H2 := ⟨ads_tr s a.fr b.fr, a.im.trans b.im⟩
theorem Gr.then (a : Gr M S H H') {H2 : Hp} (b : Gr M S' H' H2) (s : ads S' = ads S) : Gr M S H H2 := a.trans s b
theorem Gr.cast (g : Gr M S H H') (e : ads S = ads S') : Gr M S' H H' := ⟨by rw [← e]; exact g.fr, g.im⟩
theorem Gr.refl : Gr M S H H := ⟨Ex.refl _, Ex.refl _⟩
/-! loops -/
theorem g_for {wi : TI} {b : α → τ → (τ → R) → (τ → R) → R} {kn : τ → R} {s0 : τ} {B : L2.St → Hp → α → L2.St → Prop} {Sx : τ → List Cell} (Rv : Hp → List α → τ → L2.St → Prop) (w : Holds M S H) (o : P (forK b kn xs s0)) (hi : Ei E cl M wi σ (del M H) S t xs (Sx s0)) (hS : ∀ s, ads (Sx s) = ads (Sx s0)) (hg : ∀ σ', Eg g t σ' (B σ'))
    (h0 : ∀ H2, Gr M S H H2 → Rv (del M H2) xs s0 σ)
    (hd : ∀ s σ' H', Gr M S H H' → Holds M (Sx s) H' → Rv (del M H') [] s σ' → P (kn s) → tz D σ' H')
    (hs : (∀ s σ' H', Gr M S H H' → Holds M (Sx s) H' → Rv (del M H') [] s σ' → P (kn s) → tz D σ' H') → ∀ x s σ' σ2 I' H3 rest, x ∈ xs → Gr M S H H3 → Holds M (Sx s) H3 → Ex I' (del M H3) → Rv I' (x :: rest) s σ' → B σ' (del M H3) x σ2 → P (b x s (fun s' => forK b kn rest s') kn) →
      ∀ Nx : L2.St → Hp → Prop, (∀ s' σ4 H4, P (forK b kn rest s') → Gr M S H3 H4 → Holds M (Sx s') H4 → Rv (del M H4) rest s' σ4 → Nx σ4 H4) → tu { D with nx := Nx, ct := Nx, bk := tz D } σ2 H3) : tSeq (tFor wi g tu) tz D σ H := by
  have a1 : ∀ s, ads (Sx s) = ads S := fun s => (hS s).trans hi.ad
  refine hi.run H (Ex.refl _) w _ fun J H2 G Y e2 w2 wk gG gY => ?_
  have g2 : Gr M S H H2 := .of w e2
  refine for_it wk (fun i σ' H' => ∃ s', P (forK b kn (xs.drop i) s') ∧ Gr M S H2 H' ∧ Holds M (Sx s') H' ∧ Rv (del M H') (xs.drop i) s' σ') ⟨s0, o, Gr.refl, w2, h0 H2 g2⟩ (fun i σ' H' hi' p => ?_) (fun i v σ' H' H3 hi' p y => ?_) (fun σ' H' p => ?_)
  · obtain ⟨s', _, e, w', _⟩ := p
    exact gG H' e.im
  · obtain ⟨s', o', e, w', r⟩ := p
    have hx : xs[i]? = some xs[i] := by simp [hi']
    obtain ⟨eH, rv⟩ := gY i H' v H3 _ hx e.im y
    have w3 := w'.ex eH
    refine hg σ' v H3 _ _ (rv M w'.live e.im) del_le _ fun σ2 b2 => ?_
    have e3 : Gr M S H' H3 := ⟨ex_del eH, ex_del eH⟩
    have g3 : Gr M S H H3 := (g2.trans rfl e).trans rfl e3
    have dr : xs.drop i = xs[i] :: xs.drop (i + 1) := by rw [List.drop_eq_getElem_cons hi']
    have ot : P (b xs[i] s' (fun s' => forK b kn (xs.drop (i + 1)) s') kn) := by
      rw [dr] at o'
      exact o'
    exact hs hd xs[i] s' σ' σ2 (del M H') H3 (xs.drop (i + 1)) (List.getElem_mem hi') g3 w3 (ex_del eH) (by rw [← dr]; exact r) b2 ot _ fun s4 σ4 H4 o4 g4 w4 r4 => ⟨s4, o4, (e.trans rfl e3).trans rfl g4, w4, r4⟩
  · obtain ⟨s', o', e, w', r⟩ := p
    rw [List.drop_length] at o' r
    exact hd s' σ' H' (g2.trans rfl e) w' r o'
theorem g_while {c : τ → Bool} {b : τ → (τ → R) → (τ → R) → R} {kn : τ → R} {n : Nat} {s0 : τ} {Sx : τ → List Cell} (Ok : Nat → τ → Prop) (Rv : Hp → τ → L2.St → Prop) (w : Holds M (Sx s0) H) (o : P (whK c b kn n s0)) (hS : ∀ s, ads (Sx s) = ads (Sx s0)) (ok0 : Ok n s0) (okz : ∀ s, Ok 0 s → c s = false) (h0 : Rv (del M H) s0 σ)
    (ht : ∀ n s σ' H', Ok n s → Gr M (Sx s0) H H' → Holds M (Sx s) H' → Rv (del M H') s σ' → Et E cl M tt σ' (del M H') (Sx s) (.ok (c s)) (Sx s))
    (hd : ∀ n s σ' I' H', Ok n s → c s = false → Gr M (Sx s0) H H' → Holds M (Sx s) H' → Ex I' (del M H') → Rv I' s σ' → P (kn s) → tz D σ' H')
    (hs : (∀ n s σ' I' H', Ok n s → c s = false → Gr M (Sx s0) H H' → Holds M (Sx s) H' → Ex I' (del M H') → Rv I' s σ' → P (kn s) → tz D σ' H') → ∀ n s σ' I' H', Ok (n + 1) s → c s = true → Gr M (Sx s0) H H' → Holds M (Sx s) H' → Ex I' (del M H') → Rv I' s σ' → P (b s (fun s' => whK c b kn n s') kn) →
      ∀ Nx : L2.St → Hp → Prop, (∀ s' σ4 H4, Ok n s' → P (whK c b kn n s') → Gr M (Sx s0) H' H4 → Holds M (Sx s') H4 → Rv (del M H4) s' σ4 → Nx σ4 H4) → tu { D with nx := Nx, ct := Nx, bk := tz D } σ' H') : tSeq (tWhile tt tu) tz D σ H := by
  refine ⟨fun m σ' H' => ∃ s, Ok m s ∧ P (whK c b kn m s) ∧ Gr M (Sx s0) H H' ∧ Holds M (Sx s) H' ∧ Rv (del M H') s σ', ⟨n, s0, ok0, o, Gr.refl, w, h0⟩, ?_⟩
  rintro m σ' H' ⟨s, k, o', g', w', r⟩
  refine et_of (ht m s σ' H' k g' w' r) H' (Ex.refl _) w' _ fun H2 e2 w2 => ?_
  have e2' : Gr M (Sx s0) H' H2 := ⟨by rw [hS s] at e2; exact e2, w'.grow e2⟩
  have g2 : Gr M (Sx s0) H H2 := g'.trans rfl e2'
  cases hc : c s with
  | true =>
    rw [if_pos rfl]
    cases m with
    | zero => rw [okz s k] at hc; cases hc
    | succ m =>
      have o2 : P (b s (fun s' => whK c b kn m s') kn) := by
        have : P (cond (c s) (b s (fun s' => whK c b kn m s') kn) (kn s)) := o'
        rw [hc] at this
        exact this
      exact ⟨fun σ4 H4 => ∃ s, Ok m s ∧ P (whK c b kn m s) ∧ Gr M (Sx s0) H H4 ∧ Holds M (Sx s) H4 ∧ Rv (del M H4) s σ4, fun σ4 H4 z => ⟨m, Nat.lt_succ_self m, z⟩,
        hs hd m s σ' (del M H') H2 k hc g2 w2 e2'.im r o2 _ fun s4 σ4 H4 k4 o4 g4 w4 r4 => ⟨s4, k4, o4, g2.trans rfl g4, w4, r4⟩⟩
  | false =>
    rw [if_neg Bool.false_ne_true]
    refine hd m s σ' (del M H') H2 k hc g2 w2 e2'.im r ?_
    cases m with
    | zero => exact o'
    | succ m =>
      have : P (cond (c s) (b s (fun s' => whK c b kn m s') kn) (kn s)) := o'
      rw [hc] at this
      exact this
/-! what may change from here on: a list in the making -/
theorem Gr.lone {p : Addr} {c : Cell} (hp : H c.a = none) (a : Gr M S H H') {H2 : Hp} (hp' : H' c.a = none) (b : Gr (c.a :: M) (c :: S) H' H2) : Gr M S H H2 := by
  have f : ∀ A : List Addr, Ex (del A H') (del (c.a :: A) H') := fun A => del_new hp'
  exact ⟨a.fr.trans ((f _).trans (b.fr.trans del_free)), a.im.trans ((f _).trans (b.im.trans del_free))⟩
theorem g_new {i : Nat} (K : PySem.W.Frag) (t : Ty α) (w : Holds M S H) (c : ∀ p H2, H p = none → Gr M S H H2 → Holds (p :: M) (cL p t [] :: S) H2 → Ex (del M H) (del (p :: M) H2) → tz D (σ.set i (some (.ref p))) H2) : tSeq (tAsg (tLst tNil) (gName i)) tz D σ H := by
  refine ⟨by show 0 ≤ sizeLine; decide, fun p hp => ?_⟩
  have e : Ex H (upd H p (.lst [])) := Ex.new hp
  exact c p _ hp ⟨ex_del e, ex_del e⟩ (w.new (c := cL p t []) hp e upd_same ⟨[], rfl, .nil⟩) ((del_new hp).trans (ex_del e))
/-- p.append(x), p the n-th of what may change -/
theorem g_app {n : Nat} {p : Addr} {acc0 acc : List α} {k : List α → R} (w : Holds M S H) (o : P (lt (acc ++ [x]) k)) (ha : Em E cl M ta σ (del M H) S (kPtr p) (.ok ()) S) (h : Em E cl M te σ (del M H) S t (.ok x) S') (hk0 : S[n]? = some (cL p t acc0)) (hk : S'[n]? = some (cL p t acc)) (hz : acc.length < 100000)
    (c : ∀ acc' H2, acc' = acc ++ [x] → P (k acc') → Gr M S H H2 → Holds M (S'.set n (cL p t acc')) H2 → tz D σ H2) : tSeq (tDrop (tBM K "list" rAppend ta (tCons te tNil))) tz D σ H := by
  refine em_of ha H (Ex.refl _) w _ fun v H1 e1 w1 r1 => ?_
  obtain rfl : v = .ref p := r1
  obtain ⟨_, o1, h1, vs1, rfl, _⟩ := w1.at_ _ (List.mem_of_getElem? hk0)
  refine ⟨Or.inl ⟨rfl, vs1, sq_of h1⟩, em_of h H1 (w.grow e1) w1 _ fun v2 H2 e2 w2 r2 => ?_⟩
  obtain ⟨pM, o2, h2, vs2, rfl, a2⟩ := w2.at_ _ (List.mem_of_getElem? hk)
  have pM : p ∈ M := pM
  have pS : p ∈ ads S := by rw [← h.ad]; exact List.mem_map.mpr ⟨_, List.mem_of_getElem? hk, rfl⟩
  refine ⟨p, vs2, v2, rfl, rfl, h2, sz_lt (by rw [a2.len]; exact hz), ?_⟩
  refine c _ _ rfl o ⟨?_, ?_⟩ (w2.put hk rfl ⟨_, rfl, a2.app (.one r2)⟩)
  · rw [del_upd pS]
    exact e1.trans e2
  · rw [del_upd pM]
    exact (w.grow e1).trans (w1.grow e2)
/-- p[i], p in the making -/
theorem em_cellAt {n : Nat} {p : Addr} {acc0 acc : List α} {i : Int} {x : α} (ha : Em E cl M ta σ I S (kPtr p) (.ok ()) S) (hb : Em E cl M tb σ I S kI (.ok i) S1) (hk : S1[n]? = some (cL p t acc)) (hi : atI acc i = some x) : Em E cl M (tOp (rIxL K) ta tb) σ I S t (.ok x) S1 :=
  em_mk hb.ad fun H1 i1 w Q q => em_of ha H1 i1 w _ fun v H2 e w2 r => em_of hb H2 (i1.trans (w.grow e)) w2 _ fun v2 H3 e3 w3 r3 => by
    obtain rfl : v = .ref p := r
    obtain rfl : v2 = .int i := r3
    obtain ⟨_, o2, h2, vs2, rfl, a2⟩ := w3.at_ _ (List.mem_of_getElem? hk)
    obtain ⟨j, hj, hx⟩ : ∃ j, ixN acc.length i = some j ∧ acc[j]? = some x := by
      unfold atI at hi
      cases hj : ixN acc.length i with
      | none => rw [hj] at hi; cases hi
      | some j => rw [hj] at hi; exact ⟨j, rfl, hi⟩
    obtain ⟨u, hu, ru⟩ := a2.at2 hx
    refine ⟨p, vs2, i, u, rfl, rfl, sq_of h2, ?_, q u H3 (e.trans e3) w3 ru⟩
    unfold atI
    rw [a2.len]
    show (ixN acc.length i).bind _ = _
    rw [hj]
    exact hu
theorem em_cellLen {n : Nat} {p : Addr} {acc : List α} (ha : Em E cl M ta σ I S (kPtr p) (.ok ()) S) (hk : S[n]? = some (cL p t acc)) : Em E cl M (tCB (rLenS K) (tCons ta tNil)) σ I S kI (.ok (acc.length : Int)) S :=
  em_mk rfl fun H1 i1 w Q q => em_of ha H1 i1 w _ fun v H2 e w2 r => by
    obtain rfl : v = .ref p := r
    obtain ⟨_, o2, h2, vs2, rfl, a2⟩ := w2.at_ _ (List.mem_of_getElem? hk)
    exact ⟨p, vs2, rfl, .inl (sq_of h2), q _ H2 e w2 (by rw [a2.len]; rfl)⟩
/-- p, in the making no more: a tuple, a list of the same -/
theorem em_cellTup {n : Nat} {p : Addr} {acc : List α} {r : List V → Hp → VK → Prop} (hr : ∀ H vs, SqL K H p vs → ∀ Q : VK, (∀ q, H q = none → Q (.ref q) (upd H q (.tup vs))) → r [.ref p] H Q) (ha : Em E cl M ta σ I S (kPtr p) (.ok ()) S) (hk : S[n]? = some (cL p t acc)) : Em E cl M (tCB r (tCons ta tNil)) σ I S (kT K t) (.ok acc) S :=
  em_mk rfl fun H1 i1 w Q q => em_of ha H1 i1 w _ fun v H2 e w2 r => by
    obtain rfl : v = .ref p := r
    obtain ⟨_, o2, h2, vs2, rfl, a2⟩ := w2.at_ _ (List.mem_of_getElem? hk)
    exact hr H2 vs2 (sq_of h2) _ fun p2 hp => q _ _ (e.trans (ex_del (Ex.new hp))) (w2.ex (Ex.new hp)) ⟨p2, vs2, rfl, st_of (del_at (fresh_not w2.live hp) upd_same), all2_up t (ex_del (Ex.new hp)) a2⟩
/-- it is given away: what was in the making stays as it is from now on -/
theorem cell_end {p : Addr} {acc : List α} (w : Holds (p :: M) (cL p t acc :: S) H) (n : p ∉ M) : (kL K t).r (del M H) (.ref p) acc := by
  obtain ⟨_, o2, h2, vs2, rfl, a2⟩ := w.at_ _ List.mem_cons_self
  exact ⟨p, vs2, rfl, sq_of (del_at n h2), all2_up t del_free a2⟩
end
/-! ### data that are compared -/
structure Dq (K : PySem.W.Frag) {α : Type} (t : Ty α) (d : Nat) where
  enc : α → PyData
  dp : ∀ {H v x}, t.r H v x → Dp K H v (enc x) ∧ (enc x).canLay0 = true
  dep : ∀ x, (enc x).depth ≤ d
  eq : ∀ x y, PyData.eqv (enc x) (enc y) = true ↔ x = y
/-- a text that may be compared in data -/
def kSo : Ty Str := ⟨fun _ v x => v = .str x ∧ PyData.canLay0 (.str x) = true, fun _ h => h⟩
theorem dp_upM {K : PySem.W.Frag} {H H' : Hp} (e : Ex H H') : ∀ (d : PyData) (v : V), Dp K H v d → Dp K H' v d := fun d v h => by
  refine Dp.rec (motive_1 := fun v d _ => Dp K H' v d) (motive_2 := fun vs ds _ => DpAll K H' vs ds) .non .bl .int .str (fun h _ ih => .lst (ex_l e h) ih) (fun h _ ih => .tup (ex_t e h) ih) .nil (fun _ _ i j => .cons i j) h
section
variable {K : PySem.W.Frag} {α β γ : Type} {t : Ty α} {u : Ty β} {w : Ty γ} {i j k : Nat}
def dI : Dq K kI 0 := ⟨.int, fun h => by cases h; exact ⟨.int _, rfl⟩, fun _ => Nat.le_refl _, fun x y => by simp [PyData.eqv]⟩
def dB : Dq K kB 0 := ⟨.bool, fun h => by cases h; exact ⟨.bl _, rfl⟩, fun _ => Nat.le_refl _, fun x y => by simp [PyData.eqv]⟩
def dS : Dq K kSo 0 := ⟨.str, fun h => by obtain ⟨rfl, h⟩ := h; exact ⟨.str _, h⟩, fun _ => Nat.le_refl _, fun x y => by simp [PyData.eqv]⟩
theorem dp_all (D : Dq K t i) {H : Hp} {vs : List V} {xs : List α} (h : All2 (t.r H) vs xs) : DpAll K H vs (xs.map D.enc) ∧ PyData.canLayAll0 (xs.map D.enc) = true := by
  induction h with
  | nil => exact ⟨.nil, rfl⟩
  | cons r _ ih => exact ⟨.cons (D.dp r).1 ih.1, by rw [List.map_cons, PyData.canLayAll0, (D.dp r).2, ih.2]; rfl⟩
theorem dep_all (D : Dq K t i) : ∀ xs : List α, PyData.depthAll (xs.map D.enc) ≤ i
  | [] => Nat.zero_le _
  | x :: xs => by rw [List.map_cons, PyData.depthAll]; exact Nat.max_le.mpr ⟨D.dep x, dep_all D xs⟩
theorem eq_all (D : Dq K t i) : ∀ xs ys : List α, PyData.eqvAll (xs.map D.enc) (ys.map D.enc) = true ↔ xs = ys
  | [], [] => by simp [PyData.eqvAll]
  | x :: xs, [] => by simp [PyData.eqvAll]
  | [], y :: ys => by simp [PyData.eqvAll]
  | x :: xs, y :: ys => by simp only [List.map_cons, PyData.eqvAll, Bool.and_eq_true, D.eq, eq_all D xs ys, List.cons.injEq]
def dL (D : Dq K t i) : Dq K (kL K t) (i + 1) := ⟨fun xs => .list (xs.map D.enc), fun ⟨p, vs, e, h, a⟩ => by subst e; exact ⟨.lst h (dp_all D a).1, by rw [PyData.canLay0]; exact (dp_all D a).2⟩, fun xs => by rw [PyData.depth]; have := dep_all D xs; omega, fun x y => by rw [PyData.eqv]; exact eq_all D x y⟩
def dT (D : Dq K t i) : Dq K (kT K t) (i + 1) := ⟨fun xs => .tuple (xs.map D.enc), fun ⟨p, vs, e, h, a⟩ => by subst e; exact ⟨.tup h (dp_all D a).1, by rw [PyData.canLay0]; exact (dp_all D a).2⟩, fun xs => by rw [PyData.depth]; have := dep_all D xs; omega, fun x y => by rw [PyData.eqv]; exact eq_all D x y⟩
def d2 (A : Dq K t i) (B : Dq K u j) : Dq K (k2 K t u) (max i j + 1) := ⟨fun x => .tuple [A.enc x.1, B.enc x.2], fun ⟨p, v1, v2, e, h, h1, h2⟩ => by subst e; exact ⟨.tup h (.cons (A.dp h1).1 (.cons (B.dp h2).1 .nil)), by simp [PyData.canLay0, PyData.canLayAll0, (A.dp h1).2, (B.dp h2).2]⟩,
  fun x => by simp only [PyData.depth, PyData.depthAll]; have := A.dep x.1; have := B.dep x.2; omega, fun x y => by simp [PyData.eqv, PyData.eqvAll, A.eq, B.eq, Prod.ext_iff]⟩
def d3 (A : Dq K t i) (B : Dq K u j) (C : Dq K w k) : Dq K (k3 K t u w) (max i (max j k) + 1) := ⟨fun x => .tuple [A.enc x.1, B.enc x.2.1, C.enc x.2.2], fun ⟨p, v1, v2, v3, e, h, h1, h2, h3⟩ => by subst e; exact ⟨.tup h (.cons (A.dp h1).1 (.cons (B.dp h2).1 (.cons (C.dp h3).1 .nil))), by simp [PyData.canLay0, PyData.canLayAll0, (A.dp h1).2, (B.dp h2).2, (C.dp h3).2]⟩,
  fun x => by simp only [PyData.depth, PyData.depthAll]; have := A.dep x.1; have := B.dep x.2.1; have := C.dep x.2.2; omega, fun x y => by simp [PyData.eqv, PyData.eqvAll, A.eq, B.eq, C.eq, Prod.ext_iff]⟩
theorem eqv_none_of {d : PyData} (h : d ≠ .none) : PyData.eqv .none d = false ∧ PyData.eqv d .none = false := by cases d <;> first | exact absurd rfl h | exact ⟨rfl, rfl⟩
def dO (A : Dq K t i) (hn : ∀ x, A.enc x ≠ .none) : Dq K (kO t) i := ⟨fun x => match x with | none => .none | some y => A.enc y, fun {H v x} h => by
    cases x with
    | none => cases h; exact ⟨.non, rfl⟩
    | some y => exact A.dp h.1, fun x => by cases x; exact Nat.zero_le _; exact A.dep _, fun x y => by
    cases x <;> cases y
    · exact ⟨fun _ => rfl, fun _ => rfl⟩
    · simp [(eqv_none_of (hn _)).1]
    · simp [(eqv_none_of (hn _)).2]
    · simp [A.eq]⟩
theorem shaped_of {d : PyData} (h : d.canLay0 = true) (l : d.depth ≤ 64) : SeqAt.shaped d = true := by
  unfold SeqAt.shaped
  rw [h]
  simpa using l
theorem o_eqD {x y : α} [Decidable (x = y)] (D : Dq K t i) (h : i ≤ 64) : Op2 (rEqD K) t x t y kB (decide (x = y)) := fun M v1 v2 H l a b Q q =>
  ⟨_, _, dp_upM del_le _ _ (D.dp a).1, dp_upM del_le _ _ (D.dp b).1, shaped_of (D.dp a).2 (Nat.le_trans (D.dep x) h), shaped_of (D.dp b).2 (Nat.le_trans (D.dep y) h), q _ H (Ex.refl _) (by
    show V.bl _ = V.bl _
    congr 1
    rw [Bool.eq_iff_iff, D.eq, decide_eq_true_iff])⟩
theorem o_neD {x y : α} [Decidable (x = y)] (D : Dq K t i) (h : i ≤ 64) : Op2 (rNeD K) t x t y kB (!decide (x = y)) := fun M v1 v2 H l a b Q q =>
  ⟨_, _, dp_upM del_le _ _ (D.dp a).1, dp_upM del_le _ _ (D.dp b).1, shaped_of (D.dp a).2 (Nat.le_trans (D.dep x) h), shaped_of (D.dp b).2 (Nat.le_trans (D.dep y) h), q _ H (Ex.refl _) (by
    show V.bl _ = V.bl _
    congr 2
    rw [Bool.eq_iff_iff, D.eq, decide_eq_true_iff])⟩
end
end Rw
namespace Rw
open PySem PySem.Spec PyProof.Rows L2 Evl Cy
/-! ### dice -/
abbrev Dice := Int × Int × Int
def roll (x : Dice) (m : Int) : Int × Dice :=
  if (decide (x.2.2 = 2) || (decide (x.2.2 = 1) && decide (0 < x.1))) = true then (x.1 % m, (x.1 / m, x.2.1, x.2.2))
  else (((x.1 * 48271 + x.2.1 * 69621 + 11) % 2147483647 / 7 + (x.1 * 48271 + x.2.1 * 69621 + 11) % 2147483647) % m, ((x.1 * 48271 + x.2.1 * 69621 + 11) % 2147483647, x.2.1 + 1, 0))
theorem roll_in (x : Dice) {m : Int} (h : 0 < m) : 0 ≤ (roll x m).1 ∧ (roll x m).1 < m := by
  unfold roll
  split
  · exact ⟨Int.emod_nonneg _ (by omega), Int.emod_lt_of_pos _ h⟩
  · exact ⟨Int.emod_nonneg _ (by omega), Int.emod_lt_of_pos _ h⟩
def spRollX : Sp := fun vs H Q _ => ∃ (d : Addr) (x : Dice) (m : Int), vs = [.ref d, .int m] ∧ H d = some (.lst [.int x.1, .int x.2.1, .int x.2.2]) ∧ 0 < m ∧ m < 1000000 ∧
  ∀ H', ExB d H H' → H' d = some (.lst [.int (roll x m).2.1, .int (roll x m).2.2.1, .int (roll x m).2.2.2]) → Q (.int (roll x m).1) H'
/-- a plain def's promise: it changes nothing -/
def spD {α β : Type} (A : AR α) (pre : α → Prop) (f : α → Re β) (t : Ty β) (cl : Nat → Addr) : Sp := fun vs H Q E => ∃ M a, (∀ m ∈ M, H m ≠ none) ∧ A (del M H) vs a ∧ pre a ∧
  (∀ y v H', f a = .ok y → Ex H H' → t.r (del M H') v y → Q v H') ∧ (∀ k H', f a = .er k → Ex H H' → E (.ref (cl k)) none H')
/-- a def's promise that rolls the dice that it is given first -/
def spR {α β : Type} (A : AR α) (pre : α → Prop) (f : α → Dice → β × Dice) (t : Ty β) : Sp := fun vs H Q _ => ∃ M d x ws a, vs = .ref d :: ws ∧ d ∈ M ∧ (∀ m ∈ M, H m ≠ none) ∧ M.Nodup ∧ H d = some (.lst [.int x.1, .int x.2.1, .int x.2.2]) ∧ A (del M H) ws a ∧ pre a ∧
  ∀ v H', Ex (del [d] H) (del [d] H') → H' d = some (.lst [.int (f a x).2.1, .int (f a x).2.2.1, .int (f a x).2.2.2]) → t.r (del M H') v (f a x).1 → Q v H'
section
variable {K : PySem.W.Frag} {α β γ δ R τ : Type} {E E' : XK} {cl : Nat → Addr} {M : List Addr} {σ : L2.St} {I I' H H' : Hp} {S S' S1 S2 S3 : List Cell} {te ta tb tc to : TE} {tt : TT} {tr : TA} {t : Ty α} {u : Ty β} {w' : Ty γ} {x : α} {y : β} {v : V} {xs : List α}
theorem em_call {A : AR α} {B : AR γ} {a : α} {a' : γ} {pre : α → Prop} {f : α → Re β} {dvs : List V} (ha : Ea E cl M tr σ I S B (.ok a') S1) (hA : ∀ H vs, B H vs a' → A H (vs ++ dvs) a) (hp : pre a) : Em E cl M (tCall (spD A pre f u cl) dvs E tr) σ I S u (f a) S1 :=
  ⟨ha.ad, fun H1 i w Q q qe => ea_of ha H1 i w _ fun vs H2 e w2 r => ⟨M, a, w2.live, hA _ _ r, hp, fun y v H3 ey e3 r3 => q y v H3 ey (e.trans (ex_del e3)) (w2.ex e3) r3, fun k H3 ek e3 => qe k H3 ek (e.trans (ex_del e3)) (w2.ex e3)⟩⟩
/-- where it raises nothing -/
theorem em_callP {A : AR α} {B : AR γ} {a : α} {a' : γ} {pre : α → Prop} {f : α → Re β} {dvs : List V} (ha : Ea E cl M tr σ I S B (.ok a') S1) (hA : ∀ H vs, B H vs a' → A H (vs ++ dvs) a) (hp : pre a) (hy : f a = .ok y) : Em E cl M (tCall (spD A pre f u cl) dvs E' tr) σ I S u (.ok y) S1 :=
  em_mk ha.ad fun H1 i w Q q => ea_of ha H1 i w _ fun vs H2 e w2 r => ⟨M, a, w2.live, hA _ _ r, hp, fun y' v H3 ey e3 r3 => q v H3 (e.trans (ex_del e3)) (w2.ex e3) (by rw [hy] at ey; cases ey; exact r3), fun k H3 ek e3 => by rw [hy] at ek; cases ek⟩
theorem args_id {A : AR α} {a : α} : ∀ (H : Hp) (vs : List V), A H vs a → A H (vs ++ []) a := fun H vs h => by rw [List.append_nil]; exact h
/-- an object of a class of the program's own -/
def Ob (t : Ty α) (C : Addr) (m : Str) : Prop := ∀ H v x, t.r H v x → ∃ a dx fs, v = .ref a ∧ H a = some (.ins C dx fs) ∧ fs.lookup m = none
theorem em_meth {C : Addr} {m : Str} {A : AR (α × β)} {B : AR γ} {b : β} {b' : γ} {pre : α × β → Prop} {f : α × β → Re δ} {u : Ty δ} {dvs : List V} (ho : Em E cl M to σ I S t (.ok x) S1) (ob : Ob t C m) (ha : Ea E cl M tr σ I S1 B (.ok b') S2) (hA : ∀ H v vs, t.r H v x → B H vs b' → A H (v :: (vs ++ dvs)) (x, b)) (hp : pre (x, b)) : Em E cl M (tMeth C m (spD A pre f u cl) dvs E to tr) σ I S u (f (x, b)) S2 :=
  ⟨ha.ad.trans ho.ad, fun H1 i w Q q qe => em_of ho H1 i w _ fun v H2 e w2 r => by
    obtain ⟨a, dx, fs, rfl, ha1, hl⟩ := ob _ _ _ r
    refine ⟨a, dx, fs, rfl, (del_some.mp ha1).2, hl, ea_of ha H2 (i.trans (w.grow e)) w2 _ fun vs H3 e3 w3 r3 => ⟨M, (x, b), w3.live, hA _ _ _ (t.up (w2.grow e3) r) r3, hp, fun y v H4 ey e4 r4 => q y v H4 ey ((ads_tr ho.ad e e3).trans (ex_del e4)) (w3.ex e4) r4, fun k H4 ek e4 => qe k H4 ek ((ads_tr ho.ad e e3).trans (ex_del e4)) (w3.ex e4)⟩⟩⟩
theorem em_methP {C : Addr} {m : Str} {A : AR (α × β)} {B : AR γ} {b : β} {b' : γ} {pre : α × β → Prop} {f : α × β → Re δ} {u : Ty δ} {dvs : List V} {y : δ} (ho : Em E cl M to σ I S t (.ok x) S1) (ob : Ob t C m) (ha : Ea E cl M tr σ I S1 B (.ok b') S2) (hA : ∀ H v vs, t.r H v x → B H vs b' → A H (v :: (vs ++ dvs)) (x, b)) (hp : pre (x, b)) (hy : f (x, b) = .ok y) : Em E cl M (tMeth C m (spD A pre f u cl) dvs E' to tr) σ I S u (.ok y) S2 :=
  em_mk (ha.ad.trans ho.ad) fun H1 i w Q q => em_of ho H1 i w _ fun v H2 e w2 r => by
    obtain ⟨a, dx, fs, rfl, ha1, hl⟩ := ob _ _ _ r
    refine ⟨a, dx, fs, rfl, (del_some.mp ha1).2, hl, ea_of ha H2 (i.trans (w.grow e)) w2 _ fun vs H3 e3 w3 r3 => ⟨M, (x, b), w3.live, hA _ _ _ (t.up (w2.grow e3) r) r3, hp, fun y v H4 ey e4 r4 => q v H4 ((ads_tr ho.ad e e3).trans (ex_del e4)) (w3.ex e4) (by rw [hy] at ey; cases ey; exact r4), fun k H4 ek e4 => by rw [hy] at ek; cases ek⟩⟩
theorem exb_del {d : Addr} : ExB d H H' ↔ Ex (del [d] H) (del [d] H') :=
  ⟨fun h a o e => del_some.mpr ⟨(del_some.mp e).1, h a o (fun z => (del_some.mp e).1 (by rw [z]; exact List.mem_singleton.mpr rfl)) (del_some.mp e).2⟩, fun h a o n e => (del_some.mp (h a o (del_some.mpr ⟨fun z => n (List.mem_singleton.mp z), e⟩))).2⟩
/-- the dice at n of what may change are rolled -/
theorem dice_put {n : Nat} {d : Addr} {z z' : Dice} (w : Holds M S H) (hk : S[n]? = some (cDice d z)) (e : ExB d H H') (hd : H' d = some (.lst [.int z'.1, .int z'.2.1, .int z'.2.2])) : Holds M (S.set n (cDice d z')) H' ∧ Ex (del (ads S) H) (del (ads S) H') := by
  have dS : d ∈ ads S := List.mem_map.mpr ⟨_, List.mem_of_getElem? hk, rfl⟩
  have dM : d ∈ M := w.sub d dS
  have ee : Ex (del (ads S) H) (del (ads S) H') := ex_sub (A := [d]) (fun a h => by rw [List.mem_singleton.mp h]; exact dS) (exb_del.mp e)
  refine ⟨?_, ee⟩
  have w1 : Holds M (S.set n (cDice d z')) (upd H d (.lst [.int z'.1, .int z'.2.1, .int z'.2.2])) := w.put hk rfl rfl
  refine w1.ex fun a o h => ?_
  by_cases ha : a = d
  · rw [ha] at h ⊢
    rw [upd_same] at h
    rw [hd]
    exact h
  · rw [upd_ne ha] at h
    exact e a o ha h
theorem em_roll {n : Nat} {d : Addr} {z : Dice} {m : Int} (h : Ea E cl M tr σ I S (aC (kPtr d) (aC kI a0)) (.ok ((), m, ())) S') (hk : S'[n]? = some (cDice d z)) (hm : 0 < m ∧ m < 1000000) : Em E cl M (tCall spRollX [] E' tr) σ I S kI (.ok (roll z m).1) (S'.set n (cDice d (roll z m).2)) :=
  em_mk ((ads_set (c' := cDice d (roll z m).2) hk rfl).trans h.ad) fun H1 i w Q q => ea_of h H1 i w _ fun vs H2 e w2 r => by
    obtain ⟨v1, r1, rfl, g1, v2, r2, rfl, g2, rfl⟩ := r
    obtain rfl : v1 = .ref d := g1
    obtain rfl : v2 = .int m := g2
    obtain ⟨_, o, h2, ro⟩ := w2.at_ _ (List.mem_of_getElem? hk)
    obtain rfl : o = .lst [.int z.1, .int z.2.1, .int z.2.2] := ro
    refine ⟨d, z, m, rfl, h2, hm.1, hm.2, fun H3 e3 h3 => ?_⟩
    obtain ⟨w3, x3⟩ := dice_put w2 hk e3 h3
    exact q _ H3 (ads_tr h.ad e x3) w3 rfl
theorem em_callR {n : Nat} {d : Addr} {z : Dice} {A : AR α} {B : AR γ} {a : α} {a' : γ} {pre : α → Prop} {f : α → Dice → β × Dice} {dvs : List V} (h : Ea E cl M tr σ I S (aC (kPtr d) B) (.ok ((), a')) S') (hA : ∀ H vs, B H vs a' → A H (vs ++ dvs) a) (hk : S'[n]? = some (cDice d z)) (hp : pre a) (mn : M.Nodup) : Em E cl M (tCall (spR A pre f u) dvs E' tr) σ I S u (.ok (f a z).1) (S'.set n (cDice d (f a z).2)) :=
  em_mk ((ads_set (c' := cDice d (f a z).2) hk rfl).trans h.ad) fun H1 i w Q q => ea_of h H1 i w _ fun vs H2 e w2 r => by
    obtain ⟨v1, r1, rfl, g1, g2⟩ := r
    obtain rfl : v1 = .ref d := g1
    obtain ⟨dM, o, h2, ro⟩ := w2.at_ _ (List.mem_of_getElem? hk)
    obtain rfl : o = .lst [.int z.1, .int z.2.1, .int z.2.2] := ro
    refine ⟨M, d, z, r1 ++ dvs, a, rfl, dM, w2.live, mn, h2, hA _ _ g2, hp, fun v H3 e3 h3 r3 => ?_⟩
    obtain ⟨w3, x3⟩ := dice_put w2 hk (exb_del.mpr e3) h3
    exact q _ H3 (ads_tr h.ad e x3) w3 r3
end
/-! ### calendars -/
def kCal (K : PySem.W.Frag) (C : Addr) : Ty Ca := ⟨fun H v c => ∃ a, v = .ref a ∧ CalP K C H a c ∧ Small c, fun e ⟨a, h1, h2, h3⟩ => ⟨a, h1, h2.ex e, h3⟩⟩
section
variable {K : PySem.W.Frag} {α β γ δ R τ : Type} {E E' : XK} {cl : Nat → Addr} {M : List Addr} {σ : L2.St} {I I' H H' : Hp} {S S' S1 S2 S3 : List Cell} {te ta tb tc to : TE} {tt : TT} {tr : TA} {t : Ty α} {u : Ty β} {C : Addr} {c : Ca} {y : β}
/-- what an old promise hands back, in a kind -/
def RsT (K : PySem.W.Frag) (r : Rs) (u : Ty β) (y : β) : Prop := match r with
  | .ok z => ∀ H, u.r H z y
  | .tup zs => ∀ H p, SqT K H p zs → u.r H (.ref p) y
  | .lst zs => ∀ H p, SqL K H p zs → u.r H (.ref p) y
  | _ => False
theorem em_oldG {f : Ca → List V → Option Rs} {r : Rs} {ws dvs : List V} {B : AR γ} {b : γ} (h : Ea E cl M tr σ I S (aC (kCal K C) B) (.ok (c, b)) S') (hB : ∀ H vs, B H vs b → vs = ws) (hf : f c (ws ++ dvs) = some r) (hr : RsT K r u y) : Em E cl M (tCall (spM K C cl f) dvs E' tr) σ I S u (.ok y) S' :=
  em_mk h.ad fun H1 i w Q q => ea_of h H1 i w _ fun vs H2 e w2 r2 => by
    obtain ⟨v, rs, rfl, ⟨a, rfl, hc, hs⟩, hb⟩ := r2
    obtain rfl := hB _ _ hb
    have hc2 : CalP K C H2 a c := hc.ex del_le
    refine ⟨a, c, rs ++ dvs, r, rfl, hc2, hs, hf, ?_⟩
    cases r with
    | ok z => exact fun H3 e3 => q z H3 (e.trans (ex_del e3)) (w2.ex e3) (hr _)
    | tup zs => exact fun p H3 hp e3 h3 => q _ H3 (e.trans (ex_del e3)) (w2.ex e3) (hr _ p (st_of (del_at (fresh_not w2.live hp) h3)))
    | lst zs => exact fun p H3 hp e3 h3 => q _ H3 (e.trans (ex_del e3)) (w2.ex e3) (hr _ p (sq_of (del_at (fresh_not w2.live hp) h3)))
    | err k => exact hr.elim
theorem em_oldM {m : Str} {f : Ca → List V → Option Rs} {r : Rs} {ws dvs : List V} {B : AR γ} {b : γ} (ho : Em E cl M to σ I S (kCal K C) (.ok c) S1) (h : Ea E cl M tr σ I S1 B (.ok b) S') (hB : ∀ H vs, B H vs b → vs = ws) (hm : ∀ tm ty dl ts, (calF c tm ty dl ts).lookup m = none) (hf : f c (ws ++ dvs) = some r) (hr : RsT K r u y) : Em E cl M (tMeth C m (spM K C cl f) dvs E' to tr) σ I S u (.ok y) S' :=
  em_mk (h.ad.trans ho.ad) fun H1 i w Q q => em_of ho H1 i w _ fun v H2 e w2 r2 => by
    obtain ⟨a, rfl, hc, hs⟩ := r2
    have hc2 : CalP K C H2 a c := hc.ex del_le
    obtain ⟨dx, tm, ty, dl, ts, kvs, st, h1, hrest⟩ := hc2
    refine ⟨a, dx, _, rfl, h1, hm _ _ _ _, ea_of h H2 (i.trans (w.grow e)) w2 _ fun vs H3 e3 w3 r3 => ?_⟩
    obtain rfl := hB _ _ r3
    have hc3 : CalP K C H3 a c := (hc.ex (w2.grow e3)).ex del_le
    refine ⟨a, c, vs ++ dvs, r, rfl, hc3, hs, hf, ?_⟩
    cases r with
    | ok z => exact fun H4 e4 => q z H4 ((ads_tr ho.ad e e3).trans (ex_del e4)) (w3.ex e4) (hr _)
    | tup zs => exact fun p H4 hp e4 h4 => q _ H4 ((ads_tr ho.ad e e3).trans (ex_del e4)) (w3.ex e4) (hr _ p (st_of (del_at (fresh_not w3.live hp) h4)))
    | lst zs => exact fun p H4 hp e4 h4 => q _ H4 ((ads_tr ho.ad e e3).trans (ex_del e4)) (w3.ex e4) (hr _ p (sq_of (del_at (fresh_not w3.live hp) h4)))
    | err k => exact hr.elim
end
end Rw
namespace Rw
open PySem PySem.Spec PyProof.Rows L2 Evl
section
variable {X : Cx} {pins : List (Addr × Obj)} {σ : L2.St} {H : Hp} {s : Shared}
/-- lambda: body -/
def tLamC (T : List (Addr × Str)) (P : Addr) (q : Str) (params : Arguments) (body : Expr) (scope : Scope) (cells : List (Str × Addr)) : TE := fun _ H Q => LamX.Tabs T H ∧
  ∀ f cc H1, H f = none → ExB P H H1 → LamX.Tabs T H1 → H1 f = some (LamC f q params body scope cells cc) → H1 cc = some (LamX.CodeO cc q) → Q (.ref f) H1
theorem pe_lamC {T : List (Addr × Str)} {c P : Addr} {params : Arguments} {body : Expr} {scope : Scope} {pos : Pos} (L : LamX.LamS X.env.scope scope) (TB : LamX.TabB X.base X.mg c P) (codeX : X.env.code = .ref c)
    (inT : (P, X.env.qual ++ "<lambda>") ∈ T) (oneT : ∀ p ∈ T, p.1 = P → p.2 = X.env.qual ++ "<lambda>") (nodef : defaultsOf params X.env = ([], [])) :
    PE X (.Lambda params body scope pos) (tLamC T P (X.env.qual ++ "<lambda>") params body scope (cloFrom X.env.cells scope.names [])) := by
  refine ⟨fun pins s σ H Q I h => ?_⟩
  obtain ⟨tabs0, h⟩ := h
  obtain ⟨trs, atP, okP, allP⟩ := tabs0 _ inT
  generalize hclo : cloFrom X.env.cells scope.names [] = CL at h ⊢
  have frees := L.has I.ok
  refine PySem.W.kla_eval nodef ?_
  have bltP : s.heap.BuiltinsAt X.mg P := TB.bm.keeps I.bk
  have heapP : s.heap.get? P = some { cls := .none, data := .fields trs } := I.hok P _ atP
  cases among : codeAmong pos trs.toList with
  | none =>
    refine PySem.W.kla_makeFunction (mg := X.mg) (c := c) (P := P) (ps := trs) (closure_ok frees) I.ok.glob (I.mod.glob.keeps I.bk) codeX (TB.code.keeps I.bk) heapP okP among TB.gP bltP fun cc tv hp tt kept ge0 lt0 rec0 tab0 => ?_
    rw [hclo]
    obtain ⟨c2, co, fs, t, f2, coAt, coData, coQual⟩ := rec0
    cases f2
    have ge1 : s.heap.objs.size ≤ hp.objs.size := Nat.le_trans ge0 (Nat.le_of_lt lt0)
    have newC : H cc = none := I.hok.fresh ge0
    have J1 := LamX.inv_table (t' := tt) (more := #[rawInt pos.line, rawInt pos.col, .ref cc]) (h' := hp) I atP kept tab0 ge0 ⟨co, fs, t, coAt, coData, coQual⟩
    have extH : ExB P H (upd (upd H P (.tbl (trs ++ #[rawInt pos.line, rawInt pos.col, .ref cc]))) cc (LamX.CodeO cc (X.env.qual ++ "<lambda>"))) := fun b o n e => by
      rw [upd_ne (ne_of_none e newC), upd_ne n]
      exact e
    have snocL : (trs ++ #[rawInt pos.line, rawInt pos.col, .ref cc]).toList = trs.toList ++ [rawInt pos.line, rawInt pos.col, .ref cc] := by simp
    have tabs1 : LamX.Tabs T (upd (upd H P (.tbl (trs ++ #[rawInt pos.line, rawInt pos.col, .ref cc]))) cc (LamX.CodeO cc (X.env.qual ++ "<lambda>"))) := fun p hp => by
      by_cases isP : p.1 = P
      · rw [oneT p hp isP, isP]
        refine ⟨_, by rw [upd_ne (ne_of_none atP newC), upd_same], by rw [snocL]; exact PySem.TriplesOk_snoc _ _ _ _ okP, fun pp cd find => ?_⟩
        rw [snocL] at find
        rcases LamX.among_app _ okP find with z | z
        · obtain ⟨c9, f1, f2⟩ := allP pp cd z
          exact ⟨c9, f1, extH _ _ (fun z => LamX.codeO_ne _ (Option.some.inj ((f2.symm.trans (by rw [z])).trans atP))) f2⟩
        · exact ⟨cc, z, upd_same⟩
      · obtain ⟨trs', t1, t2, t3⟩ := tabs0 p hp
        refine ⟨trs', by rw [upd_ne (ne_of_none t1 newC), upd_ne isP]; exact t1, t2, fun pp cd find => ?_⟩
        obtain ⟨c9, f1, f2⟩ := t3 pp cd find
        exact ⟨c9, f1, extH _ _ (fun z => LamX.codeO_ne _ (Option.some.inj ((f2.symm.trans (by rw [z])).trans atP))) f2⟩
    -- the function object
    have objF : (hp.push (PySem.W.kla_obj "<lambda>" (X.env.qual ++ "<lambda>") params body scope CL ((X.mg "__name__").getD .none) cc tv)).get? hp.objs.size = some (PySem.W.kla_obj "<lambda>" (X.env.qual ++ "<lambda>") params body scope CL ((X.mg "__name__").getD .none) cc tv) := Heap.get?_push_size _ rfl
    generalize eqH1 : (upd (upd H P (.tbl (trs ++ #[rawInt pos.line, rawInt pos.col, .ref cc]))) cc (LamX.CodeO cc (X.env.qual ++ "<lambda>"))) = H1 at J1 extH tabs1
    have newF : H1 hp.objs.size = none := J1.hok.fresh (Nat.le_refl _)
    have J2 := Inv.laid (a := hp.objs.size) (o := LamC hp.objs.size (X.env.qual ++ "<lambda>") params body scope CL cc) (t' := tt) (h' := hp.push (PySem.W.kla_obj "<lambda>" (X.env.qual ++ "<lambda>") params body scope CL ((X.mg "__name__").getD .none) cc tv)) J1 (fun b u e => Heap.get?_push_of_some _ e) (Nat.le_refl _)
      ⟨⟨_, _, objF⟩, ⟨_, objF⟩, fun h1 h2 ⟨pm, ct, e⟩ st => ⟨pm, ct, st _ e⟩⟩
    have extH2 : ExB P H (upd H1 hp.objs.size (LamC hp.objs.size (X.env.qual ++ "<lambda>") params body scope CL cc)) := fun b o n e => by
      rw [upd_ne (ne_of_none (extH b o n e) newF)]
      exact extH b o n e
    have atC : H1 cc = some (LamX.CodeO cc (X.env.qual ++ "<lambda>")) := by rw [← eqH1]; exact upd_same
    refine ⟨.ref hp.objs.size, _, J2, rfl, h hp.objs.size cc _ (I.hok.fresh ge1) extH2 (tabs1.ext fun b o e => by rw [upd_ne (ne_of_none e newF)]; exact e) upd_same ?_⟩
    rw [upd_ne (ne_of_none atC newF)]
    exact atC
  | some cd =>
    obtain ⟨cc, e, oldC⟩ := allP pos cd among
    subst e
    refine PySem.W.kla_makeFunctionHit (mg := X.mg) (c := c) (P := P) (ps := trs) (closure_ok frees) I.ok.glob (I.mod.glob.keeps I.bk) codeX (TB.code.keeps I.bk) heapP okP among bltP fun tv hp tt kept ge1 => ?_
    rw [hclo]
    have objF : (hp.push (PySem.W.kla_obj "<lambda>" (X.env.qual ++ "<lambda>") params body scope CL ((X.mg "__name__").getD .none) cc tv)).get? hp.objs.size = some (PySem.W.kla_obj "<lambda>" (X.env.qual ++ "<lambda>") params body scope CL ((X.mg "__name__").getD .none) cc tv) := Heap.get?_push_size _ rfl
    have newF : H hp.objs.size = none := I.hok.fresh ge1
    have J2 := Inv.laid (a := hp.objs.size) (o := LamC hp.objs.size (X.env.qual ++ "<lambda>") params body scope CL cc) (t' := tt) (h' := hp.push (PySem.W.kla_obj "<lambda>" (X.env.qual ++ "<lambda>") params body scope CL ((X.mg "__name__").getD .none) cc tv)) I (fun b u e => Heap.get?_push_of_some _ (kept b u e)) ge1
      ⟨⟨_, _, objF⟩, ⟨_, objF⟩, fun h1 h2 ⟨pm, ct, e⟩ st => ⟨pm, ct, st _ e⟩⟩
    have extH2 : ∀ b o, H b = some o → upd H hp.objs.size (LamC hp.objs.size (X.env.qual ++ "<lambda>") params body scope CL cc) b = some o := fun b o e => by
      rw [upd_ne (ne_of_none e newF)]
      exact e
    exact ⟨.ref hp.objs.size, _, J2, rfl, h hp.objs.size cc _ newF (ExB.of extH2) (tabs0.ext extH2) upd_same (extH2 _ _ oldC)⟩

end
/-! ### a comprehension whose block is told where it was entered -/
/-- from within the block back to the def around it -/
theorem out_of {X : Cx} {pins p2 : List (Addr × Obj)} {σ σ2 : L2.St} {H H2 : Hp} {s s2 : Shared} {scope : Scope} {ce : Env} {fp : List Addr} (I : Inv X pins σ H s) (ok : ∀ b ∈ fp, FpOk X pins H b) (J : Inv (X.blk s H scope ce fp) p2 σ2 H2 s2) : Inv X pins σ H2 s2 :=
  I.call' (ch := fp) J.os J.base J.hok J.bare fun b hb => let ⟨_, f1, _, f3, f4, f5⟩ := ok b hb; ⟨f3, f1, f4, f5⟩
def tLcK (wi : TI) (g : TG) (tt : L2.St → TT) (te : L2.St → TE) (vs : List Nat) : TE := fun σ H Q => tLc wi g (tt σ) (te σ) vs σ H Q
section
variable {X : Cx}
theorem pe_lcK {elt tg iter : Expr} {ifs : List Expr} {scope : Scope} {own : List (Str × Nat)} {pos : Pos} {wi : TI} {g : TG} {tt : L2.St → TT} {te : L2.St → TE} (hc : X.calm = true) (nd : X.N.Nodup) (hi : PI X tg iter wi) (ok : BlkOk X.N X.env.scope scope own)
    (hg : ∀ (s : Shared) (H : Hp) (C : Addr) (cl : List (Str × Addr)) (fp : List Addr), PG (X.blk s H scope (compEnvC scope cl C X.env) fp) tg g)
    (ht : ∀ (pins : List (Addr × Obj)) (σ : L2.St) (s : Shared) (H : Hp) (C : Addr) (cl : List (Str × Addr)) (fp : List Addr), Inv X pins σ H s → (∀ b ∈ fp, FpOk X pins H b) → PTs (X.blk s H scope (compEnvC scope cl C X.env) fp) ifs (tt σ))
    (he : ∀ (pins : List (Addr × Obj)) (σ : L2.St) (s : Shared) (H : Hp) (C : Addr) (cl : List (Str × Addr)) (fp : List Addr), Inv X pins σ H s → (∀ b ∈ fp, FpOk X pins H b) → PE (X.blk s H scope (compEnvC scope cl C X.env) fp) elt (te σ)) (hs : ∀ x, foldedSetIterable iter X.env x = pure x := by intro _; rfl) :
    PE X (.ListComp elt [⟨tg, iter, ifs, 0⟩] scope pos) (tLcK wi g tt te (own.map (·.2))) := by
  refine ⟨fun ps s0 σ H0 Q I0 want => ?_⟩
  rw [eval_ListComp]
  have caught : ∀ y ∈ scope.names, y.2 = .free → ∃ c, X.env.cells.lookup y.1 = some c := fun y hy e => (ok.free y hy e).elim (fun k => I0.ok.has _ (.inl k)) fun k => I0.ok.has _ (.inr k)
  refine wpAny_comprehension_free (use := none) rfl hs (closure_ok caught) ok.kind (fun y hy e => by rw [ok.uniq y hy, e]) (thn (hi.run ps s0 σ H0 _ I0 want) fun src s1 h1 => thn h1 fun itr s2 h2 => ?_)
  obtain ⟨it, fp, tn, J, Hi, rfl, Ii, T, at0, fi, more⟩ := h2
  refine wpAny_newObj_type (newEnv_comp ?_) (by show 0 ≤ sizeLine; decide)
  generalize eqD : s2.heap.objs.size = D
  have isnew : Hi D = none := Ii.hok.fresh (Nat.le_of_eq eqD)
  obtain ⟨W, ⟨m0, w0⟩, turn⟩ := more D isnew
  generalize eqs : ({ s2 with heap := s2.heap.push { cls := .type "list", data := .seq ([] : List Value).toArray } } : Shared) = sl
  have hl : sl.heap = s2.heap.push { cls := .type "list", data := .seq ([] : List Value).toArray } := by rw [← eqs]
  have Il : Inv X ps σ (upd Hi D (.lst [])) sl := by
    rw [← eqs]
    exact Ii.laid (t' := s2.toks) (fun b o e => Heap.get?_push_of_some _ e) (Nat.le_of_eq eqD) ⟨Nat.zero_le _, [], 0, .nil, by rw [← eqD]; exact Heap.get?_push_size _ rfl⟩
  have low : ∀ b ∈ fp, b < s2.heap.objs.size := fun b hb => let ⟨_, e, _⟩ := T.obj _ _ at0 b hb; Heap.lt_size e
  have fl : ∀ b ∈ fp, FpOk X ps (upd Hi D (.lst [])) b := fun b hb => ⟨by rw [upd_ne (by rw [← eqD]; exact Nat.ne_of_lt (low b hb))]; exact (fi b hb).1, (fi b hb).2⟩
  have atl : tn 0 sl.heap := T.keep _ _ _ at0 fun b _ o e => by rw [hl]; exact Heap.get?_push_of_some _ e
  have Ib := block_start Il ok nd fun b hb => ⟨fl b hb, by rw [hl, Heap.size_push]; exact Nat.lt_succ_of_lt (low b hb)⟩
  have pg := hg sl (upd Hi D (.lst [])) sl.heap.objs.size (cellsFrom (sl.heap.objs.size + 1) scope.names (cloFrom X.env.cells scope.names [])) fp
  have pt := ht ps σ sl (upd Hi D (.lst [])) sl.heap.objs.size (cellsFrom (sl.heap.objs.size + 1) scope.names (cloFrom X.env.cells scope.names [])) fp Il fl
  have pe := he ps σ sl (upd Hi D (.lst [])) sl.heap.objs.size (cellsFrom (sl.heap.objs.size + 1) scope.names (cloFrom X.env.cells scope.names [])) fp Il fl
  show codeAny _ _ (.compStart _ 0 (.ref it) (.ref D) (compEnvC scope (cellsFrom (sl.heap.objs.size + 1) scope.names (cloFrom X.env.cells scope.names [])) sl.heap.objs.size X.env)) (compPost (model X.prog X.w) X.A X.xe none (EP X ps σ Q) (.ref D) sl.heap.objs.size) _
  generalize eqce : compEnvC scope (cellsFrom (sl.heap.objs.size + 1) scope.names (cloFrom X.env.cells scope.names [])) sl.heap.objs.size X.env = ce at Ib pg pt pe ⊢
  have locs : ce.locals = sl.heap.objs.size := by rw [← eqce]; rfl
  generalize eqH : upd Hi D (.lst []) = Hl at Il Ib pg pt pe w0 fl
  generalize eqb : ({ sl with heap := pushCells (sl.heap.push { cls := .type "dict", data := .dict #[] }) scope.names } : Shared) = sb at Ib ⊢
  have atb : tn 0 sb.heap := T.keep _ _ _ atl fun b _ o e => by rw [← eqb]; exact pushCells_keeps _ _ _ _ (Heap.get?_push_of_some _ e)
  have still : ∀ {σ' : L2.St} {H' : Hp} {s' : Shared}, Inv (X.blk sl Hl scope ce fp) [] σ' H' s' → (∀ b ∈ fp, H' b = none) → ∀ b ∈ fp, FpOk (X.blk sl Hl scope ce fp) [] H' b := fun I' n b hb =>
    ⟨n b hb, (I'.ok.exf b hb).1, I'.ok.exfs b hb, .inl hb, fun x c e => (I'.ok.exf b hb).2 x c e, fun p hp => by simp at hp⟩
  refine codeAny_compStart_list ?go (T.self X.A 0 _ _ _ atb ?go)
  refine compLoop_any (fun n s' => ∃ i H', Inv (X.blk sl Hl scope ce fp) [] (wipe σ (own.map (·.2))) H' s' ∧ tn i s'.heap ∧ (∀ b ∈ fp, H' b = none) ∧ W i n H') (fun n s5 ⟨i, H5, I5, at5, n5, w5⟩ => ?_) m0 ⟨0, Hl, Ib, atb, fun b hb => (fl b hb).1, w0⟩
  rcases turn i n H5 w5 with ⟨stop, qq⟩ | ⟨go, Nx, falls, step⟩
  · refine thnF (T.done (X.blk sl Hl scope ce fp) rfl rfl rfl hc i [] s5 _ H5 (fun _ _ => False) I5 (still I5 n5) at5 stop) fun r s6 ⟨hr, I6⟩ => ?_
    subst hr
    have I7 : Inv X ps σ H5 s6 := out_of Il fl I6
    have nC : H5 sl.heap.objs.size = none := by rw [← locs]; exact I6.free
    obtain ⟨m, hn, _⟩ := I6.loc
    have hn : s6.heap.Ns ce.locals m := hn
    rw [locs] at hn
    refine ⟨m, hn, fun h'' sb' => ?_⟩
    obtain ⟨f0, f1, f2, f3, f4, f5⟩ : FpOk X ps H5 sl.heap.objs.size := Il.fpOk (Nat.le_refl _) nC
    exact ⟨.ref D, H5, I7.turned (t' := s6.toks) (fun b o hb e => (sb'.2 b hb).trans e) f0 f1 f3 f4 f5, rfl, qq⟩
  · refine thnF (T.item (X.blk sl Hl scope ce fp) rfl rfl rfl hc i [] s5 _ H5 (fun _ _ => False) I5 (still I5 n5) at5 go) fun r s6 ⟨u, hr, h6⟩ => ?_
    subst hr
    refine thnF h6 fun _ s7 ⟨x, H7, I7, r7, y7, at7, n7⟩ => ?_
    refine thnF (pg.run _ s7 _ H7 x u _ (I7.pinned (still I7 n7) (T.obj _ _ at7)) r7 (step x H7 y7)) fun _ s8 ⟨σ8, H8, I8, hw8, q8⟩ => ?_
    refine thnF (pt.run _ s8 σ8 H8 _ I8 q8) fun b s9 ⟨H9, I9, q9⟩ => ?_
    have fin : ∀ {s' : Shared} {H' : Hp}, Inv (X.blk sl Hl scope ce fp) ([] ++ pinsAt fp s7.heap) σ8 H' s' → Nx H' → ∃ m, m < n ∧ ∃ i H', Inv (X.blk sl Hl scope ce fp) [] (wipe σ (own.map (·.2))) H' s' ∧ tn i s'.heap ∧ (∀ b ∈ fp, H' b = none) ∧ W i m H' := fun {s' H'} I' nx => by
      obtain ⟨m', hm, w'⟩ := falls H' nx
      have pinned : ∀ b ∈ fp, ∀ o, s7.heap.get? b = some o → s'.heap.get? b = some o ∧ H' b = none := fun b hb o e => ⟨(I'.pin (b, o) (List.mem_append_right _ (List.mem_append_right _ (mem_pinsAt hb e)))).1, (I'.pin (b, o) (List.mem_append_right _ (List.mem_append_right _ (mem_pinsAt hb e)))).2.1⟩
      refine ⟨m', hm, i + 1, H', (I'.unpinned (pins := [])).weak (by rw [← hw8, wipe_length]) (fun j v e => (wipe_some (by rw [← hw8] at e; exact e)).1), T.keep _ _ _ at7 fun b hb o e => (pinned b hb o e).1, fun b hb => ?_, w'⟩
      obtain ⟨o, e, _⟩ := T.obj _ _ at7 b hb
      exact (pinned b hb o e).2
    cases b with
    | false => exact fin I9 (by simpa using q9)
    | true =>
      simp only [if_true] at q9 ⊢
      exact thnF (pe.run _ s9 σ8 H9 _ I9 q9) fun z s10 ⟨yv, H10, I10, r10, acc, hD10, hz10, nx⟩ => app_ok (X := X.blk sl Hl scope ce fp) I10 hD10 hz10 r10 fun s11 I11 => fin I11 nx
end
end Rw
namespace Rw
open PySem PySem.Spec PyProof.Rows L2 Evl
/-- _law_told(e) within a block, e a lambda of the def around it -/
def tToldB (X : Cx) (σ0 : L2.St) (c : Nat → Addr) (k : Nat) (ta : TA) : TE := fun σ H Q => ta σ H fun vs H1 => ∃ (f cc : Addr) (params : Arguments) (body : Expr) (scope : Scope) (t : XK → TE), vs = [.ref f] ∧ H1 f = some (LamC f (X.env.qual ++ "<lambda>") params body scope (cloFrom X.env.cells scope.names []) cc) ∧ H1 cc = some (LamX.CodeO cc (X.env.qual ++ "<lambda>")) ∧ LamX.LamS X.env.scope scope ∧
  (∀ (pm cv ctv : Value), bindArgs (PySem.W.kla_fn "<lambda>" (X.env.qual ++ "<lambda>") params body scope (cloFrom X.env.cells scope.names []) pm cv ctv) ⟨[], []⟩ = pure []) ∧
  (∀ (A : Around) (outer : List Env) (s : Shared) (H : Hp) (E : XK), Room k (A.deeper (LamX.lamEnv X scope s.heap.objs.size f cc)) → PE (LamX.lamCx X A outer s H E scope f cc) body (t E)) ∧ t (ETold c Q) σ0 H1 Q
theorem pe_toldB {X : Cx} {pins0 : List (Addr × Obj)} {σ0 : L2.St} {H0 : Hp} {s0 : Shared} {scopeB : Scope} {ceB : Env} {fp : List Addr} (I0 : Inv X pins0 σ0 H0 s0) (fpo : ∀ b ∈ fp, FpOk X pins0 H0 b) {c : Nat → Addr} {k : Nat} {g : Addr} {oc kV dc pm cdv ct : Value} {od an : Option Addr} {osl : Array (Option Value)} {p pos : Pos} {e : Expr} {ta : TA} (B : Exs X.K X.mg c) (hm : X.mg "_law_told" = some (.ref g)) (kp : PySem.W.keepIn X.K (.ref g) = true)
    (lk : X.K.lookup g = some ⟨oc, od, .func (PySem.W.fnOf "_law_told" "_law_told" (defArgs sTold) (defBody sTold) (defScope sTold) .none kV dc pm an cdv ct), osl⟩) (hcg : PySem.W.codeIn X.K cdv "_law_told" = true) (b : Binds X.K (PySem.W.fnOf "_law_told" "_law_told" (defArgs sTold) (defBody sTold) (defScope sTold) .none kV dc pm an cdv ct) ["what"] [])
    (room : Room (k + 2) X.A) (ha : PA (X.blk s0 H0 scopeB ceB fp) [e] ta) (hg : Gl (X.blk s0 H0 scopeB ceB fp) "_law_told" := by rfl) (he : starEach [e] ceB = (false, eval e ceB) :: starEach [] ceB := by rfl) (hpl : (backTo pos (starEach [] ceB)).any (·.1) = false := by rfl) :
    PE (X.blk s0 H0 scopeB ceB fp) (.Call (.Name "_law_told" p) [e] [] pos) (tToldB X σ0 c k ta) := by
  refine ⟨fun pins s σ H Q I h => ?_⟩
  refine wpAny_Call_Name_kw (ld_glob I hg hm ?_ (by decide))
  refine PySem.W.callWith_K (h₀ := X.base) I.ok.mod.kin kp (thn (ha.run pos pins s σ H _ I h) fun us s1 ⟨vs, H1, I1, r, q⟩ => ⟨I1.kIn, ?_⟩) he hpl
  obtain ⟨f, cc, params, body, scope, t, rfl, atf, atc, L, binds, runs, q⟩ := q
  have I1 : Inv (X.blk s0 H0 scopeB ceB fp) pins σ H1 s1 := I1
  have IX := out_of I0 fpo I1
  obtain rfl : us = [Value.ref f] := Vals.ref1 r
  have ran : codeAny (model X.prog X.w) X.A (.call (.ref g) ⟨[.ref f], []⟩) (CR (L2.CX X.prog X.w) X.stack X.prog X.w H1 s1 Q E0) s1 := by
    refine LamX.run_ofS (N := ["what"]) (ps := ["what"]) (us := [.ref f]) (vs := [.ref f]) lk hcg scTold room IX.env0 (b s1 [.ref f] IX.kIn rfl) (.cons rfl .nil) rfl fun room' => ?_
    refine ⟨_, pss_one (ps_try_many (tb := fun W D σZ HZ => ∃ E' : XK, (∀ cls d σ' H', E' cls d H' → W cls d σ' H') ∧ σZ[0]? = some (some (.ref f)) ∧ HZ f = some (LamC f (X.env.qual ++ "<lambda>") params body scope (cloFrom X.env.cells scope.names []) cc) ∧ HZ cc = some (LamX.CodeO cc (X.env.qual ++ "<lambda>")) ∧ t E' σ0 HZ D.rt) rfl rfl takes_none5
        (fun W pn xe tk _ => ⟨fun pz s' uz Hz D Iz h' => ?_⟩)
        (HdsOk.cons ⟨rfl, by decide, .inl (B.e 0 (by decide)).g⟩ (fun _ _ _ _ _ _ _ => pss_one (ps_ret pe_str)) (HdsOk.cons ⟨rfl, by decide, .inl (B.e 1 (by decide)).g⟩ (fun _ _ _ _ _ _ _ => pss_one (ps_ret pe_str)) (HdsOk.cons ⟨rfl, by decide, .inl (B.e 2 (by decide)).g⟩ (fun _ _ _ _ _ _ _ => pss_one (ps_ret pe_str)) (HdsOk.cons ⟨rfl, by decide, .inl (B.e 3 (by decide)).g⟩ (fun _ _ _ _ _ _ _ => pss_one (ps_ret pe_str)) (HdsOk.cons ⟨rfl, by decide, .inl (B.e 4 (by decide)).g⟩ (fun _ _ _ _ _ _ _ => pss_one (ps_ret pe_str)) (HdsOk.cons ⟨rfl, by decide, .inl (B.e 5 (by decide)).g⟩ (fun _ _ _ _ _ _ _ => pss_one (ps_ret pe_str)) (HdsOk.cons ⟨rfl, by decide, .inl (B.e 6 (by decide)).g⟩ (fun _ _ _ _ _ _ _ => pss_one (ps_ret pe_str)) (HdsOk.cons ⟨rfl, by decide, .inl (B.e 7 (by decide)).g⟩ (fun _ _ _ _ _ _ _ => pss_one (ps_ret pe_str)) (HdsOk.cons ⟨rfl, by decide, .inl (B.e 8 (by decide)).g⟩ (fun _ _ _ _ _ _ _ => pss_one (ps_ret pe_str)) (HdsOk.cons ⟨rfl, by decide, .inl (B.e 9 (by decide)).g⟩ (fun _ _ _ _ _ _ _ => pss_one (ps_ret pe_str)) (HdsOk.cons ⟨rfl, by decide, .inl (B.e 10 (by decide)).g⟩ (fun _ _ _ _ _ _ _ => pss_one (ps_ret pe_str)) (HdsOk.nil))))))))))))), ?_⟩
    · obtain ⟨E', hE, g1, g2, g3, g4⟩ := h'
      exact (pss_one (ps_ret (pe_actC (E := E') (i := 0) (k := k) IX L binds tk hE room' (fun A outer s H hr2 => runs A outer s H E' hr2) rfl (.inl rfl)))).run pz s' uz Hz D Iz ⟨g1, g2, g3, g4⟩
    · refine ⟨ETold c Q, fun cls d σ' H' hE => ?_, rfl, atf, atc, q⟩
      obtain ⟨i, hi, rfl, q⟩ := hE
      exact ⟨decide (i = 0), B.m i 0 hi (by omega), fun hb _ _ => (by obtain rfl : i = 0 := of_decide_eq_true hb; exact q), fun hb0 => (by have n0 := of_decide_eq_false hb0; exact ⟨decide (i = 1), B.m i 1 hi (by omega), fun hb _ _ => (by obtain rfl : i = 1 := of_decide_eq_true hb; exact q), fun hb1 => (by have n1 := of_decide_eq_false hb1; exact ⟨decide (i = 2), B.m i 2 hi (by omega), fun hb _ _ => (by obtain rfl : i = 2 := of_decide_eq_true hb; exact q), fun hb2 => (by have n2 := of_decide_eq_false hb2; exact ⟨decide (i = 3), B.m i 3 hi (by omega), fun hb _ _ => (by obtain rfl : i = 3 := of_decide_eq_true hb; exact q), fun hb3 => (by have n3 := of_decide_eq_false hb3; exact ⟨decide (i = 4), B.m i 4 hi (by omega), fun hb _ _ => (by obtain rfl : i = 4 := of_decide_eq_true hb; exact q), fun hb4 => (by have n4 := of_decide_eq_false hb4; exact ⟨decide (i = 5), B.m i 5 hi (by omega), fun hb _ _ => (by obtain rfl : i = 5 := of_decide_eq_true hb; exact q), fun hb5 => (by have n5 := of_decide_eq_false hb5; exact ⟨decide (i = 6), B.m i 6 hi (by omega), fun hb _ _ => (by obtain rfl : i = 6 := of_decide_eq_true hb; exact q), fun hb6 => (by have n6 := of_decide_eq_false hb6; exact ⟨decide (i = 7), B.m i 7 hi (by omega), fun hb _ _ => (by obtain rfl : i = 7 := of_decide_eq_true hb; exact q), fun hb7 => (by have n7 := of_decide_eq_false hb7; exact ⟨decide (i = 8), B.m i 8 hi (by omega), fun hb _ _ => (by obtain rfl : i = 8 := of_decide_eq_true hb; exact q), fun hb8 => (by have n8 := of_decide_eq_false hb8; exact ⟨decide (i = 9), B.m i 9 hi (by omega), fun hb _ _ => (by obtain rfl : i = 9 := of_decide_eq_true hb; exact q), fun hb9 => (by have n9 := of_decide_eq_false hb9; exact ⟨decide (i = 10), B.m i 10 hi (by omega), fun hb _ _ => (by obtain rfl : i = 10 := of_decide_eq_true hb; exact q), fun hb10 => (by have n10 := of_decide_eq_false hb10; exact (by omega : False).elim)⟩)⟩)⟩)⟩)⟩)⟩)⟩)⟩)⟩)⟩)⟩
  refine wpAny_call (codeAny_mono ran fun r s2 got => ?_)
  cases r with
  | error e => exact (passL (X := X.blk s0 H0 scopeB ceB fp)) pins σ H1 s1 e s2 I1 got
  | ok fl =>
    cases fl with
    | ret u => exact I1.after got
    | next => exact False.elim got
    | brk => exact False.elim got
    | cont => exact False.elim got
end Rw
namespace Rw
open PySem PySem.Spec PyProof.Rows L2 Evl Cy
section
variable {K : PySem.W.Frag} {α β γ δ R τ : Type} {E E' : XK} {cl : Nat → Addr} {M : List Addr} {σ : L2.St} {I I' H H' : Hp} {S S' S1 S2 S3 : List Cell} {te ta tb tc to : TE} {tt : TT} {tr : TA} {t : Ty α} {u : Ty β} {w' : Ty γ} {x : α} {y : β} {v : V} {xs : List α}
/-- one thing that may change is changed -/
theorem Holds.chg {n : Nat} {c c' : Cell} {o : HO} (w : Holds M S H) (hk : S[n]? = some c) (ha : c'.a = c.a) (e : ExB c.a H H') (hc : H' c.a = some o) (hr : c'.r (del M H') o c'.x) : Holds M (S.set n c') H' ∧ Ex (del (ads S) H) (del (ads S) H') := by
  have cS : c.a ∈ ads S := List.mem_map.mpr ⟨_, List.mem_of_getElem? hk, rfl⟩
  have cM : c.a ∈ M := w.sub _ cS
  have ee : Ex (del (ads S) H) (del (ads S) H') := ex_sub (A := [c.a]) (fun a h => by rw [List.mem_singleton.mp h]; exact cS) (exb_del.mp e)
  have em := w.grow ee
  have ea := ads_set hk ha
  refine ⟨⟨fun z hz => ?_, by rw [ea]; exact w.one, fun m hm => ?_⟩, ee⟩
  · obtain ⟨i, hi⟩ := List.mem_iff_getElem?.mp hz
    have lt : n < S.length := (List.getElem?_eq_some_iff.mp hk).1
    rw [List.getElem?_set] at hi
    by_cases h : n = i
    · subst h
      rw [if_pos rfl, if_pos lt] at hi
      obtain rfl := Option.some.inj hi
      exact ⟨by rw [ha]; exact cM, o, by rw [ha]; exact hc, hr⟩
    · rw [if_neg h] at hi
      obtain ⟨h1, u, h2, h3⟩ := w.at_ z (List.mem_of_getElem? hi)
      refine ⟨h1, u, e _ _ (fun q => ?_) h2, z.up em h3⟩
      have g1 : (ads S)[i]? = some z.a := by unfold ads; rw [List.getElem?_map, hi]; rfl
      have g2 : (ads S)[n]? = some c.a := by unfold ads; rw [List.getElem?_map, hk]; rfl
      rw [q] at g1
      have li : i < (ads S).length := (List.getElem?_eq_some_iff.mp g1).1
      exact h ((List.getElem?_inj li w.one).mp (g1.trans g2.symm)).symm
  · by_cases h : m = c.a
    · rw [h, hc]; exact fun z => nomatch z
    · cases g : H m with
      | none => exact absurd g (w.live m hm)
      | some o => rw [e m o h g]; exact fun z => nomatch z
theorem set_same {c : Cell} {n : Nat} (hk : S[n]? = some c) : S.set n c = S := by
  apply List.ext_getElem? fun i => ?_
  rw [List.getElem?_set]
  by_cases h : n = i
  · subst h
    rw [if_pos rfl, if_pos (List.getElem?_eq_some_iff.mp hk).1, hk]
  · rw [if_neg h]
/-! ### lambdas that are kept -/
/-- the table of a def's code, which lambdas fill -/
def cTab (P : Addr) (q : Str) : Cell := ⟨P, Unit, fun I o _ => ∃ ps : Array Value, o = .tbl ps ∧ TriplesOk ps.toList ∧ ∀ (pos : Pos) (cv : Value), codeAmong pos ps.toList = some cv → ∃ c, cv = .ref c ∧ I c = some (LamX.CodeO c q), fun e ⟨ps, a, b, c⟩ => ⟨ps, a, b, fun pos cv h => let ⟨z, g1, g2⟩ := c pos cv h; ⟨z, g1, e _ _ g2⟩⟩, ()⟩
/-- none of what may change is a code -/
def NoCode (M : List Addr) (S : List Cell) : Prop := (∀ m ∈ M, m ∈ ads S) ∧ ∀ c ∈ S, ∀ I o, c.r I o c.x → ∀ z q, o ≠ LamX.CodeO z q
theorem nc_nil : NoCode [] [] := ⟨fun _ h => h, fun c h => by cases h⟩
theorem nc_cons {c : Cell} (h : NoCode M S) (k : ∀ I o, c.r I o c.x → ∀ z q, o ≠ LamX.CodeO z q) : NoCode (c.a :: M) (c :: S) :=
  ⟨fun m hm => by rcases List.mem_cons.mp hm with z | z; exact List.mem_cons.mpr (.inl z); exact List.mem_cons_of_mem _ (h.1 m z), fun z hz => by rcases List.mem_cons.mp hz with e | e; rw [e]; exact k; exact h.2 z e⟩
theorem nc_dice {d : Addr} {z : Dice} : ∀ I o, (cDice d z).r I o (cDice d z).x → ∀ c q, o ≠ LamX.CodeO c q := fun I o h c q e => by
  obtain rfl : o = _ := h
  unfold LamX.CodeO at e
  cases e
theorem nc_tab {P : Addr} {p : Str} : ∀ I o, (cTab P p).r I o (cTab P p).x → ∀ c q, o ≠ LamX.CodeO c q := fun I o h c q e => by
  obtain ⟨ps, rfl, _⟩ := h
  exact LamX.codeO_ne _ e.symm
theorem nc_list {d : Addr} {z : List α} : ∀ I o, (cL d t z).r I o (cL d t z).x → ∀ c q, o ≠ LamX.CodeO c q := fun I o h c q e => by
  obtain ⟨vs, rfl, _⟩ := h
  unfold LamX.CodeO at e
  cases e
theorem em_lamC {n : Nat} {P : Addr} {q : Str} {params : Arguments} {body : Expr} {scope : Scope} {cells : List (Str × Addr)} (hk : S[n]? = some (cTab P q)) (nc : NoCode M S) (r : ∀ f cc I', Ex I I' → I' f = some (LamC f q params body scope cells cc) → I' cc = some (LamX.CodeO cc q) → t.r I' (.ref f) x) :
    Em E cl M (tLamC [(P, q)] P q params body scope cells) σ I S t (.ok x) S := by
  refine em_mk rfl fun H1 i w Q qq => ?_
  obtain ⟨PM, o, h1, ps, rfl, ok, all⟩ := w.at_ _ (List.mem_of_getElem? hk)
  refine ⟨fun p hp => ?_, fun f cc H2 fn e tabs hf hc => ?_⟩
  · obtain rfl := List.mem_singleton.mp hp
    exact ⟨ps, h1, ok, fun pos cv h => let ⟨z, g1, g2⟩ := all pos cv h; ⟨z, g1, (del_some.mp g2).2⟩⟩
  · obtain ⟨ps2, g1, g2, g3⟩ := tabs (P, q) (List.mem_singleton.mpr rfl)
    have kd : ∀ z p, H2 z = some (LamX.CodeO z p) → del M H2 z = some (LamX.CodeO z p) := fun z p h => by
      refine del_some.mpr ⟨fun zm => ?_, h⟩
      obtain ⟨c, hc, rfl⟩ := List.mem_map.mp (nc.1 z zm)
      obtain ⟨_, u, hu, ru⟩ := w.at_ c hc
      by_cases zP : c.a = P
      · rw [zP] at h
        rw [h] at g1
        exact LamX.codeO_ne _ (Option.some.inj g1)
      · rw [e _ _ zP hu] at h
        exact nc.2 c hc _ _ ru _ _ (Option.some.inj h)
    obtain ⟨w2, x2⟩ := w.chg (c' := cTab P q) hk rfl e g1 ⟨ps2, rfl, g2, fun pos cv h => let ⟨z, k1, k2⟩ := g3 pos cv h; ⟨z, k1, kd z q k2⟩⟩
    rw [set_same hk] at w2
    exact qq _ H2 x2 w2 (r f cc _ (i.trans (w.grow x2)) (del_at (fresh_not w.live fn) hf) (kd cc q hc))
/-- a lambda of the def X, which raises: what it is told as -/
def kTold (X : Cx) (cl : Nat → Addr) (k : Nat) (ag : L2.St → Prop) : Ty Str := ⟨fun I v z => ∃ (f cc : Addr) (params : Arguments) (body : Expr) (scope : Scope) (tb : XK → TE) (i : Nat), v = .ref f ∧ I f = some (LamC f (X.env.qual ++ "<lambda>") params body scope (cloFrom X.env.cells scope.names []) cc) ∧ I cc = some (LamX.CodeO cc (X.env.qual ++ "<lambda>")) ∧
    LamX.LamS X.env.scope scope ∧ (∀ (pm cv ctv : Value), bindArgs (PySem.W.kla_fn "<lambda>" (X.env.qual ++ "<lambda>") params body scope (cloFrom X.env.cells scope.names []) pm cv ctv) ⟨[], []⟩ = pure []) ∧
    (∀ (A : Around) (outer : List Env) (s : Shared) (H : Hp) (E : XK), Room k (A.deeper (LamX.lamEnv X scope s.heap.objs.size f cc)) → PE (LamX.lamCx X A outer s H E scope f cc) body (tb E)) ∧ i < 11 ∧ z = kindName i ∧
    ∀ E M S σ' I', Ex I I' → ag σ' → Em E cl M (tb E) σ' I' S kN (.er i) S,
  fun e ⟨f, cc, params, body, scope, tb, i, h1, h2, h3, h4, h5, h6, h7, h8, h9⟩ => ⟨f, cc, params, body, scope, tb, i, h1, e _ _ h2, e _ _ h3, h4, h5, h6, h7, h8, fun E M S σ' I' e2 => h9 E M S σ' I' (e.trans e2)⟩⟩
theorem em_er {t' : Ty β} {k : Nat} (h : Em E cl M te σ I S t (.er k) S') : Em E cl M te σ I S t' (.er k) S' := ⟨h.ad, fun H1 i w Q _ qe => h.run H1 i w Q (fun x v H2 e => nomatch e) fun k H2 e => qe k H2 (by cases e; rfl)⟩
theorem kind_ok : ∀ i, i < 11 → (PyData.str (kindName i)).canLay0 = true := by decide +kernel
theorem em_toldB {X : Cx} {k : Nat} {σ0 : L2.St} {ag : L2.St → Prop} {z : Str} (ha : Ea E' cl M tr σ I S (aC (kTold X cl k ag) a0) (.ok (z, ())) S') (hag : ag σ0) : Em E' cl M (tToldB X σ0 cl k tr) σ I S kS (.ok z) S' :=
  em_mk ha.ad fun H1 i w Q q => ea_of ha H1 i w _ fun vs H2 e w2 r => by
    obtain ⟨v, rs, rfl, ⟨f, cc, params, body, scope, tb, j, rfl, h2, h3, h4, h5, h6, h7, rfl, h9⟩, rfl⟩ := r
    exact ⟨f, cc, params, body, scope, tb, rfl, (del_some.mp h2).2, (del_some.mp h3).2, h4, h5, h6, (h9 (ETold cl Q) M S' σ0 (del M H2) (Ex.refl _) hag).run H2 (Ex.refl _) w2 Q (fun x v H3 z => nomatch z) fun k H3 ek e3 w3 => by cases ek; exact ⟨j, h7, rfl, q _ H3 (ads_tr ha.ad e e3) w3 rfl⟩⟩
theorem em_toldC {X : Cx} {k : Nat} {ag : L2.St → Prop} {z : Str} (ha : Ea E' cl M tr σ I S (aC (kTold X cl k ag) a0) (.ok (z, ())) S') (hag : ag σ) : Em E' cl M (tToldC X cl k tr) σ I S kS (.ok z) S' :=
  em_mk ha.ad fun H1 i w Q q => ea_of ha H1 i w _ fun vs H2 e w2 r => by
    obtain ⟨v, rs, rfl, ⟨f, cc, params, body, scope, tb, j, rfl, h2, h3, h4, h5, h6, h7, rfl, h9⟩, rfl⟩ := r
    exact ⟨f, cc, params, body, scope, tb, rfl, (del_some.mp h2).2, (del_some.mp h3).2, h4, h5, h6, (h9 (ETold cl Q) M S' σ (del M H2) (Ex.refl _) hag).run H2 (Ex.refl _) w2 Q (fun x v H3 z => nomatch z) fun k H3 ek e3 w3 => by cases ek; exact ⟨j, h7, rfl, q _ H3 (ads_tr ha.ad e e3) w3 rfl⟩⟩
/-! ### more operations -/
theorem filter_yes (l : List α) (f : α → β) : (l.filter fun _ => true).map f = l.map f := by rw [List.filter_eq_self.mpr fun _ _ => rfl]
theorem o_intI {i : Int} : OpN (fun xs H Q => (∃ i, xs = [V.int i] ∧ Q (V.int i) H) ∨ ∃ k, xs = [V.bl k] ∧ Q (V.int (if k = true then 1 else 0)) H) (aC kI a0) (i, ()) kI i := fun M us H l a Q q => by
  obtain ⟨v, r, rfl, rfl, rfl⟩ := a
  exact .inl ⟨i, rfl, q _ H (Ex.refl H) rfl⟩
theorem o_intB {b : Bool} : OpN (fun xs H Q => (∃ i, xs = [V.int i] ∧ Q (V.int i) H) ∨ ∃ k, xs = [V.bl k] ∧ Q (V.int (if k = true then 1 else 0)) H) (aC kB a0) (b, ()) kI (if b = true then 1 else 0) := fun M us H l a Q q => by
  obtain ⟨v, r, rfl, rfl, rfl⟩ := a
  exact .inr ⟨b, rfl, q _ H (Ex.refl H) rfl⟩
theorem o_abs {i : Int} : OpN (fun xs H Q => ∃ i, xs = [V.int i] ∧ Q (V.int (if i < 0 then -i else i)) H) (aC kI a0) (i, ()) kI (if i < 0 then -i else i) := fun M us H l a Q q => by
  obtain ⟨v, r, rfl, rfl, rfl⟩ := a
  exact ⟨i, rfl, q _ H (Ex.refl H) rfl⟩
theorem o_lenL : OpN (fun xs H Q => ∃ p ys, xs = [.ref p] ∧ (SqL K H p ys ∨ SqT K H p ys) ∧ Q (.int ys.length) H) (aC (kL K t) a0) (xs, ()) kI (xs.length : Int) := fun M us H l a Q q => by
  obtain ⟨v, r, rfl, ⟨p, vs, rfl, hp, ha⟩, rfl⟩ := a
  exact ⟨p, vs, rfl, .inl (ex_l del_le hp), q _ H (Ex.refl H) (by show V.int _ = V.int _; rw [ha.len])⟩
theorem o_lenT : OpN (fun xs H Q => ∃ p ys, xs = [.ref p] ∧ (SqL K H p ys ∨ SqT K H p ys) ∧ Q (.int ys.length) H) (aC (kT K t) a0) (xs, ()) kI (xs.length : Int) := fun M us H l a Q q => by
  obtain ⟨v, r, rfl, ⟨p, vs, rfl, hp, ha⟩, rfl⟩ := a
  exact ⟨p, vs, rfl, .inr (ex_t del_le hp), q _ H (Ex.refl H) (by show V.int _ = V.int _; rw [ha.len])⟩
theorem mk_list {H : Hp} {vs : List V} {Q : VK} (l : ∀ m ∈ M, H m ≠ none) (a : All2 (t.r (del M H)) vs xs) (q : ∀ v H', Ex H H' → (kL K t).r (del M H') v xs → Q v H') (p : Addr) (hp : H p = none) : Q (.ref p) (upd H p (.lst vs)) :=
  q _ _ (Ex.new hp) ⟨p, vs, rfl, sq_of (del_at (fresh_not l hp) upd_same), all2_up t (ex_del (Ex.new hp)) a⟩
theorem mk_tup {H : Hp} {vs : List V} {Q : VK} (l : ∀ m ∈ M, H m ≠ none) (a : All2 (t.r (del M H)) vs xs) (q : ∀ v H', Ex H H' → (kT K t).r (del M H') v xs → Q v H') (p : Addr) (hp : H p = none) : Q (.ref p) (upd H p (.tup vs)) :=
  q _ _ (Ex.new hp) ⟨p, vs, rfl, st_of (del_at (fresh_not l hp) upd_same), all2_up t (ex_del (Ex.new hp)) a⟩
theorem o_listL : OpN (fun xs H Q => ∃ p ys, xs = [.ref p] ∧ (SqL K H p ys ∨ SqT K H p ys) ∧ ∀ l, H l = none → Q (.ref l) (upd H l (.lst ys))) (aC (kL K t) a0) (xs, ()) (kL K t) xs := fun M us H l a Q q => by
  obtain ⟨v, r, rfl, ⟨p, vs, rfl, hp, ha⟩, rfl⟩ := a
  exact ⟨p, vs, rfl, .inl (ex_l del_le hp), mk_list l ha q⟩
theorem o_listT : OpN (fun xs H Q => ∃ p ys, xs = [.ref p] ∧ (SqL K H p ys ∨ SqT K H p ys) ∧ ∀ l, H l = none → Q (.ref l) (upd H l (.lst ys))) (aC (kT K t) a0) (xs, ()) (kL K t) xs := fun M us H l a Q q => by
  obtain ⟨v, r, rfl, ⟨p, vs, rfl, hp, ha⟩, rfl⟩ := a
  exact ⟨p, vs, rfl, .inr (ex_t del_le hp), mk_list l ha q⟩
theorem all_ints {H : Hp} {vs : List V} {ns : List Int} (a : All2 (kI.r H) vs ns) : vs = ns.map V.int := by
  induction a with
  | nil => rfl
  | cons r _ ih => rw [List.map_cons, ← ih, show _ = V.int _ from r]
theorem all_bools {H : Hp} {vs : List V} {ns : List Bool} (a : All2 (kB.r H) vs ns) : vs = ns.map V.bl := by
  induction a with
  | nil => rfl
  | cons r _ ih => rw [List.map_cons, ← ih, show _ = V.bl _ from r]
theorem o_sumL {ns : List Int} : OpN (rSum K) (aC (kL K kI) a0) (ns, ()) kI ns.sum := fun M us H l a Q q => by
  obtain ⟨v, r, rfl, ⟨p, vs, rfl, hp, ha⟩, rfl⟩ := a
  exact ⟨p, ns, rfl, ex_l del_le (by rw [← all_ints ha]; exact hp), q _ H (Ex.refl H) rfl⟩
theorem o_isN {x : Option α} : Op2 (fun x y H Q => y = .non ∧ Q (.bl (decide (x = .non))) H) (kO t) x kN () kB x.isNone := fun M u w H l a b Q q => by
  obtain rfl : w = .non := b
  refine ⟨rfl, q _ H (Ex.refl H) ?_⟩
  cases x with
  | none => rw [show u = .non from a]; rfl
  | some y => show V.bl _ = V.bl _; rw [decide_eq_false a.2]; rfl
theorem o_notN {x : Option α} : Op2 (fun x y H Q => y = .non ∧ Q (.bl (!decide (x = .non))) H) (kO t) x kN () kB x.isSome := fun M u w H l a b Q q => by
  obtain rfl : w = .non := b
  refine ⟨rfl, q _ H (Ex.refl H) ?_⟩
  cases x with
  | none => rw [show u = .non from a]; rfl
  | some y => show V.bl _ = V.bl _; rw [decide_eq_false a.2]; rfl
/-- None or a number against a number -/
theorem o_eqOI {x : Option Int} {j : Int} : Op2 rEq (kO kI) x kI j kB (decide (x = some j)) := fun M u w H l a b Q q => by
  obtain rfl : w = .int j := b
  cases x with
  | none =>
    obtain rfl : u = .non := a
    exact ⟨rfl, q _ H (Ex.refl H) (by show V.bl _ = V.bl _; congr 1)⟩
  | some y =>
    obtain rfl : u = .int y := a.1
    exact ⟨rfl, q _ H (Ex.refl H) (by show V.bl _ = V.bl _; congr 1; simp)⟩
theorem em_some (h : Em E cl M te σ I S t (.ok x) S') (nn : ∀ H v, t.r H v x → v ≠ .non) : Em E cl M te σ I S (kO t) (.ok (some x)) S' :=
  em_mk h.ad fun H1 i w Q q => em_of h H1 i w Q fun v H2 e w2 r => q v H2 e w2 ⟨r, nn _ _ r⟩
theorem nn_2 {a : Ty α} {b : Ty β} {x : α × β} : ∀ H v, (k2 K a b).r H v x → v ≠ .non := fun H v ⟨p, _, _, h, _⟩ z => by rw [h] at z; cases z
theorem nn_I {x : Int} : ∀ H v, kI.r H v x → v ≠ .non := fun H v h z => by rw [show v = .int x from h] at z; cases z
/-- x in (not in) a list of data -/
theorem o_inL {i : Nat} (D : Dq K t i) (h : i < 64) {x : α} {xs : List α} [Decidable (x ∈ xs)] : Op2 (rInD K) t x (kL K t) xs kB (decide (x ∈ xs)) := fun M v1 v2 H l a b Q q => by
  obtain ⟨p, vs, rfl, hp, ha⟩ := b
  have ha2 : All2 (t.r H) vs xs := all2_up t del_le ha
  have al := dp_all D ha2
  refine ⟨D.enc x, xs.map D.enc, dp_upM del_le _ _ (D.dp a).1, .lst (ex_l del_le hp) al.1, shaped_of (D.dp a).2 (Nat.le_trans (D.dep x) (by omega)), shaped_of (by rw [PyData.canLay0]; exact al.2) (by rw [PyData.depth]; have := dep_all D xs; omega), q _ H (Ex.refl H) ?_⟩
  show V.bl _ = V.bl _
  congr 1
  rw [Bool.eq_iff_iff, List.any_eq_true, decide_eq_true_iff]
  constructor
  · rintro ⟨z, hz, e⟩
    obtain ⟨y, hy, rfl⟩ := List.mem_map.mp hz
    rw [← (D.eq _ _).mp e]
    exact hy
  · intro h
    exact ⟨D.enc x, List.mem_map.mpr ⟨x, h, rfl⟩, (D.eq _ _).mpr rfl⟩
theorem o_niL {i : Nat} (D : Dq K t i) (h : i < 64) {x : α} {xs : List α} [Decidable (x ∈ xs)] : Op2 (rNotInD K) t x (kL K t) xs kB (!decide (x ∈ xs)) := fun M v1 v2 H l a b Q q => by
  obtain ⟨p, vs, rfl, hp, ha⟩ := b
  have ha2 : All2 (t.r H) vs xs := all2_up t del_le ha
  have al := dp_all D ha2
  refine ⟨D.enc x, xs.map D.enc, dp_upM del_le _ _ (D.dp a).1, .lst (ex_l del_le hp) al.1, shaped_of (D.dp a).2 (Nat.le_trans (D.dep x) (by omega)), shaped_of (by rw [PyData.canLay0]; exact al.2) (by rw [PyData.depth]; have := dep_all D xs; omega), q _ H (Ex.refl H) ?_⟩
  show V.bl _ = V.bl _
  congr 2
  rw [Bool.eq_iff_iff, List.any_eq_true, decide_eq_true_iff]
  constructor
  · rintro ⟨z, hz, e⟩
    obtain ⟨y, hy, rfl⟩ := List.mem_map.mp hz
    rw [← (D.eq _ _).mp e]
    exact hy
  · intro h
    exact ⟨D.enc x, List.mem_map.mpr ⟨x, h, rfl⟩, (D.eq _ _).mpr rfl⟩
/-! dicts that are only asked -/
/-- a dict of whole numbers to values, told by what is found -/
def kFn (t : Ty α) : Ty (Int → Option α) := ⟨fun H v f => ∃ p kvs, v = .ref p ∧ H p = some (.dK kvs) ∧ ∀ k : Int, (valV kvs (.inl k) = none ∧ f k = none) ∨ ∃ w y, valV kvs (.inl k) = some w ∧ f k = some y ∧ t.r H w y,
  fun e ⟨p, kvs, h1, h2, h3⟩ => ⟨p, kvs, h1, e _ _ h2, fun k => (h3 k).imp id fun ⟨w, y, a, b, c⟩ => ⟨w, y, a, b, t.up e c⟩⟩⟩
def dictOf (l : List (Int × α)) (k : Int) : Option α := (l.reverse.find? fun q => decide (q.1 = k)).map (·.2)
theorem dictOf_cons (l : List (Int × α)) (a : Int × α) (k : Int) : dictOf (a :: l) k = (dictOf l k).or (if a.1 = k then some a.2 else none) := by
  unfold dictOf
  rw [List.reverse_cons, List.find?_append, Option.map_or]
  congr 1
  by_cases h : a.1 = k
  · simp [h]
  · simp [h]
/-- keys and values answer to a function -/
def KeyFn (R : V → α → Prop) (kvs : List (Key × V)) (f : Int → Option α) : Prop := ∀ k : Int, (valV kvs (.inl k) = none ∧ f k = none) ∨ ∃ w y, valV kvs (.inl k) = some w ∧ f k = some y ∧ R w y
theorem keyFn_put {R : V → α → Prop} {kvs : List (Key × V)} {f : Int → Option α} {k : Int} {w : V} {y : α} (h : KeyFn R kvs f) (r : R w y) : KeyFn R (putK kvs (.inl k) w) (fun j => if j = k then some y else f j) := fun j => by
  rw [valV_put]
  by_cases e : j = k
  · rw [e, if_pos rfl]
    exact .inr ⟨w, y, rfl, by simp, r⟩
  · rw [if_neg (fun z => e (Sum.inl.inj z))]
    simp only [if_neg e]
    exact h j
theorem keyFn_merge {R : V → α → Prop} : ∀ (l : List (Int × α)) (kvs acc : List (Key × V)) (f : Int → Option α), All2 (fun (kv : Key × V) (x : Int × α) => kv.1 = .inl x.1 ∧ R kv.2 x.2) kvs l → KeyFn R acc f → KeyFn R (mergeK acc kvs) (fun k => (dictOf l k).or (f k))
  | [], kvs, acc, f, h, g => by
    cases h
    exact g
  | a :: l, kvs, acc, f, h, g => by
    cases h with
    | @cons kv _ m _ r h =>
      obtain ⟨k, w⟩ := kv
      obtain ⟨hk, hr⟩ := r
      have hk : k = .inl a.1 := hk
      subst hk
      have step := keyFn_merge l m (putK acc (.inl a.1) w) _ h (keyFn_put (k := a.1) g hr)
      intro k
      have s := step k
      simp only [dictOf_cons] at s ⊢
      have e : ((dictOf l k).or (if a.1 = k then some a.2 else none)).or (f k) = (dictOf l k).or (if k = a.1 then some a.2 else f k) := by
        rw [Option.or_assoc]
        congr 1
        by_cases z : a.1 = k
        · simp [z]
        · have z2 : ¬ k = a.1 := fun y => z y.symm
          simp [z, z2]
      simp only [e]
      exact s
theorem o_dictP {l : List (Int × α)} : OpN (fun xs H Q => ∃ (a : Addr) (ps : List Addr) (kvs : List (Key × V)), xs = [.ref a] ∧ SqL K H a (ps.map V.ref) ∧ Paired (fun p kv => SqT K H p [kV kv.1, kv.2]) ps kvs ∧ ∀ p, H p = none → Q (.ref p) (upd H p (.dK (mergeK [] kvs)))) (aC (kL K (k2 K kI t)) a0) (l, ()) (kFn t) (dictOf l) := fun M us H live a Q q => by
  obtain ⟨v, r, rfl, ⟨p, vs, rfl, hp, ha⟩, rfl⟩ := a
  have cut : ∀ (vs : List V) (l : List (Int × α)), All2 ((k2 K kI t).r (del M H)) vs l → ∃ ps kvs, vs = ps.map V.ref ∧ Paired (fun p (kv : Key × V) => SqT K H p [kV kv.1, kv.2]) ps kvs ∧ All2 (fun (kv : Key × V) (x : Int × α) => kv.1 = .inl x.1 ∧ t.r (del M H) kv.2 x.2) kvs l := by
    intro vs l h
    induction h with
    | nil => exact ⟨[], [], rfl, .nil, .nil⟩
    | cons r _ ih =>
      obtain ⟨p, u, w, rfl, hs, h1, h2⟩ := r
      obtain ⟨ps, kvs, rfl, b, c⟩ := ih
      obtain rfl : u = .int _ := h1
      exact ⟨p :: ps, (.inl _, w) :: kvs, rfl, .cons (ex_t del_le hs) b, .cons ⟨rfl, h2⟩ c⟩
  obtain ⟨ps, kvs, rfl, b, c⟩ := cut vs l ha
  refine ⟨p, ps, kvs, rfl, ex_l del_le hp, b, fun d hd => q _ _ (Ex.new hd) ⟨d, _, rfl, del_at (fresh_not live hd) upd_same, ?_⟩⟩
  have fin := keyFn_merge (R := t.r (del M H)) l kvs [] (fun _ => none) c fun k => .inl ⟨rfl, rfl⟩
  intro k
  have g := fin k
  simp only [Option.or_none] at g
  rcases g with h | ⟨w, y, h1, h2, h3⟩
  · exact .inl h
  · exact .inr ⟨w, y, h1, h2, t.up (ex_del (Ex.new hd)) h3⟩
theorem em_dget {f : Int → Option α} {k : Int} (ha : Em E cl M ta σ I S (kFn t) (.ok f) S1) (hb : Em E cl M tb σ I S1 kI (.ok k) S2) (h : f k = some x) : Em E cl M (tDGet ta tb) σ I S t (.ok x) S2 :=
  em_mk (hb.ad.trans ha.ad) fun H1 i w Q q => em_of ha H1 i w _ fun v1 H2 e1 w1 r1 => em_of hb H2 (i.trans (w.grow e1)) w1 _ fun v2 H3 e2 w2 r2 => by
    obtain ⟨p, kvs, rfl, hp, hk⟩ := (kFn t).up (w1.grow e2) r1
    obtain rfl : v2 = .int k := r2
    rcases hk k with ⟨_, z⟩ | ⟨w, y, g1, g2, g3⟩
    · rw [h] at z; cases z
    · rw [h] at g2
      obtain rfl := Option.some.inj g2
      exact ⟨p, w, rfl, by rw [← g1]; exact DGet.k (k := .inl k) (del_some.mp hp).2, q w H3 (ads_tr ha.ad e1 e2) w2 g3⟩
theorem em_dget1 {f : Int → Option α} {k : Int} (ha : Em E cl M ta σ I S (kFn t) (.ok f) S1) (hb : Em E cl M tb σ I S1 kI (.ok k) S2) (nn : ∀ H v x, t.r H v x → v ≠ .non) : Em E cl M (tDGet1 ta tb) σ I S (kO t) (.ok (f k)) S2 :=
  em_mk (hb.ad.trans ha.ad) fun H1 i w Q q => em_of ha H1 i w _ fun v1 H2 e1 w1 r1 => by
    obtain ⟨p, kvs, rfl, hp, hk⟩ := r1
    refine ⟨p, rfl, .inl ⟨kvs, .inl (del_some.mp hp).2⟩, em_of hb H2 (i.trans (w.grow e1)) w1 _ fun v2 H3 e2 w2 r2 => ?_⟩
    obtain rfl : v2 = .int k := r2
    have hp3 := (w1.grow e2) _ _ hp
    refine ⟨valV kvs (.inl k), DGet.k (k := .inl k) (del_some.mp hp3).2, ?_⟩
    rcases hk k with ⟨a, b⟩ | ⟨w, y, g1, g2, g3⟩
    · rw [a]
      exact q _ H3 (ads_tr ha.ad e1 e2) w2 (by rw [b]; rfl)
    · rw [g1]
      exact q w H3 (ads_tr ha.ad e1 e2) w2 (by rw [g2]; exact ⟨t.up (w1.grow e2) g3, nn _ _ _ g3⟩)
end
end Rw
namespace Rw
open PySem PySem.Spec PyProof.Rows L2 Evl
/-- the greatest of a dict's values: whole numbers, one at least -/
def tTopVal (td : TE) : TE := fun σ H Q => td σ H fun x H1 => ∃ (d : Addr) (kvs : List (Key × V)) (ns : List Int), x = V.ref d ∧ H1 d = some (.dK kvs) ∧ kvs.map (·.2) = ns.map V.int ∧ 0 < ns.length ∧ ∀ m, m ∈ ns → (∀ n ∈ ns, n ≤ m) → Q (.int m) H1
theorem val_nth {kvs : List (Key × V)} {ns : List Int} (e : kvs.map (·.2) = ns.map V.int) {i : Nat} {k : Key} {x : V} (h : kvs[i]? = some (k, x)) : x = .int (ns.getD i 0) := by
  have a : (kvs.map (·.2))[i]? = some x := by rw [List.getElem?_map, h]; rfl
  rw [e, List.getElem?_map] at a
  cases b : ns[i]? with
  | none => rw [b] at a; cases a
  | some n => rw [b] at a; rw [← Option.some.inj a, List.getD_eq_getElem?_getD, b]; rfl
theorem top_in {ns : List Int} (h : 0 < ns.length) : ns.getD (argBest (fun i j => decide (ns.getD i 0 > ns.getD j 0)) (ns.length - 1)) 0 ∈ ns ∧ ∀ n ∈ ns, n ≤ ns.getD (argBest (fun i j => decide (ns.getD i 0 > ns.getD j 0)) (ns.length - 1)) 0 := by
  obtain ⟨lo, all⟩ := argBest_gt (fun i => ns.getD i 0) (ns.length - 1)
  generalize argBest (fun i j => decide (ns.getD i 0 > ns.getD j 0)) (ns.length - 1) = b at lo all ⊢
  have get : ∀ i, i < ns.length → ns.getD i 0 ∈ ns := fun i hi => by rw [List.getD_eq_getElem?_getD, List.getElem?_eq_getElem hi]; exact List.getElem_mem hi
  refine ⟨get b (by omega), fun n hn => ?_⟩
  obtain ⟨i, hi, rfl⟩ := List.mem_iff_getElem.mp hn
  have g := all i (by omega)
  rw [show ns.getD i 0 = ns[i] by rw [List.getD_eq_getElem?_getD, List.getElem?_eq_getElem hi]; rfl] at g
  exact g
section
variable {X : Cx} {o : Expr} {p pos apos mpos : Pos} {td : TE}
theorem pe_topVal (hc : X.calm = true) (hm : X.mg "max" = none) (hd : PE X o td) (hg : Gl X "max" := by rfl) (hbase : attributeBase o "values" X.env (eval o X.env) = eval o X.env := by rfl) (hline : (apos.endLine == mpos.line) = true := by rfl)
    (hse : starEach [Expr.Call (.Attribute o "values" apos) [] [] mpos] X.env = [(false, eval (Expr.Call (.Attribute o "values" apos) [] [] mpos) X.env)] := by rfl) :
    PE X (.Call (.Name "max" p) [.Call (.Attribute o "values" apos) [] [] mpos] [] pos) (tTopVal td) := ⟨fun pins s σ H Q I want => by
  refine wpAny_Call_Name_kw (ld_blt I hg hm (u := .builtin "max") (by first | rfl | decide +kernel) ?_ (by decide +kernel) (by decide +kernel))
  rw [hse]
  refine PySem.callWith_builtin1 (wpAny_Call_method0_late hbase hline (thn (hd.run pins s σ H _ I want) fun v st ⟨x, G, J, rel, d, kvs, ns, ex, atd, vals, some1, q⟩ => ?_))
  subst ex
  obtain rfl : v = Value.ref d := rel
  obtain ⟨_, sys, rows, like, held⟩ := dk_of J.hok atd
  obtain ⟨ep, tab⟩ := held.dictAt
  have tab0 := tab
  obtain ⟨ob, _, obAt, obIs, _⟩ := tab0
  refine ⟨"dict", "dict.values", F.plainAttrs_dict, F.slot_dict_values, F.type_dict_values, ⟨ob, obAt, obIs.1⟩, fun b e => (by cases e; exact ⟨ob, obAt, obIs.2.1⟩), Calls.callWith_builtin rfl (PySem.evalArgs_none (call_meetsIn F.slot_dict_values ⟨ob, obAt, obIs.1⟩ F.entry_dict_values (F.args_dict_values_1 _) (meets_dict_values (mixKind X.prog X.w) d sys) ⟨⟨rows, held⟩, ?_⟩))⟩
  generalize vo : ({ cls := .type "dict_values", data := .fields #[.ref d] } : Obj) = view
  have up1 : ∀ b u, st.heap.get? b = some u → (st.heap.push view).get? b = some u := fun b u e => Heap.get?_push_of_some _ e
  have rows_len : rows.length = ns.length := by
    have a := congrArg List.length vals
    rw [List.length_map, List.length_map] at a
    rw [← KV.length like, a]
  have nums : ∀ (i : Nat) (u : Value), (∃ k, rows[i]? = some (k, u)) → ∃ t, u = Value.int (ns.getD i 0) t := fun i u ⟨k, hk⟩ => by
    obtain ⟨x, h1, h2⟩ := KV.at' like hk
    rw [val_nth vals h1] at h2
    exact h2
  have viewAt : (st.heap.push view).get? st.heap.objs.size = some view := Heap.get?_push_size _ (by rw [← vo]; rfl)
  have size1 : (st.heap.push view).objs.size = st.heap.objs.size + 1 := Heap.size_push _ _
  have below : d < st.heap.objs.size := Heap.lt_size obAt
  refine call_max_walk (wpAny_pyIter_values (v := st.heap.objs.size) (d := d) ⟨view, viewAt, by rw [← vo], by rw [← vo]⟩ (tab.keep up1) ?_)
  refine ⟨_, _, _, _, _, _, _, rfl, Walks.dictValues (knd := mixKind X.prog X.w) (A := X.A.in1) (I.ok.hd hc) (st.heap.push view).objs.size d (by rw [size1]; exact Nat.ne_of_lt (Nat.lt_succ_of_lt below)) rows ep, ⟨⟨_, Heap.get?_push_size _ rfl, rfl, rfl⟩, (tab.keep up1).keep fun b u e => Heap.get?_push_of_some _ e⟩, fun b hb => ?_, by omega, CmpOf.ints_gt (fun i => ns.getD i 0) nums, fun u h' tk isbest kept => ?_⟩
  · show b < ((st.heap.push view).push _).objs.size
    rw [Heap.size_push]
    rcases List.mem_cons.mp hb with z | z
    · rw [z]
      exact Nat.lt_succ_self _
    · rw [List.mem_singleton.mp z, size1]
      exact Nat.lt_succ_of_lt (Nat.lt_succ_of_lt below)
  · obtain ⟨t, rfl⟩ := nums _ u isbest
    obtain ⟨t1, t2⟩ := top_in some1
    rw [rows_len]
    refine ⟨.int _, G, J.kept (t' := tk) fun b u e => kept b u (fun z => ?_) (Heap.get?_push_of_some _ (up1 b u e)), ⟨t, rfl⟩, q _ t1 t2⟩
    have lo := Heap.lt_size e
    rw [List.mem_singleton.mp z, size1] at lo
    exact Nat.not_succ_lt_self lo⟩
end
end Rw
namespace Rw
open PySem PySem.Spec PyProof.Rows L2 Evl
local macro_rules | `(tactic| walk_at "sq") => `(tactic| first | assumption | exact SqL.of (by assumption) | exact SqT.of (by assumption))
local macro_rules | `(tactic| walk_at "at") => `(tactic| first | exact atI_nat (j := 0) rfl | exact atI_nat (j := 1) rfl | exact atI_nat (j := 2) rfl | exact atI_nat (j := 3) rfl)
local macro_rules | `(tactic| walk_at "rv") => `(tactic| first
  | with_reducible exact rv_I0
  | ((with_reducible refine' rv_I ?k1); (case k1 => first | (show (0 : Int) < _; omega) | exact ⟨by omega, by omega⟩ | exact .inr ⟨by omega, by omega⟩ | exact .inl ⟨by omega, by omega⟩ | exact ⟨by decide, by decide, by decide⟩))
  | ((with_reducible refine' rv_eq ?k1); (case k1 => exact rfl))
  | ((with_reducible refine' rv_ne ?k1); (case k1 => exact rfl))
  | (refine' rv_ixL ?k1 ?k2; (case k1 => walk_at "sq"); (case k2 => walk_at "at"))
  | (refine' rv_ixT ?k1 ?k2; (case k1 => walk_at "sq"); (case k2 => walk_at "at")))
local macro_rules | `(tactic| walk_at "rc") => `(tactic| first | exact rc_int1 | exact rc_int1b | exact rc_abs)
local macro_rules | `(tactic| walk_at "ea") => `(tactic| first
  | with_reducible exact ea_nil
  | ((with_reducible refine' ea_cons ?k1 ?k2); (case k1 => walk_at "ev"); (case k2 => walk_at "ea")))
local macro_rules | `(tactic| walk_at "ev") => `(tactic| first
  | with_reducible exact ev_c
  | ((with_reducible refine' ev_var ?k1); (case k1 => exact rfl))
  | ((with_reducible refine' ev_op ?k1 ?k2 ?k3); (case k1 => walk_at "ev"); (case k2 => walk_at "ev"); (case k3 => walk_at "rv"))
  | ((with_reducible refine' et_chain ?k1 ?k2 ?k3 ?k4 ?k5); (case k1 => walk_at "ev"); (case k2 => walk_at "ev"); (case k3 => (intro _; walk_at "ev")); (case k4 => walk_at "rv"); (case k5 => (intro _; walk_at "rv")))
  | ((with_reducible refine' ev_cb ?k1 ?k2); (case k1 => walk_at "ea"); (case k2 => walk_at "rc")))
local macro_rules | `(tactic| walk_at "et") => `(tactic| first
  | ((with_reducible refine' et_test ?k1); (case k1 => walk_at "ev"))
  | ((with_reducible refine' et_B ?k1); (case k1 => walk_at "ev"))
  | ((with_reducible refine' et_and ?k1 ?k2); (case k1 => walk_at "et"); (case k2 => (intro _; walk_at "et")))
  | ((with_reducible refine' et_or ?k1 ?k2); (case k1 => walk_at "et"); (case k2 => (intro _; walk_at "et")))
  | ((with_reducible refine' et_not ?k1); (case k1 => walk_at "et")))

abbrev sRounds : Stmt := topS 26
theorem scRounds : FnScope ["script", "most", "cells", "cell"] ["script", "most"] (defScope sRounds) := ⟨rfl, rfl, rfl, by decide +kernel, rfl, by decide +kernel, by decide +kernel⟩
theorem cut_take1 (xs : List V) : cutV xs none (some 1) = xs.take 1 := by
  unfold cutV
  have e : HT.sIx xs.length xs.length (some 1) = min 1 xs.length := HT.sIx_nat xs.length xs.length 1
  rw [HT.sIx_none, e]
  cases xs with
  | nil => rfl
  | cons x r =>
    rw [show min 1 (x :: r).length = 1 by rw [List.length_cons]; omega]
    rfl
section
variable {P : Program} {w : World} {K : PySem.W.Frag} {mg : Str → Option Value} {base : Heap}
def spRounds (K : PySem.W.Frag) : Sp := fun vs H Q _ => ∃ (s : Addr) (ns : List Int), vs = [.ref s, .int 1] ∧ SqL K H s (ns.map V.int) ∧
  ∀ r d a b c H', H r = none → H d = none → r ≠ d → Ex H H' → H' r = some (.lst [.ref d]) → H' d = some (.lst [.int a, .int b, .int c]) → Q (.ref r) H'
theorem ok_rounds {f : Addr} {fd : FuncData} (F : Fun K "_law_rounds" "_law_rounds" sRounds f fd) (cD : Cal P w K mg base 1 "_law_dice" spDice []) : FnOk P w K mg base (L2.CX P w) 2 f fd ["script", "most"] (spRounds K) := by
  refine F.okX scRounds (fun vs H Q E h => ?_) (fun cdv A outer s H vs Q E hr h => ?_)
  · obtain ⟨s, ns, rfl, _⟩ := h
    rfl
  · obtain ⟨sc, ns, rfl, hS, q⟩ := h
    refine ⟨_, pss_cons (ps_set (i := 2) scRounds.nd rfl (.inl rfl) (pe_slice sl_list (pv 0) po_none (po_some (pv 1))))
      (pss_cons (ps_if (pt_cmpR (op_eqD hr.units) (pv 2) (pe_lst pa_nil) (nomark _)) (pss_one (ps_set (i := 2) scRounds.nd rfl (.inl rfl) (pe_lst (pa_cons pe_int pa_nil)))) pss_nil)
      (pss_one (ps_ret (pe_lc (own := [("cell", 3)]) (g := gName 3) (tt := tYes) rfl scRounds.nd (pi_list (pv 2)) (blkOk_by (own := [("cell", 3)]) (N := ["script", "most", "cells", "cell"]) (sc := defScope sRounds) (by decide +kernel)) (fun _ _ _ _ _ => pg_name (i := 3) scRounds.nd rfl (Or.inl rfl)) (fun _ _ _ _ _ => pts_nil) (fun _ _ _ _ _ => pe_k cD hr (by decide) passL (pa_cons (pv 3) pa_nil)))))), ?_⟩
    -- the comprehension, over a list of one item
    have fin : ∀ (l2 : Addr) (x : Int) (H1 : Hp), Ex H H1 → H1 l2 = some (.lst [.int x]) → tRet (tLc (iList K (tVar 2)) (gName 3) tYes (tCall spDice [] E0 (tCons (tVar 3) tNil)) [3]) { nx := fun _ H' => Q .non H', rt := Q } [some (.ref sc), some (.int 1), some (.ref l2), none] H1 := fun l2 x H1 e1 hl => by
      refine ⟨.ref l2, rfl, l2, rfl, ⟨_, SqL.of hl⟩, fun Dl hD => lc_list (K := K) (a := l2) (xs := [.int x]) (fun i H' => (i = 0 ∧ H' = upd H1 Dl (.lst [])) ∨ (i = 1 ∧ ∃ d a b c, H1 d = none ∧ Dl ≠ d ∧ Ex H1 H' ∧ H' Dl = some (.lst [.ref d]) ∧ H' d = some (.lst [.int a, .int b, .int c])))
        (.inl ⟨rfl, rfl⟩) (fun i H' _ hP => ?_) (fun i y H' hy hP => ?_) fun H' hP => ?_⟩
      · have nl : l2 ≠ Dl := ne_of_none hl hD
        rcases hP with ⟨_, rfl⟩ | ⟨_, d, a, b, c, _, _, e, _⟩
        · exact SqL.of (by rw [upd_ne nl]; exact hl)
        · exact SqL.of (e _ _ hl)
      · have hi : i = 0 := by
          cases i with
          | zero => rfl
          | succ i => simp at hy
        subst hi
        obtain rfl : V.int x = y := Option.some.inj hy
        rcases hP with ⟨_, rfl⟩ | ⟨h, _⟩
        · refine ⟨rfl, .int x, rfl, x, rfl, fun p a b c H2 hp e2 h2 => ?_⟩
          have hDl : H2 Dl = some (.lst []) := e2 _ _ upd_same
          have npD : Dl ≠ p := ne_of_none (H := upd H1 Dl (.lst [])) upd_same hp
          have hp1 : H1 p = none := by rw [upd_ne npD.symm] at hp; exact hp
          refine ⟨[], hDl, by decide, .inr ⟨rfl, p, a, b, c, hp1, npD, fun z o hz => ?_, upd_same, by rw [upd_ne npD.symm]; exact h2⟩⟩
          rw [upd_ne (ne_of_none hz hD)]
          exact e2 _ _ (by rw [upd_ne (ne_of_none hz hD)]; exact hz)
        · cases h
      · rcases hP with ⟨h, _⟩ | ⟨_, d, a, b, c, hd, ne, e, g1, g2⟩
        · cases h
        · exact q Dl d a b c H' (fresh_back e1 hD) (fresh_back e1 hd) ne (e1.trans e) g1 g2
    refine q_asgL (xs := (ns.map V.int).take 1) (by
        have h := el_sl (K := K) (σ := [some (.ref sc), some (.int 1), none, none]) (H := H) (ev_var (i := 0) rfl) eo_none (eo_some (ev_var (i := 1) rfl)) hS
        rw [cut_take1] at h
        exact h) fun l H1 hl e1 h1 => ?_
    cases ns with
    | nil =>
      have h1 : H1 l = some (.lst []) := h1
      refine q_when (b := true) (fun H2 e2 Q2 q2 => ⟨.ref l, rfl, by decide, fun l2 hl2 => ⟨.list [], .list [], .lst (SqL.of (by rw [upd_ne (ne_of_none (e2 _ _ h1) hl2)]; exact e2 _ _ h1)) .nil, .lst (SqL.of upd_same) .nil, rfl, rfl, true, rfl, q2 _ (Ex.new hl2)⟩⟩) (fun _ H2 e2 => ?_) (fun z => nomatch z)
      refine s_asgL (el_lst (by walk_at "ea") (by show 1 ≤ 100000; decide)) fun l2 H3 hl2 e3 h3 => fin l2 0 H3 ((e1.trans e2).trans e3) h3
    | cons n r =>
      have h1 : H1 l = some (.lst [.int n]) := h1
      refine q_when (b := false) (fun H2 e2 Q2 q2 => ⟨.ref l, rfl, by decide, fun l2 hl2 => ⟨.list [.int n], .list [], .lst (SqL.of (by rw [upd_ne (ne_of_none (e2 _ _ h1) hl2)]; exact e2 _ _ h1)) (.cons (.int n) .nil), .lst (SqL.of upd_same) .nil, rfl, rfl, false, rfl, q2 _ (Ex.new hl2)⟩⟩) (fun z => nomatch z) (fun _ H2 e2 => ?_)
      exact fin l n H2 (e1.trans e2) (e2 _ _ h1)
end
end Rw
namespace Rw
open PySem PySem.Spec PyProof.Rows L2 Evl Cy
local macro_rules | `(tactic| walk_at "sq") => `(tactic| first | assumption | exact SqL.of (by assumption) | exact SqT.of (by assumption))
local macro_rules | `(tactic| walk_at "at") => `(tactic| first | exact atI_nat (j := 0) rfl | exact atI_nat (j := 1) rfl | exact atI_nat (j := 2) rfl | exact atI_nat (j := 3) rfl)
local macro_rules | `(tactic| walk_at "rv") => `(tactic| first
  | with_reducible exact rv_I0
  | ((with_reducible refine' rv_I ?k1); (case k1 => first | (show (0 : Int) < _; omega) | exact ⟨by omega, by omega⟩ | exact .inr ⟨by omega, by omega⟩ | exact .inl ⟨by omega, by omega⟩ | exact ⟨by decide, by decide, by decide⟩))
  | ((with_reducible refine' rv_eq ?k1); (case k1 => exact rfl))
  | ((with_reducible refine' rv_ne ?k1); (case k1 => exact rfl))
  | (refine' rv_ixL ?k1 ?k2; (case k1 => walk_at "sq"); (case k2 => walk_at "at"))
  | (refine' rv_ixT ?k1 ?k2; (case k1 => walk_at "sq"); (case k2 => walk_at "at")))
local macro_rules | `(tactic| walk_at "rc") => `(tactic| first | exact rc_int1 | exact rc_int1b | exact rc_abs)
local macro_rules | `(tactic| walk_at "ea") => `(tactic| first
  | with_reducible exact ea_nil
  | ((with_reducible refine' ea_cons ?k1 ?k2); (case k1 => walk_at "ev"); (case k2 => walk_at "ea")))
local macro_rules | `(tactic| walk_at "ev") => `(tactic| first
  | with_reducible exact ev_c
  | ((with_reducible refine' ev_var ?k1); (case k1 => exact rfl))
  | ((with_reducible refine' ev_op ?k1 ?k2 ?k3); (case k1 => walk_at "ev"); (case k2 => walk_at "ev"); (case k3 => walk_at "rv"))
  | ((with_reducible refine' et_chain ?k1 ?k2 ?k3 ?k4 ?k5); (case k1 => walk_at "ev"); (case k2 => walk_at "ev"); (case k3 => (intro _; walk_at "ev")); (case k4 => walk_at "rv"); (case k5 => (intro _; walk_at "rv")))
  | ((with_reducible refine' ev_cb ?k1 ?k2); (case k1 => walk_at "ea"); (case k2 => walk_at "rc")))
local macro_rules | `(tactic| walk_at "et") => `(tactic| first
  | ((with_reducible refine' et_test ?k1); (case k1 => walk_at "ev"))
  | ((with_reducible refine' et_B ?k1); (case k1 => walk_at "ev"))
  | ((with_reducible refine' et_and ?k1 ?k2); (case k1 => walk_at "et"); (case k2 => (intro _; walk_at "et")))
  | ((with_reducible refine' et_or ?k1 ?k2); (case k1 => walk_at "et"); (case k2 => (intro _; walk_at "et")))
  | ((with_reducible refine' et_not ?k1); (case k1 => walk_at "et")))
local macro_rules | `(tactic| walk_at "ff") => `(tactic| first | exact rfl | assumption)
local macro_rules | `(tactic| walk_at "ev") => `(tactic| first
  | with_reducible exact ev_c
  | ((with_reducible refine' ev_var ?k1); (case k1 => exact rfl))
  | ((with_reducible refine' ev_op ?k1 ?k2 ?k3); (case k1 => walk_at "ev"); (case k2 => walk_at "ev"); (case k3 => walk_at "rv"))
  | ((with_reducible refine' et_chain ?k1 ?k2 ?k3 ?k4 ?k5); (case k1 => walk_at "ev"); (case k2 => walk_at "ev"); (case k3 => (intro _; walk_at "ev")); (case k4 => walk_at "rv"); (case k5 => (intro _; walk_at "rv")))
  | ((with_reducible refine' ev_cb ?k1 ?k2); (case k1 => walk_at "ea"); (case k2 => walk_at "rc"))
  | ((with_reducible refine' ev_F ?k1 ?k2); (case k1 => walk_at "ea"); (case k2 => walk_at "ff"))
  | ((with_reducible refine' ev_two ?k1 ?k2 ?k3); (case k1 => walk_at "ev"); (case k2 => omega); (case k3 => omega)))
abbrev c_cycle_days : Stmt := inClass (topS 16) 1
theorem cs_cycle_days : FnScope ["self"] ["self"] (defScope c_cycle_days) := ⟨rfl, rfl, rfl, by decide +kernel, rfl, by decide +kernel, by decide +kernel⟩
abbrev c_is_long : Stmt := inClass (topS 16) 2
theorem cs_is_long : FnScope ["self", "year"] ["self", "year"] (defScope c_is_long) := ⟨rfl, rfl, rfl, by decide +kernel, rfl, by decide +kernel, by decide +kernel⟩
abbrev c_year_days : Stmt := inClass (topS 16) 3
theorem cs_year_days : FnScope ["self", "year"] ["self", "year"] (defScope c_year_days) := ⟨rfl, rfl, rfl, by decide +kernel, rfl, by decide +kernel, by decide +kernel⟩
abbrev c_month_days : Stmt := inClass (topS 16) 4
theorem cs_month_days : FnScope ["self", "year", "month"] ["self", "year", "month"] (defScope c_month_days) := ⟨rfl, rfl, rfl, by decide +kernel, rfl, by decide +kernel, by decide +kernel⟩
abbrev c_first_of : Stmt := inClass (topS 16) 5
theorem cs_first_of : FnScope ["self", "year", "times", "place"] ["self", "year"] (defScope c_first_of) := ⟨rfl, rfl, rfl, by decide +kernel, rfl, by decide +kernel, by decide +kernel⟩
abbrev c_year_of : Stmt := inClass (topS 16) 7
theorem cs_year_of : FnScope ["self", "number", "times", "rest"] ["self", "number"] (defScope c_year_of) := ⟨rfl, rfl, rfl, by decide +kernel, rfl, by decide +kernel, by decide +kernel⟩
abbrev c_date : Stmt := inClass (topS 16) 8
theorem cs_date : FnScope ["self", "number", "year", "day", "month", "size"] ["self", "number"] (defScope c_date) := ⟨rfl, rfl, rfl, by decide +kernel, rfl, by decide +kernel, by decide +kernel⟩
abbrev c_weekday_of : Stmt := inClass (topS 16) 9
theorem cs_weekday_of : FnScope ["self", "number"] ["self", "number"] (defScope c_weekday_of) := ⟨rfl, rfl, rfl, by decide +kernel, rfl, by decide +kernel, by decide +kernel⟩
abbrev s_count_below : Stmt := topS 15
theorem cs_count_below : FnScope ["numbers", "bound", "low", "high", "half"] ["numbers", "bound"] (defScope s_count_below) := ⟨rfl, rfl, rfl, by decide +kernel, rfl, by decide +kernel, by decide +kernel⟩
section
variable {P : Program} {w : World} {K : PySem.W.Frag} {mg : Str → Option Value} {base : Heap} {C : Addr} {cl : Nat → Addr}
theorem at_starts {c : Ca} {n : Nat} (h : n < c.cycle.toNat + 1) : atI (startsL c) (n : Int) = some (.int (c.startN n)) :=
  atI_nat (by unfold startsL; rw [List.getElem?_map, List.getElem?_range h]; rfl)
theorem cm_cycle_days {f : Addr} {fd : FuncData} (F : Fun K "cycle_days" "Calendar.cycle_days" c_cycle_days f fd) (T : CalT K C) : FnOk P w K mg base (L2.CX P w) 1 f fd ["self"] (spM K C cl fCycleDays) := by
  refine F.okX cs_cycle_days (fun vs H Q E h => ?_) (fun cdv A outer s H vs Q E hr h => ?_)
  · obtain ⟨a, c, ws, r, rfl, hc, hs, h, _⟩ := h
    match ws, h with
    | [], _ => rfl
  · obtain ⟨a, c, ws, r, rfl, hc, hs, h, o⟩ := h
    match ws, h with
    | [], h =>
    obtain rfl := (Option.some.inj h).symm
    have hcal := hc
    obtain ⟨dx, tm, ty, dl, ts, kvs, st, h1, h2, h3, h4, h5, h6, h7⟩ := hc
    obtain rfl := h7 rfl
    refine ⟨_, pss_one (ps_ret (pe_ix ix_list (pe_fld (pv 0) rfl) (pe_fld (pv 0) rfl) (fun _ _ => rfl))), ?_⟩
    have k := hs.ok
    have hcy := k.cy
    refine s_ret (v := .int c.cyc) (ev_op (ev_fld (ev_var rfl) h1 T.cls T.starts calF_starts) (y := .int ((c.cycle.toNat : Nat) : Int)) (ev_is (ev_fld (ev_var rfl) h1 T.cls T.cycle calF_cycle) (by rw [Int.toNat_of_nonneg (by omega)])) (rv_ixL h6 (at_starts (Nat.lt_succ_self _)))) fun H2 e2 => o H2 e2
theorem cm_is_long {f : Addr} {fd : FuncData} (F : Fun K "is_long" "Calendar.is_long" c_is_long f fd) (T : CalT K C) : FnOk P w K mg base (L2.CX P w) 1 f fd ["self", "year"] (spB false K C cl fIsLong) := by
  refine F.okX cs_is_long (fun vs H Q E h => ?_) (fun cdv A outer s H vs Q E hr h => ?_)
  · obtain ⟨a, c, ws, r, rfl, hc, hs, h, _⟩ := h
    match ws, h with
    | [.int y], _ => rfl
  · obtain ⟨a, c, ws, r, rfl, hc, hs, h, o⟩ := h
    match ws, h with
    | [.int y], h =>
    obtain rfl := (Option.some.inj h).symm
    have hcal := hc
    obtain ⟨dx, tm, ty, dl, ts, kvs, st, h1, h2, h3, h4, h5, h6, h7⟩ := hc
    refine ⟨_, pss_one (ps_ret (pe_cmp (pc_din (Nat.lt_of_le_of_lt (Nat.add_le_add_left (by decide) _) hr.units) (pe_op op_mod (pv 1) (pe_fld (pv 0) rfl)) (pe_fld (pv 0) rfl)) (by rfl))), ?_⟩
    have k := hs.ok
    have hcy := k.cy
    refine s_ret (v := .bl (c.long y)) (ev_is (ev_din (k := .inl (y % c.cycle)) (ev_op (z := .int (y % c.cycle)) (ev_var rfl) (ev_fld (ev_var rfl) h1 T.cls T.cycle calF_cycle) (rv_I (by show (0 : Int) < _; omega))) (ev_fld (ev_var rfl) h1 T.cls T.longs calF_longs) h4) (by rw [h5]; rfl)) fun H2 e2 => o H2 e2
theorem cm_weekday_of {f : Addr} {fd : FuncData} (F : Fun K "weekday_of" "Calendar.weekday_of" c_weekday_of f fd) (T : CalT K C) : FnOk P w K mg base (L2.CX P w) 1 f fd ["self", "number"] (spM K C cl fWeekday) := by
  refine F.okX cs_weekday_of (fun vs H Q E h => ?_) (fun cdv A outer s H vs Q E hr h => ?_)
  · obtain ⟨a, c, ws, r, rfl, hc, hs, h, _⟩ := h
    match ws, h with
    | [.int n], _ => rfl
  · obtain ⟨a, c, ws, r, rfl, hc, hs, h, o⟩ := h
    match ws, h with
    | [.int n], h =>
    obtain rfl := (Option.some.inj h).symm
    have hcal := hc
    obtain ⟨dx, tm, ty, dl, ts, kvs, st, h1, h2, h3, h4, h5, h6, h7⟩ := hc
    obtain rfl := h7 rfl
    refine ⟨_, pss_one (ps_ret (pe_op op_mod (pe_op op_add (pv 1) (pe_fld (pv 0) rfl)) (pe_fld (pv 0) rfl))), ?_⟩
    have k := hs.ok
    have hwk := k.wk
    refine s_ret (v := .int (c.weekday n)) (ev_op (x := .int (n + c.fw)) (ev_op (ev_var rfl) (ev_fld (ev_var rfl) h1 T.cls T.fw calF_fw) rv_I0) (ev_fld (ev_var rfl) h1 T.cls T.week calF_week) (rv_I (by show (0 : Int) < _; omega))) fun H2 e2 => o H2 e2
theorem cm_year_days {f : Addr} {fd : FuncData} (F : Fun K "year_days" "Calendar.year_days" c_year_days f fd) (T : CalT K C) (mL : Mt P w K mg base 1 C "is_long" (spB false K C cl fIsLong) []) : FnOk P w K mg base (L2.CX P w) 2 f fd ["self", "year"] (spB false K C cl fYearDays) := by
  refine F.okX cs_year_days (fun vs H Q E h => ?_) (fun cdv A outer s H vs Q E hr h => ?_)
  · obtain ⟨a, c, ws, r, rfl, hc, hs, h, _⟩ := h
    match ws, h with
    | [.int y], _ => rfl
  · obtain ⟨a, c, ws, r, rfl, hc, hs, h, o⟩ := h
    match ws, h with
    | [.int y], h =>
    obtain rfl := (Option.some.inj h).symm
    have hcal := hc
    obtain ⟨dx, tm, ty, dl, ts, kvs, st, h1, h2, h3, h4, h5, h6, h7⟩ := hc
    refine ⟨_, pss_cons (ps_if (pt_val (pe_mk mL hr (by decide) passL (pv 0) (pa_cons (pv 1) pa_nil))) (pss_one (ps_ret (pe_op op_add (pe_fld (pv 0) rfl) pe_int))) pss_nil) (pss_one (ps_ret (pe_fld (pv 0) rfl))), ?_⟩
    refine q_when (b := c.long y) (et_B (ev_M (ev_var rfl) (ea_cons (ev_var rfl) ea_nil) hcal hs (fun _ _ _ _ => rfl) rfl)) (fun hb H1 e1 => ?_) (fun hb H1 e1 => ?_)
    · refine s_ret (v := .int (c.plain + 1)) (ev_op (ev_fld (ev_var rfl) (e1 _ _ h1) T.cls T.plain calF_plain) ev_c rv_I0) fun H2 e2 => ?_
      have o : Out cl H Q E (.ok (.int (c.yearDays y))) := o
      unfold Ca.yearDays at o
      rw [if_pos hb] at o
      exact o H2 (e1.trans e2)
    · refine s_ret (v := .int c.plain) (ev_fld (ev_var rfl) (e1 _ _ h1) T.cls T.plain calF_plain) fun H2 e2 => ?_
      have o : Out cl H Q E (.ok (.int (c.yearDays y))) := o
      unfold Ca.yearDays at o
      rw [if_neg (by rw [hb]; decide)] at o
      exact o H2 (e1.trans e2)
theorem cm_first_of {f : Addr} {fd : FuncData} (F : Fun K "first_of" "Calendar.first_of" c_first_of f fd) (T : CalT K C) (mC : Mt P w K mg base 1 C "cycle_days" (spM K C cl fCycleDays) []) (nd : mg "divmod" = none) : FnOk P w K mg base (L2.CX P w) 2 f fd ["self", "year"] (spM K C cl fFirstOf) := by
  refine F.okX cs_first_of (fun vs H Q E h => ?_) (fun cdv A outer s H vs Q E hr h => ?_)
  · obtain ⟨a, c, ws, r, rfl, hc, hs, h, _⟩ := h
    match ws, h with
    | [.int y], _ => rfl
  · obtain ⟨a, c, ws, r, rfl, hc, hs, h, o⟩ := h
    match ws, h with
    | [.int y], h =>
    obtain rfl := (Option.some.inj h).symm
    have hcal := hc
    obtain ⟨dx, tm, ty, dl, ts, kvs, st, h1, h2, h3, h4, h5, h6, h7⟩ := hc
    obtain rfl := h7 rfl
    refine ⟨_, pss_cons (ps_asg (pe_callB call_divmod (by rfl) nd (by decide +kernel) (pa_cons (pv 1) (pa_cons (pe_fld (pv 0) rfl) pa_nil))) (pg_tup rfl (pgs_cons (pg_name (i := 2) cs_first_of.nd rfl (.inl rfl)) (pgs_cons (pg_name (i := 3) cs_first_of.nd rfl (.inl rfl)) pgs_nil)))) (pss_one (ps_ret (pe_op op_add (pe_op op_mul (pv 2) (pe_mk0 mC hr (by decide) passL (pv 0))) (pe_ix ix_list (pe_fld (pv 0) rfl) (pv 3) (fun _ _ => rfl))))), ?_⟩
    have k := hs.ok
    have hcy := k.cy
    have hsm := hs.cy
    refine q_pair (eu_divmod (i := y) (j := c.cycle) (ev_var rfl) (ev_fld (ev_var rfl) h1 T.cls T.cycle calF_cycle) (by show CDiv _ _; unfold CDiv; omega)) fun H1 e1 => ?_
    have r0 := Int.emod_nonneg y (show c.cycle ≠ 0 by omega)
    have r1 := Int.emod_lt_of_pos y (show 0 < c.cycle by omega)
    have cp := Ca.cyc_pos k
    have cs := hs.cyc
    refine s_ret (v := .int (c.firstOf y)) (ev_op (x := .int (y / c.cycle * c.cyc)) (y := .int (c.startN (y % c.cycle).toNat)) (ev_op (ev_var rfl) (ev_M (ev_var rfl) ea_nil (hcal.ex e1) hs (fun _ _ _ _ => rfl) rfl) (rv_I (.inr ⟨by omega, by omega⟩))) (ev_op (y := .int (((y % c.cycle).toNat : Nat) : Int)) (ev_fld (ev_var rfl) (e1 _ _ h1) T.cls T.starts calF_starts) (ev_is (ev_var rfl) (by rw [Int.toNat_of_nonneg r0])) (rv_ixL (ex_l e1 h6) (at_starts (by omega)))) rv_I0) fun H2 e2 => o H2 (e1.trans e2)
theorem cm_month_days {f : Addr} {fd : FuncData} (F : Fun K "month_days" "Calendar.month_days" c_month_days f fd) (T : CalT K C) (mL : Mt P w K mg base 1 C "is_long" (spB false K C cl fIsLong) []) (nl : mg "len" = none) (xD : Exc1 K mg "BadDay" (cl 1)) : FnOk P w K mg base (L2.CX P w) 2 f fd ["self", "year", "month"] (spM K C cl fMonthDays) := by
  refine F.okX cs_month_days (fun vs H Q E h => ?_) (fun cdv A outer s H vs Q E hr h => ?_)
  · obtain ⟨a, c, ws, r, rfl, hc, hs, h, _⟩ := h
    match ws, h with
    | [.int y, .int m], _ => rfl
  · obtain ⟨a, c, ws, r, rfl, hc, hs, h, o⟩ := h
    match ws, h with
    | [.int y, .int m], h =>
    obtain rfl := (Option.some.inj h).symm
    have hcal := hc
    obtain ⟨dx, tm, ty, dl, ts, kvs, st, h1, h2, h3, h4, h5, h6, h7⟩ := hc
    obtain rfl := h7 rfl
    refine ⟨_, pss_cons (ps_if (pt_not (pt_chain op_le op_lt pe_int (pv 2) (pe_callB call_len_seq (by rfl) nl (by decide +kernel) (pa_cons (pe_fld (pv 0) rfl) pa_nil)))) (pss_one (ps_raiseX xD)) pss_nil) (pss_cons (ps_if (PW.pt (pw_and (pt_cmpR op_eq (pv 2) (pe_fld (pv 0) rfl) (nomark _)) (pw_and1 (pt_val (pe_mk mL hr (by decide) passL (pv 0) (pa_cons (pv 1) pa_nil)))))) (pss_one (ps_ret (pe_op op_add (pe_ix ix_tup (pe_fld (pv 0) rfl) (pv 2) (fun _ _ => rfl)) pe_int))) pss_nil) (pss_one (ps_ret (pe_ix ix_tup (pe_fld (pv 0) rfl) (pv 2) (fun _ _ => rfl))))), ?_⟩
    have hl := hs.len
    refine q_when (b := !(decide ((0 : Int) ≤ m) && decide (m < (c.months.length : Int)))) (et_not (et_test (et_chain ev_c (ev_var rfl) (fun _ => ev_lenT (ev_fld (ev_var rfl) h1 T.cls T.months calF_months) h2) rv_I0 (fun _ => ?_)))) (fun hb H1 e1 => ?_) (fun hb H1 e1 => ?_)
    · rw [List.length_map]
      exact rv_I0
    · rw [Bool.not_eq_true', Bool.and_eq_false_iff, decide_eq_false_iff_not, decide_eq_false_iff_not] at hb
      rw [if_neg (by omega)] at o
      exact o H1 e1
    · rw [Bool.not_eq_false', Bool.and_eq_true, decide_eq_true_eq, decide_eq_true_eq] at hb
      obtain ⟨m0, m1⟩ := hb
      rw [if_pos ⟨m0, m1⟩] at o
      obtain ⟨n, rfl⟩ : ∃ n : Nat, m = (n : Int) := ⟨m.toNat, by omega⟩
      rw [Int.toNat_natCast] at o
      have hat : atI (c.months.map V.int) (n : Int) = some (.int (c.months.getD n 0)) := at_map (by omega)
      have hq := h1
      refine q_when (b := decide (V.int (n : Int) = V.int c.lm) && c.long y) (et_and (et_test (ev_op (ev_var rfl) (ev_fld (ev_var rfl) (e1 _ _ h1) T.cls T.lm calF_lm) (rv_eq rfl))) fun _ => et_B (ev_M (ev_var rfl) (ea_cons (ev_var rfl) ea_nil) (hcal.weak.ex e1) hs (fun _ _ _ _ => rfl) rfl)) (fun hb2 H2 e2 => ?_) (fun hb2 H2 e2 => ?_)
      · rw [Bool.and_eq_true, decide_eq_true_eq] at hb2
        have hm : (n : Int) = c.lm := by injection hb2.1
        refine s_ret (v := .int (c.months.getD n 0 + 1)) (ev_op (x := .int (c.months.getD n 0)) (ev_op (ev_fld (ev_var rfl) (e2 _ _ (e1 _ _ h1)) T.cls T.months calF_months) (ev_var rfl) (rv_ixT (ex_t (e1.trans e2) h2) hat)) ev_c rv_I0) fun H3 e3 => ?_
        have e : c.md y n = c.months.getD n 0 + 1 := if_pos ⟨hm, hb2.2⟩
        rw [e] at o
        exact o H3 ((e1.trans e2).trans e3)
      · refine s_ret (v := .int (c.months.getD n 0)) (ev_op (ev_fld (ev_var rfl) (e2 _ _ (e1 _ _ h1)) T.cls T.months calF_months) (ev_var rfl) (rv_ixT (ex_t (e1.trans e2) h2) hat)) fun H3 e3 => ?_
        have e : c.md y n = c.months.getD n 0 := if_neg (fun z => by
          rw [z.2, Bool.and_true, decide_eq_false_iff_not] at hb2
          exact hb2 (by rw [z.1]))
        rw [e] at o
        exact o H3 ((e1.trans e2).trans e3)
/-- how many of rising numbers are below a bound -/
def spCount (K : PySem.W.Frag) : Sp := fun vs H Q _ => ∃ (p : Addr) (ns : List Int) (b : Int), vs = [.ref p, .int b] ∧ SqL K H p (ns.map V.int) ∧ ns.length < 100000000 ∧ ns.Pairwise (· ≤ ·) ∧
  ∀ k : Nat, k ≤ ns.length → (∀ i : Nat, i < k → ns.getD i 0 < b) → (∀ i : Nat, k ≤ i → i < ns.length → b ≤ ns.getD i 0) → ∀ H', Ex H H' → Q (.int k) H'
theorem pair_getD {ns : List Int} (h : ns.Pairwise (· ≤ ·)) {i j : Nat} (hij : i ≤ j) (hj : j < ns.length) : ns.getD i 0 ≤ ns.getD j 0 := by
  rw [List.getD_eq_getElem?_getD, List.getD_eq_getElem?_getD, List.getElem?_eq_getElem (show i < ns.length by omega), List.getElem?_eq_getElem hj]
  rcases Nat.lt_or_eq_of_le hij with e | e
  · exact List.pairwise_iff_getElem.mp h i j (by omega) hj e
  · subst e
    exact Int.le_refl _
theorem ok_count_below {f : Addr} {fd : FuncData} (F : Fun K "count_below" "count_below" s_count_below f fd) (nl : mg "len" = none) : FnOk P w K mg base (L2.CX P w) 1 f fd ["numbers", "bound"] (spCount K) := by
  refine F.okX cs_count_below (fun vs H Q E h => ?_) (fun cdv A outer s H vs Q E hr h => ?_)
  · obtain ⟨p, ns, b, rfl, _⟩ := h
    rfl
  · obtain ⟨p, ns, b, rfl, hS, hn, hp, q⟩ := h
    refine ⟨_, pss_cons (ps_set (i := 2) cs_count_below.nd rfl (.inl rfl) pe_int) (pss_cons (ps_set (i := 3) cs_count_below.nd rfl (.inl rfl) (pe_callB call_len_seq (by rfl) nl (by decide +kernel) (pa_cons (pv 0) pa_nil)))
      (pss_cons (ps_while (passes_of rfl) (pt_cmpR op_lt (pv 2) (pv 3) (nomark _)) (pss_cons (ps_set (i := 4) cs_count_below.nd rfl (.inl rfl) (pe_op op_fdiv (pe_op op_add (pv 2) (pv 3)) pe_int))
        (pss_one (ps_if (pt_cmpR op_lt (pe_ix ix_list (pv 0) (pv 4) (fun _ _ => rfl)) (pv 1) (nomark _)) (pss_one (ps_set (i := 2) cs_count_below.nd rfl (.inl rfl) (pe_op op_add (pv 4) pe_int))) (pss_one (ps_set (i := 3) cs_count_below.nd rfl (.inl rfl) (pv 4)))))))
      (pss_one (ps_ret (pv 2))))), ?_⟩
    refine q_asg ev_c fun H1 e1 => ?_
    refine q_asg (v := .int ((ns.length : Nat) : Int)) (ev_is (ev_lenL (ev_var rfl) (ex_l e1 hS)) (by rw [List.length_map])) fun H2 e2 => ?_
    refine q_while (fun m σ' H' => ∃ (lo hi : Nat) (l4 : Option V), σ' = [some (.ref p), some (.int b), some (.int (lo : Int)), some (.int (hi : Int)), l4] ∧ Ex H H' ∧ lo ≤ hi ∧ hi ≤ ns.length ∧ (∀ i : Nat, i < lo → ns.getD i 0 < b) ∧ (∀ i : Nat, hi ≤ i → i < ns.length → b ≤ ns.getD i 0) ∧ m = hi - lo)
      ns.length ⟨0, ns.length, none, rfl, e1.trans e2, Nat.zero_le _, Nat.le_refl _, fun i h => by omega, fun i a e => by omega, rfl⟩ fun m σ' H' hW => ?_
    obtain ⟨lo, hi, l4, rfl, eH, hlh, hh, b1, b2, rfl⟩ := hW
    refine ⟨decide ((lo : Int) < (hi : Int)), by walk_at "et", fun hb H3 e3 => ?_, fun hb H3 e3 => ?_⟩
    · have hb := of_decide_eq_true hb
      refine ⟨_, fun σ2 H2 h => h, ?_⟩
      refine q_asg (v := .int (((lo + hi) / 2 : Nat) : Int)) (ev_is (ev_op (x := .int ((lo : Int) + (hi : Int))) (z := .int (((lo : Int) + (hi : Int)) / 2)) (ev_op (ev_var rfl) (ev_var rfl) rv_I0) ev_c (rv_I (C := CDiv) (by show CDiv _ _; unfold CDiv; omega))) (congrArg V.int (by omega))) fun H4 e4 => ?_
      have hx : (lo + hi) / 2 < ns.length := by omega
      refine s_if (b := decide (ns.getD ((lo + hi) / 2) 0 < b)) (et_test (ev_op (x := .int (ns.getD ((lo + hi) / 2) 0)) (ev_op (ev_var rfl) (ev_var rfl) (rv_ixL (ex_l ((eH.trans e3).trans e4) hS) (at_map hx))) (ev_var rfl) rv_I0)) (fun hc H5 e5 => ?_) (fun hc H5 e5 => ?_)
      · refine s_asg (v := .int (((lo + hi) / 2 + 1 : Nat) : Int)) (ev_is (ev_op (z := .int ((((lo + hi) / 2 : Nat) : Int) + 1)) (ev_var rfl) ev_c rv_I0) (congrArg V.int (by omega))) fun H6 e6 => ?_
        refine ⟨hi - ((lo + hi) / 2 + 1), by omega, (lo + hi) / 2 + 1, hi, _, rfl, ((((eH.trans e3).trans e4).trans e5).trans e6), by omega, hh, fun i hi' => ?_, b2, rfl⟩
        have := of_decide_eq_true hc
        have := pair_getD hp (i := i) (j := (lo + hi) / 2) (by omega) hx
        omega
      · refine s_asg (v := .int (((lo + hi) / 2 : Nat) : Int)) (ev_var rfl) fun H6 e6 => ?_
        refine ⟨(lo + hi) / 2 - lo, by omega, lo, (lo + hi) / 2, _, rfl, ((((eH.trans e3).trans e4).trans e5).trans e6), by omega, by omega, b1, fun i a e => ?_, rfl⟩
        have := of_decide_eq_false hc
        have := pair_getD hp (i := (lo + hi) / 2) (j := i) a e
        omega
    · have hb := of_decide_eq_false hb
      have e : lo = hi := by omega
      subst e
      exact s_ret (v := .int (lo : Int)) (ev_var rfl) fun H4 e4 => q lo hh b1 b2 H4 ((eH.trans e3).trans e4)
theorem starts_ints (c : Ca) : startsL c = ((List.range (c.cycle.toNat + 1)).map c.startN).map V.int := by
  unfold startsL
  rw [List.map_map]
  rfl
theorem starts_getD (c : Ca) {i : Nat} (h : i < c.cycle.toNat + 1) : ((List.range (c.cycle.toNat + 1)).map c.startN).getD i 0 = c.startN i := by
  rw [List.getD_eq_getElem?_getD, List.getElem?_map, List.getElem?_range h]
  rfl
theorem starts_rise {c : Ca} (k : c.Ok) : ((List.range (c.cycle.toNat + 1)).map c.startN).Pairwise (· ≤ ·) := by
  rw [List.pairwise_iff_getElem]
  intro i j hi hj hij
  rw [List.length_map, List.length_range] at hi hj
  have h := start_mono k hij (by have := k.cy; omega)
  rw [List.getElem_map, List.getElem_map, List.getElem_range, List.getElem_range]
  omega
theorem ev_count {σ : L2.St} {H : Hp} {ta : TA} {p : Addr} {c : Ca} {b : Int} (k : Small c) (h : EvA ta σ H [.ref p, .int b]) (hs : SqL K H p (startsL c)) :
    Ev (tCall (spCount K) [] E0 ta) σ H (.int (((List.range (c.cycle.toNat + 1)).countP fun i => decide (c.startN i < b) : Nat) : Int)) := fun H1 e Q q =>
  h H1 e _ fun H2 e2 => ⟨p, (List.range (c.cycle.toNat + 1)).map c.startN, b, rfl, by rw [← starts_ints]; exact ex_l (e.trans e2) hs, by rw [List.length_map, List.length_range]; have := k.cy; omega, starts_rise k.ok, fun n n0 n1 n2 H3 e3 => by
    rw [List.length_map, List.length_range] at n0 n2
    have g := year_count k.ok b n0 (fun i hi => by have := n1 i hi; rw [starts_getD c (by omega)] at this; exact this) (fun i a z => by have := n2 i a z; rw [starts_getD c z] at this; exact this)
    rw [← g] at *
    have q3 := q H3 (e2.trans e3)
    rw [g] at q3 ⊢
    exact q3⟩
theorem cm_year_of {f : Addr} {fd : FuncData} (F : Fun K "year_of" "Calendar.year_of" c_year_of f fd) (T : CalT K C) (mC : Mt P w K mg base 1 C "cycle_days" (spM K C cl fCycleDays) []) (cB : Cal P w K mg base 1 "count_below" (spCount K) []) (nd : mg "divmod" = none) : FnOk P w K mg base (L2.CX P w) 2 f fd ["self", "number"] (spM K C cl fYearOf) := by
  refine F.okX cs_year_of (fun vs H Q E h => ?_) (fun cdv A outer s H vs Q E hr h => ?_)
  · obtain ⟨a, c, ws, r, rfl, hc, hs, h, _⟩ := h
    match ws, h with
    | [.int n], _ => rfl
  · obtain ⟨a, c, ws, r, rfl, hc, hs, h, o⟩ := h
    match ws, h with
    | [.int n], h =>
    obtain rfl := (Option.some.inj h).symm
    have hcal := hc
    obtain ⟨dx, tm, ty, dl, ts, kvs, st, h1, h2, h3, h4, h5, h6, h7⟩ := hc
    obtain rfl := h7 rfl
    refine ⟨_, pss_cons (ps_asg (pe_callB call_divmod (by rfl) nd (by decide +kernel) (pa_cons (pv 1) (pa_cons (pe_mk0 mC hr (by decide) passL (pv 0)) pa_nil))) (pg_tup rfl (pgs_cons (pg_name (i := 2) cs_year_of.nd rfl (.inl rfl)) (pgs_cons (pg_name (i := 3) cs_year_of.nd rfl (.inl rfl)) pgs_nil)))) (pss_one (ps_ret (pe_op op_sub (pe_op op_add (pe_op op_mul (pv 2) (pe_fld (pv 0) rfl)) (pe_k cB hr (by decide) passL (pa_cons (pe_fld (pv 0) rfl) (pa_cons (pe_op op_add (pv 3) pe_int) pa_nil)))) pe_int))), ?_⟩
    have k := hs.ok
    have hcy := k.cy
    have hsm := hs.cy
    have cp := Ca.cyc_pos k
    have cs := hs.cyc
    refine q_pair (eu_divmod (i := n) (j := c.cyc) (ev_var rfl) (ev_M (ev_var rfl) ea_nil hcal hs (fun _ _ _ _ => rfl) rfl) (by show CDiv _ _; unfold CDiv; omega)) fun H1 e1 => ?_
    refine s_ret (v := .int (yearOf c n)) (ev_op (x := .int (n / c.cyc * c.cycle + (((List.range (c.cycle.toNat + 1)).countP fun i => decide (c.startN i < n % c.cyc + 1) : Nat) : Int))) (y := .int 1) (ev_op (x := .int (n / c.cyc * c.cycle)) (ev_op (ev_var rfl) (ev_fld (ev_var rfl) (e1 _ _ h1) T.cls T.cycle calF_cycle) (rv_I (.inr ⟨by omega, by omega⟩)))
      (ev_count hs (ea_cons (ev_fld (ev_var rfl) (e1 _ _ h1) T.cls T.starts calF_starts) (ea_cons (ev_op (ev_var rfl) ev_c rv_I0) ea_nil)) (ex_l e1 h6)) rv_I0) ev_c rv_I0) fun H2 e2 => o H2 (e1.trans e2)
theorem cm_date {f : Addr} {fd : FuncData} (F : Fun K "date" "Calendar.date" c_date f fd) (T : CalT K C) (mY : Mt P w K mg base 2 C "year_of" (spM K C cl fYearOf) []) (mF : Mt P w K mg base 2 C "first_of" (spM K C cl fFirstOf) []) (mM : Mt P w K mg base 2 C "month_days" (spM K C cl fMonthDays) []) : FnOk P w K mg base (L2.CX P w) 3 f fd ["self", "number"] (spM K C cl fDate) := by
  refine F.okX cs_date (fun vs H Q E h => ?_) (fun cdv A outer s H vs Q E hr h => ?_)
  · obtain ⟨a, c, ws, r, rfl, hc, hs, h, _⟩ := h
    match ws, h with
    | [.int n], _ => rfl
  · obtain ⟨a, c, ws, r, rfl, hc, hs, h, o⟩ := h
    match ws, h with
    | [.int n], h =>
    obtain rfl := (Option.some.inj h).symm
    have hcal := hc
    obtain ⟨dx, tm, ty, dl, ts, kvs, st, h1, h2, h3, h4, h5, h6, h7⟩ := hc
    obtain rfl := h7 rfl
    refine ⟨_, pss_cons (ps_set (i := 2) cs_date.nd rfl (.inl rfl) (pe_mk mY hr (by decide) passL (pv 0) (pa_cons (pv 1) pa_nil))) (pss_cons (ps_set (i := 3) cs_date.nd rfl (.inl rfl) (pe_op op_sub (pv 1) (pe_mk mF hr (by decide) passL (pv 0) (pa_cons (pv 2) pa_nil)))) (pss_cons (ps_set (i := 4) cs_date.nd rfl (.inl rfl) pe_int) (pss_cons (ps_set (i := 5) cs_date.nd rfl (.inl rfl) (pe_mk mM hr (by decide) passL (pv 0) (pa_cons (pv 2) (pa_cons (pv 4) pa_nil)))) (pss_cons (ps_while (passes_of rfl) (pt_cmpR op_ge (pv 3) (pv 5) (nomark _)) (pss_cons (ps_aug (i := 3) cs_date.nd rfl (.inl rfl) (pv 5) ip_sub) (pss_cons (ps_aug (i := 4) cs_date.nd rfl (.inl rfl) pe_int ip_add) (pss_one (ps_set (i := 5) cs_date.nd rfl (.inl rfl) (pe_mk mM hr (by decide) passL (pv 0) (pa_cons (pv 2) (pa_cons (pv 4) pa_nil)))))))) (pss_one (ps_ret (pe_tup (pa_cons (pv 2) (pa_cons (pv 4) (pa_cons (pv 3) pa_nil)))))))))), ?_⟩
    have k := hs.ok
    have D := date_at k n
    have hmd : ∀ j : Nat, j < c.months.length → fMonthDays c [.int (yearOf c n), .int (j : Int)] = some (.ok (.int (c.md (yearOf c n) j))) := fun j hj => by
      show some (if 0 ≤ (j : Int) ∧ (j : Int) < (c.months.length : Int) then Rs.ok (.int (c.md (yearOf c n) (j : Int).toNat)) else .err 1) = _
      rw [if_pos ⟨by omega, by omega⟩, Int.toNat_natCast]
    have hL : 0 < c.months.length := List.length_pos_iff.mpr k.some
    refine q_asg (v := .int (yearOf c n)) (ev_M (ev_var rfl) (ea_cons (ev_var rfl) ea_nil) hcal hs (fun _ _ _ _ => rfl) rfl) fun H1 e1 => ?_
    refine q_asg (v := .int (n - c.firstOf (yearOf c n))) (ev_op (ev_var rfl) (ev_M (ev_var rfl) (ea_cons (ev_var rfl) ea_nil) (hcal.ex e1) hs (fun _ _ _ _ => rfl) rfl) rv_I0) fun H2 e2 => ?_
    refine q_asg (v := .int ((0 : Nat) : Int)) ev_c fun H3 e3 => ?_
    refine q_asg (v := .int (c.md (yearOf c n) 0)) (ev_M (ev_var rfl) (ea_cons (ev_var rfl) (ea_cons (ev_var rfl) ea_nil)) (hcal.ex ((e1.trans e2).trans e3)) hs (fun _ _ _ _ => rfl) (hmd 0 hL)) fun H4 e4 => ?_
    refine q_while (fun m σ' H' => ∃ j : Nat, σ' = [some (.ref a), some (.int n), some (.int (yearOf c n)), some (.int (n - c.firstOf (yearOf c n) - c.ahead (yearOf c n) j)), some (.int (j : Int)), some (.int (c.md (yearOf c n) j))] ∧ Ex H H' ∧ j ≤ dateM c n ∧ m = dateM c n - j)
      (dateM c n) ⟨0, (by
        have e : c.ahead (yearOf c n) 0 = 0 := rfl
        rw [e, Int.sub_zero]
        rfl), ((e1.trans e2).trans e3).trans e4, Nat.zero_le _, rfl⟩ fun m σ' H' hW => ?_
    obtain ⟨j, rfl, eH, hj, rfl⟩ := hW
    have hjl : j < c.months.length := by have := D.m1; omega
    have es : c.ahead (yearOf c n) (j + 1) = c.ahead (yearOf c n) j + c.md (yearOf c n) j := rfl
    refine ⟨decide (c.md (yearOf c n) j ≤ n - c.firstOf (yearOf c n) - c.ahead (yearOf c n) j), by walk_at "et", fun hb H5 e5 => ?_, fun hb H5 e5 => ?_⟩
    · have hb := of_decide_eq_true hb
      have hlt : j < dateM c n := by
        rcases Nat.lt_or_eq_of_le hj with z | z
        · exact z
        · exfalso
          have d1 := D.d1
          have nm := D.num
          rw [← z] at d1 nm
          omega
      refine ⟨_, fun σ2 H2 h => h, ?_⟩
      refine q_aug (a := n - c.firstOf (yearOf c n) - c.ahead (yearOf c n) j) rfl (ev_var rfl) fun H6 e6 => ?_
      refine q_aug (a := (j : Int)) rfl ev_c fun H7 e7 => ?_
      refine s_asg (v := .int (c.md (yearOf c n) (j + 1))) (ev_M (ws := [.int (yearOf c n), .int (((j + 1 : Nat)) : Int)]) (ev_var rfl) (ea_cons (ev_var rfl) (ea_cons (ev_is (v := .int ((j : Int) + 1)) (ev_var rfl) (congrArg V.int (by omega))) ea_nil)) (hcal.ex (((eH.trans e5).trans e6).trans e7)) hs (fun _ _ _ _ => rfl) (hmd (j + 1) (by have := D.m1; omega))) fun H8 e8 => ?_
      refine ⟨dateM c n - (j + 1), by omega, j + 1, ?_, (((eH.trans e5).trans e6).trans e7).trans e8, hlt, rfl⟩
      rw [es, show n - c.firstOf (yearOf c n) - (c.ahead (yearOf c n) j + c.md (yearOf c n) j) = n - c.firstOf (yearOf c n) - c.ahead (yearOf c n) j - c.md (yearOf c n) j by omega, show ((j + 1 : Nat) : Int) = (j : Int) + 1 by omega]
      rfl
    · have hb := of_decide_eq_false hb
      have ej : j = dateM c n := by
        rcases Nat.lt_or_eq_of_le hj with z | z
        · exfalso
          have q : c.ahead (yearOf c n) (j + 1) ≤ c.ahead (yearOf c n) (dateM c n) := by
            rcases Nat.lt_or_eq_of_le (show j + 1 ≤ dateM c n from z) with y | y
            · exact Int.le_of_lt (Ca.ahead_mono k _ y (Nat.le_of_lt D.m1))
            · rw [y]; exact Int.le_refl _
          have nm := D.num
          have d0 := D.d0
          omega
        · exact z
      subst ej
      refine s_retU (xs := [.int (yearOf c n), .int (dateM c n : Nat), .int (dateD c n)]) (eu_tup (ea_cons (ev_var rfl) (ea_cons (ev_var rfl) (ea_cons (ev_var rfl) ea_nil))) (by show 3 ≤ 100000; decide)) fun p H6 hp e6 h6 => ?_
      exact o p H6 (fresh_back (eH.trans e5) hp) ((eH.trans e5).trans e6) h6
end
end Rw
namespace Rw
open PySem PySem.Spec PyProof.Rows L2 Evl Cy
local macro_rules | `(tactic| walk_at "sq") => `(tactic| first | assumption | exact SqL.of (by assumption) | exact SqT.of (by assumption))
local macro_rules | `(tactic| walk_at "at") => `(tactic| first | exact atI_nat (j := 0) rfl | exact atI_nat (j := 1) rfl | exact atI_nat (j := 2) rfl | exact atI_nat (j := 3) rfl)
local macro_rules | `(tactic| walk_at "rv") => `(tactic| first
  | with_reducible exact rv_I0
  | ((with_reducible refine' rv_I ?k1); (case k1 => first | (show (0 : Int) < _; omega) | exact ⟨by omega, by omega⟩ | exact .inr ⟨by omega, by omega⟩ | exact .inl ⟨by omega, by omega⟩ | exact ⟨by decide, by decide, by decide⟩))
  | ((with_reducible refine' rv_eq ?k1); (case k1 => exact rfl))
  | ((with_reducible refine' rv_ne ?k1); (case k1 => exact rfl))
  | (refine' rv_ixL ?k1 ?k2; (case k1 => walk_at "sq"); (case k2 => walk_at "at"))
  | (refine' rv_ixT ?k1 ?k2; (case k1 => walk_at "sq"); (case k2 => walk_at "at")))
local macro_rules | `(tactic| walk_at "rc") => `(tactic| first | exact rc_int1 | exact rc_int1b | exact rc_abs)
local macro_rules | `(tactic| walk_at "ea") => `(tactic| first
  | with_reducible exact ea_nil
  | ((with_reducible refine' ea_cons ?k1 ?k2); (case k1 => walk_at "ev"); (case k2 => walk_at "ea")))
local macro_rules | `(tactic| walk_at "ev") => `(tactic| first
  | with_reducible exact ev_c
  | ((with_reducible refine' ev_var ?k1); (case k1 => exact rfl))
  | ((with_reducible refine' ev_op ?k1 ?k2 ?k3); (case k1 => walk_at "ev"); (case k2 => walk_at "ev"); (case k3 => walk_at "rv"))
  | ((with_reducible refine' et_chain ?k1 ?k2 ?k3 ?k4 ?k5); (case k1 => walk_at "ev"); (case k2 => walk_at "ev"); (case k3 => (intro _; walk_at "ev")); (case k4 => walk_at "rv"); (case k5 => (intro _; walk_at "rv")))
  | ((with_reducible refine' ev_cb ?k1 ?k2); (case k1 => walk_at "ea"); (case k2 => walk_at "rc")))
local macro_rules | `(tactic| walk_at "et") => `(tactic| first
  | ((with_reducible refine' et_test ?k1); (case k1 => walk_at "ev"))
  | ((with_reducible refine' et_B ?k1); (case k1 => walk_at "ev"))
  | ((with_reducible refine' et_and ?k1 ?k2); (case k1 => walk_at "et"); (case k2 => (intro _; walk_at "et")))
  | ((with_reducible refine' et_or ?k1 ?k2); (case k1 => walk_at "et"); (case k2 => (intro _; walk_at "et")))
  | ((with_reducible refine' et_not ?k1); (case k1 => walk_at "et")))
local macro_rules | `(tactic| walk_at "ff") => `(tactic| first | exact rfl | assumption)
local macro_rules | `(tactic| walk_at "ev") => `(tactic| first
  | with_reducible exact ev_c
  | ((with_reducible refine' ev_var ?k1); (case k1 => exact rfl))
  | ((with_reducible refine' ev_op ?k1 ?k2 ?k3); (case k1 => walk_at "ev"); (case k2 => walk_at "ev"); (case k3 => walk_at "rv"))
  | ((with_reducible refine' et_chain ?k1 ?k2 ?k3 ?k4 ?k5); (case k1 => walk_at "ev"); (case k2 => walk_at "ev"); (case k3 => (intro _; walk_at "ev")); (case k4 => walk_at "rv"); (case k5 => (intro _; walk_at "rv")))
  | ((with_reducible refine' ev_cb ?k1 ?k2); (case k1 => walk_at "ea"); (case k2 => walk_at "rc"))
  | ((with_reducible refine' ev_F ?k1 ?k2); (case k1 => walk_at "ea"); (case k2 => walk_at "ff"))
  | ((with_reducible refine' ev_two ?k1 ?k2 ?k3); (case k1 => walk_at "ev"); (case k2 => omega); (case k3 => omega)))
abbrev c_init : Stmt := inClass (topS 16) 0
theorem cs_init : FnScope ["self", "months", "long_month", "cycle", "long_years", "week", "first_weekday", "year"] ["self", "months", "long_month", "cycle", "long_years", "week", "first_weekday"] (defScope c_init) := ⟨rfl, rfl, rfl, by decide +kernel, rfl, by decide +kernel, by decide +kernel⟩
section
variable {P : Program} {w : World} {K : PySem.W.Frag} {mg : Str → Option Value} {base : Heap} {C : Addr} {cl : Nat → Addr}
/-- a calendar whose table of starts was not there before -/
def CalN (K : PySem.W.Frag) (C : Addr) (H H' : Hp) (a : Addr) (c : Ca) : Prop := ∃ dx tm ty dl ts kvs st, H' a = some (.ins C dx (calF c tm ty dl ts)) ∧ SqT K H' tm (c.months.map V.int) ∧ SqT K H' ty (c.ly.map V.int) ∧ H' dl = some (.dK kvs) ∧ (∀ i : Int, (valV kvs (.inl i)).isSome = decide (i ∈ c.ly)) ∧ SqL K H' ts st ∧ (true = true → st = startsL c) ∧ (∀ b o, b ≠ a → H b = some o → b ≠ ts) ∧ H' ts = some (.lst st)
theorem CalN.p {K : PySem.W.Frag} {C : Addr} {H H' : Hp} {a : Addr} {c : Ca} (h : CalN K C H H' a c) : CalP K C H' a c := by
  obtain ⟨dx, tm, ty, dl, ts, kvs, st, h1, h2, h3, h4, h5, h6, h7, _⟩ := h
  exact ⟨dx, tm, ty, dl, ts, kvs, st, h1, h2, h3, h4, h5, h6, h7⟩
/-- a new calendar, of what can be -/
def spNew (K : PySem.W.Frag) (C : Addr) : Sp := fun vs H Q _ => ∃ (x dx pm py : Addr) (c : Ca), vs = [.ref x, .ref pm, .int c.lm, .int c.cycle, .ref py, .int c.week, .int c.fw] ∧ H x = some (.ins C dx []) ∧ SqA K H pm (c.months.map V.int) ∧ SqA K H py (c.ly.map V.int) ∧ c.ly.length < 40000 ∧ Small c ∧
  ∀ H', CalN K C H H' x c → ExB x H H' → Q .non H'
theorem cm_init {f : Addr} {fd : FuncData} (F : L2.FunD K "__init__" "Calendar.__init__" (defArgs c_init) (defBody c_init) (defScope c_init) [.int 0] [] f fd) (T : CalT K C) (mY : Mt P w K mg base 2 C "year_days" (spB false K C cl fYearDays) []) (nt : mg "tuple" = none) (nmin : mg "min" = none) (nl : mg "len" = none) (na : mg "any" = none) (ns : mg "sum" = none) (nr : mg "range" = none) (xC : Exc1 K mg "BadCalendar" (cl 0)) :
    FnOk P w K mg base (L2.CX P w) 3 f fd ["self", "months", "long_month", "cycle", "long_years", "week", "first_weekday"] (spNew K C) := by
  refine F.ok cs_init (fun vs H Q E h => ?_) (fun cdv A outer s H vs Q E hr h => ?_)
  · obtain ⟨x, dx, pm, py, c, rfl, _⟩ := h
    rfl
  · obtain ⟨x, dx, pm, py, c, rfl, hx, hpm, hpy, hyl, hs, q⟩ := h
    refine ⟨_, pss_cons (ps_fld (pv 0) (pe_callTy call_tuple_of (by rfl) nt (by decide +kernel) (pa_cons (pv 1) pa_nil)) rfl) (pss_cons (ps_fld (pv 0) (pv 2) rfl) (pss_cons (ps_fld (pv 0) (pv 3) rfl) (pss_cons (ps_fld (pv 0) (pe_callTy call_tuple_of (by rfl) nt (by decide +kernel) (pa_cons (pv 4) pa_nil)) rfl) (pss_cons (ps_fld (pv 0) (pv 5) rfl) (pss_cons (ps_fld (pv 0) (pv 6) rfl) (pss_cons (ps_if (PW.pt (pw_or (pt_cmpR (op_eqD hr.units) (pe_fld (pv 0) rfl) (pe_tup pa_nil) (nomark _)) (pw_or (pt_cmpR op_lt (pe_callB (cr_minT rfl) (by rfl) nmin (by decide +kernel) (pa_cons (pe_fld (pv 0) rfl) pa_nil)) pe_int (nomark _)) (pw_or (pt_cmpR op_lt (pv 3) pe_int (nomark _)) (pw_or (pt_cmpR op_lt (pv 5) pe_int (nomark _)) (pw_or1 (pt_not (pt_chain op_le op_lt pe_int (pv 6) (pv 5))))))))) (pss_one (ps_raiseX xC)) pss_nil) (pss_cons (ps_if (PW.pt (pw_or (pt_not (pt_chain op_le op_lt pe_int (pv 2) (pe_callB call_len_seq (by rfl) nl (by decide +kernel) (pa_cons (pe_fld (pv 0) rfl) pa_nil)))) (pw_or1 (pt_val (pe_callB (cr_any rfl) (by rfl) na (by decide +kernel) (pa_cons (pe_lc (own := [("year", 7)]) (g := gName 7) (tt := tYes) rfl cs_init.nd (pi_tup (pe_fld (pv 0) rfl)) (blkOk_by (own := [("year", 7)]) (N := ["self", "months", "long_month", "cycle", "long_years", "week", "first_weekday", "year"]) (sc := defScope c_init) (by decide +kernel)) (fun _ _ _ _ _ => pg_name (i := 7) cs_init.nd rfl (Or.inl rfl)) (fun _ _ _ _ _ => pts_nil) (fun _ _ _ _ _ => pe_not (pe_chain op_le op_lt pe_int (pv 7) (pv 3)))) pa_nil)))))) (pss_one (ps_raiseX xC)) pss_nil) (pss_cons (ps_fld (pv 0) (pe_dc (own := [("year", 7)]) (g := gName 7) (tt := tYes) rfl cs_init.nd (pi_tup (pe_fld (pv 0) rfl)) (blkOk_by (own := [("year", 7)]) (N := ["self", "months", "long_month", "cycle", "long_years", "week", "first_weekday", "year"]) (sc := defScope c_init) (by decide +kernel)) (fun _ _ _ _ _ => pg_name (i := 7) cs_init.nd rfl (Or.inl rfl)) (fun _ _ _ _ _ => pts_nil) (fun _ _ _ _ _ => pv 7) (fun _ _ _ _ _ => pe_bl)) rfl) (pss_cons (ps_fld (pv 0) (pe_callB (cr_sumT rfl) (by rfl) ns (by decide +kernel) (pa_cons (pe_fld (pv 0) rfl) pa_nil)) rfl) (pss_cons (ps_fld (pv 0) (pe_lst (pa_cons pe_int pa_nil)) rfl) (pss_one (ps_for (passes_of rfl) rfl (pi_range1 rfl nr (pa_cons (pv 3) pa_nil)) (pg_name (i := 7) cs_init.nd rfl (.inl rfl)) (pss_one (ps_expr (pe_bm PySem.F.plainAttrs_list PySem.F.slot_list_append PySem.F.type_list_append mt_append (pe_fld (pv 0) rfl) (pa_cons (pe_op op_add (pe_ix ix_list (pe_fld (pv 0) rfl) (pv 7) (fun _ _ => rfl)) (pe_mk mY hr (by decide) passL (pv 0) (pa_cons (pv 7) pa_nil))) pa_nil)))))))))))))))), ?_⟩
    have k := hs.ok
    have hcy := k.cy
    have hsm := hs.cy
    -- self.months
    refine q_fldX (ev_tupOf (ev_var rfl) hpm) (ev_var rfl) hx T.cls T.months (by show 0 < 1000; decide) (fun y H1 H2 r g e => by obtain ⟨q, rfl, r⟩ := r; exact ⟨q, rfl, sqT_b e g r⟩) fun y G1 b1 x1 r => ?_
    obtain ⟨tm, rfl, t1⟩ := r
    refine q_fldB (y := .int c.lm) (ev_var rfl) (ev_var rfl) x1 T.cls T.lm (by show 1 < 1000; decide) fun G2 b2 x2 => ?_
    have t2 := sqT_b b2 x1 t1
    refine q_fldB (y := .int c.cycle) (ev_var rfl) (ev_var rfl) x2 T.cls T.cycle (by show 2 < 1000; decide) fun G3 b3 x3 => ?_
    have t3 := sqT_b b3 x2 t2
    have B3 := (b1.trans b2).trans b3
    refine q_fldX (ev_tupOf (ev_var rfl) (SqA.b B3 hx hpy)) (ev_var rfl) x3 T.cls T.ly (by show 3 < 1000; decide) (fun y H1 H2 r g e => by obtain ⟨q, rfl, r⟩ := r; exact ⟨q, rfl, sqT_b e g r⟩) fun y G4 b4 x4 r => ?_
    obtain ⟨ty, rfl, u4⟩ := r
    have t4 := sqT_b b4 x3 t3
    refine q_fldB (y := .int c.week) (ev_var rfl) (ev_var rfl) x4 T.cls T.week (by show 4 < 1000; decide) fun G5 b5 x5 => ?_
    refine q_fldB (y := .int c.fw) (ev_var rfl) (ev_var rfl) x5 T.cls T.fw (by show 5 < 1000; decide) fun G6 b6 x6 => ?_
    have t6 := sqT_b b6 x5 (sqT_b b5 x4 t4)
    have u6 := sqT_b b6 x5 (sqT_b b5 x4 u4)
    have B6 := ((B3.trans b4).trans b5).trans b6
    refine q_when (b := false) ?_ (fun z => nomatch z) fun _ G7 e7 => ?_
    · refine et_is (et_or (a := false) (b := false) (et_test (ev_noTup (ev_fld (ev_var rfl) x6 T.cls T.months rfl) t6 k.some)) fun _ => et_or (a := false) (b := false) (et_min (ev_fld (ev_var rfl) x6 T.cls T.months rfl) t6 k.some k.pos)
        fun _ => et_or (a := false) (b := false) (et_is (et_test (ev_op (ev_var rfl) ev_c rv_I0)) (decide_eq_false (by omega))) fun _ => et_or (a := false) (b := false) (et_is (et_test (ev_op (ev_var rfl) ev_c rv_I0)) (decide_eq_false (by have := k.wk; omega)))
        fun _ => et_is (et_not (et_test (et_chain ev_c (ev_var rfl) (fun _ => ev_var rfl) rv_I0 (fun _ => rv_I0)))) (by rw [decide_eq_true k.fw0, decide_eq_true k.fw1]; rfl)) rfl
    have x7 := e7 _ _ x6
    have t7 := ex_t e7 t6
    have u7 := ex_t e7 u6
    have B7 : ExB x H G7 := B6.ex e7
    refine q_when (b := false) ?_ (fun z => nomatch z) fun _ G8 e8 => ?_
    · refine et_is (et_or (a := false) (b := false) (et_is (et_not (et_test (et_chain (b := decide ((0 : Int) ≤ c.lm)) (b' := decide (c.lm < (((c.months.map V.int).length : Nat) : Int))) ev_c (ev_var rfl) (fun _ => ev_lenT (ev_fld (ev_var rfl) x7 T.cls T.months rfl) t7) rv_I0 (fun _ => rv_I0)))) ?_)
        fun _ => et_is (et_B (ev_anyN (bs := c.ly.map fun y => !(decide ((0 : Int) ≤ y) && decide (y < c.cycle))) (el_mapT (ev_fld (ev_var rfl) x7 T.cls T.ly rfl) u7 (by rw [List.length_map]; omega) (fun x => rfl) (by rw [List.length_map, List.length_map, List.length_map]) fun i z y HH ee hx hy => ?_))) ?_) rfl
      · rw [List.length_map, decide_eq_true k.lm0, decide_eq_true k.lm1]
        rfl
      · rw [List.getElem?_map] at hx
        rw [List.getElem?_map, List.getElem?_map] at hy
        cases e : c.ly[i]? with
        | none =>
          rw [e] at hx
          cases hx
        | some n =>
          rw [e] at hx hy
          obtain rfl : V.int n = z := Option.some.inj hx
          obtain rfl : V.bl (!(decide ((0 : Int) ≤ n) && decide (n < c.cycle))) = y := Option.some.inj hy
          exact ev_notV (et_chain ev_c (ev_var rfl) (fun _ => ev_var rfl) rv_I0 (fun _ => rv_I0))
      · rw [List.any_eq_false]
        intro b hb
        obtain ⟨n, hn, rfl⟩ := List.mem_map.mp hb
        have g := k.ly n hn
        rw [decide_eq_true g.1, decide_eq_true g.2]
        decide
    have x8 := e8 _ _ x7
    have t8 := ex_t e8 t7
    have u8 := ex_t e8 u7
    have B8 : ExB x H G8 := B7.ex e8
    refine q_fldX (ev_dictTrue (ev_fld (ev_var rfl) x8 T.cls T.ly rfl) u8 (by omega) (fun x => rfl) (fun x => rfl)) (ev_var rfl) x8 T.cls T.longs (by show 6 < 1000; decide) (fun y H1 H2 r g e => by
      obtain ⟨d, kvs, rfl, r1, r2⟩ := r
      exact ⟨d, kvs, rfl, e _ _ (fun z => by rw [z, g] at r1; cases r1) r1, r2⟩) fun y G9 b9 x9 r => ?_
    obtain ⟨dl, kvs, rfl, d9, dk⟩ := r
    have t9 := sqT_b b9 x8 t8
    refine q_fldB (y := .int c.plain) (ev_sumT (ev_fld (ev_var rfl) x9 T.cls T.months rfl) t9) (ev_var rfl) x9 T.cls T.plain (by show 7 < 1000; decide) fun G10 b10 x10 => ?_
    have dne : dl ≠ x := fun z => by rw [z, x9] at d9; cases d9
    have d10 := b10 _ _ dne d9
    have u10 := sqT_b b10 x9 (sqT_b b9 x8 u8)
    have t10 := sqT_b b10 x9 t9
    have B10 := (B8.trans b9).trans b10
    refine q_fldX (ev_newL (el_lst (vs := [.int 0]) (ea_cons ev_c ea_nil) (by show 1 ≤ 100000; decide))) (ev_var rfl) x10 T.cls T.starts (by show 8 < 1000; decide) (fun y H1 H2 r g e => by
      obtain ⟨q, rfl, r1, r2⟩ := r
      exact ⟨q, rfl, e _ _ (fun z => by rw [z, g] at r1; cases r1) r1, r2⟩) fun y G11 b11 x11 r => ?_
    obtain ⟨ts, rfl, s11, s0⟩ := r
    have B11 := B10.trans b11
    have old : ∀ b o, b ≠ x → H b = some o → b ≠ ts := fun b o hb e z => by
      have g := B10 b o hb e
      rw [z, s0] at g
      cases g
    have tne : x ≠ ts := fun z => by rw [z, s0] at x10; cases x10
    have x11 : G11 x = some (.ins C dx (calF c tm ty dl ts)) := x11
    refine s_forR1 (n := c.cycle) (ea_cons (ev_var rfl) ea_nil) ⟨by omega, by omega⟩ (fun i σ' G => ExB x H G ∧ G x = some (.ins C dx (calF c tm ty dl ts)) ∧ SqT K G tm (c.months.map V.int) ∧ SqT K G ty (c.ly.map V.int) ∧ G dl = some (.dK kvs) ∧ G ts = some (.lst ((List.range (i + 1)).map fun j => V.int (c.startN j))) ∧
      ∃ l7, σ' = [some (.ref x), some (.ref pm), some (.int c.lm), some (.int c.cycle), some (.ref py), some (.int c.week), some (.int c.fw), l7]) (fun G12 e12 => ⟨B11.ex e12, e12 _ _ x11, ex_t e12 (sqT_b b11 x10 t10), ex_t e12 (sqT_b b11 x10 u10), e12 _ _ (b11 _ _ dne d10), e12 _ _ s11, _, rfl⟩) (fun i σ' G hi hP => ?_) (fun σ' G hP => ?_)
    · obtain ⟨g1, g2, g3, g4, g5, g6, l7, rfl⟩ := hP
      have hw : CalB false K C G x c := ⟨dx, tm, ty, dl, ts, kvs, _, g2, g3, g4, g5, dk, SqL.of g6, fun z => nomatch z⟩
      have hlen : ((List.range (i + 1)).map fun j => V.int (c.startN j)).length = i + 1 := by rw [List.length_map, List.length_range]
      refine s_app (l := ts) (v := .int (c.startN (i + 1))) g6 (ev_fld (ev_var rfl) g2 T.cls T.starts rfl) (ev_op (x := .int (c.startN i)) (y := .int (c.yearDays (i : Int))) (ev_op (ev_fld (ev_var rfl) g2 T.cls T.starts rfl) (ev_var rfl) (rv_ixL (SqL.of g6) (atI_nat (by rw [List.getElem?_map, List.getElem?_range (by omega)]; rfl))))
        (ev_M (ev_var rfl) (ea_cons (ev_var rfl) ea_nil) hw hs (fun _ _ _ _ => rfl) rfl) rv_I0) (by rw [hlen]; omega) fun H1 e1 => ?_
      refine ⟨fun b o hb e => ?_, ?_, sqT_u (ex_t e1 g3) (e1 _ _ g6), sqT_u (ex_t e1 g4) (e1 _ _ g6), ?_, ?_, _, rfl⟩
      · rw [upd_ne (old b o hb e)]
        exact e1 _ _ (g1 b o hb e)
      · rw [upd_ne tne]
        exact e1 _ _ g2
      · rw [upd_ne (fun z => by rw [z, g6] at g5; cases g5)]
        exact e1 _ _ g5
      · rw [upd_same, List.range_succ (n := i + 1), List.map_append]
        rfl
    · obtain ⟨g1, g2, g3, g4, g5, g6, l7, rfl⟩ := hP
      exact q G ⟨dx, tm, ty, dl, ts, kvs, _, g2, g3, g4, g5, dk, SqL.of g6, fun _ => rfl, old, g6⟩ g1
end
end Rw
namespace Rw
open PySem PySem.Spec PyProof.Rows L2 Evl Cy
local macro_rules | `(tactic| walk_at "sq") => `(tactic| first | assumption | exact SqL.of (by assumption) | exact SqT.of (by assumption))
local macro_rules | `(tactic| walk_at "at") => `(tactic| first | exact atI_nat (j := 0) rfl | exact atI_nat (j := 1) rfl | exact atI_nat (j := 2) rfl | exact atI_nat (j := 3) rfl)
local macro_rules | `(tactic| walk_at "rv") => `(tactic| first
  | with_reducible exact rv_I0
  | ((with_reducible refine' rv_I ?k1); (case k1 => first | (show (0 : Int) < _; omega) | exact ⟨by omega, by omega⟩ | exact .inr ⟨by omega, by omega⟩ | exact .inl ⟨by omega, by omega⟩ | exact ⟨by decide, by decide, by decide⟩))
  | ((with_reducible refine' rv_eq ?k1); (case k1 => exact rfl))
  | ((with_reducible refine' rv_ne ?k1); (case k1 => exact rfl))
  | (refine' rv_ixL ?k1 ?k2; (case k1 => walk_at "sq"); (case k2 => walk_at "at"))
  | (refine' rv_ixT ?k1 ?k2; (case k1 => walk_at "sq"); (case k2 => walk_at "at")))
local macro_rules | `(tactic| walk_at "rc") => `(tactic| first | exact rc_int1 | exact rc_int1b | exact rc_abs)
local macro_rules | `(tactic| walk_at "ea") => `(tactic| first
  | with_reducible exact ea_nil
  | ((with_reducible refine' ea_cons ?k1 ?k2); (case k1 => walk_at "ev"); (case k2 => walk_at "ea")))
local macro_rules | `(tactic| walk_at "ev") => `(tactic| first
  | with_reducible exact ev_c
  | ((with_reducible refine' ev_var ?k1); (case k1 => exact rfl))
  | ((with_reducible refine' ev_op ?k1 ?k2 ?k3); (case k1 => walk_at "ev"); (case k2 => walk_at "ev"); (case k3 => walk_at "rv"))
  | ((with_reducible refine' et_chain ?k1 ?k2 ?k3 ?k4 ?k5); (case k1 => walk_at "ev"); (case k2 => walk_at "ev"); (case k3 => (intro _; walk_at "ev")); (case k4 => walk_at "rv"); (case k5 => (intro _; walk_at "rv")))
  | ((with_reducible refine' ev_cb ?k1 ?k2); (case k1 => walk_at "ea"); (case k2 => walk_at "rc")))
local macro_rules | `(tactic| walk_at "et") => `(tactic| first
  | ((with_reducible refine' et_test ?k1); (case k1 => walk_at "ev"))
  | ((with_reducible refine' et_B ?k1); (case k1 => walk_at "ev"))
  | ((with_reducible refine' et_and ?k1 ?k2); (case k1 => walk_at "et"); (case k2 => (intro _; walk_at "et")))
  | ((with_reducible refine' et_or ?k1 ?k2); (case k1 => walk_at "et"); (case k2 => (intro _; walk_at "et")))
  | ((with_reducible refine' et_not ?k1); (case k1 => walk_at "et")))
local macro_rules | `(tactic| walk_at "ff") => `(tactic| first | exact rfl | assumption)
local macro_rules | `(tactic| walk_at "ev") => `(tactic| first
  | with_reducible exact ev_c
  | ((with_reducible refine' ev_var ?k1); (case k1 => exact rfl))
  | ((with_reducible refine' ev_op ?k1 ?k2 ?k3); (case k1 => walk_at "ev"); (case k2 => walk_at "ev"); (case k3 => walk_at "rv"))
  | ((with_reducible refine' et_chain ?k1 ?k2 ?k3 ?k4 ?k5); (case k1 => walk_at "ev"); (case k2 => walk_at "ev"); (case k3 => (intro _; walk_at "ev")); (case k4 => walk_at "rv"); (case k5 => (intro _; walk_at "rv")))
  | ((with_reducible refine' ev_cb ?k1 ?k2); (case k1 => walk_at "ea"); (case k2 => walk_at "rc"))
  | ((with_reducible refine' ev_F ?k1 ?k2); (case k1 => walk_at "ea"); (case k2 => walk_at "ff"))
  | ((with_reducible refine' ev_two ?k1 ?k2 ?k3); (case k1 => walk_at "ev"); (case k2 => omega); (case k3 => omega)))
abbrev s_cal : Stmt := topS 28
def calN : List Str := ["dice", "months", "cycle", "week", "years", "k"]
theorem sc_cal : FnScope calN ["dice"] (defScope s_cal) := ⟨rfl, rfl, rfl, by decide +kernel, rfl, by decide +kernel, by decide +kernel⟩
section
variable {P : Program} {w : World} {K : PySem.W.Frag} {mg : Str → Option Value} {base : Heap} {C : Addr} {cl : Nat → Addr}
def spLawCal (K : PySem.W.Frag) (C : Addr) : Sp := fun vs H Q _ => ∃ (d : Addr) (a b c : Int), vs = [.ref d] ∧ H d = some (.lst [.int a, .int b, .int c]) ∧
  ∀ (x : Addr) (c : Ca) H', c.Ok → Tiny c → CalN K C H H' x c → H x = none → Rel d H H' → Q (.ref x) H'
theorem sp_roll (d : Addr) (m : Int) (h0 : 0 < m) (h1 : m < 1000000) : ∀ (H : Hp) (Q : VK) (a b c : Int), H d = some (.lst [.int a, .int b, .int c]) → (∀ (v a' b' c' : Int) H', 0 ≤ v → v < m → ExB d H H' → H' d = some (.lst [.int a', .int b', .int c']) → Q (.int v) H') → spRoll [.ref d, .int m] H Q E0 :=
  fun H Q a b c h k => ⟨d, a, b, c, m, rfl, h, h0, h1, fun v a' b' c' H' v0 v1 eB hd => k v a' b' c' H' v0 v1 eB hd⟩
theorem rd_r {d : Addr} {H H1 : Hp} {σ : L2.St} {i : Nat} {m : Int} {Q : VK} {tm : TE} (r : Rel d H H1) (hσ : σ[i]? = some (some (.ref d))) (hm : Ev tm σ H1 (.int m)) (h0 : 0 < m) (h1 : m < 1000000) (cont : ∀ v H2, 0 ≤ v → v < m → Rel d H H2 → Rel d H1 H2 → Q (.int v) H2) :
    tCall spRoll [] E0 (tCons (tVar i) (tCons tm tNil)) σ H1 Q := rd_rollR r hσ hm h0 h1 cont spRoll (sp_roll d m h0 h1)
theorem ok_cal {f : Addr} {fd : FuncData} (F : Fun K "_law_calendar" "_law_calendar" s_cal f fd) (cR : Cal P w K mg base 1 "_law_roll" spRoll []) (cN : Nw P w K mg base 3 "Calendar" C (spNew K C) []) (nl : mg "len" = none) (nr : mg "range" = none) :
    FnOk P w K mg base (L2.CX P w) 5 f fd ["dice"] (spLawCal K C) := by
  refine F.okX sc_cal (fun vs H Q E h => ?_) (fun cdv A outer s H vs Q E hr h => ?_)
  · obtain ⟨d, a, b, c, rfl, _⟩ := h
    rfl
  · obtain ⟨d, a, b, c, rfl, hd, q⟩ := h
    refine ⟨_, pss_cons (ps_setLc (own := [("k", 5)]) (i := 1) (g := gName 5) (tt := tYes) rfl sc_cal.nd rfl rfl (sw_true rfl rfl rfl (by decide +kernel)) (pi_range1 rfl nr (pa_cons (pe_op op_add pe_int (pe_k cR hr (by decide) passL (pa_cons (pv 0) (pa_cons pe_int pa_nil)))) pa_nil)) (blkOk_by (own := [("k", 5)]) (N := calN) (sc := defScope s_cal) (by decide +kernel)) (fun _ _ _ _ _ => pg_name (i := 5) sc_cal.nd rfl (Or.inl rfl)) (fun _ _ _ _ _ => pts_nil) (fun _ _ _ _ _ => (pe_op op_add pe_int (pe_k cR hr (by decide) passL (pa_cons (pv 0) (pa_cons pe_int pa_nil)))))) (pss_cons (ps_par (i := 2) (j := 3) rfl sc_cal.nd rfl rfl (by decide) rfl rfl (pa_cons (pe_op op_add pe_int (pe_k cR hr (by decide) passL (pa_cons (pv 0) (pa_cons pe_int pa_nil)))) (pa_cons (pe_op op_add pe_int (pe_k cR hr (by decide) passL (pa_cons (pv 0) (pa_cons pe_int pa_nil)))) pa_nil)) rfl) (pss_cons (ps_setLc (own := [("k", 5)]) (i := 4) (g := gName 5) (tt := _) rfl sc_cal.nd rfl rfl (sw_true rfl rfl rfl (by decide +kernel)) (pi_range1 rfl nr (pa_cons (pv 2) pa_nil)) (blkOk_by (own := [("k", 5)]) (N := calN) (sc := defScope s_cal) (by decide +kernel)) (fun _ _ _ _ _ => pg_name (i := 5) sc_cal.nd rfl (Or.inl rfl)) (fun _ _ _ _ _ => pts_one (pt_cmpR op_eq (pe_k cR hr (by decide) passL (pa_cons (pv 0) (pa_cons pe_int pa_nil))) pe_int (nomark _))) (fun _ _ _ _ _ => (pv 5))) (pss_one (ps_ret (pe_nw cN hr (by decide) passL (pa_cons (pv 1) (pa_cons (pe_k cR hr (by decide) passL (pa_cons (pv 0) (pa_cons (pe_callB call_len_seq (by rfl) nl (by decide +kernel) (pa_cons (pv 1) pa_nil)) pa_nil))) (pa_cons (pv 2) (pa_cons (pv 4) (pa_cons (pv 3) (pa_cons (pe_k cR hr (by decide) passL (pa_cons (pv 0) (pa_cons (pv 3) pa_nil))) pa_nil))))))))))), ?_⟩
    have r0 : Rel d H H := ⟨fun _ _ _ h => h, _, _, _, hd⟩
    -- months
    refine rd_r r0 rfl ev_c (by decide) (by decide) fun n0 H1 a0 a1 r1 _ => ⟨1, n0, rfl, rfl, 1 + n0, rfl, by omega, by omega, fun L1 hL1 => ?_⟩
    have L1H := r1.back hL1
    have L1d := r1.ne hL1
    refine lc_range (lo := 0) (n := (1 + n0).toNat) (fun i H' => Rel d H H' ∧ ∃ ms : List Int, ms.length = i ∧ (∀ m ∈ ms, 2 ≤ m ∧ m ≤ 5) ∧ H' L1 = some (.lst (ms.map V.int))) ⟨r1.mut L1H L1d, [], rfl, fun m hm => (by cases hm), upd_same⟩ (fun i H' hi hP => ?_) (fun H2 hP => ?_)
    · obtain ⟨r2, ms, m1, m2, m3⟩ := hP
      refine ⟨rfl, ?_⟩
      simp only [tYes, ↓reduceIte]
      refine rd_r r2 rfl ev_c (by decide) (by decide) fun v H3 v0 v1 r3 r3' => ⟨2, v, rfl, rfl, ms.map V.int, r3'.1 _ _ L1d m3, ?_, r3.mut L1H L1d, ms ++ [2 + v], ?_, ?_, ?_⟩
      · rw [List.length_map, m1]
        exact sz_lt (by omega)
      · rw [List.length_append, m1]
        rfl
      · intro m hm
        rcases List.mem_append.mp hm with hm | hm
        · exact m2 m hm
        · rw [List.mem_singleton.mp hm]
          omega
      · rw [upd_same, List.map_append]
        rfl
    obtain ⟨r2, ms, m1, m2, m3⟩ := hP
    -- cycle, week
    refine rd_r r2 rfl ev_c (by decide) (by decide) fun n1 H3 b0 b1 r3 s3 => ⟨1, n1, rfl, rfl, rd_r r3 rfl ev_c (by decide) (by decide) fun n2 H4 c0 c1 r4 s4 => ⟨1, n2, rfl, rfl, _, _, rfl, ?_⟩⟩
    have m4 := s4.1 _ _ L1d (s3.1 _ _ L1d m3)
    -- years
    refine ⟨_, rfl, 1 + n1, rfl, by omega, by omega, fun L2 hL2 => ?_⟩
    have L2H := r4.back hL2
    have L2d := r4.ne hL2
    have L12 : L1 ≠ L2 := fun z => by rw [z, hL2] at m4; cases m4
    refine lc_range (lo := 0) (n := (1 + n1).toNat) (fun i H' => Rel d H H' ∧ H' L1 = some (.lst (ms.map V.int)) ∧ ∃ ys : List Int, ys.length ≤ i ∧ (∀ y ∈ ys, 0 ≤ y ∧ y < (i : Int)) ∧ ys.Pairwise (· < ·) ∧ H' L2 = some (.lst (ys.map V.int))) ⟨r4.mut L2H L2d, (by rw [upd_ne L12]; exact m4), [], Nat.le_refl _, fun y hy => (by cases hy), List.Pairwise.nil, upd_same⟩ (fun i H' hi hP => ?_) (fun H5 hP => ?_)
    · obtain ⟨r5, m5, ys, y1, y2, y3, y4⟩ := hP
      refine ⟨rfl, ?_⟩
      refine rd_r r5 rfl ev_c (by decide) (by decide) fun v H6 v0 v1 r6 s6 => ⟨rfl, decide (V.int v = V.int 0), rfl, ?_⟩
      have m6 := s6.1 _ _ L1d m5
      have y6 := s6.1 _ _ L2d y4
      cases hv : decide (V.int v = V.int 0) with
      | true =>
        simp only [↓reduceIte]
        refine ⟨_, rfl, ys.map V.int, y6, sz_lt (by rw [List.length_map]; omega), r6.mut L2H L2d, (by rw [upd_ne L12]; exact m6), ys ++ [(0 : Int) + (i : Int)], ?_, ?_, ?_, ?_⟩
        · rw [List.length_append]
          show _ + 1 ≤ _
          omega
        · intro y hy
          rcases List.mem_append.mp hy with hy | hy
          · have := y2 y hy
            omega
          · rw [List.mem_singleton.mp hy]
            omega
        · rw [List.pairwise_append]
          refine ⟨y3, List.pairwise_singleton _ _, fun a ha b hb => ?_⟩
          rw [List.mem_singleton.mp hb]
          have := y2 a ha
          omega
        · rw [upd_same, List.map_append]
          rfl
      | false =>
        simp only [Bool.false_eq_true, ↓reduceIte]
        exact ⟨r6, m6, ys, by omega, fun y hy => by have := y2 y hy; omega, y3, y6⟩
    obtain ⟨r5, m5, ys, y1, y2, y3, y4⟩ := hP
    have hl : (ms.map V.int).length = (1 + n0).toNat := by rw [List.length_map, m1]
    refine ⟨_, rfl, rd_r r5 rfl (ev_lenL (ev_var rfl) (SqL.of m5)) (by rw [hl]; omega) (by rw [hl]; omega) fun lm H6 l0 l1 r6 s6 => ⟨_, rfl, _, rfl, _, rfl, rd_r r6 rfl (m := 1 + n2) (ev_var rfl) (by omega) (by omega) fun fw H7 f0 f1 r7 s7 => ?_⟩⟩
    intro x dx nx nd ne
    have m7 := s7.1 _ _ L1d (s6.1 _ _ L1d m5)
    have y7 := s7.1 _ _ L2d (s6.1 _ _ L2d y4)
    have hx := r7.back nx
    have hdx := r7.back nd
    have xd := r7.ne nx
    have rm : Rel d H (upd (upd H7 dx (.own x)) x (.ins C dx [])) := (r7.mut hdx (r7.ne nd)).mut hx xd
    have stay : ∀ (b : Addr) (l : List V), H7 b = some (.lst l) → upd (upd H7 dx (.own x)) x (.ins C dx []) b = some (.lst l) := fun b l e => by
      rw [upd_ne (fun z => by rw [z, nx] at e; cases e), upd_ne (fun z => by rw [z, nd] at e; cases e)]
      exact e
    rw [hl] at l1
    have ok : (⟨ms, lm, 1 + n1, ys, 1 + n2, fw⟩ : Ca).Ok := ⟨fun z => by
        have z : ms = [] := z
        rw [z] at m1
        simp at m1
        omega, fun m hm => by have := m2 m hm; omega, l0, by
        show lm < (ms.length : Int)
        rw [m1]
        omega, by show (1 : Int) ≤ 1 + n1; omega, fun y hy => by
        have := y2 y hy
        show 0 ≤ y ∧ y < 1 + n1
        omega, by show (1 : Int) ≤ 1 + n2; omega, f0, f1⟩
    have ty : Tiny ⟨ms, lm, 1 + n1, ys, 1 + n2, fw⟩ := ⟨by show ms.length ≤ 3; omega, m2, by show 1 + n1 ≤ 3; omega, by show 1 + n2 ≤ 4; omega, y3⟩
    refine ⟨x, dx, L1, L2, ⟨ms, lm, 1 + n1, ys, 1 + n2, fw⟩, rfl, upd_same, .inl (SqL.of (stay _ _ m7)), .inl (SqL.of (stay _ _ y7)), ?_, ty.small ok, fun H' hC eB => ⟨rfl, ?_⟩⟩
    · show ys.length < 40000
      omega
    · refine q x _ H' ok ty ?_ hx ⟨fun b o hb e => eB b o (fun z => by rw [z, hx] at e; cases e) (rm.1 b o hb e), ?_⟩
      · obtain ⟨dx2, tm, ty2, dl, ts, kvs, st, h1, h2, h3, h4, h5, h6, h7, h8, h9⟩ := hC
        refine ⟨dx2, tm, ty2, dl, ts, kvs, st, h1, h2, h3, h4, h5, h6, h7, fun b o hb e => ?_, h9⟩
        by_cases bd : b = d
        · obtain ⟨a', b', c', g⟩ := rm.2
          exact h8 b _ hb (by rw [bd]; exact g)
        · exact h8 b o hb (rm.1 b o bd e)
      · obtain ⟨a', b', c', g⟩ := rm.2
        exact ⟨a', b', c', eB _ _ (Ne.symm xd) g⟩
end
end Rw
namespace Rw
open PySem PySem.Spec PyProof.Rows L2 Evl Cy
local macro_rules | `(tactic| walk_at "sq") => `(tactic| first | assumption | exact SqL.of (by assumption) | exact SqT.of (by assumption))
local macro_rules | `(tactic| walk_at "at") => `(tactic| first | exact atI_nat (j := 0) rfl | exact atI_nat (j := 1) rfl | exact atI_nat (j := 2) rfl | exact atI_nat (j := 3) rfl)
local macro_rules | `(tactic| walk_at "rv") => `(tactic| first
  | with_reducible exact rv_I0
  | ((with_reducible refine' rv_I ?k1); (case k1 => first | (show (0 : Int) < _; omega) | exact ⟨by omega, by omega⟩ | exact .inr ⟨by omega, by omega⟩ | exact .inl ⟨by omega, by omega⟩ | exact ⟨by decide, by decide, by decide⟩))
  | ((with_reducible refine' rv_eq ?k1); (case k1 => exact rfl))
  | ((with_reducible refine' rv_ne ?k1); (case k1 => exact rfl))
  | (refine' rv_ixL ?k1 ?k2; (case k1 => walk_at "sq"); (case k2 => walk_at "at"))
  | (refine' rv_ixT ?k1 ?k2; (case k1 => walk_at "sq"); (case k2 => walk_at "at")))
local macro_rules | `(tactic| walk_at "rc") => `(tactic| first | exact rc_int1 | exact rc_int1b | exact rc_abs)
local macro_rules | `(tactic| walk_at "ea") => `(tactic| first
  | with_reducible exact ea_nil
  | ((with_reducible refine' ea_cons ?k1 ?k2); (case k1 => walk_at "ev"); (case k2 => walk_at "ea")))
local macro_rules | `(tactic| walk_at "ev") => `(tactic| first
  | with_reducible exact ev_c
  | ((with_reducible refine' ev_var ?k1); (case k1 => exact rfl))
  | ((with_reducible refine' ev_op ?k1 ?k2 ?k3); (case k1 => walk_at "ev"); (case k2 => walk_at "ev"); (case k3 => walk_at "rv"))
  | ((with_reducible refine' et_chain ?k1 ?k2 ?k3 ?k4 ?k5); (case k1 => walk_at "ev"); (case k2 => walk_at "ev"); (case k3 => (intro _; walk_at "ev")); (case k4 => walk_at "rv"); (case k5 => (intro _; walk_at "rv")))
  | ((with_reducible refine' ev_cb ?k1 ?k2); (case k1 => walk_at "ea"); (case k2 => walk_at "rc")))
local macro_rules | `(tactic| walk_at "et") => `(tactic| first
  | ((with_reducible refine' et_test ?k1); (case k1 => walk_at "ev"))
  | ((with_reducible refine' et_B ?k1); (case k1 => walk_at "ev"))
  | ((with_reducible refine' et_and ?k1 ?k2); (case k1 => walk_at "et"); (case k2 => (intro _; walk_at "et")))
  | ((with_reducible refine' et_or ?k1 ?k2); (case k1 => walk_at "et"); (case k2 => (intro _; walk_at "et")))
  | ((with_reducible refine' et_not ?k1); (case k1 => walk_at "et")))
local macro_rules | `(tactic| walk_at "ff") => `(tactic| first | exact rfl | assumption)
local macro_rules | `(tactic| walk_at "ev") => `(tactic| first
  | with_reducible exact ev_c
  | ((with_reducible refine' ev_var ?k1); (case k1 => exact rfl))
  | ((with_reducible refine' ev_op ?k1 ?k2 ?k3); (case k1 => walk_at "ev"); (case k2 => walk_at "ev"); (case k3 => walk_at "rv"))
  | ((with_reducible refine' et_chain ?k1 ?k2 ?k3 ?k4 ?k5); (case k1 => walk_at "ev"); (case k2 => walk_at "ev"); (case k3 => (intro _; walk_at "ev")); (case k4 => walk_at "rv"); (case k5 => (intro _; walk_at "rv")))
  | ((with_reducible refine' ev_cb ?k1 ?k2); (case k1 => walk_at "ea"); (case k2 => walk_at "rc"))
  | ((with_reducible refine' ev_F ?k1 ?k2); (case k1 => walk_at "ea"); (case k2 => walk_at "ff"))
  | ((with_reducible refine' ev_two ?k1 ?k2 ?k3); (case k1 => walk_at "ev"); (case k2 => omega); (case k3 => omega)))
abbrev s_rows : Stmt := topS 29
def rowN : List Str := ["calendar", "first", "last", "found", "number", "year", "sizes", "whole_now", "place", "month", "day", "weekday", "k", "size"]
theorem sc_rows : FnScope rowN ["calendar", "first", "last"] (defScope s_rows) := ⟨rfl, rfl, rfl, by decide +kernel, rfl, by decide +kernel, by decide +kernel⟩
/-- what the law tells of the day n, the d-th of the month m of the year y -/
def rowV (c : Ca) (n y : Int) (m : Nat) (d : Int) : List V := [.int n, .int y, .int (m : Int), .int d, .int (c.md y m - 1 - d), .int (n - c.firstOf y), .int (c.yearDays y - 1 - (n - c.firstOf y)), .int (c.weekday n)]
/-- the rows at ts are those of the days from n on -/
def RowsAt (c : Ca) (H : Hp) (n : Int) (ts : List Addr) : Prop := ∀ (i : Nat) (t : Addr), ts[i]? = some t → ∃ y m d, c.At (n + i) y m d ∧ H t = some (.tup (rowV c (n + i) y m d))
theorem RowsAt.ex {c : Ca} {H H' : Hp} {n : Int} {ts : List Addr} (r : RowsAt c H n ts) (e : Ex H H') : RowsAt c H' n ts := fun i t h => let ⟨y, m, d, a, b⟩ := r i t h; ⟨y, m, d, a, e _ _ b⟩
theorem RowsAt.mut {c : Ca} {H : Hp} {n : Int} {ts : List Addr} {p : Addr} {l : List V} {o : HO} (r : RowsAt c H n ts) (hp : H p = some (.lst l)) : RowsAt c (upd H p o) n ts := fun i t h => by
  obtain ⟨y, m, d, a, b⟩ := r i t h
  exact ⟨y, m, d, a, by rw [upd_ne (fun z => by rw [z, hp] at b; cases b)]; exact b⟩
theorem RowsAt.app {c : Ca} {H : Hp} {n y d : Int} {m : Nat} {ts : List Addr} {t : Addr} (r : RowsAt c H n ts) (a : c.At (n + ts.length) y m d) (h : H t = some (.tup (rowV c (n + ts.length) y m d))) : RowsAt c H n (ts ++ [t]) := fun i u e => by
  rcases Nat.lt_or_ge i ts.length with q | q
  · rw [List.getElem?_append_left q] at e
    exact r i u e
  · rw [List.getElem?_append_right q] at e
    have z : i - ts.length = 0 := by
      rcases Nat.eq_zero_or_pos (i - ts.length) with y | y
      · exact y
      · rw [List.getElem?_eq_none (by show 1 ≤ _; exact y)] at e
        cases e
    have ei : i = ts.length := by omega
    subst ei
    rw [Nat.sub_self] at e
    obtain rfl : t = u := Option.some.inj e
    exact ⟨y, m, d, a, h⟩
theorem q_par {σ : L2.St} {H : Hp} {ta : TA} {i j : Nat} {x y : V} {D : Ends} {tz : TS} (h : EvA ta σ H [x, y]) (k : ∀ H1, Ex H H1 → tz D ((σ.set i (some x)).set j (some y)) H1) : tSeq (tPar i j ta) tz D σ H := h H (Ex.refl H) _ fun H1 e => ⟨x, y, rfl, k H1 e⟩
theorem s_par {σ : L2.St} {H : Hp} {ta : TA} {i j : Nat} {x y : V} {D : Ends} (h : EvA ta σ H [x, y]) (k : ∀ H1, Ex H H1 → D.nx ((σ.set i (some x)).set j (some y)) H1) : tPar i j ta D σ H := h H (Ex.refl H) _ fun H1 e => ⟨x, y, rfl, k H1 e⟩
theorem sizes_getD (c : Ca) (y : Int) {m : Nat} (h : m < c.months.length) : ((List.range c.months.length).map fun m => c.md y m).getD m 0 = c.md y m := by
  rw [List.getD_eq_getElem?_getD, List.getElem?_map, List.getElem?_range h]
  rfl
theorem sizes_sum (c : Ca) (y : Int) : ∀ n : Nat, ((List.range n).map fun m => c.md y m).sum = c.ahead y n
  | 0 => rfl
  | n + 1 => by
    rw [List.range_succ, List.map_append, List.sum_append, sizes_sum c y n]
    show _ = c.ahead y n + c.md y n
    simp
theorem first_le2 {c : Ca} (k : c.Ok) {y z : Int} (h : y ≤ z) : c.firstOf y ≤ c.firstOf z := by
  rcases Int.lt_or_eq_of_le h with e | e
  · exact Int.le_of_lt (Ca.first_lt k e)
  · rw [e]; exact Int.le_refl _
section
variable {P : Program} {w : World} {K : PySem.W.Frag} {mg : Str → Option Value} {base : Heap} {C : Addr} {cl : Nat → Addr}
def spRows (K : PySem.W.Frag) (C : Addr) : Sp := fun vs H Q _ => ∃ (a : Addr) (c : Ca) (f l : Nat), vs = [.ref a, .int (f : Int), .int (l : Int)] ∧ CalP K C H a c ∧ Small c ∧ f ≤ l ∧ l ≤ 1000 ∧ c.firstOf l < 50000 ∧
  ∀ p ts H', H p = none → Ex H H' → H' p = some (.lst (ts.map V.ref)) → (ts.length : Int) = c.firstOf l - c.firstOf f → RowsAt c H' (c.firstOf f) ts → Q (.ref p) H'
theorem ok_rows {f : Addr} {fd : FuncData} (F : Fun K "_law_rows" "_law_rows" s_rows f fd) (T : CalT K C) (nl : mg "len" = none) (nr : mg "range" = none) (ni : mg "int" = none) (ns : mg "sum" = none) (ne : mg "enumerate" = none) :
    FnOk P w K mg base (L2.CX P w) 5 f fd ["calendar", "first", "last"] (spRows K C) := by
  refine F.okX sc_rows (fun vs H Q E h => ?_) (fun cdv A outer s H vs Q E hr h => ?_)
  · obtain ⟨a, c, f, l, rfl, _⟩ := h
    rfl
  · obtain ⟨a, c, fi, la, rfl, hc, hs, hfl, hl, hn, q⟩ := h
    refine ⟨_, pss_cons (ps_par (i := 3) (j := 4) rfl sc_rows.nd rfl rfl (by decide) rfl rfl (pa_cons (pe_lst pa_nil) (pa_cons pe_int pa_nil)) rfl) (pss_cons (ps_for (passes_of rfl) rfl (pi_range2 rfl nr (pa_cons pe_int (pa_cons (pv 1) pa_nil))) (pg_name (i := 5) sc_rows.nd rfl (.inr rfl)) (pss_one (ps_set (i := 4) sc_rows.nd rfl (.inl rfl) (pe_op op_add (pe_op op_add (pv 4) (pe_callB (cr_sumT rfl) (by rfl) ns (by decide +kernel) (pa_cons (pe_fld (pv 0) rfl) pa_nil))) (pe_callTy call_int1 (by rfl) ni (by decide +kernel) (pa_cons (pe_cmpR op_in_seq (pe_op op_mod (pv 5) (pe_fld (pv 0) rfl)) (pe_fld (pv 0) rfl) (by rfl)) pa_nil)))))) (pss_cons (ps_for (passes_of rfl) rfl (pi_range2 rfl nr (pa_cons (pv 1) (pa_cons (pv 2) pa_nil))) (pg_name (i := 5) sc_rows.nd rfl (.inr rfl)) (pss_cons (ps_setLc (own := [("k", 12), ("size", 13)]) (i := 6) (g := gTup K 2 (gCons (gName 12) (gCons (gName 13) gNil))) (tt := tYes) rfl sc_rows.nd rfl rfl (sw_true rfl rfl rfl (by decide +kernel)) (pi_enumT ne (pa_cons (pe_fld (pv 0) rfl) pa_nil)) (blkOk_by (own := [("k", 12), ("size", 13)]) (N := rowN) (sc := defScope s_rows) (by decide +kernel)) (fun _ _ _ _ _ => pg_tup rfl (pgs_cons (pg_name (i := 12) sc_rows.nd rfl (Or.inl rfl)) (pgs_cons (pg_name (i := 13) sc_rows.nd rfl (Or.inl rfl)) pgs_nil))) (fun _ _ _ _ _ => pts_nil) (fun _ _ _ _ _ => (pe_op op_add (pv 13) (pe_callTy call_int1 (by rfl) ni (by decide +kernel) (pa_cons (pe_and (pe_cmpR op_eq (pv 12) (pe_fldK (K := K) (pv 0) rfl) (nomark _)) (pe_one (pe_cmpR (op_inK (K := K)) (pe_op op_mod (pv 5) (pe_fldK (K := K) (pv 0) rfl)) (pe_fldK (K := K) (pv 0) rfl) (by rfl)))) pa_nil))))) (pss_cons (ps_par (i := 7) (j := 8) rfl sc_rows.nd rfl rfl (by decide) rfl rfl (pa_cons (pe_callB (cr_sum rfl) (by rfl) ns (by decide +kernel) (pa_cons (pv 6) pa_nil)) (pa_cons pe_int pa_nil)) rfl) (pss_one (ps_for (passes_of rfl) rfl (pi_range1 rfl nr (pa_cons (pe_callB call_len_seq (by rfl) nl (by decide +kernel) (pa_cons (pv 6) pa_nil)) pa_nil)) (pg_name (i := 9) sc_rows.nd rfl (.inl rfl)) (pss_one (ps_for (passes_of rfl) rfl (pi_range1 rfl nr (pa_cons (pe_ix ix_list (pv 6) (pv 9) (fun _ _ => rfl)) pa_nil)) (pg_name (i := 10) sc_rows.nd rfl (.inl rfl)) (pss_cons (ps_set (i := 11) sc_rows.nd rfl (.inl rfl) (pe_op op_mod (pe_op op_add (pv 4) (pe_fld (pv 0) rfl)) (pe_fld (pv 0) rfl))) (pss_cons (ps_expr (pe_bm PySem.F.plainAttrs_list PySem.F.slot_list_append PySem.F.type_list_append mt_append (pv 3) (pa_cons (pe_tup (pa_cons (pv 4) (pa_cons (pv 5) (pa_cons (pv 9) (pa_cons (pv 10) (pa_cons (pe_op op_sub (pe_op op_sub (pe_ix ix_list (pv 6) (pv 9) (fun _ _ => rfl)) pe_int) (pv 10)) (pa_cons (pv 8) (pa_cons (pe_op op_sub (pe_op op_sub (pv 7) pe_int) (pv 8)) (pa_cons (pv 11) pa_nil))))))))) pa_nil))) (pss_one (ps_par (i := 4) (j := 8) rfl sc_rows.nd rfl rfl (by decide) rfl rfl (pa_cons (pe_op op_add (pv 4) pe_int) (pa_cons (pe_op op_add (pv 8) pe_int) pa_nil)) rfl))))))))))) (pss_one (ps_ret (pv 3))))), ?_⟩
    have k := hs.ok
    obtain ⟨dx, tm, ty, dl, ts0, kvs, st, h1, h2, h3, h4, h5, h6, h7⟩ := hc
    have hcy := k.cy
    have hlen := hs.len
    have F0 : c.firstOf 0 = 0 := Ca.first_zero k
    refine ⟨by decide, fun p hp => ⟨_, _, rfl, ?_⟩⟩
    have eP : Ex H (upd H p (.lst [])) := Ex.new hp
    have hP0 : upd H p (.lst []) p = some (.lst []) := upd_same
    generalize upd H p (.lst []) = G0 at eP hP0
    -- days of the years ahead
    refine q_forR2 (lo := 0) (n := (fi : Int)) (ea_cons ev_c (ea_cons (ev_var rfl) ea_nil)) ⟨by decide, by decide, by omega, by omega⟩
      (fun i σ' H' => ∃ l5, σ' = [some (.ref a), some (.int (fi : Int)), some (.int (la : Int)), some (.ref p), some (.int (c.firstOf (i : Int))), l5, none, none, none, none, none, none, none, none] ∧ Ex H H' ∧ H' p = some (.lst []))
      (fun H1 e1 => ⟨none, by rw [show ((0 : Nat) : Int) = 0 from rfl, F0]; rfl, eP.trans e1, e1 _ _ hP0⟩) (fun i σ' H' hi hW => ?_) (fun σ' H' hW => ?_)
    · obtain ⟨l5, rfl, eH, hp'⟩ := hW
      refine s_asg (v := .int (c.firstOf ((i + 1 : Nat) : Int))) (ev_is (ev_op (x := .int (c.firstOf (i : Int) + c.plain)) (y := .int (if inV (.int (((0 : Int) + (i : Int)) % c.cycle)) (c.ly.map V.int) = true then 1 else 0)) (ev_op (ev_var rfl) (ev_sumT (ev_fld (ev_var rfl) (eH _ _ h1) T.cls T.months rfl) (ex_t eH h2)) rv_I0)
        (ev_cb (ea_cons (ev_op (ev_op (z := .int (((0 : Int) + (i : Int)) % c.cycle)) (ev_var rfl) (ev_fld (ev_var rfl) (eH _ _ h1) T.cls T.cycle rfl) (rv_I (by show (0 : Int) < _; omega))) (ev_fld (ev_var rfl) (eH _ _ h1) T.cls T.ly rfl) (rv_isT (ex_t eH h3) rfl (flat_ints _))) ea_nil) rc_int1b) rv_I0) ?_) fun H1 e1 => ?_
      · have s := Ca.first_succ k (i : Int)
        rw [inV_ints, show ((i + 1 : Nat) : Int) = (i : Int) + 1 by omega, s, Int.zero_add]
        unfold Ca.yearDays Ca.long
        refine congrArg V.int ?_
        by_cases z : (i : Int) % c.cycle ∈ c.ly
        · rw [decide_eq_true z, if_pos rfl, if_pos rfl]
          omega
        · rw [decide_eq_false z, if_neg Bool.false_ne_true, if_neg Bool.false_ne_true]
          omega
      · exact ⟨_, rfl, eH.trans e1, e1 _ _ hp'⟩
    obtain ⟨l5, rfl, eH, hp'⟩ := hW
    rw [show (((fi : Int) - 0).toNat : Nat) = fi by omega]
    -- the years
    refine q_forR2 (lo := (fi : Int)) (n := (la : Int)) (ea_cons (ev_var rfl) (ea_cons (ev_var rfl) ea_nil)) ⟨by omega, by omega, by omega, by omega⟩
      (fun i σ' H' => ∃ ts l5 l6 l7 l8 l9 l10 l11 l12 l13, σ' = [some (.ref a), some (.int (fi : Int)), some (.int (la : Int)), some (.ref p), some (.int (c.firstOf ((fi : Int) + (i : Int)))), l5, l6, l7, l8, l9, l10, l11, l12, l13] ∧ Ex H H' ∧ H' p = some (.lst (ts.map V.ref)) ∧ (ts.length : Int) = c.firstOf ((fi : Int) + (i : Int)) - c.firstOf fi ∧ RowsAt c H' (c.firstOf fi) ts)
      (fun H1 e1 => ⟨[], _, _, _, _, _, _, _, _, _, by rw [show (fi : Int) + ((0 : Nat) : Int) = (fi : Int) by omega], eH.trans e1, e1 _ _ hp', by rw [show (fi : Int) + ((0 : Nat) : Int) = (fi : Int) by omega]; simp, fun i t e => by simp at e⟩) (fun i σ' H' hi hW => ?_) (fun σ' H' hW => ?_)
    · obtain ⟨ts, l5', l6, l7, l8, l9, l10, l11, l12, l13, rfl, eH2, g1, g2, g3⟩ := hW
      obtain ⟨y, hy⟩ : ∃ y : Int, (fi : Int) + (i : Int) = y := ⟨_, rfl⟩
      have yla : y + 1 ≤ (la : Int) := by omega
      have fy1 := first_le2 k yla
      have f00 := first_le2 k (show (0 : Int) ≤ (fi : Int) by omega)
      have s := Ca.first_succ k y
      have hy2 : (fi : Int) + ((i + 1 : Nat) : Int) = y + 1 := by omega
      rw [hy] at g2
      rw [hy2]
      have hmi := eH2 _ _ h1
      -- the months' sizes
      refine q_asgL (xs := ((List.range c.months.length).map fun m => c.md y m).map V.int) (el_enT (ev_fld (ev_var rfl) hmi T.cls T.months rfl) (ex_t eH2 h2) (by rw [List.length_map]; omega) (fun x y => rfl) (by rw [List.length_map, List.length_map, List.length_map, List.length_range]) fun n x z HH ee hx hz => ?_) fun sz H3 hsz e3 h3' => ?_
      · rw [List.getElem?_map] at hx
        rw [List.getElem?_map] at hz
        cases en : c.months[n]? with
        | none =>
          rw [en] at hx
          cases hx
        | some mn =>
          have hnl : n < c.months.length := (List.getElem?_eq_some_iff.mp en).1
          rw [en] at hx
          rw [List.getElem?_map, List.getElem?_range hnl] at hz
          obtain rfl : V.int mn = x := Option.some.inj hx
          obtain rfl : V.int (c.md y n) = z := Option.some.inj hz
          refine ev_is (ev_op (x := .int mn) (y := .int (if (decide (V.int (n : Int) = V.int c.lm) && inV (.int (((fi : Int) + (i : Int)) % c.cycle)) (c.ly.map V.int)) = true then 1 else 0)) (ev_var rfl) (ev_cb (ea_cons (ev_andV (ev_op (ev_var rfl) (ev_fld (ev_var rfl) (ee _ _ hmi) T.cls T.lm rfl) (rv_eq rfl))
            (fun _ => ev_op (ev_op (z := .int (((fi : Int) + (i : Int)) % c.cycle)) (ev_var rfl) (ev_fld (ev_var rfl) (ee _ _ hmi) T.cls T.cycle rfl) (rv_I (by show (0 : Int) < _; omega))) (ev_fld (ev_var rfl) (ee _ _ hmi) T.cls T.ly rfl) (rv_isT (ex_t ee (ex_t eH2 h3)) rfl (flat_ints _)))) ea_nil) rc_int1b) rv_I0) ?_
          rw [inV_ints, hy]
          unfold Ca.md Ca.long
          rw [show c.months.getD n 0 = mn by rw [List.getD_eq_getElem?_getD, en]; rfl]
          refine congrArg V.int ?_
          by_cases z1 : (n : Int) = c.lm
          · rw [decide_eq_true (show V.int (n : Int) = V.int c.lm by rw [z1]), Bool.true_and]
            by_cases z2 : y % c.cycle ∈ c.ly
            · rw [decide_eq_true z2, if_pos rfl, if_pos ⟨z1, rfl⟩]
            · rw [decide_eq_false z2, if_neg Bool.false_ne_true, if_neg (fun z => by cases z.2)]
              omega
          · rw [decide_eq_false (show ¬ V.int (n : Int) = V.int c.lm from fun z => z1 (by injection z)), Bool.false_and, if_neg Bool.false_ne_true, if_neg (fun z => z1 z.1)]
            omega
      have psz : p ≠ sz := fun z => by rw [← z, g1] at hsz; cases hsz
      have g1' := e3 _ _ g1
      have eH3 := eH2.trans e3
      have aheadN : c.ahead y c.months.length = c.yearDays y := Ca.ahead_all k y
      refine q_par (x := .int (c.yearDays y)) (y := .int 0) (ea_cons (ev_is (ev_sumL (ev_var rfl) (SqL.of h3')) (by rw [sizes_sum, aheadN])) (ea_cons ev_c ea_nil)) fun H4 e4 => ?_
      have hn1 : (((List.range c.months.length).map fun m => c.md y m).map V.int).length = c.months.length := by rw [List.length_map, List.length_map, List.length_range]
      refine s_forR1 (n := (c.months.length : Int)) (ea_cons (ev_is (ev_lenL (ev_var rfl) (ex_l e4 (SqL.of h3'))) (by rw [hn1])) ea_nil) ⟨by omega, by omega⟩
        (fun m σ' G => ∃ ts l9 l10 l11 l12 l13, σ' = [some (.ref a), some (.int (fi : Int)), some (.int (la : Int)), some (.ref p), some (.int (c.firstOf y + c.ahead y m)), some (.int ((fi : Int) + (i : Int))), some (.ref sz), some (.int (c.yearDays y)), some (.int (c.ahead y m)), l9, l10, l11, l12, l13] ∧ Ex H G ∧
          G sz = some (.lst (((List.range c.months.length).map fun m => c.md y m).map V.int)) ∧ G p = some (.lst (ts.map V.ref)) ∧ (ts.length : Int) = c.firstOf y + c.ahead y m - c.firstOf fi ∧ RowsAt c G (c.firstOf fi) ts)
        (fun H5 e5 => ⟨ts, _, _, _, _, _, (by
          have e0 : c.ahead y 0 = 0 := rfl
          rw [e0, Int.add_zero, hy]
          rfl), (eH3.trans e4).trans e5, e5 _ _ (e4 _ _ h3'), e5 _ _ (e4 _ _ g1'), (by
          have e0 : c.ahead y 0 = 0 := rfl
          rw [e0, Int.add_zero]
          exact g2), ((g3.ex e3).ex e4).ex e5⟩) (fun m σ' G hm hW => ?_) (fun σ' G hW => ?_)
      · obtain ⟨ts', l9', l10', l11', l12', l13', rfl, q1, q2, q3, q4, q5⟩ := hW
        have hml : m < c.months.length := by omega
        have mdp := Ca.md_pos k y hml
        have a0 : 0 ≤ c.ahead y m := by
          rcases Nat.eq_zero_or_pos m with z | z
          · rw [z]; exact Int.le_refl _
          · have := Ca.ahead_mono k y z (Nat.le_of_lt hml)
            have e0 : c.ahead y 0 = 0 := rfl
            omega
        have a1 : c.ahead y (m + 1) ≤ c.yearDays y := by
          rw [← aheadN]
          rcases Nat.lt_or_eq_of_le (show m + 1 ≤ c.months.length from hml) with z | z
          · exact Int.le_of_lt (Ca.ahead_mono k y z (Nat.le_refl _))
          · rw [z]; exact Int.le_refl _
        have a2 : c.ahead y (m + 1) = c.ahead y m + c.md y m := rfl
        have fy0 := first_le2 k (show (0 : Int) ≤ y by omega)
        have hat : ∀ j : Nat, j < c.months.length → atI (((List.range c.months.length).map fun m => c.md y m).map V.int) (j : Int) = some (.int (c.md y j)) := fun j hj => by
          have g := at_map (ns := (List.range c.months.length).map fun m => c.md y m) (i := j) (by rw [List.length_map, List.length_range]; exact hj)
          rw [sizes_getD c y hj] at g
          exact g
        refine s_forR1 (n := c.md y m) (ea_cons (ev_op (ev_var rfl) (ev_var rfl) (rv_ixL (SqL.of q2) (hat m hml))) ea_nil) ⟨by omega, by omega⟩
          (fun d σ' G => ∃ ts l10 l11 l12 l13, σ' = [some (.ref a), some (.int (fi : Int)), some (.int (la : Int)), some (.ref p), some (.int (c.firstOf y + c.ahead y m + (d : Int))), some (.int ((fi : Int) + (i : Int))), some (.ref sz), some (.int (c.yearDays y)), some (.int (c.ahead y m + (d : Int))), some (.int (m : Int)), l10, l11, l12, l13] ∧ Ex H G ∧
            G sz = some (.lst (((List.range c.months.length).map fun m => c.md y m).map V.int)) ∧ G p = some (.lst (ts.map V.ref)) ∧ (ts.length : Int) = c.firstOf y + c.ahead y m + (d : Int) - c.firstOf fi ∧ RowsAt c G (c.firstOf fi) ts)
          (fun H5 e5 => ⟨ts', _, _, _, _, (by rw [show ((0 : Nat) : Int) = 0 from rfl, Int.add_zero, Int.add_zero]; rfl), q1.trans e5, e5 _ _ q2, e5 _ _ q3, (by rw [show ((0 : Nat) : Int) = 0 from rfl, Int.add_zero]; exact q4), q5.ex e5⟩) (fun d σ' G hd hW => ?_) (fun σ' G hW => ?_)
        · obtain ⟨ts2, l10, l11, l12, l13, rfl, r1, r2, r3, r4, r5⟩ := hW
          have hat2 : c.At (c.firstOf y + c.ahead y m + (d : Int)) y m (d : Int) := ⟨hml, by omega, hd, rfl⟩
          have hwk := k.wk
          refine q_asg (v := .int (c.weekday (c.firstOf y + c.ahead y m + (d : Int)))) (ev_op (x := .int (c.firstOf y + c.ahead y m + (d : Int) + c.fw)) (ev_op (ev_var rfl) (ev_fld (ev_var rfl) (r1 _ _ h1) T.cls T.fw rfl) rv_I0) (ev_fld (ev_var rfl) (r1 _ _ h1) T.cls T.week rfl) (rv_I (by show (0 : Int) < _; omega))) fun H6 e6 => ?_
          have hl2 : (ts2.map V.ref).length < 100000 := by rw [List.length_map]; omega
          refine q_appU (ys := rowV c (c.firstOf y + c.ahead y m + (d : Int)) y m (d : Int)) (e6 _ _ r3) (ev_var rfl) (eu_tup (ea_cons (ev_var rfl) (ea_cons (ev_is (v := .int ((fi : Int) + (i : Int))) (ev_var rfl) (by rw [hy])) (ea_cons (ev_var rfl) (ea_cons (ev_var rfl)
            (ea_cons (ev_op (x := .int (c.md y m - 1)) (ev_op (x := .int (c.md y m)) (ev_op (ev_var rfl) (ev_var rfl) (rv_ixL (SqL.of (e6 _ _ r2)) (hat m hml))) ev_c rv_I0) (ev_var rfl) rv_I0) (ea_cons (ev_is (v := .int (c.ahead y m + (d : Int))) (ev_var rfl) (congrArg V.int (by omega)))
            (ea_cons (ev_is (v := .int (c.yearDays y - 1 - (c.ahead y m + (d : Int)))) (ev_op (x := .int (c.yearDays y - 1)) (ev_op (ev_var rfl) ev_c rv_I0) (ev_var rfl) rv_I0) (congrArg V.int (by omega))) (ea_cons (ev_var rfl) ea_nil)))))))) (by show 8 ≤ 100000; decide)) hl2 fun t H7 ht e7 h7t => ?_
          have tp : t ≠ p := fun z => by
            have g := e6 _ _ r3
            rw [← z, ht] at g
            cases g
          have hp7 := e7 _ _ (e6 _ _ r3)
          have eH7 : Ex H (upd H7 p (.lst (ts2.map V.ref ++ [.ref t]))) := Ex.mut ((r1.trans e6).trans e7) hp
          have num : c.firstOf fi + (ts2.length : Int) = c.firstOf y + c.ahead y m + (d : Int) := by omega
          have ra : RowsAt c H7 (c.firstOf fi) (ts2 ++ [t]) := ((r5.ex e6).ex e7).app (y := y) (m := m) (d := (d : Int)) (by rw [num]; exact hat2) (by rw [num]; exact h7t)
          refine s_par (x := .int (c.firstOf y + c.ahead y m + ((d + 1 : Nat) : Int))) (y := .int (c.ahead y m + ((d + 1 : Nat) : Int))) (ea_cons (ev_is (v := .int (c.firstOf y + c.ahead y m + (d : Int) + 1)) (ev_op (ev_var rfl) ev_c rv_I0) (congrArg V.int (by omega))) (ea_cons (ev_is (v := .int (c.ahead y m + (d : Int) + 1)) (ev_op (ev_var rfl) ev_c rv_I0) (congrArg V.int (by omega))) ea_nil)) fun H8 e8 => ?_
          refine ⟨ts2 ++ [t], _, _, _, _, rfl, eH7.trans e8, e8 _ _ (by rw [upd_ne (Ne.symm psz)]; exact e7 _ _ (e6 _ _ r2)), e8 _ _ (by rw [upd_same, List.map_append]; rfl), ?_, (ra.mut hp7).ex e8⟩
          rw [List.length_append]
          show ((ts2.length + 1 : Nat) : Int) = _
          omega
        · obtain ⟨ts2, l10, l11, l12, l13, rfl, r1, r2, r3, r4, r5⟩ := hW
          have ez : ((c.md y m).toNat : Int) = c.md y m := Int.toNat_of_nonneg (by omega)
          rw [ez, Int.add_assoc, ← a2] at r4
          rw [ez, Int.add_assoc, ← a2]
          exact ⟨ts2, _, _, _, _, _, rfl, r1, r2, r3, r4, r5⟩
      · obtain ⟨ts', l9', l10', l11', l12', l13', rfl, q1, q2, q3, q4, q5⟩ := hW
        have en : c.firstOf (y + 1) = c.firstOf y + c.ahead y ((c.months.length : Int)).toNat := by rw [Int.toNat_natCast, aheadN, s]
        rw [en]
        exact ⟨ts', _, _, _, _, _, _, _, _, _, rfl, q1, q3, q4, q5⟩
    · obtain ⟨ts, l5', l6, l7, l8, l9, l10, l11, l12, l13, rfl, eH2, g1, g2, g3⟩ := hW
      have eL : (fi : Int) + ((((la : Int) - (fi : Int)).toNat : Nat) : Int) = (la : Int) := by omega
      rw [eL] at g2
      exact s_ret (v := .ref p) (ev_var rfl) fun H5 e5 => q p ts H5 hp (eH2.trans e5) (e5 _ _ g1) g2 (g3.ex e5)
end
end Rw
namespace Rw
open PySem PySem.Spec PyProof.Rows L2 Evl Cy
local macro_rules | `(tactic| walk_at "sq") => `(tactic| first | assumption | exact SqL.of (by assumption) | exact SqT.of (by assumption))
local macro_rules | `(tactic| walk_at "at") => `(tactic| first | exact atI_nat (j := 0) rfl | exact atI_nat (j := 1) rfl | exact atI_nat (j := 2) rfl | exact atI_nat (j := 3) rfl)
local macro_rules | `(tactic| walk_at "rv") => `(tactic| first
  | with_reducible exact rv_I0
  | ((with_reducible refine' rv_I ?k1); (case k1 => first | (show (0 : Int) < _; omega) | exact ⟨by omega, by omega⟩ | exact .inr ⟨by omega, by omega⟩ | exact .inl ⟨by omega, by omega⟩ | exact ⟨by decide, by decide, by decide⟩))
  | ((with_reducible refine' rv_eq ?k1); (case k1 => exact rfl))
  | ((with_reducible refine' rv_ne ?k1); (case k1 => exact rfl))
  | (refine' rv_ixL ?k1 ?k2; (case k1 => walk_at "sq"); (case k2 => walk_at "at"))
  | (refine' rv_ixT ?k1 ?k2; (case k1 => walk_at "sq"); (case k2 => walk_at "at")))
local macro_rules | `(tactic| walk_at "rc") => `(tactic| first | exact rc_int1 | exact rc_int1b | exact rc_abs)
local macro_rules | `(tactic| walk_at "ea") => `(tactic| first
  | with_reducible exact ea_nil
  | ((with_reducible refine' ea_cons ?k1 ?k2); (case k1 => walk_at "ev"); (case k2 => walk_at "ea")))
local macro_rules | `(tactic| walk_at "ev") => `(tactic| first
  | with_reducible exact ev_c
  | ((with_reducible refine' ev_var ?k1); (case k1 => exact rfl))
  | ((with_reducible refine' ev_op ?k1 ?k2 ?k3); (case k1 => walk_at "ev"); (case k2 => walk_at "ev"); (case k3 => walk_at "rv"))
  | ((with_reducible refine' et_chain ?k1 ?k2 ?k3 ?k4 ?k5); (case k1 => walk_at "ev"); (case k2 => walk_at "ev"); (case k3 => (intro _; walk_at "ev")); (case k4 => walk_at "rv"); (case k5 => (intro _; walk_at "rv")))
  | ((with_reducible refine' ev_cb ?k1 ?k2); (case k1 => walk_at "ea"); (case k2 => walk_at "rc")))
local macro_rules | `(tactic| walk_at "et") => `(tactic| first
  | ((with_reducible refine' et_test ?k1); (case k1 => walk_at "ev"))
  | ((with_reducible refine' et_B ?k1); (case k1 => walk_at "ev"))
  | ((with_reducible refine' et_and ?k1 ?k2); (case k1 => walk_at "et"); (case k2 => (intro _; walk_at "et")))
  | ((with_reducible refine' et_or ?k1 ?k2); (case k1 => walk_at "et"); (case k2 => (intro _; walk_at "et")))
  | ((with_reducible refine' et_not ?k1); (case k1 => walk_at "et")))
local macro_rules | `(tactic| walk_at "ff") => `(tactic| first | exact rfl | assumption)
local macro_rules | `(tactic| walk_at "ev") => `(tactic| first
  | with_reducible exact ev_c
  | ((with_reducible refine' ev_var ?k1); (case k1 => exact rfl))
  | ((with_reducible refine' ev_op ?k1 ?k2 ?k3); (case k1 => walk_at "ev"); (case k2 => walk_at "ev"); (case k3 => walk_at "rv"))
  | ((with_reducible refine' et_chain ?k1 ?k2 ?k3 ?k4 ?k5); (case k1 => walk_at "ev"); (case k2 => walk_at "ev"); (case k3 => (intro _; walk_at "ev")); (case k4 => walk_at "rv"); (case k5 => (intro _; walk_at "rv")))
  | ((with_reducible refine' ev_cb ?k1 ?k2); (case k1 => walk_at "ea"); (case k2 => walk_at "rc"))
  | ((with_reducible refine' ev_F ?k1 ?k2); (case k1 => walk_at "ea"); (case k2 => walk_at "ff"))
  | ((with_reducible refine' ev_two ?k1 ?k2 ?k3); (case k1 => walk_at "ev"); (case k2 => omega); (case k3 => omega)))
abbrev d_init : Stmt := inClass (topS 18) 0
theorem ds_init : FnScope ["self", "calendar", "number"] ["self", "calendar", "number"] (defScope d_init) := ⟨rfl, rfl, rfl, by decide +kernel, rfl, by decide +kernel, by decide +kernel⟩
def dayF (a : Addr) (c : Ca) (n : Int) : List (Str × V) := [("calendar", .ref a), ("number", .int n), ("year", .int (yearOf c n)), ("month", .int (dateM c n : Nat)), ("day", .int (dateD c n)), ("weekday", .int (c.weekday n)), ("year_day", .int (n - c.firstOf (yearOf c n)))]
structure DayT (K : PySem.W.Frag) (D : Addr) : Prop where
  cls : Cls K D
  cal : NoAttr K D "calendar"
  num : NoAttr K D "number"
  year : NoAttr K D "year"
  month : NoAttr K D "month"
  day : NoAttr K D "day"
  wd : NoAttr K D "weekday"
  yd : NoAttr K D "year_day"
theorem CalB.keep {b : Bool} {K : PySem.W.Frag} {C D : Addr} {H H' : Hp} {a x dx : Addr} {fs : List (Str × V)} {c : Ca} (h : CalB b K C H a c) (e : ExB x H H') (hx : H x = some (.ins D dx fs)) (ne : a ≠ x) : CalB b K C H' a c := by
  obtain ⟨dc, tm, ty, dl, ts, kvs, st, h1, h2, h3, h4, h5, h6, h7⟩ := h
  exact ⟨dc, tm, ty, dl, ts, kvs, st, e _ _ ne h1, sqT_b e hx h2, sqT_b e hx h3, e _ _ (fun z => by rw [z, hx] at h4; cases h4) h4, h5, sqL_b e hx h6, h7⟩
section
variable {P : Program} {w : World} {K : PySem.W.Frag} {mg : Str → Option Value} {base : Heap} {C D : Addr} {cl : Nat → Addr}
def spDay (K : PySem.W.Frag) (C D : Addr) : Sp := fun vs H Q _ => ∃ (x dx a : Addr) (n : Int) (c : Ca), vs = [.ref x, .ref a, .int n] ∧ H x = some (.ins D dx []) ∧ CalP K C H a c ∧ Small c ∧ ∀ H', H' x = some (.ins D dx (dayF a c n)) → ExB x H H' → Q .non H'
theorem dm_init {f : Addr} {fd : FuncData} (F : Fun K "__init__" "Day.__init__" d_init f fd) (T : DayT K D) (mD : Mt P w K mg base 3 C "date" (spM K C cl fDate) []) (mW : Mt P w K mg base 1 C "weekday_of" (spM K C cl fWeekday) []) (mF : Mt P w K mg base 2 C "first_of" (spM K C cl fFirstOf) []) :
    FnOk P w K mg base (L2.CX P w) 4 f fd ["self", "calendar", "number"] (spDay K C D) := by
  refine F.okX ds_init (fun vs H Q E h => ?_) (fun cdv A outer s H vs Q E hr h => ?_)
  · obtain ⟨x, dx, a, n, c, rfl, _⟩ := h
    rfl
  · obtain ⟨x, dx, a, n, c, rfl, hx, hc, hs, q⟩ := h
    refine ⟨_, pss_cons (ps_fld (pv 0) (pv 1) rfl) (pss_cons (ps_fld (pv 0) (pv 2) rfl) (pss_cons (ps_asg (pe_mk mD hr (by decide) passL (pv 1) (pa_cons (pv 2) pa_nil)) (pg_tup rfl (pgs_cons (pg_fldT (pv 0)) (pgs_cons (pg_fldT (pv 0)) (pgs_cons (pg_fldT (pv 0)) pgs_nil))))) (pss_cons (ps_fld (pv 0) (pe_mk mW hr (by decide) passL (pv 1) (pa_cons (pv 2) pa_nil)) rfl) (pss_one (ps_fld (pv 0) (pe_op op_sub (pv 2) (pe_mk mF hr (by decide) passL (pv 1) (pa_cons (pe_fld (pv 0) rfl) pa_nil))) rfl))))), ?_⟩
    have ax : a ≠ x := fun z => by
      obtain ⟨dc, tm, ty, dl, ts, kvs, st, h1, _⟩ := hc
      rw [z, hx] at h1
      cases h1
    refine q_fldB (y := .ref a) (ev_var rfl) (ev_var rfl) hx T.cls T.cal (by show 0 < 1000; decide) fun G1 b1 x1 => ?_
    have c1 := hc.keep b1 hx ax
    refine q_fldB (y := .int n) (ev_var rfl) (ev_var rfl) x1 T.cls T.num (by show 1 < 1000; decide) fun G2 b2 x2 => ?_
    have c2 := c1.keep b2 x1 ax
    have hv : EvU (tMeth C "date" (spM K C cl fDate) [] E0 (tVar 1) (tCons (tVar 2) tNil)) (start ["self", "calendar", "number"] [.ref x, .ref a, .int n]) G2 [.int (yearOf c n), .int (dateM c n : Nat), .int (dateD c n)] := eu_M (ev_var rfl) (ea_cons (ev_var rfl) ea_nil) c2 hs (fun _ _ _ _ => rfl) rfl
    refine hv G2 (Ex.refl G2) _ fun p G3 hp e3 h3 => ?_
    have x3 := e3 _ _ x2
    refine ⟨p, _, rfl, SqT.of h3, rfl, _, _, rfl, _, rfl, x, D, dx, _, rfl, x3, T.cls, T.year, (by show 2 < 1000; decide), _, _, rfl, _, rfl, x, D, dx, _, rfl, upd_same, T.cls, T.month, (by show 3 < 1000; decide), _, _, rfl, _, rfl, x, D, dx, _, rfl, upd_same, T.cls, T.day, (by show 4 < 1000; decide), rfl, ?_⟩
    have b3 : ExB x G2 (upd (upd (upd G3 x (.ins D dx (putF "year" (.int (yearOf c n)) (putF "number" (.int n) (putF "calendar" (.ref a) []))))) x (.ins D dx (putF "month" (.int (dateM c n : Nat)) (putF "year" (.int (yearOf c n)) (putF "number" (.int n) (putF "calendar" (.ref a) [])))))) x (.ins D dx (putF "day" (.int (dateD c n)) (putF "month" (.int (dateM c n : Nat)) (putF "year" (.int (yearOf c n)) (putF "number" (.int n) (putF "calendar" (.ref a) []))))))) := (((ExB.of e3).upd).upd).upd
    have x4 := upd_same (H := (upd (upd G3 x (.ins D dx (putF "year" (.int (yearOf c n)) (putF "number" (.int n) (putF "calendar" (.ref a) []))))) x (.ins D dx (putF "month" (.int (dateM c n : Nat)) (putF "year" (.int (yearOf c n)) (putF "number" (.int n) (putF "calendar" (.ref a) []))))))) (a := x) (o := (.ins D dx (putF "day" (.int (dateD c n)) (putF "month" (.int (dateM c n : Nat)) (putF "year" (.int (yearOf c n)) (putF "number" (.int n) (putF "calendar" (.ref a) [])))))))
    generalize (upd (upd (upd G3 x (.ins D dx (putF "year" (.int (yearOf c n)) (putF "number" (.int n) (putF "calendar" (.ref a) []))))) x (.ins D dx (putF "month" (.int (dateM c n : Nat)) (putF "year" (.int (yearOf c n)) (putF "number" (.int n) (putF "calendar" (.ref a) [])))))) x (.ins D dx (putF "day" (.int (dateD c n)) (putF "month" (.int (dateM c n : Nat)) (putF "year" (.int (yearOf c n)) (putF "number" (.int n) (putF "calendar" (.ref a) []))))))) = G4 at b3 x4 ⊢
    have c4 := c2.keep b3 x2 ax
    refine q_fldB (y := .int (c.weekday n)) (ev_M (ev_var rfl) (ea_cons (ev_var rfl) ea_nil) c4 hs (fun _ _ _ _ => rfl) rfl) (ev_var rfl) x4 T.cls T.wd (by show 5 < 1000; decide) fun G5 b5 x5 => ?_
    have c5 := c4.keep b5 x4 ax
    refine s_fldB (y := .int (n - c.firstOf (yearOf c n))) (ev_op (ev_var rfl) (ev_M (ws := [.int (yearOf c n)]) (ev_var rfl) (ea_cons (ev_fld (ev_var rfl) x5 T.cls T.year rfl) ea_nil) c5 hs (fun _ _ _ _ => rfl) rfl) rv_I0) (ev_var rfl) x5 T.cls T.yd (by show 6 < 1000; decide) fun G6 b6 x6 => ?_
    exact q G6 x6 (b1.trans (b2.trans (b3.trans (b5.trans b6))))
end
end Rw
namespace Rw
/-- a for whose turns never end it badly -/
theorem forK_ok {α τ : Type} {b : α → τ → (τ → Bool) → (τ → Bool) → Bool} {k : τ → Bool} (Inv : List α → τ → Prop) (step : ∀ x rest s kn, Inv (x :: rest) s → (∀ s', Inv rest s' → kn s' = true) → b x s kn k = true) (fin : ∀ s, Inv [] s → k s = true) : ∀ (xs : List α) (s : τ), Inv xs s → forK b k xs s = true
  | [], s, h => fin s h
  | x :: xs, s, h => step x xs s _ h fun s' h' => forK_ok Inv step fin xs s' h'
/-- rising lists of the same numbers are one -/
theorem rise_ext : ∀ {l m : List Int}, l.Pairwise (· < ·) → m.Pairwise (· < ·) → (∀ x, x ∈ l ↔ x ∈ m) → l = m
  | [], [], _, _, _ => rfl
  | [], b :: m, _, _, h => by have := (h b).mpr List.mem_cons_self; cases this
  | a :: l, [], _, _, h => by have := (h a).mp List.mem_cons_self; cases this
  | a :: l, b :: m, hl, hm, h => by
    obtain ⟨l1, l2⟩ := List.pairwise_cons.mp hl
    obtain ⟨m1, m2⟩ := List.pairwise_cons.mp hm
    have e : a = b := by
      rcases List.mem_cons.mp ((h a).mp List.mem_cons_self) with z | z
      · exact z
      · rcases List.mem_cons.mp ((h b).mpr List.mem_cons_self) with y | y
        · exact y.symm
        · have := m1 a z; have := l1 b y; omega
    subst e
    rw [rise_ext l2 m2 fun x => ⟨fun hx => ?_, fun hx => ?_⟩]
    · rcases List.mem_cons.mp ((h x).mp (List.mem_cons_of_mem _ hx)) with z | z
      · have := l1 x hx; omega
      · exact z
    · rcases List.mem_cons.mp ((h x).mpr (List.mem_cons_of_mem _ hx)) with z | z
      · have := m1 x hx; omega
      · exact z
theorem rise_rng (lo hi : Int) : (rng lo hi).Pairwise (· < ·) := by
  unfold rng
  rw [List.pairwise_map]
  exact (List.pairwise_lt_range (n := (hi - lo).toNat)).imp fun h => by omega
theorem rise_filter {l : List Int} (h : l.Pairwise (· < ·)) (p : Int → Bool) : (l.filter p).Pairwise (· < ·) := h.sublist (List.filter_sublist)
/-- so many numbers from a on by steps -/
def steps (a w : Int) (k : Nat) : List Int := (List.range k).map fun i => a + ((i : Nat) : Int) * w
theorem steps_len {a w : Int} {k : Nat} : (steps a w k).length = k := by unfold steps; rw [List.length_map, List.length_range]
theorem steps_head {a w : Int} {k : Nat} (h : 0 < k) : (steps a w k).headD 0 = a := by
  cases k with
  | zero => omega
  | succ k =>
    unfold steps
    rw [List.range_succ_eq_map]
    simp
theorem steps_rise {a w : Int} {k : Nat} (h : 0 < w) : (steps a w k).Pairwise (· < ·) := by
  unfold steps
  rw [List.pairwise_map]
  refine (List.pairwise_lt_range (n := k)).imp fun {i j} q => ?_
  have : ((i : Nat) : Int) * w < ((j : Nat) : Int) * w := Int.mul_lt_mul_of_pos_right (by omega) h
  omega
theorem steps_mem {a w x : Int} {k : Nat} : x ∈ steps a w k ↔ ∃ i : Nat, i < k ∧ x = a + (i : Int) * w := by
  unfold steps
  rw [List.mem_map]
  constructor
  · rintro ⟨i, hi, rfl⟩
    exact ⟨i, List.mem_range.mp hi, rfl⟩
  · rintro ⟨i, hi, rfl⟩
    exact ⟨i, List.mem_range.mpr hi, rfl⟩
theorem filter_steps {lo hi a w : Int} {k : Nat} {p : Int → Bool} (hw : 0 < w) (h : ∀ x, (lo ≤ x ∧ x < hi ∧ p x = true) ↔ ∃ i : Nat, i < k ∧ x = a + (i : Int) * w) : (rng lo hi).filter p = steps a w k := by
  refine rise_ext (rise_filter (rise_rng _ _) _) (steps_rise hw) fun x => ?_
  rw [List.mem_filter, rng_mem, steps_mem, ← h]
  exact ⟨fun ⟨⟨a, b⟩, c⟩ => ⟨a, b, c⟩, fun ⟨a, b, c⟩ => ⟨⟨a, b⟩, c⟩⟩
end Rw
namespace Rw
open PySem PySem.Spec PyProof.Rows L2 Evl Cy
/-- rows of days by their numbers -/
def kRow (K : PySem.W.Frag) (c : Ca) : Ty Int := ⟨fun H v n => ∃ t y m d, v = .ref t ∧ c.At n y m d ∧ SqT K H t (rowV c n y m d), fun e ⟨t, y, m, d, h1, h2, h3⟩ => ⟨t, y, m, d, h1, h2, ex_t e h3⟩⟩
section
variable {K : PySem.W.Frag} {α β γ δ R τ : Type} {E E' : XK} {cl : Nat → Addr} {M : List Addr} {σ : L2.St} {I I' H H' : Hp} {S S' S1 S2 S3 : List Cell} {te ta tb tc to : TE} {tt : TT} {tr : TA} {t : Ty α} {u : Ty β} {w' : Ty γ} {x : α} {y : β} {v : V} {xs : List α} {C D : Addr} {c : Ca} {n : Int}
theorem o_row0 : Op2 (rIxT K) (kRow K c) n kI 0 kI n := fun M v w H l a b Q q => by
  obtain ⟨t, y, m, d, rfl, ha, hs⟩ := a
  obtain rfl : w = .int 0 := b
  exact ⟨t, _, 0, .int n, rfl, rfl, ex_t del_le hs, rfl, q _ H (Ex.refl H) rfl⟩
theorem o_row1 (k : c.Ok) : Op2 (rIxT K) (kRow K c) n kI 1 kI (yearOf c n) := fun M v w H l a b Q q => by
  obtain ⟨t, y, m, d, rfl, ha, hs⟩ := a
  obtain rfl : w = .int 1 := b
  refine ⟨t, _, 1, .int y, rfl, rfl, ex_t del_le hs, rfl, q _ H (Ex.refl H) ?_⟩
  show V.int y = V.int _
  obtain ⟨y1, y2⟩ := yearOf_spec k n
  rw [Ca.year_one k (ha.year k).1 (ha.year k).2 y1 y2]
theorem o_row7 : Op2 (rIxT K) (kRow K c) n kI 7 kI (c.weekday n) := fun M v w H l a b Q q => by
  obtain ⟨t, y, m, d, rfl, ha, hs⟩ := a
  obtain rfl : w = .int 7 := b
  exact ⟨t, _, 7, _, rfl, rfl, ex_t del_le hs, rfl, q _ H (Ex.refl H) rfl⟩

theorem hB1 {i : Int} : ∀ (H : Hp) (vs : List V), aC kI a0 H vs (i, ()) → vs = [.int i] := fun H vs ⟨v, r, e, h1, h2⟩ => by rw [e, show v = .int i from h1, show r = [] from h2]
theorem hB2 {i j : Int} : ∀ (H : Hp) (vs : List V), aC kI (aC kI a0) H vs (i, j, ()) → vs = [.int i, .int j] := fun H vs ⟨v, r, e, h1, h2⟩ => by rw [e, show v = .int i from h1, hB1 H r h2]
theorem hB3 {i j k : Int} : ∀ (H : Hp) (vs : List V), aC kI (aC kI (aC kI a0)) H vs (i, j, k, ()) → vs = [.int i, .int j, .int k] := fun H vs ⟨v, r, e, h1, h2⟩ => by rw [e, show v = .int i from h1, hB2 H r h2]
theorem hB0 : ∀ (H : Hp) (vs : List V), a0 H vs () → vs = [] := fun H vs h => h
theorem rsI {i : Int} : RsT K (.ok (.int i)) kI i := fun H => rfl
theorem rs3 {i j k : Int} : RsT K (.tup [.int i, .int j, .int k]) (k3 K kI kI kI) (i, j, k) := fun H p h => ⟨p, _, _, _, rfl, h, rfl, rfl, rfl⟩
theorem em_oldE {f : Ca → List V → Option Rs} {ws dvs : List V} {B : AR γ} {b : γ} {e : Nat} (h : Ea E cl M tr σ I S (aC (kCal K C) B) (.ok (c, b)) S') (hB : ∀ H vs, B H vs b → vs = ws) (hf : f c (ws ++ dvs) = some (.err e)) : Em E cl M (tCall (spM K C cl f) dvs E tr) σ I S kN (.er e) S' :=
  ⟨h.ad, fun H1 i w Q _ qe => ea_of h H1 i w _ fun vs H2 e2 w2 r2 => by
    obtain ⟨v, rs, rfl, ⟨a, rfl, hc, hs⟩, hb⟩ := r2
    obtain rfl := hB _ _ hb
    exact ⟨a, c, rs ++ dvs, _, rfl, hc.ex del_le, hs, hf, fun H3 e3 => qe e H3 rfl (e2.trans (ex_del e3)) (w2.ex e3)⟩⟩
theorem em_calWeek (T : CalT K C) (ho : Em E cl M to σ I S (kCal K C) (.ok c) S') : Em E cl M (tFld K to "week") σ I S kI (.ok c.week) S' :=
  em_mk ho.ad fun H1 i w Q q => em_of ho H1 i w _ fun v H2 e w2 r => by
    obtain ⟨a, rfl, ⟨dx, tm, ty, dl, ts, kvs, st, h1, _⟩, _⟩ := r
    exact ⟨a, C, dx, _, _, rfl, (del_some.mp h1).2, T.cls, T.week, rfl, q _ H2 e w2 rfl⟩
/-- what may change are lists and tables alone -/
def LT (M : List Addr) (S : List Cell) : Prop := (∀ m ∈ M, m ∈ ads S) ∧ ∀ c ∈ S, ∀ I o, c.r I o c.x → (∃ l, o = .lst l) ∨ ∃ p, o = .tbl p
theorem lt_nil : LT [] [] := ⟨fun _ h => h, fun c h => by cases h⟩
theorem lt_cons {c : Cell} (h : LT M S) (k : ∀ I o, c.r I o c.x → (∃ l, o = .lst l) ∨ ∃ p, o = .tbl p) : LT (c.a :: M) (c :: S) :=
  ⟨fun m hm => by rcases List.mem_cons.mp hm with z | z; exact List.mem_cons.mpr (.inl z); exact List.mem_cons_of_mem _ (h.1 m z), fun z hz => by rcases List.mem_cons.mp hz with e | e; rw [e]; exact k; exact h.2 z e⟩
theorem lt_dice {d : Addr} {z : Dice} : ∀ I o, (cDice d z).r I o (cDice d z).x → (∃ l, o = .lst l) ∨ ∃ p, o = .tbl p := fun I o h => .inl ⟨_, h⟩
theorem lt_tab {P : Addr} {p : Str} : ∀ I o, (cTab P p).r I o (cTab P p).x → (∃ l, o = .lst l) ∨ ∃ p, o = .tbl p := fun I o ⟨ps, h, _⟩ => .inr ⟨ps, h⟩
theorem LT.not {w : Holds M S H} (h : LT M S) {a : Addr} {o : HO} (e : H a = some o) (n1 : ∀ l, o ≠ .lst l) (n2 : ∀ p, o ≠ .tbl p) : a ∉ M := fun z => by
  obtain ⟨c, hc, rfl⟩ := List.mem_map.mp (h.1 a z)
  obtain ⟨_, u, hu, ru⟩ := w.at_ c hc
  rw [e] at hu
  obtain rfl := Option.some.inj hu
  rcases h.2 c hc _ _ ru with ⟨l, q⟩ | ⟨p, q⟩
  · exact n1 l q
  · exact n2 p q
theorem LT.sqT {w : Holds M S H} (h : LT M S) {a : Addr} {vs : List V} (e : SqT K H a vs) : SqT K (del M H) a vs := by
  rcases e with (e | ⟨o, e⟩) | e
  · exact .inl (.inl (del_at (h.not (w := w) e (fun _ z => nomatch z) (fun _ z => nomatch z)) e))
  · exact .inl (.inr ⟨o, del_at (h.not (w := w) e (fun _ z => nomatch z) (fun _ z => nomatch z)) e⟩)
  · exact .inr e
theorem all_rows {I : Hp} {ts : List Addr} : ∀ (n : Int), (∀ (i : Nat) (t : Addr), ts[i]? = some t → (kRow K c).r I (.ref t) (n + (i : Int))) → All2 ((kRow K c).r I) (ts.map V.ref) ((List.range ts.length).map fun i => n + ((i : Nat) : Int)) := by
  induction ts with
  | nil => intro n h; exact .nil
  | cons t ts ih =>
    intro n h
    rw [List.length_cons, List.range_succ_eq_map, List.map_cons, List.map_cons, List.map_map]
    refine .cons (h 0 t rfl) ?_
    have g := ih (n + 1) fun i u hu => by
      have z := h (i + 1) u (by simpa using hu)
      rw [show n + 1 + (i : Int) = n + ((i + 1 : Nat) : Int) by omega]
      exact z
    have e : (fun i => n + ((i : Nat) : Int)) ∘ Nat.succ = fun i => n + 1 + ((i : Nat) : Int) := by
      funext i
      show n + ((i + 1 : Nat) : Int) = _
      omega
    rw [e]
    exact g
theorem em_rows {l : Nat} (h : Ea E cl M tr σ I S (aC (kCal K C) (aC kI (aC kI a0))) (.ok (c, 0, (l : Int), ())) S') (lt : LT M S') (hl : l ≤ 1000) (hf : c.firstOf l < 50000) : Em E cl M (tCall (spRows K C) [] E' tr) σ I S (kL K (kRow K c)) (.ok (rng 0 (c.firstOf l))) S' :=
  em_mk h.ad fun H1 i w Q q => ea_of h H1 i w _ fun vs H2 e2 w2 r2 => by
    obtain ⟨v, rs, rfl, ⟨a, rfl, hc, hs⟩, hb⟩ := r2
    obtain rfl := hB2 _ _ hb
    refine ⟨a, c, 0, l, rfl, hc.ex del_le, hs, Nat.zero_le _, hl, hf, fun p ts H3 hp e3 h3 hn rows => q _ H3 (e2.trans (ex_del e3)) (w2.ex e3) ⟨p, ts.map V.ref, rfl, sq_of (del_at (fresh_not w2.live hp) h3), ?_⟩⟩
    have f0 : c.firstOf ((0 : Nat) : Int) = 0 := Ca.first_zero hs.ok
    rw [f0] at hn rows
    have w3 := w2.ex e3
    have g := all_rows (K := K) (c := c) (I := del M H3) (ts := ts) 0 fun i t ht => by
      obtain ⟨y, m, d, h1, h2⟩ := rows i t ht
      exact ⟨t, y, m, d, rfl, h1, st_of (del_at (lt.not (w := w3) h2 (fun _ z => nomatch z) (fun _ z => nomatch z)) h2)⟩
    unfold rng
    rw [show (c.firstOf l - 0).toNat = ts.length by omega]
    exact g
/-- calendar = _law_calendar(dice) -/
theorem g_lawcal {P : R → Prop} {D : Ends} {tz : TS} {i j n : Nat} {d : Addr} {z : Dice} {k : Ca → Dice → R} (w : Holds M S H) (lt : ∀ z', LT M (S.set n (cDice d z'))) (hk : S[n]? = some (cDice d z)) (hσ : σ[j]? = some (some (.ref d))) (o : ∀ c z', c.Ok → Tiny c → P (k c z'))
    (g : ∀ c z' a H2, c.Ok → Tiny c → P (k c z') → Gr M S H H2 → Holds M (S.set n (cDice d z')) H2 → (kCal K C).r (del M H2) (.ref a) c → tz D (σ.set i (some (.ref a))) H2) : tSeq (tAsg (tCall (spLawCal K C) [] E' (tCons (tVar j) tNil)) (gName i)) tz D σ H := by
  obtain ⟨_, u, h1, hu⟩ := w.at_ _ (List.mem_of_getElem? hk)
  obtain rfl : u = .lst [.int z.1, .int z.2.1, .int z.2.2] := hu
  refine ⟨.ref d, hσ, d, z.1, z.2.1, z.2.2, rfl, h1, fun x c H2 k tiny hc hx rel => ?_⟩
  obtain ⟨eB, a, b, e, h2⟩ := rel
  obtain ⟨w2, e2⟩ := dice_put (z' := (a, b, e)) w hk eB h2
  refine g c (a, b, e) x H2 k tiny (o c _ k tiny) (.of w e2) w2 ⟨x, rfl, ?_, Tiny.small k tiny⟩
  obtain ⟨dx, tm, ty, dl, ts, kvs, st, g1, g2, g3, g4, g5, g6, g7, g8, g9⟩ := hc
  have lt2 := lt (a, b, e)
  have tsM : ts ∉ M := fun z => by
    cases q : H ts with
    | none => exact w.live ts z q
    | some o => exact g8 ts o (fun y => by rw [y, hx] at q; cases q) q rfl
  exact ⟨dx, tm, ty, dl, ts, kvs, st, del_at (lt2.not (w := w2) g1 (fun _ z => nomatch z) (fun _ z => nomatch z)) g1, lt2.sqT (w := w2) g2, lt2.sqT (w := w2) g3, del_at (lt2.not (w := w2) g4 (fun _ z => nomatch z) (fun _ z => nomatch z)) g4, g5, sq_of (del_at tsM g9), g7⟩
end
/-! ### a dict of numbers in the making -/
def putN (l : List (Int × Int)) (k v : Int) : List (Int × Int) := if (l.any fun q => decide (q.1 = k)) = true then l.map (fun q => if q.1 = k then (q.1, v) else q) else l ++ [(k, v)]
def pairV (q : Int × Int) : Key × V := (.inl q.1, .int q.2)
theorem putK_pair (l : List (Int × Int)) (k v : Int) : putK (l.map pairV) (.inl k) (.int v) = (putN l k v).map pairV := by
  unfold putK putN
  have e : ((l.map pairV).any fun kv => decide (kv.1 = (.inl k : Key))) = (l.any fun q => decide (q.1 = k)) := by
    rw [List.any_map]
    congr 1
    funext q
    show decide ((Sum.inl q.1 : Key) = .inl k) = decide (q.1 = k)
    simp
  rw [e]
  split
  · rw [List.map_map, List.map_map]
    congr 1
    funext q
    show (if (Sum.inl q.1 : Key) = .inl k then ((Sum.inl q.1 : Key), V.int v) else pairV q) = pairV (if q.1 = k then (q.1, v) else q)
    by_cases h : q.1 = k
    · rw [if_pos (by rw [h]), if_pos h]
      rfl
    · rw [if_neg (fun z => h (Sum.inl.inj z)), if_neg h]
  · rw [List.map_append]
    rfl
theorem valV_pair (l : List (Int × Int)) (k : Int) : valV (l.map pairV) (.inl k) = (l.lookup k).map V.int := by
  induction l with
  | nil => rfl
  | cons q l ih =>
    rw [List.map_cons]
    by_cases h : q.1 = k
    · rw [valV_pos (by show (Sum.inl q.1 : Key) = _; rw [h]), List.lookup_cons]
      rw [show (k == q.1) = true by simp [h]]
      rfl
    · rw [valV_neg (by show ¬ (Sum.inl q.1 : Key) = .inl k; exact fun z => h (Sum.inl.inj z)), ih, List.lookup_cons]
      rw [show (k == q.1) = false by simp; exact fun z => h z.symm]
def cD (p : Addr) (l : List (Int × Int)) : Cell := ⟨p, List (Int × Int), fun _ o l => o = .dK (l.map pairV), fun _ h => h, l⟩
/-- the same, as it stays -/
def kDN : Ty (List (Int × Int)) := ⟨fun H v l => ∃ p, v = .ref p ∧ H p = some (.dK (l.map pairV)), fun e ⟨p, a, b⟩ => ⟨p, a, e _ _ b⟩⟩
section
variable {K : PySem.W.Frag} {α β γ δ R τ : Type} {E E' : XK} {cl : Nat → Addr} {M : List Addr} {σ : L2.St} {I I' H H' : Hp} {S S' S1 S2 S3 : List Cell} {te ta tb tc to : TE} {tt : TT} {tr : TA} {t : Ty α} {u : Ty β} {x : α} {y : β} {v : V} {xs : List α} {P : R → Prop} {D : Ends} {tz : TS} {p : Addr} {l : List (Int × Int)}
/-- a, b = {}, None: a in the making -/
theorem g_parD {i j : Nat} (w : Holds M S H) (c : ∀ p H2, H p = none → Gr M S H H2 → Holds (p :: M) (cD p [] :: S) H2 → Ex (del M H) (del (p :: M) H2) → tz D ((σ.set i (some (.ref p))).set j (some v)) H2) : tSeq (tPar i j (tCons tDNewK (tCons (tC v) tNil))) tz D σ H := fun p hp => by
  have e0 : Ex H (upd H p (.dK [])) := Ex.new hp
  exact ⟨_, v, rfl, c p _ hp ⟨ex_del e0, ex_del e0⟩ (w.new (c := cD p []) hp e0 upd_same rfl) ((del_new hp).trans (ex_del e0))⟩
/-- d[k] = e, d the n-th of what may change -/
theorem g_setD {n : Nat} {j v : Int} {k : List (Int × Int) → R} (w : Holds M S H) (o : P (lt (putN l j v) k)) (h : Em E cl M te σ (del M H) S kI (.ok v) S) (ha : Em E cl M ta σ (del M H) S (kPtr p) (.ok ()) S) (hb : Em E cl M tb σ (del M H) S kI (.ok j) S) (hk : S[n]? = some (cD p l)) (hz : l.length < 100000)
    (c : ∀ l' H2, l' = putN l j v → P (k l') → Gr M S H H2 → Holds M (S.set n (cD p l')) H2 → tz D σ H2) : tSeq (tAsg te (gSub ta tb rSetD)) tz D σ H :=
  em_of h H (Ex.refl _) w _ fun v1 H1 e1 w1 r1 => em_of ha H1 (w.grow e1) w1 _ fun v2 H2 e2 w2 r2 => em_of hb H2 ((w.grow e1).trans (w1.grow e2)) w2 _ fun v3 H3 e3 w3 r3 => by
    obtain rfl : v1 = .int v := r1
    obtain rfl : v2 = .ref p := r2
    obtain rfl : v3 = .int j := r3
    obtain ⟨pM, o3, h3, ro⟩ := w3.at_ _ (List.mem_of_getElem? hk)
    obtain rfl : o3 = .dK (l.map pairV) := ro
    have pS : p ∈ ads S := List.mem_map.mpr ⟨_, List.mem_of_getElem? hk, rfl⟩
    have pM : p ∈ M := pM
    refine ⟨p, _, rfl, DPut.k (k := .inl j) h3 (by rw [List.length_map]; exact sz_lt hz), ?_⟩
    rw [putK_pair]
    exact c _ _ rfl o ⟨by rw [del_upd pS]; exact (e1.trans e2).trans e3, by rw [del_upd pM]; exact ((w.grow e1).trans (w1.grow e2)).trans (w2.grow e3)⟩ (w3.put (c' := cD p (putN l j v)) hk rfl rfl)
theorem g_setDL {n : Nat} {j v : Int} {k : List (Int × Int) → R} (w : Holds M S H) (o : P (lt (putN l j v) k)) (h : Em E cl M te σ (del M H) S kI (.ok v) S) (ha : Em E cl M ta σ (del M H) S (kPtr p) (.ok ()) S) (hb : Em E cl M tb σ (del M H) S kI (.ok j) S) (hk : S[n]? = some (cD p l)) (hz : l.length < 100000)
    (c : ∀ l' H2, l' = putN l j v → P (k l') → Gr M S H H2 → Holds M (S.set n (cD p l')) H2 → D.nx σ H2) : tAsg te (gSub ta tb rSetD) D σ H :=
  g_setD (tz := fun _ σ H => D.nx σ H) (D := { D with nx := D.nx }) w o h ha hb hk hz c
/-- it stays as it is from now on -/
theorem cellD_end (w : Holds (p :: M) (cD p l :: S) H) (n : p ∉ M) : kDN.r (del M H) (.ref p) l := by
  obtain ⟨_, o, h, r⟩ := w.at_ _ List.mem_cons_self
  obtain rfl : o = .dK (l.map pairV) := r
  exact ⟨p, rfl, del_at n h⟩
theorem em_dgetN {k v : Int} (ha : Em E cl M ta σ I S kDN (.ok l) S1) (hb : Em E cl M tb σ I S1 kI (.ok k) S2) (h : l.lookup k = some v) : Em E cl M (tDGet ta tb) σ I S kI (.ok v) S2 :=
  em_mk (hb.ad.trans ha.ad) fun H1 i w Q q => em_of ha H1 i w _ fun v1 H2 e1 w1 r1 => em_of hb H2 (i.trans (w.grow e1)) w1 _ fun v2 H3 e2 w2 r2 => by
    obtain ⟨p, rfl, hp⟩ := kDN.up (w1.grow e2) r1
    obtain rfl : v2 = .int k := r2
    refine ⟨p, .int v, rfl, ?_, q _ H3 (ads_tr ha.ad e1 e2) w2 rfl⟩
    have g := DGet.k (k := (.inl k : Key)) (del_some.mp hp).2
    rw [valV_pair, h] at g
    exact g
def topOf (l : List Int) : Int := l.foldl max (l.headD 0)
theorem fold_max : ∀ (l : List Int) (a : Int), a ≤ l.foldl max a ∧ (∀ x ∈ l, x ≤ l.foldl max a) ∧ (l.foldl max a = a ∨ l.foldl max a ∈ l)
  | [], a => ⟨Int.le_refl _, fun x h => (by cases h), .inl rfl⟩
  | b :: l, a => by
    obtain ⟨h1, h2, h3⟩ := fold_max l (max a b)
    rw [List.foldl_cons]
    refine ⟨by omega, fun x hx => ?_, ?_⟩
    · rcases List.mem_cons.mp hx with z | z
      · rw [z]; omega
      · exact h2 x z
    · rcases h3 with z | z
      · rw [z]
        rcases Int.le_total a b with q | q
        · right; rw [Int.max_eq_right q]; exact List.mem_cons_self
        · left; exact Int.max_eq_left q
      · exact .inr (List.mem_cons_of_mem _ z)
theorem topOf_is {l : List Int} {m : Int} (h : m ∈ l) (k : ∀ n ∈ l, n ≤ m) : topOf l = m := by
  unfold topOf
  obtain ⟨h1, h2, h3⟩ := fold_max l (l.headD 0)
  have a := h2 m h
  have hd : l.headD 0 ∈ l := by cases l with
    | nil => cases h
    | cons a l => exact List.mem_cons_self
  have b : l.foldl max (l.headD 0) ≤ m := by
    rcases h3 with z | z
    · rw [z]; exact k _ hd
    · exact k _ z
  omega
theorem em_topVal (ha : Em E cl M ta σ I S kDN (.ok l) S1) (h : 0 < l.length) : Em E cl M (tTopVal ta) σ I S kI (.ok (topOf (l.map (·.2)))) S1 :=
  em_mk ha.ad fun H1 i w Q q => em_of ha H1 i w _ fun v1 H2 e1 w1 r1 => by
    obtain ⟨p, rfl, hp⟩ := r1
    refine ⟨p, l.map pairV, l.map (·.2), rfl, (del_some.mp hp).2, by rw [List.map_map, List.map_map]; rfl, by rw [List.length_map]; exact h, fun m hm k => ?_⟩
    rw [topOf_is hm k] at q
    exact q _ H2 e1 w1 rfl
theorem em_slP {a : Ty α} {b : Ty β} {c : Ty γ} {z : γ} (ha : Em E cl M ta σ I S (k3 K a b c) (.ok (x, y, z)) S') : Em E cl M (tSl (rSlT K) ta tNoPart (tPart (tC (.int 2)))) σ I S (k2 K a b) (.ok (x, y)) S' :=
  em_mk ha.ad fun H1 i w Q q => em_of ha H1 i w _ fun v1 H2 e1 w1 r1 => by
    obtain ⟨p, v1, v2, v3, rfl, hp, h1, h2, h3⟩ := r1
    refine ⟨2, rfl, p, _, rfl, ex_t del_le hp, fun z => absurd (show HT.sIx 3 3 (some 2) = 3 from z.2) (by decide), fun q2 hq => q _ _ (e1.trans (ex_del (Ex.new hq))) (w1.ex (Ex.new hq)) ⟨q2, v1, v2, rfl, st_of (del_at (fresh_not w1.live hq) upd_same), a.up (ex_del (Ex.new hq)) h1, b.up (ex_del (Ex.new hq)) h2⟩⟩
theorem g_par3 {a b e : Nat} {x1 : α} {x2 : β} {x3 : γ} {t3 : Ty γ} {k : α → β → γ → R} (w : Holds M S H) (o : P (lt x1 fun a => lt x2 fun b => lt x3 fun c => k a b c)) (h : Ea E cl M tr σ (del M H) S (aC t (aC u (aC t3 a0))) (.ok (x1, x2, x3, ())) S') (c : ∀ y1 y2 y3 v1 v2 v3 H2, y1 = x1 → y2 = x2 → y3 = x3 → P (k y1 y2 y3) → Gr M S H H2 → Holds M S' H2 → t.r (del M H2) v1 y1 → u.r (del M H2) v2 y2 → t3.r (del M H2) v3 y3 → tz D (((σ.set a (some v1)).set b (some v2)).set e (some v3)) H2) : tSeq (tPar3 a b e tr) tz D σ H :=
  ea_of h H (Ex.refl _) w _ fun vs H2 e w2 r => by
    obtain ⟨v1, r1, rfl, g1, v2, r2, rfl, g2, v3, r3, rfl, g3, rfl⟩ := r
    exact ⟨v1, v2, v3, rfl, c x1 x2 x3 v1 v2 v3 H2 rfl rfl rfl o (.of w e) w2 g1 g2 g3⟩
theorem g_tup3 {a b e : Nat} {x1 : α} {x2 : β} {x3 : γ} {t3 : Ty γ} {k : α → β → γ → R} (w : Holds M S H) (o : P (lt x1 fun a => lt x2 fun b => lt x3 fun c => k a b c)) (h : Ea E cl M tr σ (del M H) S (aC t (aC u (aC t3 a0))) (.ok (x1, x2, x3, ())) S') (c : ∀ y1 y2 y3 v1 v2 v3 H2, y1 = x1 → y2 = x2 → y3 = x3 → P (k y1 y2 y3) → Gr M S H H2 → Holds M S' H2 → t.r (del M H2) v1 y1 → u.r (del M H2) v2 y2 → t3.r (del M H2) v3 y3 → tz D (((σ.set a (some v1)).set b (some v2)).set e (some v3)) H2) : tSeq (tAsg (tTup tr) (gTup K 3 (gCons (gName a) (gCons (gName b) (gCons (gName e) gNil))))) tz D σ H :=
  ea_of h H (Ex.refl _) w _ fun vs H2 e w2 r => by
    obtain ⟨v1, r1, rfl, g1, v2, r2, rfl, g2, v3, r3, rfl, g3, rfl⟩ := r
    refine ⟨by show 3 ≤ sizeLine; decide, fun p hp => ⟨p, _, rfl, SqT.of upd_same, rfl, v1, _, rfl, v2, _, rfl, v3, _, rfl, rfl, ?_⟩⟩
    have e2 : Ex H2 (upd H2 p (.tup [v1, v2, v3])) := Ex.new hp
    exact c x1 x2 x3 v1 v2 v3 _ rfl rfl rfl o (.of w (e.trans (ex_del e2))) (w2.ex e2) (t.up (ex_del e2) g1) (u.up (ex_del e2) g2) (t3.up (ex_del e2) g3)
theorem g_tup2 {i j : Nat} {kk : α → β → R} (w : Holds M S H) (o : P (lt x fun a => lt y fun b => kk a b)) (h : Ea E cl M tr σ (del M H) S (aC t (aC u a0)) (.ok (x, y, ())) S') (c : ∀ x' y' v1 v2 H2, x' = x → y' = y → P (kk x' y') → Gr M S H H2 → Holds M S' H2 → t.r (del M H2) v1 x' → u.r (del M H2) v2 y' → tz D ((σ.set i (some v1)).set j (some v2)) H2) : tSeq (tAsg (tTup tr) (gTup K 2 (gCons (gName i) (gCons (gName j) gNil)))) tz D σ H :=
  ea_of h H (Ex.refl _) w _ fun vs H2 e w2 r => by
    obtain ⟨v1, r1, rfl, g1, v2, r2, rfl, g2, rfl⟩ := r
    refine ⟨by show 2 ≤ sizeLine; decide, fun p hp => ⟨p, _, rfl, SqT.of upd_same, rfl, v1, _, rfl, v2, _, rfl, rfl, ?_⟩⟩
    have e2 : Ex H2 (upd H2 p (.tup [v1, v2])) := Ex.new hp
    exact c x y v1 v2 _ rfl rfl o (.of w (e.trans (ex_del e2))) (w2.ex e2) (t.up (ex_del e2) g1) (u.up (ex_del e2) g2)
theorem g_tupD {i j : Nat} (w : Holds M S H) (c : ∀ p H2, H p = none → Gr M S H H2 → Holds (p :: M) (cD p [] :: S) H2 → Ex (del M H) (del (p :: M) H2) → tz D ((σ.set i (some (.ref p))).set j (some v)) H2) : tSeq (tAsg (tTup (tCons tDNewK (tCons (tC v) tNil))) (gTup K 2 (gCons (gName i) (gCons (gName j) gNil)))) tz D σ H := fun p hp => by
  have e0 : Ex H (upd H p (.dK [])) := Ex.new hp
  refine ⟨by show 2 ≤ sizeLine; decide, fun q hq => ⟨q, _, rfl, SqT.of upd_same, rfl, _, _, rfl, v, _, rfl, rfl, ?_⟩⟩
  have e1 : Ex (upd H p (.dK [])) (upd (upd H p (.dK [])) q (.tup [.ref p, v])) := Ex.new hq
  have e2 := e0.trans e1
  exact c p _ hp ⟨ex_del e2, ex_del e2⟩ (w.new (c := cD p []) hp e2 (e1 _ _ upd_same) rfl) ((del_new hp).trans (ex_del e2))
theorem opt_r {x : Option α} {d : α} {v : V} {I : Hp} (h : x.isSome = true) (r : (kO t).r I v x) : t.r I v (x.getD d) := by
  cases x with
  | none => cases h
  | some y => exact r.1
theorem head_at {l : List Int} (h : (!decide (l = [])) = true) : l[0]? = some (l.headD 0) := by
  cases l with
  | nil => simp at h
  | cons a l => rfl
end
theorem all_intsR {H : Hp} (ns : List Int) : All2 (kI.r H) (ns.map V.int) ns := by
  induction ns with
  | nil => exact .nil
  | cons n ns ih => exact .cons rfl ih
theorem _root_.L2.Room.u1 {k : Nat} {A : Around} (r : Room k A) : A.units + 1 < cLine := by have := r.un; omega
theorem _root_.L2.Room.u65 {k : Nat} {A : Around} (r : Room k A) : A.units + 65 < cLine := by have := r.un; omega
/-! ### bounds -/
theorem first_grow {c : Ca} (k : c.Ok) (tiny : Tiny c) (y : Int) : c.firstOf y + 2 ≤ c.firstOf (y + 1) ∧ c.firstOf (y + 1) ≤ c.firstOf y + 16 := by
  have s := Ca.first_succ k y
  have p1 : 2 ≤ c.plain := by
    cases e : c.months with
    | nil => exact absurd e k.some
    | cons m ms =>
      have g := Ca.sum_pos ms fun x hx => k.pos x (by rw [e]; exact List.mem_cons_of_mem _ hx)
      have h := (tiny.mon m (by rw [e]; exact List.mem_cons_self)).1
      unfold Ca.plain
      rw [e, List.sum_cons]
      omega
  have p2 : c.plain ≤ 15 := by
    have g := sum_top 5 c.months fun m hm => (tiny.mon m hm).2
    have l := tiny.len
    unfold Ca.plain
    omega
  have y1 : c.plain ≤ c.yearDays y ∧ c.yearDays y ≤ c.plain + 1 := by
    unfold Ca.yearDays
    split <;> omega
  omega
theorem first7 {c : Ca} (k : c.Ok) (tiny : Tiny c) : 4 ≤ c.firstOf 2 ∧ c.firstOf 5 + 4 ≤ c.firstOf 7 ∧ c.firstOf 7 ≤ 112 := by
  have f0 := Ca.first_zero k
  have g0 := first_grow k tiny 0
  have g1 := first_grow k tiny 1
  have g2 := first_grow k tiny 2
  have g3 := first_grow k tiny 3
  have g4 := first_grow k tiny 4
  have g5 := first_grow k tiny 5
  have g6 := first_grow k tiny 6
  simp only [show (0 : Int) + 1 = 1 by rfl, show (1 : Int) + 1 = 2 by rfl, show (2 : Int) + 1 = 3 by rfl, show (3 : Int) + 1 = 4 by rfl, show (4 : Int) + 1 = 5 by rfl, show (5 : Int) + 1 = 6 by rfl, show (6 : Int) + 1 = 7 by rfl] at *
  omega
theorem dictOf_fn {l : List Int} {f : Int → Int} {k : Int} (h : k ∈ l) : dictOf (l.map fun n => (n, f n)) k = some (f k) := by
  unfold dictOf
  cases e : (l.map fun n => (n, f n)).reverse.find? (fun q => decide (q.1 = k)) with
  | none =>
    rw [List.find?_eq_none] at e
    exact absurd (decide_eq_true rfl) (e (k, f k) (List.mem_reverse.mpr (List.mem_map.mpr ⟨k, h, rfl⟩)))
  | some q =>
    have a := List.find?_some e
    have b := List.mem_reverse.mp (List.mem_of_find?_eq_some e)
    obtain ⟨n, _, rfl⟩ := List.mem_map.mp b
    have a : n = k := of_decide_eq_true a
    rw [a]
    rfl
theorem dictOf_none {l : List Int} {f : Int → Int} {k : Int} (h : k ∉ l) : dictOf (l.map fun n => (n, f n)) k = none := by
  unfold dictOf
  rw [Option.map_eq_none_iff, List.find?_eq_none]
  intro q hq
  obtain ⟨n, hn, rfl⟩ := List.mem_map.mp (List.mem_reverse.mp hq)
  intro z
  have z : n = k := of_decide_eq_true z
  exact h (z ▸ hn)
theorem ix_tupK {X : Cx} {K : PySem.W.Frag} (h : X.K = K := by rfl) : IxR X (rIxT K) := by
  subst h
  exact ix_tup
/-- the loop over the one cell of the script, its dice and the table of lambdas -/
theorem q_dice {K : PySem.W.Frag} {a PT : Addr} {LQ : Str} {ns : List Int} {σ : L2.St} {H : Hp} {ta : TA} {D : Ends} {tu tz : TS} {j : Nat} (hv : EvA ta σ H [.ref a, .int 1]) (hS : SqL K H a (ns.map V.int)) (hT : H PT = some (.tbl #[])) (Sg : L2.St → Prop) (s0 : Sg σ)
    (hs : ∀ d z σ' H', Sg σ' → Holds [d, PT] [cDice d z, cTab PT LQ] H' → ∀ Nx : L2.St → Hp → Prop, (∀ z' σ2 H2, Sg σ2 → Gr [d, PT] [cDice d z, cTab PT LQ] H' H2 → Holds [d, PT] [cDice d z', cTab PT LQ] H2 → Nx σ2 H2) → tu { D with nx := Nx, ct := Nx, bk := tz D } (σ'.set j (some (.ref d))) H')
    (hd : ∀ M S σ' H', Sg σ' → Holds M S H' → tz D σ' H') :
    tSeq (tFor (iList K (tCall (spRounds K) [] E0 ta)) (gName j) tu) tz D σ H :=
  hv H (Ex.refl H) _ fun H1 e1 => ⟨a, ns, rfl, ex_l e1 hS, fun r d x y z H2 hr hd0 hne e2 h2 h3 => by
    have hP : H2 PT = some (.tbl #[]) := e2 _ _ (e1 _ _ hT)
    have dP : d ≠ PT := fun q => by rw [q, hP] at h3; cases h3
    have rP : r ≠ PT := fun q => by rw [q, hP] at h2; cases h2
    have w0 : Holds [d, PT] [cDice d (x, y, z), cTab PT LQ] H2 := by
      refine ⟨fun c hc => ?_, by simp [ads, cDice, cTab, dP], fun m hm => ?_⟩
      · rcases List.mem_cons.mp hc with q | q
        · rw [q]; exact ⟨List.mem_cons_self, _, h3, rfl⟩
        · rw [List.mem_singleton.mp q]
          refine ⟨by simp [cTab], _, hP, #[], rfl, by first | trivial | decide, fun pos cv z => ?_⟩
          cases z
      · rcases List.mem_cons.mp hm with q | q
        · rw [q, h3]; exact fun z => nomatch z
        · rw [List.mem_singleton.mp q, hP]; exact fun z => nomatch z
    have rM : r ∉ [d, PT] := by simp [hne, rP]
    have keep : ∀ H', Ex (del [d, PT] H2) (del [d, PT] H') → H' r = some (.lst [.ref d]) := fun H' e => (del_some.mp (e r _ (del_some.mpr ⟨rM, h2⟩))).2
    refine ⟨r, rfl, ⟨_, SqL.of h2⟩, for_list (xs := [.ref d]) (fun _ σ' H' => Sg σ' ∧ Ex (del [d, PT] H2) (del [d, PT] H') ∧ ∃ z, Holds [d, PT] [cDice d z, cTab PT LQ] H') ⟨s0, Ex.refl _, _, w0⟩ (fun i σ' H' _ p => SqL.of (keep H' p.2.1)) (fun i v σ' H' hi p => ?_) (fun σ' H' p => ?_)⟩
    · obtain rfl : v = .ref d := by
        cases i with
        | zero => exact (Option.some.inj hi).symm
        | succ i => simp at hi
      obtain ⟨p1, p2, z, p3⟩ := p
      exact hs d z σ' H' p1 p3 _ fun z' σ2 H3 g1 g2 g3 => ⟨g1, p2.trans g2.im, z', g3⟩
    · obtain ⟨p1, p2, z, p3⟩ := p
      exact hd _ _ σ' H' p1 p3⟩
theorem lookup_putN (l : List (Int × Int)) (k v j : Int) : (putN l k v).lookup j = if j = k then some v else l.lookup j := by
  have a := valV_pair (putN l k v) j
  rw [← putK_pair, valV_put, valV_pair] at a
  by_cases h : j = k
  · rw [if_pos (by rw [h])] at a
    rw [if_pos h]
    cases e : (putN l k v).lookup j with
    | none => rw [e] at a; cases a
    | some y => rw [e] at a; have a := Option.some.inj a; injection a with a; rw [a]
  · rw [if_neg (fun z => h (Sum.inl.inj z))] at a
    rw [if_neg h]
    cases e : (putN l k v).lookup j with
    | none => rw [e] at a; cases e2 : l.lookup j with
      | none => rfl
      | some y => rw [e2] at a; cases a
    | some y => rw [e] at a; cases e2 : l.lookup j with
      | none => rw [e2] at a; cases a
      | some z => rw [e2] at a; have a := Option.some.inj a; injection a with a; rw [a]
theorem len_putN (l : List (Int × Int)) (k v : Int) : (putN l k v).length ≤ l.length + 1 := by
  unfold putN
  split
  · rw [List.length_map]; omega
  · rw [List.length_append]; exact Nat.le_refl _
section
variable {K : PySem.W.Frag} {α : Type} {t : Ty α} {E : XK} {cl : Nat → Addr} {M : List Addr} {σ : L2.St} {I : Hp} {S : List Cell}
/-- a list against the bare one -/
theorem em_lcK {β : Type} {u : Ty β} {r : Re β} {S' : List Cell} {wi : TI} {g : TG} {tt : L2.St → TT} {te : L2.St → TE} {vs : List Nat} (h : Em E cl M (tLc wi g (tt σ) (te σ) vs) σ I S u r S') : Em E cl M (tLcK wi g tt te vs) σ I S u r S' := ⟨h.ad, h.run⟩
theorem some_r {v : V} {x : α} (r : t.r I v x) (nn : v ≠ .non) : (kO t).r I v (some x) := ⟨r, nn⟩
theorem none_r : (kO t).r I .non none := rfl
theorem em_noneL : Em E cl M (tLst tNil) σ I S (kL K t) (.ok []) S := em_lst K em_nilL (by simp)
theorem o_neNil : Op2 (rNeD K) (kL K t) ([] : List α) (kL K t) [] kB false := fun M v1 v2 H l a b Q q => by
  obtain ⟨p, vs, rfl, hp, ha⟩ := a
  obtain ⟨p2, vs2, rfl, hp2, ha2⟩ := b
  cases ha
  cases ha2
  exact ⟨.list [], .list [], .lst (ex_l del_le hp) .nil, .lst (ex_l del_le hp2) .nil, rfl, rfl, q _ H (Ex.refl H) rfl⟩
theorem told_r {X : Cx} {k i : Nat} {ag : L2.St → Prop} {params : Arguments} {body : Expr} {scope : Scope} {tb : XK → TE} (h4 : LamX.LamS X.env.scope scope) (h5 : ∀ (pm cv ctv : Value), bindArgs (PySem.W.kla_fn "<lambda>" (X.env.qual ++ "<lambda>") params body scope (cloFrom X.env.cells scope.names []) pm cv ctv) ⟨[], []⟩ = pure [])
    (h6 : ∀ (f cc : Addr) (A : Around) (outer : List Env) (s : Shared) (H : Hp) (E : XK), Room k (A.deeper (LamX.lamEnv X scope s.heap.objs.size f cc)) → PE (LamX.lamCx X A outer s H E scope f cc) body (tb E)) (hi : i < 11) (h9 : ∀ E M S σ' I', Ex I I' → ag σ' → Em E cl M (tb E) σ' I' S kN (.er i) S) :
    ∀ f cc I', Ex I I' → I' f = some (LamC f (X.env.qual ++ "<lambda>") params body scope (cloFrom X.env.cells scope.names []) cc) → I' cc = some (LamX.CodeO cc (X.env.qual ++ "<lambda>")) → (kTold X cl k ag).r I' (.ref f) (kindName i) := fun f cc I' e h2 h3 =>
  ⟨f, cc, params, body, scope, tb, i, rfl, h2, h3, h4, h5, h6 f cc, hi, rfl, fun E M S σ' I2 e2 => h9 E M S σ' I2 (e.trans e2)⟩
end
/-- where _law_told stands -/
def ToldF (K : PySem.W.Frag) (mg : Str → Option Value) : Prop := ∃ (g : Addr) (oc kV dc pm cdv ct : Value) (od an : Option Addr) (osl : Array (Option Value)), mg "_law_told" = some (.ref g) ∧ PySem.W.keepIn K (.ref g) = true ∧
  K.lookup g = some ⟨oc, od, .func (PySem.W.fnOf "_law_told" "_law_told" (defArgs sTold) (defBody sTold) (defScope sTold) .none kV dc pm an cdv ct), osl⟩ ∧ PySem.W.codeIn K cdv "_law_told" = true ∧ Binds K (PySem.W.fnOf "_law_told" "_law_told" (defArgs sTold) (defBody sTold) (defScope sTold) .none kV dc pm an cdv ct) ["what"] []
theorem Gr.back {M : List Addr} {S S1 : List Cell} {H H1 : Hp} {p : Addr} (w : Holds M S H) (g : Gr M S H H1) (w1 : Holds M S1 H1) (h : H1 p = none) : H p = none := by
  cases e : H p with
  | none => rfl
  | some o =>
    have pM : p ∉ M := fun z => w1.live p z h
    have := (del_some.mp (g.im p o (del_some.mpr ⟨pM, e⟩))).2
    rw [h] at this
    cases this
theorem Gr.lone2 {M : List Addr} {S : List Cell} {c : Cell} {H H1 H2 : Hp} (hp : H c.a = none) (a : Gr M S H H1) (b : Gr (c.a :: M) (c :: S) H1 H2) : Gr M S H H2 := by
  have go : ∀ A, Ex (del A H) (del A H1) → Ex (del (c.a :: A) H1) (del (c.a :: A) H2) → Ex (del A H) (del A H2) := fun A e f x o h => by
    obtain ⟨n, hx⟩ := del_some.mp h
    have n2 : x ∉ c.a :: A := fun z => by
      rcases List.mem_cons.mp z with z | z
      · rw [z, hp] at hx; cases hx
      · exact n z
    have g := (del_some.mp (e x o h)).2
    exact del_some.mpr ⟨n, (del_some.mp (f x o (del_some.mpr ⟨n2, g⟩))).2⟩
  exact ⟨go _ a.fr b.fr, go _ a.im b.im⟩
theorem small3 : Small ⟨[3], 0, 1, [], 2, 0⟩ := by
  refine ⟨⟨by decide, ?_, by decide, by decide, by decide, ?_, by decide, by decide, by decide⟩, by decide, by decide, by decide +kernel, by decide⟩
  · intro m hm
    rw [List.mem_singleton.mp hm]
    decide
  · intro y hy
    cases hy
def Pt (b : Bool) : Prop := b = true
end Rw
namespace Rw
open PySem PySem.Spec PyProof.Rows L2 Evl Cy
/-- a day, by its calendar and its number -/
def kDay (K : PySem.W.Frag) (C D : Addr) : Ty (Ca × Int) := ⟨fun H v x => ∃ p dx a, v = .ref p ∧ H p = some (.ins D dx (dayF a x.1 x.2)) ∧ CalP K C H a x.1 ∧ Small x.1, fun e ⟨p, dx, a, h1, h2, h3, h4⟩ => ⟨p, dx, a, h1, e _ _ h2, h3.ex e, h4⟩⟩
/-- the number of a date -/
def numAt (c : Ca) (y : Int) (m : Nat) (d : Int) : Int := c.firstOf y + c.ahead y m + d
section
variable {K : PySem.W.Frag} {α β γ δ R τ : Type} {E E' : XK} {cl : Nat → Addr} {M : List Addr} {σ : L2.St} {I I' H H' : Hp} {S S' S1 S2 S3 : List Cell} {te ta tb tc to : TE} {tt : TT} {tr : TA} {t : Ty α} {u : Ty β} {w' : Ty γ} {v : V} {C D : Addr} {c : Ca} {n : Int} {x : Ca × Int}
theorem em_dFld {nm : Str} {y : Int} (hc : Cls K D) (hn : NoAttr K D nm) (hl : ∀ a, (dayF a c n).lookup nm = some (.int y)) (h : Em E cl M to σ I S (kDay K C D) (.ok (c, n)) S') : Em E cl M (tFld K to nm) σ I S kI (.ok y) S' :=
  em_mk h.ad fun H1 i w Q q => em_of h H1 i w _ fun v H2 e w2 r => by
    obtain ⟨p, dx, a, rfl, h1, _⟩ := r
    exact ⟨p, D, dx, _, _, rfl, (del_some.mp h1).2, hc, hn, hl a, q _ H2 e w2 rfl⟩
theorem em_dNum (T : DayT K D) (h : Em E cl M to σ I S (kDay K C D) (.ok (c, n)) S') : Em E cl M (tFld K to "number") σ I S kI (.ok n) S' := em_dFld T.cls T.num (fun _ => rfl) h
theorem em_dYear (T : DayT K D) (h : Em E cl M to σ I S (kDay K C D) (.ok (c, n)) S') : Em E cl M (tFld K to "year") σ I S kI (.ok (yearOf c n)) S' := em_dFld T.cls T.year (fun _ => rfl) h
theorem em_dMonth (T : DayT K D) (h : Em E cl M to σ I S (kDay K C D) (.ok (c, n)) S') : Em E cl M (tFld K to "month") σ I S kI (.ok ((dateM c n : Nat) : Int)) S' := em_dFld T.cls T.month (fun _ => rfl) h
theorem em_dDay (T : DayT K D) (h : Em E cl M to σ I S (kDay K C D) (.ok (c, n)) S') : Em E cl M (tFld K to "day") σ I S kI (.ok (dateD c n)) S' := em_dFld T.cls T.day (fun _ => rfl) h
theorem em_dWd (T : DayT K D) (h : Em E cl M to σ I S (kDay K C D) (.ok (c, n)) S') : Em E cl M (tFld K to "weekday") σ I S kI (.ok (c.weekday n)) S' := em_dFld T.cls T.wd (fun _ => rfl) h
theorem em_dYd (T : DayT K D) (h : Em E cl M to σ I S (kDay K C D) (.ok (c, n)) S') : Em E cl M (tFld K to "year_day") σ I S kI (.ok (n - c.firstOf (yearOf c n))) S' := em_dFld T.cls T.yd (fun _ => rfl) h
theorem em_dCal (T : DayT K D) (h : Em E cl M to σ I S (kDay K C D) (.ok (c, n)) S') : Em E cl M (tFld K to "calendar") σ I S (kCal K C) (.ok c) S' :=
  em_mk h.ad fun H1 i w Q q => em_of h H1 i w _ fun v H2 e w2 r => by
    obtain ⟨p, dx, a, rfl, h1, h2, h3⟩ := r
    exact ⟨p, D, dx, _, _, rfl, (del_some.mp h1).2, T.cls, T.cal, rfl, q _ H2 e w2 ⟨a, rfl, h2, h3⟩⟩
theorem em_calMonths (T : CalT K C) (ho : Em E cl M to σ I S (kCal K C) (.ok c) S') : Em E cl M (tFld K to "months") σ I S (kT K kI) (.ok c.months) S' :=
  em_mk ho.ad fun H1 i w Q q => em_of ho H1 i w _ fun v H2 e w2 r => by
    obtain ⟨a, rfl, ⟨dx, tm, ty, dl, ts, kvs, st, h1, h2, _⟩, _⟩ := r
    exact ⟨a, C, dx, _, _, rfl, (del_some.mp h1).2, T.cls, T.months, rfl, q _ H2 e w2 ⟨tm, _, rfl, h2, all_intsR _⟩⟩
theorem em_calFw (T : CalT K C) (ho : Em E cl M to σ I S (kCal K C) (.ok c) S') : Em E cl M (tFld K to "first_weekday") σ I S kI (.ok c.fw) S' :=
  em_mk ho.ad fun H1 i w Q q => em_of ho H1 i w _ fun v H2 e w2 r => by
    obtain ⟨a, rfl, ⟨dx, tm, ty, dl, ts, kvs, st, h1, _⟩, _⟩ := r
    exact ⟨a, C, dx, _, _, rfl, (del_some.mp h1).2, T.cls, T.fw, rfl, q _ H2 e w2 rfl⟩
/-- Day(calendar, number) -/
theorem em_mkDay (h : Ea E cl M tr σ I S (aC (kCal K C) (aC kI a0)) (.ok (c, n, ())) S') : Em E cl M (tMake D (spDay K C D) [] E' tr) σ I S (kDay K C D) (.ok (c, n)) S' :=
  em_mk h.ad fun H1 i w Q q => ea_of h H1 i w _ fun vs H2 e2 w2 r2 => by
    obtain ⟨v, rs, rfl, ⟨a, rfl, hc, hs⟩, hb⟩ := r2
    obtain rfl := hB1 _ _ hb
    refine fun x dx nx nd ne => ?_
    have eN : Ex H2 (upd (upd H2 dx (.own x)) x (.ins D dx [])) := (Ex.new nd).trans (Ex.new (by rw [upd_ne (Ne.symm ne)]; exact nx))
    refine ⟨x, dx, a, n, c, rfl, upd_same, (hc.ex del_le).ex eN, hs, fun H' hx' eB => ⟨rfl, ?_⟩⟩
    have e3 : Ex H2 H' := fun b o e => eB b o (fun z => by rw [z, nx] at e; cases e) (eN _ _ e)
    exact q _ H' (e2.trans (ex_del e3)) (w2.ex e3) ⟨x, dx, a, rfl, del_at (fun z => w2.live _ z nx) hx', hc.ex (ex_del e3), hs⟩
theorem o_divmod {i j : Int} (h : CDiv i j) : OpN (fun xs H Q => ∃ i j, xs = [.int i, .int j] ∧ CDiv i j ∧ ∀ p, H p = none → Q (.ref p) (upd H p (.tup [.int (i / j), .int (i % j)]))) (aC kI (aC kI a0)) (i, j, ()) (k2 K kI kI) (i / j, i % j) := fun M us H l a Q q => by
  obtain rfl := hB2 _ _ a
  exact ⟨i, j, rfl, h, fun p hp => q _ _ (Ex.new hp) ⟨p, _, _, rfl, st_of (del_at (fresh_not l hp) upd_same), rfl, rfl⟩⟩
theorem o_min2 {i j : Int} : OpN (fun xs H Q => ∃ i j, xs = [V.int i, V.int j] ∧ Q (.int (if j < i then j else i)) H) (aC kI (aC kI a0)) (i, j, ()) kI (if j < i then j else i) := fun M us H l a Q q => by
  obtain rfl := hB2 _ _ a
  exact ⟨i, j, rfl, q _ H (Ex.refl H) rfl⟩
theorem o_max2 {i j : Int} : OpN (fun xs H Q => ∃ i j, xs = [V.int i, V.int j] ∧ Q (.int (if j > i then j else i)) H) (aC kI (aC kI a0)) (i, j, ()) kI (if j > i then j else i) := fun M us H l a Q q => by
  obtain rfl := hB2 _ _ a
  exact ⟨i, j, rfl, q _ H (Ex.refl H) rfl⟩
/-- a range that is kept -/
def kRng : Ty (Int × Int) := ⟨fun H v x => ∃ a, v = .ref a ∧ H a = some (.rng x.1 x.2), fun e ⟨a, h1, h2⟩ => ⟨a, h1, e _ _ h2⟩⟩
theorem o_range2 {i j : Int} : OpN (fun vs H Q => ∃ i j, vs = [V.int i, V.int j] ∧ ∀ p, H p = none → Q (.ref p) (upd H p (.rng i j))) (aC kI (aC kI a0)) (i, j, ()) kRng (i, j) := fun M us H l a Q q => by
  obtain rfl := hB2 _ _ a
  exact ⟨i, j, rfl, fun p hp => q _ _ (Ex.new hp) ⟨p, rfl, del_at (fresh_not l hp) upd_same⟩⟩
theorem ei_RV {lo n : Int} (h : Em E cl M te σ I S kRng (.ok (lo, n)) S') (b : -(2 ^ 62) ≤ lo ∧ lo < 2 ^ 62 ∧ -(2 ^ 62) ≤ n ∧ n < 2 ^ 62) : Ei E cl M (iRngV te) σ I S kI (rng lo n) S' :=
  ⟨h.ad, fun H1 i w R q => em_of h H1 i w _ fun v H2 e w2 r => by
    obtain ⟨a, rfl, ha⟩ := r
    refine ⟨a, lo, n, rfl, (del_some.mp ha).2, b, q _ H2 (fun _ => True) _ e w2 (by rw [rng_len]; exact walk_range) (fun _ _ => trivial) ?_⟩
    intro i H v H' x hx e2 y
    obtain ⟨rfl, rfl⟩ := y
    exact ⟨Ex.refl _, fun M' l e3 => by rw [(rng_at hx).1]; rfl⟩⟩
theorem o_ixLI {xs : List α} {x : α} {i : Int} (h : atI xs i = some x) : Op2 (rIxL K) (kL K t) xs kI i t x := fun M u w H l a b Q q => by
  obtain ⟨p, vs, rfl, hp, ha⟩ := a
  obtain rfl : w = .int i := b
  obtain ⟨j, hj, hx⟩ : ∃ j, ixN xs.length i = some j ∧ xs[j]? = some x := by
    unfold atI at h
    cases hj : ixN xs.length i with
    | none => rw [hj] at h; cases h
    | some j => rw [hj] at h; exact ⟨j, rfl, h⟩
  obtain ⟨v, hv, hr⟩ := ha.at2 hx
  refine ⟨p, vs, i, v, rfl, rfl, ex_l del_le hp, ?_, q v H (Ex.refl H) hr⟩
  unfold atI
  rw [ha.len]
  show (ixN xs.length i).bind _ = _
  rw [hj]
  exact hv
theorem ob_day {m : Str} (hl : ∀ a c n, (dayF a c n).lookup m = none) : Ob (kDay K C D) D m := fun H v x ⟨p, dx, a, e, h, _⟩ => ⟨p, dx, _, e, h, hl _ _ _⟩
theorem ob_cal {m : Str} (hl : ∀ c tm ty dl ts, (calF c tm ty dl ts).lookup m = none) : Ob (kCal K C) C m := fun H v x ⟨a, e, ⟨dx, tm, ty, dl, ts, kvs, st, h1, _⟩, _⟩ => ⟨a, dx, _, e, h1, hl _ _ _ _ _⟩
end
end Rw
namespace Rw
open PySem PySem.Spec PyProof.Rows L2 Evl Cy
/-- built-ins of the text's own names -/
structure BD (mg : Str → Option Value) : Prop where
  len : mg "len" = none
  min : mg "min" = none
  max : mg "max" = none
  range : mg "range" = none
  divmod : mg "divmod" = none
  sum : mg "sum" = none
  int : mg "int" = none
  abs : mg "abs" = none
def Pr {β : Type} (z r : Re β) : Prop := z = r
section
variable {K : PySem.W.Frag} {α β γ δ R τ : Type} {E E' : XK} {cl : Nat → Addr} {M : List Addr} {σ : L2.St} {I I' H H' : Hp} {S S' S1 S2 S3 : List Cell} {te ta tb tc to : TE} {tt : TT} {tr : TA} {t : Ty α} {u : Ty β} {w' : Ty γ} {v : V} {C D : Addr} {c : Ca} {n : Int} {x : α} {y : β}
theorem fMd_ok {y m : Int} (h : 0 ≤ m ∧ m < (c.months.length : Int)) : fMonthDays c ([.int y, .int m] ++ []) = some (.ok (.int (c.md y m.toNat))) := by
  show some (if _ then _ else _) = _
  rw [if_pos h]
theorem em_oldMw {m : Str} {f : Ca → List V → Option Rs} {z : V} {ws dvs : List V} {B : AR γ} {b : γ} (ho : Em E cl M to σ I S (kCal K C) (.ok c) S1) (h : Ea E cl M tr σ I S1 B (.ok b) S') (hB : ∀ H vs, B H vs b → vs = ws) (hm : ∀ tm ty dl ts, (calF c tm ty dl ts).lookup m = none) (hf : f c (ws ++ dvs) = some (.ok z)) (hr : ∀ H, u.r H z y) : Em E cl M (tMeth C m (spB false K C cl f) dvs E' to tr) σ I S u (.ok y) S' :=
  em_mk (h.ad.trans ho.ad) fun H1 i w Q q => em_of ho H1 i w _ fun v H2 e w2 r2 => by
    obtain ⟨a, rfl, hc, hs⟩ := r2
    have hc2 : CalP K C H2 a c := hc.ex del_le
    obtain ⟨dx, tm, ty, dl, ts, kvs, st, h1, hrest⟩ := hc2
    refine ⟨a, dx, _, rfl, h1, hm _ _ _ _, ea_of h H2 (i.trans (w.grow e)) w2 _ fun vs H3 e3 w3 r3 => ?_⟩
    obtain rfl := hB _ _ r3
    have hc3 : CalP K C H3 a c := (hc.ex (w2.grow e3)).ex del_le
    exact ⟨a, c, vs ++ dvs, _, rfl, hc3.weak, hs, hf, fun H4 e4 => q z H4 ((ads_tr ho.ad e e3).trans (ex_del e4)) (w3.ex e4) (hr _)⟩
/-- the last argument may raise -/
theorem em_consR {r : Re γ} {w : Ty γ} {ta tb : TE} (h : Em E cl M ta σ I S t (.ok x) S1) (k : Em E cl M tb σ I S1 w r S2) : Ea E cl M (tCons ta (tCons tb tNil)) σ I S (aC t (aC w a0)) (r.bind fun y => .ok (x, y, ())) S2 :=
  ⟨k.ad.trans h.ad, fun H1 i w Q q qe => em_of h H1 i w _ fun v H2 e w1 r1 => k.run H2 (i.trans (w.grow e)) w1 _ (fun y v2 H3 ey e2 w2 r2 => q (x, y, ()) [v, v2] H3 (by rw [ey]; rfl) (ads_tr h.ad e e2) w2 ⟨v, _, rfl, t.up (w1.grow e2) r1, v2, _, rfl, r2, rfl⟩)
    (fun j H3 ej e2 w2 => qe j H3 (by rw [ej]; rfl) (ads_tr h.ad e e2) w2)⟩
theorem em_mkDayR {r : Re Int} (h : Ea E cl M tr σ I S (aC (kCal K C) (aC kI a0)) (r.bind fun n => .ok (c, n, ())) S') : Em E cl M (tMake D (spDay K C D) [] E' tr) σ I S (kDay K C D) (r.bind fun n => .ok (c, n)) S' := by
  cases r with
  | ok n => exact em_mkDay h
  | er k => exact ⟨h.ad, fun H1 i w Q q qe => h.run H1 i w _ (fun x vs H2 z => nomatch z) fun j H2 ej e2 w2 => qe j H2 (by cases ej; rfl) e2 w2⟩
theorem em_chainR {r r' : R2} {b : Bool} {rz : Re γ} {b' : γ → Bool} {w : Ty γ} (ha : Em E cl M ta σ I S t (.ok x) S1) (hb : Em E cl M tb σ I S1 u (.ok y) S2) (hc : b = true → Em E cl M tc σ I S2 w rz S2) (ho : Op2 r t x u y kB b) (ho' : ∀ z, rz = .ok z → Op2 r' u y w z kB (b' z)) : Em E cl M (tChain r r' ta tb tc) σ I S kB (cond b (rz.bind fun z => .ok (b' z)) (.ok false)) S2 :=
  ⟨hb.ad.trans ha.ad, fun H1 i w Q q qe => em_of ha H1 i w _ fun v1 H2 e1 w1 r1 => em_of hb H2 (i.trans (w.grow e1)) w1 _ fun v2 H3 e2 w2 r2 =>
    ho M v1 v2 H3 w2.live (t.up (w1.grow e2) r1) r2 _ fun v H4 e3 r3 => by
      have e13 := (ads_tr ha.ad e1 e2).trans (ex_del e3)
      refine ⟨b, r3, ?_⟩
      cases b with
      | true =>
        rw [if_pos rfl]
        have a2 : ads S2 = ads S := hb.ad.trans ha.ad
        have w3 := w2.ex e3
        refine (hc rfl).run H4 (i.trans (w.grow e13)) (w2.ex e3) _ (fun z v4 H5 ez e4 w4 r4 => ?_) (fun k H5 ek e4 w4 => qe k H5 (by rw [ek]; rfl) (ads_tr a2 e13 e4) w4)
        exact ho' z ez M v2 v4 H5 w4.live (u.up ((ex_del e3).trans (w3.grow e4)) r2) r4 Q fun v5 H6 e5 r5 => q (b' z) v5 H6 (by rw [ez]; rfl) ((ads_tr a2 e13 e4).trans (ex_del e5)) (w4.ex e5) r5
      | false =>
        rw [if_neg Bool.false_ne_true]
        exact q false _ H4 rfl e13 (w2.ex e3) rfl⟩
theorem gt_testR {r : Re Bool} (h : Em E cl M te σ I S kB r S') : Et E cl M (tTest te) σ I S r S' := ⟨h.ad, fun H1 i w Q q qe => h.run H1 i w _ (fun b v H2 eb e w' r => ⟨b, r, q b H2 eb e w'⟩) qe⟩
theorem gt_notR {r : Re Bool} (h : Et E cl M tt σ I S r S') : Et E cl M (tNot tt) σ I S (r.bind fun b => .ok (!b)) S' := ⟨h.ad, fun H1 i w Q q qe => h.run H1 i w _ (fun b H2 eb e w' => q (!b) H2 (by rw [eb]; rfl) e w') (fun k H2 ek e w' => qe k H2 (by rw [ek]; rfl) e w')⟩
/-- a test that may raise, of a def that may -/
theorem g_ifX {P : Re β → Prop} {A B : Re β} {r : Re Bool} {tu tw tz : TS} {D : Ends} (w : Holds M S H) (o : P (lr r fun b => cond b A B)) (h : Et E cl M tt σ (del M H) S r S') (c1 : r = .ok true → P A → ∀ H2, Gr M S H H2 → Holds M S' H2 → tu { D with nx := tz D } σ H2) (c2 : r = .ok false → P B → ∀ H2, Gr M S H H2 → Holds M S' H2 → tw { D with nx := tz D } σ H2)
    (c3 : ∀ k H2, r = .er k → P (.er k) → Gr M S H H2 → Holds M S' H2 → E (.ref (cl k)) none H2) : tSeq (tIfS tt tu tw) tz D σ H :=
  h.run H (Ex.refl _) w _ (fun b H2 eb e w2 => by
    subst eb
    cases b with
    | true => exact c1 rfl o H2 (.of w e) w2
    | false => exact c2 rfl o H2 (.of w e) w2) fun k H2 ek e w2 => c3 k H2 ek (by subst ek; exact o) (.of w e) w2
/-- x += e -/
theorem g_aug {i : Nat} {P : R → Prop} {k : Int → R} {a b z : Int} {tip : TIp} {tz : TS} {D : Ends} (w : Holds M S H) (o : P (lt z k)) (hσ : σ[i]? = some (some (.int a))) (h : Em E cl M te σ (del M H) S kI (.ok b) S') (ht : ∀ H Q, Q (.int z) H → tip (.int a) (.int b) H Q) (c : ∀ x' H2, x' = z → P (k x') → Gr M S H H2 → Holds M S' H2 → tz D (σ.set i (some (.int x'))) H2) : tSeq (tAug i te tip) tz D σ H :=
  ⟨_, hσ, em_of h H (Ex.refl _) w _ fun v H2 e w2 r => by
    obtain rfl : v = .int b := r
    exact ht H2 _ (c z H2 rfl o (.of w e) w2)⟩
theorem g_augL {i : Nat} {P : R → Prop} {k : Int → R} {a b z : Int} {tip : TIp} {D : Ends} (w : Holds M S H) (o : P (lt z k)) (hσ : σ[i]? = some (some (.int a))) (h : Em E cl M te σ (del M H) S kI (.ok b) S') (ht : ∀ H Q, Q (.int z) H → tip (.int a) (.int b) H Q) (c : ∀ x' H2, x' = z → P (k x') → Gr M S H H2 → Holds M S' H2 → D.nx (σ.set i (some (.int x'))) H2) : tAug i te tip D σ H :=
  ⟨_, hσ, em_of h H (Ex.refl _) w _ fun v H2 e w2 r => by
    obtain rfl : v = .int b := r
    exact ht H2 _ (c z H2 rfl o (.of w e) w2)⟩
theorem hold0 {H : Hp} {M : List Addr} (l : ∀ m ∈ M, H m ≠ none) : Holds M [] H := ⟨fun c hc => (by cases hc), List.nodup_nil, l⟩
end
end Rw
namespace Rw
open PySem PySem.Spec PyProof.Rows L2 Evl Cy
section
variable {P : Program} {w : World} {K : PySem.W.Frag} {mg : Str → Option Value} {base : Heap} {C D : Addr} {cl : Nat → Addr}
theorem args_m0 {x : Ca × Int} : ∀ (H : Hp) (v : V) (vs : List V), (kDay K C D).r H v x → a0 H vs () → aC (kDay K C D) a0 H (v :: (vs ++ [])) (x, ()) := fun H v vs r h => by
  obtain rfl : vs = [] := h
  exact ⟨v, [], rfl, r, rfl⟩

abbrev s_month_number : Stmt := inClass (topS 18) 3
def month_numberN : List Str := ["self"]
theorem sc_month_number : FnScope month_numberN ["self"] (defScope s_month_number) := ⟨rfl, rfl, rfl, by decide +kernel, rfl, by decide +kernel, by decide +kernel⟩
def f_month_number : (Ca × Int) × Unit → Re Int := fun a => match a with
  | ((c0, n0), _) =>
    (.ok (((yearOf c0 n0) * ((Ca.months c0).length : Int)) + ((dateM c0 n0 : Nat) : Int)))
def pre_month_number : (Ca × Int) × Unit → Prop := fun a => match a with
  | ((c0, n0), _) => True
abbrev sp_month_number (K : PySem.W.Frag) (C D : Addr) (cl : Nat → Addr) : Sp := spD (aC (kDay K C D) a0) pre_month_number f_month_number kI cl
theorem ok_month_number {f : Addr} {fd : FuncData} (F : Fun K "month_number" "Day.month_number" s_month_number f fd) (TC : CalT K C) (TD : DayT K D) (B : BD mg)  : FnOk P w K mg base (L2.CX P w) 1 f fd ["self"] (sp_month_number K C D cl) := by
  refine F.okX sc_month_number (fun vs H Q E h => ?_) (fun cdv A outer s H vs Q E hr h => ?_)
  · obtain ⟨M, a, live, hA, _⟩ := h
    obtain ⟨v0, _, rfl, r0, rfl⟩ := hA
    rfl
  · obtain ⟨M, ⟨⟨c0, n0⟩, _⟩, live, hA, hpre, qok, qer⟩ := h
    obtain ⟨v0, _, rfl, r0, rfl⟩ := hA
    have sm0 : Small c0 := by obtain ⟨_, _, _, _, _, _, z⟩ := r0; exact z
    have ok0 := sm0.ok
    have wk0 := ok0.wk
    have wl0 := sm0.wk
    have len0 := sm0.len
    obtain ⟨dm0, d00, d10, dn0⟩ := date_at ok0 n0
    have w0 : Holds M [] H := hold0 live
    have o0 : Pr (f_month_number ((c0, n0), ())) ((.ok (((yearOf c0 n0) * ((Ca.months c0).length : Int)) + ((dateM c0 n0 : Nat) : Int)))) := rfl
    refine ⟨_, pss_one (ps_ret (pe_op op_add (pe_op op_mul (pe_fld (pv 0) rfl) (pe_callB call_len_seq (by rfl) B.len (by decide +kernel) (pa_cons (pe_fld (pe_fld (pv 0) rfl) rfl) pa_nil))) (pe_fld (pv 0) rfl))), ?_⟩
    refine g_ret (E := E) (cl := cl) (t := kI) (x := (((yearOf c0 n0) * ((Ca.months c0).length : Int)) + ((dateM c0 n0 : Nat) : Int))) w0 (em_op (em_op (em_dYear TD (em_var (t := (kDay K C D)) (v := v0) (x := (c0, n0)) rfl r0)) (em_cb (em_cons (em_calMonths TC (em_dCal TD (em_var (t := (kDay K C D)) (v := v0) (x := (c0, n0)) rfl r0))) em_nil) o_lenT) (o_IC (by first | exact .inl ⟨by omega, by omega⟩ | exact .inr ⟨by omega, by omega⟩))) (em_dMonth TD (em_var (t := (kDay K C D)) (v := v0) (x := (c0, n0)) rfl r0)) o_I) (fun v_1 H_2 g_3 w_4 r_5 => ?_)
    exact qok _ v_1 H_2 o0 (show Ex H _ from Gr.fr g_3) r_5

theorem f_month_number_is {c : Ca} {n : Int} : f_month_number ((c, n), ()) = .ok (yearOf c n * (List.length (Ca.months c) : Int) + ((dateM c n : Nat) : Int)) := rfl






end
end Rw
namespace Rw
open PySem PySem.Spec PyProof.Rows L2 Evl Cy
section
variable {K : PySem.W.Frag} {α β γ δ R τ : Type} {E E' : XK} {cl : Nat → Addr} {M : List Addr} {σ : L2.St} {I I' H H' : Hp} {S S' S1 S2 S3 : List Cell} {te ta tb tc to : TE} {tt : TT} {tr : TA} {t : Ty α} {u : Ty β} {w' : Ty γ} {v : V} {C D : Addr} {c : Ca} {n : Int} {x : α} {y : β}
theorem em_mdR {y m : Int} (ho : Em E cl M to σ I S (kCal K C) (.ok c) S1) (h : Ea E cl M tr σ I S1 (aC kI (aC kI a0)) (.ok (y, m, ())) S') : Em E cl M (tMeth C "month_days" (spM K C cl fMonthDays) [] E to tr) σ I S kI (if 0 ≤ m ∧ m < (c.months.length : Int) then .ok (c.md y m.toNat) else .er 1) S' := by
  by_cases hm : 0 ≤ m ∧ m < (c.months.length : Int)
  · rw [if_pos hm]
    exact em_oldM ho h hB2 (fun _ _ _ _ => rfl) (fMd_ok hm) rsI
  · rw [if_neg hm]
    refine ⟨h.ad.trans ho.ad, fun H1 i w Q q qe => em_of ho H1 i w _ fun v H2 e w2 r2 => ?_⟩
    obtain ⟨a, rfl, hc, hs⟩ := r2
    have hc2 : CalP K C H2 a c := hc.ex del_le
    obtain ⟨dx, tm, ty, dl, ts, kvs, st, h1, hrest⟩ := hc2
    refine ⟨a, dx, _, rfl, h1, rfl, ea_of h H2 (i.trans (w.grow e)) w2 _ fun vs H3 e3 w3 r3 => ?_⟩
    obtain rfl := hB2 _ _ r3
    have hc3 : CalP K C H3 a c := (hc.ex (w2.grow e3)).ex del_le
    refine ⟨a, c, [.int y, .int m], .err 1, rfl, hc3, hs, ?_, fun H4 e4 => qe 1 H4 rfl ((ads_tr ho.ad e e3).trans (ex_del e4)) (w3.ex e4)⟩
    show some (if _ then _ else _) = _
    rw [if_neg hm]
theorem args_m {A : AR β} {b : β} : ∀ (H : Hp) (v : V) (vs : List V), t.r H v x → A H vs b → aC t A H (v :: (vs ++ [])) (x, b) := fun H v vs r h => ⟨v, vs ++ [], rfl, r, by rw [List.append_nil]; exact h⟩
theorem at_in {xs : List Int} {i : Int} (h : 0 - (xs.length : Int) ≤ i ∧ i < (xs.length : Int)) : atI xs i = some ((atI xs i).getD 0) := by
  have k : ∀ j : Nat, j < xs.length → (some j).bind (fun j => xs[j]?) = some (((some j).bind fun j => xs[j]?).getD 0) := fun j hj => by
    show xs[j]? = some (xs[j]?.getD 0)
    rw [List.getElem?_eq_getElem hj]
    rfl
  unfold atI ixN
  by_cases h0 : 0 ≤ i
  · rw [if_pos h0, if_pos h.2]
    exact k _ (by omega)
  · rw [if_neg h0, if_pos (by omega)]
    exact k _ (by omega)
end
end Rw
namespace Rw
open PySem PySem.Spec PyProof.Rows L2 Evl Cy
section
variable {P : Program} {w : World} {K : PySem.W.Frag} {mg : Str → Option Value} {base : Heap} {C D : Addr} {cl : Nat → Addr}

theorem num_in {c : Ca} {y m d : Int} (h : ((cond (decide ((0 : Int) ≤ d)) (Re.bind (if 0 ≤ m ∧ m < (List.length (Ca.months c) : Int) then .ok (Ca.md c y (m).toNat) else .er 1) fun z => .ok (decide (d < z))) (.ok false)).bind fun b => .ok (!b)) = Re.ok false) : 0 ≤ m ∧ m < (c.months.length : Int) := by
  by_cases hm : 0 ≤ m ∧ m < (c.months.length : Int)
  · exact hm
  · rw [if_neg hm] at h
    by_cases hd : 0 ≤ d
    · rw [decide_eq_true hd] at h
      cases h
    · rw [decide_eq_false hd] at h
      cases h

abbrev s_number_of : Stmt := inClass (topS 16) 6
def number_ofN : List Str := ["self", "year", "month", "day", "ahead", "earlier"]
theorem sc_number_of : FnScope number_ofN ["self", "year", "month", "day"] (defScope s_number_of) := ⟨rfl, rfl, rfl, by decide +kernel, rfl, by decide +kernel, by decide +kernel⟩
def f_number_of : Ca × Int × Int × Int × Unit → Re Int := fun a => match a with
  | (c0, x1, x2, x3, _) =>
    lr ((cond (decide ((0 : Int) ≤ x3)) (Re.bind (if 0 ≤ x2 ∧ x2 < (List.length (Ca.months c0) : Int) then .ok (Ca.md c0 x1 (x2).toNat) else .er 1) fun z => .ok (decide (x3 < z))) (.ok false)).bind fun b => .ok (!b)) fun b => cond b (.er 1)
    (lt (((rng 0 x2).map (fun x_29 => (Ca.md c0 x1 (x_29).toNat))).sum) fun ahead_40 =>
    (.ok (((Ca.firstOf c0 x1) + ahead_40) + x3)))
def pre_number_of : Ca × Int × Int × Int × Unit → Prop := fun a => match a with
  | (c0, x1, x2, x3, _) => True
abbrev sp_number_of (K : PySem.W.Frag) (C D : Addr) (cl : Nat → Addr) : Sp := spD (aC (kCal K C) (aC kI (aC kI (aC kI a0)))) pre_number_of f_number_of kI cl
theorem ok_number_of {f : Addr} {fd : FuncData} (F : Fun K "number_of" "Calendar.number_of" s_number_of f fd) (TC : CalT K C) (TD : DayT K D) (B : BD mg) (mMD : Mt P w K mg base 2 C "month_days" (spM K C cl fMonthDays) []) (mFO : Mt P w K mg base 2 C "first_of" (spM K C cl fFirstOf) []) (xBadDay : Exc1 K mg "BadDay" (cl 1)) : FnOk P w K mg base (L2.CX P w) 3 f fd ["self", "year", "month", "day"] (sp_number_of K C D cl) := by
  refine F.okX sc_number_of (fun vs H Q E h => ?_) (fun cdv A outer s H vs Q E hr h => ?_)
  · obtain ⟨M, a, live, hA, _⟩ := h
    obtain ⟨v0, _, rfl, r0, v1, _, rfl, r1, v2, _, rfl, r2, v3, _, rfl, r3, rfl⟩ := hA
    rfl
  · obtain ⟨M, ⟨c0, x1, x2, x3, _⟩, live, hA, hpre, qok, qer⟩ := h
    obtain ⟨v0, _, rfl, r0, v1, _, rfl, r1, v2, _, rfl, r2, v3, _, rfl, r3, rfl⟩ := hA
    obtain rfl : v1 = (.int x1) := r1
    obtain rfl : v2 = (.int x2) := r2
    obtain rfl : v3 = (.int x3) := r3
    have sm0 : Small c0 := by obtain ⟨_, _, _, z⟩ := r0; exact z
    have ok0 := sm0.ok
    have wk0 := ok0.wk
    have wl0 := sm0.wk
    have len0 := sm0.len
    have lm00 := ok0.lm0
    have lm10 := ok0.lm1
    have w0 : Holds M [] H := hold0 live
    have o0 : Pr (f_number_of (c0, x1, x2, x3, ())) (lr ((cond (decide ((0 : Int) ≤ x3)) (Re.bind (if 0 ≤ x2 ∧ x2 < (List.length (Ca.months c0) : Int) then .ok (Ca.md c0 x1 (x2).toNat) else .er 1) fun z => .ok (decide (x3 < z))) (.ok false)).bind fun b => .ok (!b)) fun b => cond b (.er 1)
(lt (((rng 0 x2).map (fun x_29 => (Ca.md c0 x1 (x_29).toNat))).sum) fun ahead_40 =>
(.ok (((Ca.firstOf c0 x1) + ahead_40) + x3)))) := rfl
    refine ⟨_, pss_cons (ps_if (pt_not (pt_chain op_le op_lt pe_int (pv 3) (pe_mk mMD hr (by decide) (passE (E := E)) (pv 0) (pa_cons (pv 1) (pa_cons (pv 2) pa_nil))))) (pss_one (ps_raiseX xBadDay)) pss_nil) (pss_cons (ps_set (i := 4) sc_number_of.nd rfl (.inl rfl) (pe_callB (cr_sum rfl) (by rfl) B.sum (by decide +kernel) (pa_cons (pe_lc (own := [("earlier", 5)]) (g := gName 5) (tt := tYes) rfl sc_number_of.nd (pi_range1 rfl B.range (pa_cons (pv 2) pa_nil)) (blkOk_by (own := [("earlier", 5)]) (N := number_ofN) (sc := defScope s_number_of) (by decide +kernel)) (fun _ _ _ _ _ => pg_name (i := 5) sc_number_of.nd rfl (Or.inl rfl)) (fun _ _ _ _ _ => pts_nil) (fun _ _ _ _ _ => (pe_mk mMD hr (by decide) passL (pv 0) (pa_cons (pv 1) (pa_cons (pv 5) pa_nil))))) pa_nil))) (pss_one (ps_ret (pe_op op_add (pe_op op_add (pe_mk mFO hr (by decide) passL (pv 0) (pa_cons (pv 1) pa_nil)) (pv 4)) (pv 3))))), ?_⟩
    refine g_ifX (E := E) (cl := cl) (r := ((cond (decide ((0 : Int) ≤ x3)) (Re.bind (if 0 ≤ x2 ∧ x2 < (List.length (Ca.months c0) : Int) then .ok (Ca.md c0 x1 (x2).toNat) else .er 1) fun z => .ok (decide (x3 < z))) (.ok false)).bind fun b => .ok (!b))) w0 o0 (gt_notR (gt_testR (em_chainR em_int (em_var (t := kI) (v := .int x3) (x := x3) rfl rfl) (fun _ => em_mdR (em_var (t := kCal K C) (v := v0) (x := c0) rfl r0) (em_cons (em_var (t := kI) (v := .int x1) (x := x1) rfl rfl) (em_cons (em_var (t := kI) (v := .int x2) (x := x2) rfl rfl) em_nil))) o_IB (fun _ _ => o_IB)))) (fun hb_2 o_3 H_1 g_4 w_5 => ?_) (fun hb_7 o_8 H_6 g_9 w_10 => ?_) (fun k_11 H_12 e_13 o_14 g_15 w_16 => ?_)
    · exact qer 1 _ o_3 (show Ex H _ from Gr.fr g_4)
    · have mIn : 0 ≤ x2 ∧ x2 < (List.length (Ca.months c0) : Int) := num_in hb_7
      have r_17 := (kCal K C).up g_9.im r0
      refine g_asg (E := E) (cl := cl) (i := 4) (t := kI) (x := (((rng 0 x2).map (fun x_29 => (Ca.md c0 x1 (x_29).toNat))).sum)) w_10 o_8 (em_cb (em_cons (em_eq (em_lc (K := K) (u := kI) (fun _ => true) (fun x_29 => (Ca.md c0 x1 (x_29).toNat)) (ei_R1 (em_cons (em_var (t := kI) (v := (.int x2)) (x := x2) rfl rfl) em_nil) (by refine ⟨by omega, by omega⟩)) (by rw [rng_len]; omega) eg_name (fun _ _ _ b => by obtain ⟨_, rfl, rfl⟩ := b; rfl) (fun _ _ _ _ _ _ _ _ => gt_yes) (fun M_35 S_36 I_30 x_29 s_34 e_31 m_32 c_39 b_33 => by obtain ⟨_, rfl, rfl⟩ := b_33; rw [rng_mem] at m_32; exact (em_oldM (y := (Ca.md c0 x1 (x_29).toNat)) (em_var (t := (kCal K C)) (v := v0) (x := c0) rfl ((kCal K C).up e_31 r_17)) (em_cons (em_var (t := kI) (v := (.int x1)) (x := x1) rfl rfl) (em_cons (em_var (t := kI) (v := (.int x_29)) (x := x_29) rfl rfl) em_nil)) hB2 (fun _ _ _ _ => rfl) (fMd_ok (by omega)) rsI))) (by rw [filter_yes])) em_nil) o_sumL) (fun ahead_40 v_41 H_42 hx_43 o_44 g_45 w_46 r_47 => ?_)
      have r_48 := (kCal K C).up g_45.im r_17
      obtain rfl : v_41 = (.int ahead_40) := r_47
      refine g_ret (E := E) (cl := cl) (t := kI) (x := (((Ca.firstOf c0 x1) + ahead_40) + x3)) w_46 (em_op (em_op (em_oldM (y := (Ca.firstOf c0 x1)) (em_var (t := (kCal K C)) (v := v0) (x := c0) rfl r_48) (em_cons (em_var (t := kI) (v := (.int x1)) (x := x1) rfl rfl) em_nil) hB1 (fun _ _ _ _ => rfl) rfl rsI) (em_var (t := kI) (v := (.int ahead_40)) (x := ahead_40) rfl rfl) o_I) (em_var (t := kI) (v := (.int x3)) (x := x3) rfl rfl) o_I) (fun v_49 H_50 g_51 w_52 r_53 => ?_)
      exact qok _ v_49 H_50 o_44 (show Ex H _ from Gr.fr ((g_9.then g_45 rfl).then g_51 rfl)) r_53
    · exact qer _ _ o_14 (show Ex H _ from Gr.fr g_15)

theorem ahead_rng {c : Ca} {y m : Int} (h : 0 ≤ m) : ((rng 0 m).map fun x => c.md y x.toNat).sum = c.ahead y m.toNat := by
  rw [← sizes_sum]
  unfold rng
  rw [List.map_map, show m - 0 = m by omega]
  congr 1
  apply List.map_congr_left
  intro k _
  show c.md y ((0 : Int) + (k : Int)).toNat = _
  congr 1
  omega
theorem number_ok {c : Ca} {y m d : Int} (h : 0 ≤ m ∧ m < (c.months.length : Int) ∧ 0 ≤ d ∧ d < c.md y m.toNat) : f_number_of (c, y, m, d, ()) = .ok (numAt c y m.toNat d) := by
  unfold f_number_of
  simp only [lr, Re.bind, if_pos (show 0 ≤ m ∧ m < (c.months.length : Int) from ⟨h.1, h.2.1⟩), decide_eq_true h.2.2.1, decide_eq_true h.2.2.2, cond_true, Bool.not_true, cond_false, lt, numAt, ahead_rng h.1]
theorem number_no {c : Ca} {y m d : Int} (h : ¬ (0 ≤ m ∧ m < (c.months.length : Int) ∧ 0 ≤ d ∧ d < c.md y m.toNat)) : f_number_of (c, y, m, d, ()) = .er 1 := by
  unfold f_number_of
  by_cases hd : 0 ≤ d
  · by_cases hm : 0 ≤ m ∧ m < (c.months.length : Int)
    · have hd2 : ¬ d < c.md y m.toNat := fun z => h ⟨hm.1, hm.2, hd, z⟩
      simp only [lr, Re.bind, if_pos hm, decide_eq_true hd, decide_eq_false hd2, cond_true, Bool.not_false]
    · simp only [lr, Re.bind, if_neg hm, decide_eq_true hd, cond_true]
  · simp only [lr, Re.bind, decide_eq_false hd, cond_false, Bool.not_false, cond_true]
end
end Rw
namespace Rw
open PySem PySem.Spec PyProof.Rows L2 Evl
theorem meets_str_eq_ref (a : Str) (t : Tok) (x : Addr) : Meets (Builtin.«str.__eq__» ⟨[.str a t, .ref x], []⟩) (fun A R s => (∃ C dx, s.heap.get? x = some (PySem.W.instObj C dx)) ∧ R (.ok (.ret .notImplemented)) s) := by
  intro prog w A R s h
  obtain ⟨⟨C, dx, h1⟩, q⟩ := h
  obtain ⟨hp, g, d, tk, os⟩ := s
  unfold Builtin.«str.__eq__»
  wp_walk
  exact q
section
variable {M : Model} {prog : Program} {w : World} {A : Around} {E : Value → Shared → Prop} {s : Shared} {K : PySem.W.Frag} {x C dx : Addr} {ox : Obj} {od : Option Obj} {b : Str} {t : Tok}
theorem isSame_strR {R : Bool → Shared → Prop} (h : R false s) : wpAny M A (isSame (.ref x) (.str b t)) R E s := wpAny_of_eq (rfl : isSame (.ref x) (.str b t) = pure false) h
theorem entry_str {Q : Fin → Shared → Prop} (hq : Q (.done (.ret .notImplemented)) s) : wpAny M A (Builtin.«object.__eq__» ⟨[.ref x, .str b t], []⟩) Q E s := by
  unfold Builtin.«object.__eq__»
  repeat (first | with_reducible refine isSame_strR ?_ | wp_step)
  exact hq
theorem call_objEqS {Q : Value → Shared → Prop} (X : K.In s.heap) (I : PySem.W.InstAt s.heap x ox C od) (hm : PySem.W.mroIn K C (.type "object") = some true) (hq : Q .notImplemented s) :
    wpAny (model prog w) A (call (.builtin "object.__eq__") [.ref x, .str b t]) Q E s :=
  wpAny_call (codeAny_call_builtin F.cmp_object.eq.plain F.cmpEntry_eq (PySem.W.check_slot F.cmpKind_eq F.cmpSplit_eq (I.type.andThen (PySem.W.looks_mroIn X hm)) (F.cmpArgs_eq _ _) (entry_str hq)))
theorem sub_strC : PySem.W.subIn K (.type "str") (.ref C) = some false := by
  have e : fastBuiltinMro "str" = some [.type "str", .type "object"] := by decide +kernel
  show (fastBuiltinMro "str").map (·.contains (.ref C)) = some false
  rw [e]
  first
    | rfl
    | simp
theorem rc_strI (hu : A.units < cLine) (X : K.In s.heap) (I : PySem.W.InstAt s.heap x ox C od) (hx : s.heap.get? x = some (PySem.W.instObj C dx)) (hm : PySem.W.mroIn K C (.type "object") = some true) (hs : PySem.W.findIn K (.ref C) "__eq__" = some (some (.builtin "object.__eq__"))) :
    SeqAt.RcAt A s (.ref x) (.str b t) false := fun prog w E Q h => by
  have one : wpAny (model prog w) A (tryCompare (.ref x) "__eq__" (.str b t)) (fun r s' => r = none ∧ s' = s) E s := by
    unfold tryCompare
    exact wpAny_bind (HN.ifBound_objEq X I hs (call_objEqS X I hm (wpAny_pure ⟨rfl, rfl⟩)))
  have two : wpAny (model prog w) A (tryCompare (.str b t) "__eq__" (.ref x)) (fun r s' => r = none ∧ s' = s) E s :=
    wpAny_tryCompare_declines (typeIs_str s b t) F.slot_str_eq_refl (call_meets F.slot_str_eq_refl (typeIs_str s b t) F.entry_str_eq (F.args_str_eq_2 _ _) (meets_str_eq_ref b t x) ⟨⟨C, dx, hx⟩, rfl, rfl, rfl⟩)
  simp only [richCompare, cmpInfo_Eq, oneThing_ref]
  refine wpAny_holding (wpAny_bind (wpAny_cRoomFor hu ?_))
  refine wpAny_bind (I.type.here ?_)
  refine wpAny_bind (wpAny_typeOf (typeIs_str s b t) ?_)
  split
  · refine wpAny_bind ((PySem.W.looks_subIn X sub_strC).here ?_)
    simp only [Bool.false_eq_true, if_false, Bool.not_false, if_true]
    refine wpAny_bind (m := tryCompare (.ref x) _ (.str b t)) (wpAny_mono one (fun r s1 z => ?_) fun _ _ e => e)
    obtain ⟨z1, z2⟩ := z
    subst z1
    subst z2
    refine wpAny_bind (m := tryCompare (.str b t) _ (.ref x)) (wpAny_mono two (fun r s2 z => ?_) fun _ _ e => e)
    obtain ⟨z1, z2⟩ := z
    subst z1
    subst z2
    exact wpAny_bind (wpAny_rule (wpAny_bind (wpAny_of_eq (rfl : isSame (.ref x) (.str b t) = pure false) (wpAny_pure h))))
  · rename_i q
    exact absurd (by simp) q
end
/-- an instance without an __eq__ of its own -/
structure NoEq (K : PySem.W.Frag) (C : Addr) : Prop where
  mro : PySem.W.mroIn K C (.type "object") = some true
  find : PySem.W.findIn K (.ref C) "__eq__" = some (some (.builtin "object.__eq__"))
/-- a text, or such an instance, against a text -/
def rEqIS (K : PySem.W.Frag) : R2 := fun x y H Q => ∃ b : Str, y = .str b ∧ ((∃ a : Str, x = .str a ∧ Q (.bl (decide (a = b))) H) ∨ ∃ p C dx fs, x = .ref p ∧ H p = some (.ins C dx fs) ∧ NoEq K C ∧ Q (.bl false) H)
theorem op_eqIS {X : Cx} (hu : X.A.units < cLine) : OpR X (compareOp .Eq) (rEqIS X.K) := by
  intro pins s σ H x y v u Q I rx ry h
  obtain ⟨b, rfl, h⟩ := h
  rcases h with ⟨a, rfl, q⟩ | ⟨p, C, dx, fs, rfl, hp, ne, q⟩
  · refine op_eq pins s σ H _ _ v u Q I rx ry ⟨rfl, ?_⟩
    rw [show decide (V.str a = V.str b) = decide (a = b) by simp]
    exact q
  · obtain ⟨t, rfl⟩ := ry
    obtain rfl : v = Value.ref p := rx
    obtain ⟨mA, O, _⟩ := ins_get I.hok hp
    obtain ⟨od, J, _⟩ := O.look
    show wpAny _ _ (richCompare .Eq _ _) _ _ _
    exact rc_strI hu I.kIn J O.obj ne.mro ne.find _ _ _ _ ⟨.bl false, H, I, rfl, q⟩
end Rw
namespace Rw
open PySem PySem.Spec PyProof.Rows L2 Evl Cy
/-- a day's row -/
def rowI (c : Ca) (n : Int) : List Int := [n, yearOf c n, ((dateM c n : Nat) : Int), dateD c n, c.md (yearOf c n) (dateM c n) - 1 - dateD c n, n - c.firstOf (yearOf c n), c.yearDays (yearOf c n) - 1 - (n - c.firstOf (yearOf c n)), c.weekday n]
def kR (K : PySem.W.Frag) (c : Ca) : Ty Int := ⟨fun H v n => (kT K kI).r H v (rowI c n), fun e h => (kT K kI).up e h⟩
/-- an answer, or the word of what was raised -/
def kRe {α : Type} (u : Ty α) : Ty (Re α) := ⟨fun H v r => match r with | .ok y => u.r H v y | .er i => v = .str (kindName i) ∧ i < 11, fun {H H' v r} e h => by
  cases r with
  | ok y => exact u.up e h
  | er i => exact h⟩
/-- a lambda that is told -/
def kLam {α : Type} (X : Cx) (cl : Nat → Addr) (k : Nat) (ag : L2.St → Prop) (u : Ty α) : Ty (Re α) := ⟨fun I v z => ∃ (f cc : Addr) (params : Arguments) (body : Expr) (scope : Scope) (tb : XK → TE), v = .ref f ∧ I f = some (LamC f (X.env.qual ++ "<lambda>") params body scope (cloFrom X.env.cells scope.names []) cc) ∧ I cc = some (LamX.CodeO cc (X.env.qual ++ "<lambda>")) ∧
    LamX.LamS X.env.scope scope ∧ (∀ (pm cv ctv : Value), bindArgs (PySem.W.kla_fn "<lambda>" (X.env.qual ++ "<lambda>") params body scope (cloFrom X.env.cells scope.names []) pm cv ctv) ⟨[], []⟩ = pure []) ∧
    (∀ (A : Around) (outer : List Env) (s : Shared) (H : Hp) (E : XK), Room k (A.deeper (LamX.lamEnv X scope s.heap.objs.size f cc)) → PE (LamX.lamCx X A outer s H E scope f cc) body (tb E)) ∧ (∀ i, z = .er i → i < 11) ∧
    ∀ E M S σ' I', Ex I I' → ag σ' → Em E cl M (tb E) σ' I' S u z S,
  fun e ⟨f, cc, params, body, scope, tb, h1, h2, h3, h4, h5, h6, h7, h9⟩ => ⟨f, cc, params, body, scope, tb, h1, e _ _ h2, e _ _ h3, h4, h5, h6, h7, fun E M S σ' I' e2 => h9 E M S σ' I' (e.trans e2)⟩⟩
theorem lam_r {α : Type} {u : Ty α} {z : Re α} {I : Hp} {cl : Nat → Addr} {X : Cx} {k : Nat} {ag : L2.St → Prop} {params : Arguments} {body : Expr} {scope : Scope} {tb : XK → TE} (h4 : LamX.LamS X.env.scope scope) (h5 : ∀ (pm cv ctv : Value), bindArgs (PySem.W.kla_fn "<lambda>" (X.env.qual ++ "<lambda>") params body scope (cloFrom X.env.cells scope.names []) pm cv ctv) ⟨[], []⟩ = pure [])
    (h6 : ∀ (f cc : Addr) (A : Around) (outer : List Env) (s : Shared) (H : Hp) (E : XK), Room k (A.deeper (LamX.lamEnv X scope s.heap.objs.size f cc)) → PE (LamX.lamCx X A outer s H E scope f cc) body (tb E)) (hi : ∀ i, z = .er i → i < 11) (h9 : ∀ E M S σ' I', Ex I I' → ag σ' → Em E cl M (tb E) σ' I' S u z S) :
    ∀ f cc I', Ex I I' → I' f = some (LamC f (X.env.qual ++ "<lambda>") params body scope (cloFrom X.env.cells scope.names []) cc) → I' cc = some (LamX.CodeO cc (X.env.qual ++ "<lambda>")) → (kLam X cl k ag u).r I' (.ref f) z := fun f cc I' e h2 h3 =>
  ⟨f, cc, params, body, scope, tb, rfl, h2, h3, h4, h5, h6 f cc, hi, fun E M S σ' I2 e2 => h9 E M S σ' I2 (e.trans e2)⟩
section
variable {K : PySem.W.Frag} {α β γ δ R τ : Type} {E E' : XK} {cl : Nat → Addr} {M : List Addr} {σ : L2.St} {I I' H H' : Hp} {S S' S1 S2 S3 : List Cell} {te ta tb tc to : TE} {tt : TT} {tr : TA} {t : Ty α} {u : Ty β} {w' : Ty γ} {v : V} {C D : Addr} {c : Ca} {n : Int} {x : α} {y : β}
theorem em_toldR {X : Cx} {k : Nat} {ag : L2.St → Prop} {z : Re β} (ha : Ea E' cl M tr σ I S (aC (kLam X cl k ag u) a0) (.ok (z, ())) S') (hag : ag σ) : Em E' cl M (tToldC X cl k tr) σ I S (kRe u) (.ok z) S' :=
  em_mk ha.ad fun H1 i w Q q => ea_of ha H1 i w _ fun vs H2 e w2 r => by
    obtain ⟨v, rs, rfl, ⟨f, cc, params, body, scope, tb, rfl, h2, h3, h4, h5, h6, h7, h9⟩, rfl⟩ := r
    exact ⟨f, cc, params, body, scope, tb, rfl, (del_some.mp h2).2, (del_some.mp h3).2, h4, h5, h6, (h9 (ETold cl Q) M S' σ (del M H2) (Ex.refl _) hag).run H2 (Ex.refl _) w2 Q (fun y v H3 ez e3 w3 r3 => q v H3 (ads_tr ha.ad e e3) w3 (by subst ez; exact r3)) fun k H3 ek e3 w3 => ⟨k, h7 k ek, rfl, q _ H3 (ads_tr ha.ad e e3) w3 (by subst ek; exact ⟨rfl, h7 _ rfl⟩)⟩⟩
theorem re_ok {z : Re β} {y : β} (e : z = .ok y) (r : (kRe u).r I v z) : u.r I v y := by subst e; exact r
theorem re_er {z : Re β} {i : Nat} (e : z = .er i) (r : (kRe u).r I v z) : v = .str (kindName i) := by subst e; exact r.1
theorem em_reS {z : Re β} {i : Nat} (e : z = .er i) (h : Em E cl M te σ I S (kRe u) (.ok z) S') : Em E cl M te σ I S kSo (.ok (kindName i)) S' :=
  em_mk h.ad fun H1 i1 w Q q => em_of h H1 i1 w _ fun v H2 e2 w2 r => q v H2 e2 w2 (by subst e; exact ⟨r.1, kind_ok _ r.2⟩)
theorem em_reS0 {z : Re β} {i : Nat} (e : z = .er i) (h : Em E cl M te σ I S (kRe u) (.ok z) S') : Em E cl M te σ I S kS (.ok (kindName i)) S' :=
  em_mk h.ad fun H1 i1 w Q q => em_of h H1 i1 w _ fun v H2 e2 w2 r => q v H2 e2 w2 (by subst e; exact r.1)
/-- rows -/
theorem kR_of (k : c.Ok) (h : (kRow K c).r H v n) : (kR K c).r H v n := by
  obtain ⟨t, y, m, d, rfl, ha, hs⟩ := h
  obtain ⟨rfl, rfl, rfl⟩ := ha.one k (date_at k n)
  exact ⟨t, _, rfl, hs, all_intsR (rowI c n)⟩
theorem em_rowsK (k : c.Ok) {xs : List Int} (h : Em E cl M te σ I S (kL K (kRow K c)) (.ok xs) S') : Em E cl M te σ I S (kL K (kR K c)) (.ok xs) S' :=
  em_mk h.ad fun H1 i w Q q => em_of h H1 i w _ fun v H2 e w2 r => q v H2 e w2 (by
    obtain ⟨p, vs, rfl, hp, ha⟩ := r
    exact ⟨p, vs, rfl, hp, ha.imp fun _ _ => kR_of k⟩)
theorem o_rowK {i : Int} {j : Nat} {z : Int} (h : (rowI c n)[j]? = some z) (hi : i = (j : Int)) : Op2 (rIxT K) (kR K c) n kI i kI z := fun M u w H l a b Q q =>
  o_ixT (K := K) (t := kI) (xs := rowI c n) h hi M u w H l a b Q q
def dR (k : Unit) : Dq K (kR K c) 1 := ⟨fun n => .tuple ((rowI c n).map PyData.int), fun h => (dT dI).dp h, fun n => (dT (K := K) (t := kI) dI).dep (rowI c n), fun n m => by
  rw [show (PyData.eqv (.tuple ((rowI c n).map PyData.int)) (.tuple ((rowI c m).map PyData.int)) = true ↔ rowI c n = rowI c m) from (dT (K := K) (t := kI) dI).eq (rowI c n) (rowI c m)]
  constructor
  · intro h
    exact (List.cons.inj h).1
  · intro h
    rw [h]⟩
theorem em_row1 (ha : Em E cl M ta σ I S (kR K c) (.ok n) S') : Em E cl M (tSl (rSlT K) ta (tPart (tC (.int 1))) tNoPart) σ I S (kT K kI) (.ok ((rowI c n).drop 1)) S' :=
  em_mk ha.ad fun H1 i w Q q => em_of ha H1 i w _ fun v1 H2 e1 w1 r1 => by
    obtain ⟨p, vs, rfl, hp, h⟩ := r1
    obtain rfl := all_ints h
    refine ⟨1, rfl, p, _, rfl, ex_t del_le hp, fun z => absurd (show (1 : Nat) = 0 from z.1) (by decide), fun q2 hq => q _ _ (e1.trans (ex_del (Ex.new hq))) (w1.ex (Ex.new hq)) ⟨q2, _, rfl, st_of (del_at (fresh_not w1.live hq) upd_same), show All2 (kI.r _) (((rowI c n).drop 1).map V.int) _ from all_intsR _⟩⟩
theorem em_row14 (ha : Em E cl M ta σ I S (kR K c) (.ok n) S') : Em E cl M (tSl (rSlT K) ta (tPart (tC (.int 1))) (tPart (tC (.int 4)))) σ I S (kT K kI) (.ok (((rowI c n).drop 1).take 3)) S' :=
  em_mk ha.ad fun H1 i w Q q => em_of ha H1 i w _ fun v1 H2 e1 w1 r1 => by
    obtain ⟨p, vs, rfl, hp, h⟩ := r1
    obtain rfl := all_ints h
    refine ⟨1, rfl, 4, rfl, p, _, rfl, ex_t del_le hp, fun z => absurd (show (1 : Nat) = 0 from z.1) (by decide), fun q2 hq => q _ _ (e1.trans (ex_del (Ex.new hq))) (w1.ex (Ex.new hq)) ⟨q2, _, rfl, st_of (del_at (fresh_not w1.live hq) upd_same), show All2 (kI.r _) ((((rowI c n).drop 1).take 3).map V.int) _ from all_intsR _⟩⟩
theorem rng_get {f i : Int} (h : 0 ≤ i ∧ i < f) : (rng 0 f)[i.toNat]? = some i := by
  unfold rng
  rw [List.getElem?_map, List.getElem?_range (by omega)]
  show some ((0 : Int) + ((i.toNat : Nat) : Int)) = some i
  congr 1
  omega
theorem o_ixR {f i : Int} (h : 0 ≤ i ∧ i < f) : Op2 (rIxL K) (kL K (kR K c)) (rng 0 f) kI i (kR K c) i := o_ixL (n := i.toNat) (rng_get h) (by omega)
/-- free == 'day', then that word, or the day's number -/
theorem em_mine {j : Nat} {z : Re (Ca × Int)} (T : DayT K D) (ne : NoEq K D) (hσ : σ[j]? = some (some v)) (r : (kRe (kDay K C D)).r I v z) (hz : ∀ i, z = .er i → i = 1) :
    Em E cl M (tIf (tTest (tOp (rEqIS K) (tVar j) (tC (.str "day")))) (tC (.str "day")) (tFld K (tVar j) "number")) σ I S (kRe kI) (.ok (z.bind fun x => .ok x.2)) S :=
  em_mk rfl fun H1 i w Q q => by
    have r1 := (kRe (kDay K C D)).up i r
    cases z with
    | er k =>
      obtain rfl := hz k rfl
      obtain ⟨rfl, _⟩ := r1
      exact ⟨_, hσ, "day", rfl, .inl ⟨_, rfl, decide (kindName 1 = "day"), rfl, by
        rw [show decide (kindName 1 = "day") = true by decide +kernel]
        dsimp only
        rw [if_pos rfl]
        exact q _ H1 (Ex.refl _) w ⟨by show V.str "day" = V.str (kindName 1); rfl, by decide⟩⟩⟩
    | ok x =>
      obtain ⟨p, dx, a, rfl, h1, _⟩ := r1
      exact ⟨_, hσ, "day", rfl, .inr ⟨p, D, dx, _, rfl, (del_some.mp h1).2, ne, false, rfl, by
        dsimp only
        rw [if_neg Bool.false_ne_true]
        exact ⟨_, hσ, p, D, dx, _, _, rfl, (del_some.mp h1).2, T.cls, T.num, rfl, q _ H1 (Ex.refl _) w rfl⟩⟩⟩
instance reDec {α : Type} [DecidableEq α] : DecidableEq (Re α) := fun a b => match a, b with
  | .ok x, .ok y => if h : x = y then isTrue (by rw [h]) else isFalse (fun e => h (by cases e; rfl))
  | .er i, .er j => if h : i = j then isTrue (by rw [h]) else isFalse (fun e => h (by cases e; rfl))
  | .ok _, .er _ => isFalse (fun e => nomatch e)
  | .er _, .ok _ => isFalse (fun e => nomatch e)
/-- numbers or the word 'day' compared -/
theorem o_neRe {a b : Re Int} (ha : ∀ i, a = .er i → i = 1) (hb : ∀ i, b = .er i → i = 1) : Op2 rNe (kRe kI) a (kRe kI) b kB (!decide (a = b)) := fun M v1 v2 H l r1 r2 Q q => by
  cases a with
  | ok i =>
    obtain rfl : v1 = .int i := r1
    cases b with
    | ok j =>
      obtain rfl : v2 = .int j := r2
      exact ⟨rfl, q _ H (Ex.refl H) (by show V.bl _ = V.bl _; congr 1 <;> simp)⟩
    | er j =>
      obtain ⟨rfl, _⟩ := r2
      exact ⟨rfl, q _ H (Ex.refl H) (by show V.bl _ = V.bl _; congr 1 <;> simp)⟩
  | er i =>
    obtain rfl := ha i rfl
    obtain ⟨rfl, _⟩ := r1
    cases b with
    | ok j =>
      obtain rfl : v2 = .int j := r2
      exact ⟨rfl, q _ H (Ex.refl H) (by show V.bl _ = V.bl _; congr 1 <;> simp)⟩
    | er j =>
      obtain rfl := hb j rfl
      obtain ⟨rfl, _⟩ := r2
      exact ⟨rfl, q _ H (Ex.refl H) (by show V.bl _ = V.bl _; congr 1 <;> simp)⟩
theorem em_ok {t : Ty α} (h : Em E cl M te σ I S t (.ok x) S') : Em E cl M te σ I S (kRe t) (.ok (.ok x)) S' := em_ty h fun _ _ r => r
theorem em_day : Em E cl M (tC (.str "day")) σ I S (kRe (α := α) t) (.ok (.er 1)) S := em_c ⟨rfl, by decide⟩
/-- lists as they were just made -/
def kX (t : Ty α) : Ty (List α) := ⟨fun H v xs => ∃ p vs, v = .ref p ∧ H p = some (.lst vs) ∧ All2 (t.r H) vs xs, fun e ⟨p, vs, a, b, c⟩ => ⟨p, vs, a, e _ _ b, all2_up t e c⟩⟩
theorem em_lstX {xs : List α} (h : Ea E cl M tr σ I S (aL t) (.ok xs) S') (hl : xs.length ≤ 100000) : Em E cl M (tLst tr) σ I S (kX t) (.ok xs) S' :=
  em_mk h.ad fun H1 i w Q q => ea_of h H1 i w _ fun vs H2 e w1 r => ⟨sz_of (by rw [r.len]; exact hl), fun p hp => q _ _ (e.trans (ex_del (Ex.new hp))) (w1.ex (Ex.new hp)) ⟨p, vs, rfl, del_at (fresh_not w1.live hp) upd_same, all2_up t (ex_del (Ex.new hp)) r⟩⟩
theorem o_catX {xs ys : List α} (hl : xs.length + ys.length ≤ 100000) : Op2 rCat (kX t) xs (kX t) ys (kL K t) (xs ++ ys) := fun M u w H l a b Q q => by
  obtain ⟨p, vs, rfl, hp, ha⟩ := a
  obtain ⟨p2, ws, rfl, hp2, hb⟩ := b
  exact ⟨p, p2, vs, ws, rfl, rfl, (del_some.mp hp).2, (del_some.mp hp2).2, sz_of (by rw [ha.len, hb.len]; exact hl), fun q2 hq => q _ _ (Ex.new hq) ⟨q2, _, rfl, sq_of (del_at (fresh_not l hq) upd_same), all2_up t (ex_del (Ex.new hq)) (ha.app hb)⟩⟩
end
end Rw
namespace Rw
open PySem PySem.Spec PyProof.Rows L2 Evl Cy
def nthList (c : Ca) (y m wd : Int) : List Int := ((rng (numAt c y m.toNat 0) (numAt c y m.toNat 0 + Ca.md c y m.toNat)).filter (fun x => decide (Ca.weekday c x = wd))).map (fun x => x)
theorem cond_er {α : Type} {b : Bool} {i k : Nat} {r : Re α} (h : cond b (.er k) r = .er i) (hk : k < 11) (hr : r = .er i → i < 11) : i < 11 := by
  cases b with
  | true => cases h; exact hk
  | false => exact hr h
theorem date_ok {c : Ca} (k : c.Ok) (n : Int) : 0 ≤ ((dateM c n : Nat) : Int) ∧ ((dateM c n : Nat) : Int) < (List.length (Ca.months c) : Int) ∧ 0 ≤ dateD c n ∧ dateD c n < c.md (yearOf c n) (((dateM c n : Nat) : Int)).toNat := by
  obtain ⟨a, b, d, _⟩ := date_at k n
  exact ⟨by omega, by omega, b, d⟩
theorem first12 {c : Ca} (k : c.Ok) (tiny : Tiny c) : 12 ≤ c.firstOf 6 ∧ c.firstOf 6 ≤ 96 ∧ c.firstOf 6 ≤ c.firstOf 12 ∧ c.firstOf 12 ≤ 192 := by
  have f0 := Ca.first_zero k
  have g0 := first_grow k tiny 0
  have g1 := first_grow k tiny 1
  have g2 := first_grow k tiny 2
  have g3 := first_grow k tiny 3
  have g4 := first_grow k tiny 4
  have g5 := first_grow k tiny 5
  have g6 := first_grow k tiny 6
  have g7 := first_grow k tiny 7
  have g8 := first_grow k tiny 8
  have g9 := first_grow k tiny 9
  have g10 := first_grow k tiny 10
  have g11 := first_grow k tiny 11
  simp only [show (0 : Int) + 1 = 1 by rfl, show (1 : Int) + 1 = 2 by rfl, show (2 : Int) + 1 = 3 by rfl, show (3 : Int) + 1 = 4 by rfl, show (4 : Int) + 1 = 5 by rfl, show (5 : Int) + 1 = 6 by rfl, show (6 : Int) + 1 = 7 by rfl, show (7 : Int) + 1 = 8 by rfl, show (8 : Int) + 1 = 9 by rfl, show (9 : Int) + 1 = 10 by rfl, show (10 : Int) + 1 = 11 by rfl, show (11 : Int) + 1 = 12 by rfl] at *
  omega
theorem rng_app {a b d : Int} (h1 : a ≤ b) (h2 : b ≤ d) : rng a d = rng a b ++ rng b d := by
  unfold rng
  rw [show (d - a).toNat = (b - a).toNat + (d - b).toNat by omega, List.range_add, List.map_append, List.map_map]
  congr 1
  apply List.map_congr_left
  intro k _
  show a + ((((b - a).toNat + k : Nat)) : Int) = b + (k : Int)
  omega
theorem filter_cut {a b lo hi : Int} {p q : Int → Bool} (h1 : a ≤ lo) (h2 : lo ≤ hi) (h3 : hi ≤ b) (hp : ∀ x, a ≤ x → x < b → p x = (decide (lo ≤ x ∧ x < hi) && q x)) : (rng a b).filter p = (rng lo hi).filter q := by
  rw [rng_app h1 (Int.le_trans h2 h3), rng_app h2 h3, List.filter_append, List.filter_append]
  have e1 : (rng a lo).filter p = [] := by
    rw [List.filter_eq_nil_iff]
    intro x hx
    rw [rng_mem] at hx
    rw [hp x hx.1 (by omega), decide_eq_false (by omega)]
    simp
  have e3 : (rng hi b).filter p = [] := by
    rw [List.filter_eq_nil_iff]
    intro x hx
    rw [rng_mem] at hx
    rw [hp x (by omega) hx.2, decide_eq_false (by omega)]
    simp
  have e2 : (rng lo hi).filter p = (rng lo hi).filter q := by
    apply List.filter_congr
    intro x hx
    rw [rng_mem] at hx
    rw [hp x (by omega) (by omega), decide_eq_true ⟨hx.1, hx.2⟩, Bool.true_and]
  rw [e1, e2, e3, List.nil_append, List.append_nil]
/-- a month's days -/
theorem month_is {c : Ca} (k : c.Ok) {y : Int} {m : Nat} (hm : m < c.months.length) (x : Int) : (yearOf c x = y ∧ dateM c x = m) ↔ (numAt c y m 0 ≤ x ∧ x < numAt c y m 0 + c.md y m) := by
  constructor
  · rintro ⟨rfl, rfl⟩
    obtain ⟨a, b, d, e⟩ := date_at k x
    unfold numAt
    omega
  · intro h
    unfold numAt at h
    have a : c.At x y m (x - c.firstOf y - c.ahead y m) := ⟨hm, by omega, by omega, by omega⟩
    obtain ⟨e1, e2, _⟩ := (date_at k x).one k a
    exact ⟨e1, e2⟩
theorem num_date {c : Ca} (k : c.Ok) {y d : Int} {m : Nat} (hm : m < c.months.length) (h0 : 0 ≤ d) (h1 : d < c.md y m) : yearOf c (numAt c y m d) = y ∧ dateM c (numAt c y m d) = m ∧ dateD c (numAt c y m d) = d := by
  have a : c.At (numAt c y m d) y m d := ⟨hm, h0, h1, rfl⟩
  exact (date_at k _).one k a
/-- a year's months lie in it -/
theorem month_in {c : Ca} (k : c.Ok) {y : Int} {m : Nat} (hm : m < c.months.length) : c.firstOf y ≤ numAt c y m 0 ∧ numAt c y m 0 + c.md y m ≤ c.firstOf (y + 1) := by
  have p := Ca.md_pos k y hm
  have a : c.At (numAt c y m 0) y m 0 := ⟨hm, Int.le_refl _, by omega, rfl⟩
  have b : c.At (numAt c y m 0 + c.md y m - 1) y m (c.md y m - 1) := ⟨hm, by omega, by omega, by unfold numAt; omega⟩
  have := a.year k
  have := b.year k
  omega
theorem year_rng {c : Ca} (k : c.Ok) {n l : Int} (h0 : 0 ≤ n) (h1 : n < c.firstOf l) : 0 ≤ yearOf c n ∧ yearOf c n < l := by
  obtain ⟨a, b⟩ := yearOf_spec k n
  have f0 := Ca.first_zero k
  constructor
  · rcases Int.lt_or_le (yearOf c n) 0 with q | q
    · have := first_le2 k (show yearOf c n + 1 ≤ 0 by omega)
      omega
    · exact q
  · rcases Int.lt_or_le (yearOf c n) l with q | q
    · exact q
    · have := first_le2 k q
      omega
theorem inside_is {c : Ca} (k : c.Ok) {n wd l : Int} (h0 : 0 ≤ n) (h1 : n < c.firstOf l) : ((rng 0 (c.firstOf l)).filter (fun x => (decide (yearOf c x = yearOf c n) && (decide (((dateM c x : Nat) : Int) = ((dateM c n : Nat) : Int)) && decide (Ca.weekday c x = wd))))).map (fun x => x) = nthList c (yearOf c n) ((dateM c n : Nat) : Int) wd := by
  have hm := (date_at k n).m1
  obtain ⟨y0, y1⟩ := year_rng k h0 h1
  obtain ⟨a, b⟩ := month_in k (y := yearOf c n) hm
  have f0 := Ca.first_zero k
  have l1 := first_le2 k y0
  have l2 := first_le2 k (show yearOf c n + 1 ≤ l by omega)
  have p := Ca.md_pos k (yearOf c n) hm
  unfold nthList
  rw [Int.toNat_natCast]
  congr 1
  refine filter_cut (by omega) (by omega) (by omega) fun x _ _ => ?_
  have e := month_is k hm (y := yearOf c n) x
  by_cases q : numAt c (yearOf c n) (dateM c n) 0 ≤ x ∧ x < numAt c (yearOf c n) (dateM c n) 0 + c.md (yearOf c n) (dateM c n)
  · obtain ⟨e1, e2⟩ := e.mpr q
    rw [decide_eq_true q, e1, e2]
    simp
  · rw [decide_eq_false q, Bool.false_and]
    have nq : ¬ (yearOf c x = yearOf c n ∧ dateM c x = dateM c n) := fun z => q (e.mp z)
    by_cases e1 : yearOf c x = yearOf c n
    · have e2 : ¬ ((dateM c x : Nat) : Int) = ((dateM c n : Nat) : Int) := fun z => nq ⟨e1, by omega⟩
      rw [decide_eq_false e2]
      simp
    · rw [decide_eq_false e1]
      simp
theorem nrm {tz : TS} {D : Ends} {σ σ' : L2.St} {H : Hp} (h : σ = σ') (k : tz D σ' H) : tz D σ H := by rw [h]; exact k
/-- what follows is shown once -/
theorem g_ifR {tt : TT} {tu tw tz : TS} {D : Ends} {σ : L2.St} {H : Hp} (Rel : L2.St → Hp → Prop) (hr : ∀ σ' H', Rel σ' H' → tz D σ' H') (hb : (∀ σ' H', Rel σ' H' → tz D σ' H') → tSeq (tIfS tt tu tw) tz D σ H) : tSeq (tIfS tt tu tw) tz D σ H := hb hr
theorem call_len_seqK {X : Cx} {K : PySem.W.Frag} (h : X.K = K := by rfl) : CallR X (.builtin "len") (fun xs H Q => ∃ p ys, xs = [.ref p] ∧ (SqL K H p ys ∨ SqT K H p ys) ∧ Q (.int ys.length) H) := by
  subst h
  exact call_len_seq
theorem o_ixLG {K : PySem.W.Frag} {α : Type} {t : Ty α} {xs : List α} {i : Int} {z : α} (h : 0 ≤ i ∧ i < (xs.length : Int)) : Op2 (rIxL K) (kL K t) xs kI i t (xs.getD i.toNat z) :=
  o_ixL (n := i.toNat) (by rw [List.getD_eq_getElem?_getD, List.getElem?_eq_getElem (show i.toNat < xs.length by omega)]; rfl) (by omega)
end Rw

namespace Rw
open PySem PySem.Spec PyProof.Rows L2 Evl
/-! ### objects of the program's own classes, by their fields -/
def kOb {β : Type} (C : Addr) (R : Hp → List (Str × V) → β → Prop) (up : ∀ {H H' : Hp} {fs : List (Str × V)} {b : β}, Ex H H' → R H fs b → R H' fs b) : Ty β :=
  ⟨fun H v b => ∃ x dx fs, v = .ref x ∧ H x = some (.ins C dx fs) ∧ R H fs b, fun e ⟨x, dx, fs, a, b, c⟩ => ⟨x, dx, fs, a, e _ _ b, up e c⟩⟩
/-- an object in the making, or one that changes: its fields as they stand -/
def cIns (x D dx : Addr) (fs : List (Str × V)) : Cell := ⟨x, List (Str × V), fun _ o l => o = .ins D dx l, fun _ h => h, fs⟩
def UpA {α : Type} (A : AR α) : Prop := ∀ {H H' : Hp} {vs : List V} {a : α}, Ex H H' → A H vs a → A H' vs a
theorem up_a0 : UpA a0 := fun _ h => h
theorem up_aC {α β : Type} {t : Ty α} {A : AR β} (u : UpA A) : UpA (aC t A) := fun e ⟨v, r, h1, h2, h3⟩ => ⟨v, r, h1, t.up e h2, u e h3⟩
/-- __init__ of a class whose objects change no more: its arguments, what it asks, what it makes -/
def spIni {α β : Type} (C : Addr) (A : AR α) (pre : α → Prop) (f : α → Re β) (R : Hp → List (Str × V) → β → Prop) (cl : Nat → Addr) : Sp := fun vs H Q E => ∃ M x dx ws a, vs = .ref x :: ws ∧ x ∈ M ∧ (∀ m ∈ M, H m ≠ none) ∧ H x = some (.ins C dx []) ∧ A (del M H) ws a ∧ pre a ∧
  (∀ b fs H', f a = .ok b → H' x = some (.ins C dx fs) → Ex (del [x] H) (del [x] H') → R (del M H') fs b → Q .non H') ∧ (∀ k H', f a = .er k → Ex (del [x] H) (del [x] H') → E (.ref (cl k)) none H')
theorem putF_le {f : Str} {v : V} {n : Nat} : ∀ {fs : List (Str × V)}, fs.length ≤ n → (putF f v fs).length ≤ n + 1
  | [], _ => by show 1 ≤ _; omega
  | (g, y) :: r, h => by
    unfold putF
    split
    · exact Nat.le_succ_of_le h
    · cases n with
      | zero => simp at h
      | succ n => exact Nat.succ_le_succ (putF_le (by simpa using h))
section
variable {K : PySem.W.Frag} {α β γ δ R τ : Type} {E E' : XK} {cl : Nat → Addr} {M : List Addr} {σ : L2.St} {I I' H H' : Hp} {S S' S1 S2 S3 : List Cell} {te ta tb tc to tv : TE} {tt : TT} {tr : TA} {t : Ty α} {u : Ty β} {C x dx : Addr} {fs : List (Str × V)} {nm : Str} {v : V} {D : Ends} {tz : TS}
theorem em_mkOb {α' : Type} {A : AR α'} {B : AR γ} {a : α'} {b' : γ} {pre : α' → Prop} {f : α' → Re β} {Rr : Hp → List (Str × V) → β → Prop} {up : ∀ {H H' : Hp} {fs : List (Str × V)} {b : β}, Ex H H' → Rr H fs b → Rr H' fs b} {dvs : List V}
    (h : Ea E' cl M tr σ I S B (.ok b') S') (hA : ∀ H vs, B H vs b' → A H (vs ++ dvs) a) (uA : UpA A) (hp : pre a) : Em E' cl M (tMake C (spIni C A pre f Rr cl) dvs E' tr) σ I S (kOb C Rr up) (f a) S' :=
  ⟨h.ad, fun H1 i w Q q qe => ea_of h H1 i w _ fun vs H2 e2 w2 r2 => by
    refine fun x dx nx nd ne => ?_
    have eN : Ex H2 (upd (upd H2 dx (.own x)) x (.ins C dx [])) := (Ex.new nd).trans (Ex.new (by rw [upd_ne (Ne.symm ne)]; exact nx))
    have xM : x ∉ M := fun z => w2.live _ z nx
    have e3 : ∀ H', Ex (del [x] (upd (upd H2 dx (.own x)) x (.ins C dx []))) (del [x] H') → Ex H2 H' := fun H' eB b o e => by
      have hb : b ≠ x := fun z => by rw [z, nx] at e; cases e
      exact (del_some.mp (eB b o (del_some.mpr ⟨by simp [hb], eN _ _ e⟩))).2
    refine ⟨x :: M, x, dx, vs ++ dvs, a, rfl, List.mem_cons_self, fun m hm => ?_, upd_same, uA ((del_new nx).trans (ex_del eN)) (hA _ _ r2), hp, fun b fs H' hf hx eB hR => ⟨rfl, ?_⟩, fun k H' hf eB => ?_⟩
    · rcases List.mem_cons.mp hm with z | z
      · rw [z, upd_same]; exact fun z => nomatch z
      · cases h2 : H2 m with
        | none => exact absurd h2 (w2.live m z)
        | some o => rw [eN m o h2]; exact fun z => nomatch z
    · exact q b _ H' hf (e2.trans (ex_del (e3 H' eB))) (w2.ex (e3 H' eB)) ⟨x, dx, fs, rfl, del_at xM hx, up del_free hR⟩
    · exact qe k H' hf (e2.trans (ex_del (e3 H' eB))) (w2.ex (e3 H' eB))⟩
theorem em_mkObP {α' : Type} {A : AR α'} {B : AR γ} {a : α'} {b' : γ} {y : β} {pre : α' → Prop} {f : α' → Re β} {Rr : Hp → List (Str × V) → β → Prop} {up : ∀ {H H' : Hp} {fs : List (Str × V)} {b : β}, Ex H H' → Rr H fs b → Rr H' fs b} {dvs : List V}
    (h : Ea E cl M tr σ I S B (.ok b') S') (hA : ∀ H vs, B H vs b' → A H (vs ++ dvs) a) (uA : UpA A) (hp : pre a) (hf : f a = .ok y) : Em E cl M (tMake C (spIni C A pre f Rr cl) dvs E' tr) σ I S (kOb C Rr up) (.ok y) S' :=
  em_mk h.ad fun H1 i w Q q => ea_of h H1 i w _ fun vs H2 e2 w2 r2 => by
    refine fun x dx nx nd ne => ?_
    have eN : Ex H2 (upd (upd H2 dx (.own x)) x (.ins C dx [])) := (Ex.new nd).trans (Ex.new (by rw [upd_ne (Ne.symm ne)]; exact nx))
    have xM : x ∉ M := fun z => w2.live _ z nx
    have e3 : ∀ H', Ex (del [x] (upd (upd H2 dx (.own x)) x (.ins C dx []))) (del [x] H') → Ex H2 H' := fun H' eB b o e => by
      have hb : b ≠ x := fun z => by rw [z, nx] at e; cases e
      exact (del_some.mp (eB b o (del_some.mpr ⟨by simp [hb], eN _ _ e⟩))).2
    refine ⟨x :: M, x, dx, vs ++ dvs, a, rfl, List.mem_cons_self, fun m hm => ?_, upd_same, uA ((del_new nx).trans (ex_del eN)) (hA _ _ r2), hp, fun b fs H' hf' hx eB hR => ⟨rfl, ?_⟩, fun k H' hf' eB => ?_⟩
    · rcases List.mem_cons.mp hm with z | z
      · rw [z, upd_same]; exact fun z => nomatch z
      · cases h2 : H2 m with
        | none => exact absurd h2 (w2.live m z)
        | some o => rw [eN m o h2]; exact fun z => nomatch z
    · rw [hf] at hf'
      cases hf'
      exact q _ H' (e2.trans (ex_del (e3 H' eB))) (w2.ex (e3 H' eB)) ⟨x, dx, fs, rfl, del_at xM hx, up del_free hR⟩
    · rw [hf] at hf'; cases hf'
/-- o.nm of an object -/
theorem em_obF {b : β} {y : α} {Rr : Hp → List (Str × V) → β → Prop} {up : ∀ {H H' : Hp} {fs : List (Str × V)} {b : β}, Ex H H' → Rr H fs b → Rr H' fs b} (hc : Cls K C) (hn : NoAttr K C nm) (hl : ∀ H fs, Rr H fs b → ∃ v, fs.lookup nm = some v ∧ t.r H v y) (h : Em E cl M to σ I S (kOb C Rr up) (.ok b) S') : Em E cl M (tFld K to nm) σ I S t (.ok y) S' :=
  em_mk h.ad fun H1 i w Q q => em_of h H1 i w _ fun v H2 e w2 r => by
    obtain ⟨x, dx, fs, rfl, h1, h2⟩ := r
    obtain ⟨v, h3, h4⟩ := hl _ _ h2
    exact ⟨x, C, dx, fs, v, rfl, (del_some.mp h1).2, hc, hn, h3, q v H2 e w2 h4⟩
/-- self.nm, self in the making -/
theorem em_cellF {n : Nat} {y : α} (ho : Em E cl M to σ I S (kPtr x) (.ok ()) S) (hk : S[n]? = some (cIns x C dx fs)) (hc : Cls K C) (hn : NoAttr K C nm) (hl : fs.lookup nm = some v) (r : t.r I v y) : Em E cl M (tFld K to nm) σ I S t (.ok y) S :=
  em_mk ho.ad fun H1 i w Q q => em_of ho H1 i w _ fun v' H2 e w2 r' => by
    obtain rfl : v' = .ref x := r'
    obtain ⟨_, o, h1, h2⟩ := w2.at_ _ (List.mem_of_getElem? hk)
    obtain rfl : o = .ins C dx fs := h2
    exact ⟨x, C, dx, fs, v, rfl, h1, hc, hn, hl, q v H2 e w2 (t.up (i.trans (w.grow e)) r)⟩
/-- self.nm = e -/
theorem g_fld {n : Nat} {y : α} (w : Holds M S H) (h : Em E cl M tv σ (del M H) S t (.ok y) S1) (ho : Em E cl M to σ (del M H) S1 (kPtr x) (.ok ()) S1) (hk : S1[n]? = some (cIns x C dx fs)) (hc : Cls K C) (hn : NoAttr K C nm) (hl : fs.length < 1000)
    (k : ∀ v H2, Gr M S H H2 → Holds M (S1.set n (cIns x C dx (putF nm v fs))) H2 → t.r (del M H2) v y → tz D σ H2) : tSeq (sFld K to tv nm) tz D σ H :=
  em_of h H (Ex.refl _) w _ fun v H2 e w2 r => em_of ho H2 (w.grow e) w2 _ fun v' H3 e3 w3 r' => by
    obtain rfl : v' = .ref x := r'
    obtain ⟨hM, o, h1, h2⟩ := w3.at_ _ (List.mem_of_getElem? hk)
    obtain rfl : o = .ins C dx fs := h2
    have w4 : Holds M (S1.set n (cIns x C dx (putF nm v fs))) (upd H3 x (.ins C dx (putF nm v fs))) := w3.put (c := cIns x C dx fs) (c' := cIns x C dx (putF nm v fs)) hk rfl rfl
    have xs : x ∈ ads S := by
      have : x ∈ ads S1 := List.mem_map.mpr ⟨_, List.mem_of_getElem? hk, rfl⟩
      rw [h.ad] at this
      exact this
    have e4 : Ex (del (ads S) H3) (del (ads S) (upd H3 x (.ins C dx (putF nm v fs)))) := by rw [del_upd xs]; exact Ex.refl _
    have e03 : Ex (del (ads S) H) (del (ads S) H3) := ads_tr h.ad e e3
    refine ⟨x, C, dx, fs, rfl, h1, hc, hn, hl, k v _ (.of w (e03.trans e4)) w4 ?_⟩
    rw [del_upd (show x ∈ M from hM)]
    exact t.up (w2.grow e3) r
theorem g_fldL {n : Nat} {y : α} (w : Holds M S H) (h : Em E cl M tv σ (del M H) S t (.ok y) S1) (ho : Em E cl M to σ (del M H) S1 (kPtr x) (.ok ()) S1) (hk : S1[n]? = some (cIns x C dx fs)) (hc : Cls K C) (hn : NoAttr K C nm) (hl : fs.length < 1000)
    (k : ∀ v H2, Gr M S H H2 → Holds M (S1.set n (cIns x C dx (putF nm v fs))) H2 → t.r (del M H2) v y → D.nx σ H2) : sFld K to tv nm D σ H :=
  g_fld (tz := fun D σ H => D.nx σ H) (D := D) w h ho hk hc hn hl k
theorem pe_GI {X : Cx} {pos : Pos} {x : Str} {i : Int} (h : ∃ t, X.mg x = some (.int i t)) (hg : Gl X x := by rfl) (hd : (x == "__debug__") = false := by rfl) : PE X (.Name x pos) (tC (.int i)) :=
  let ⟨t, e⟩ := h
  pe_glob hg e ⟨t, rfl⟩ hd
theorem o_tupT {K : PySem.W.Frag} {α : Type} {t : Ty α} {xs : List α} : OpN (fun xs H Q => ∃ p ys, xs = [.ref p] ∧ ((SqL K H p ys ∧ ∀ l, H l = none → Q (.ref l) (upd H l (.tup ys))) ∨ (SqT K H p ys ∧ Q (.ref p) H))) (aC (kT K t) a0) (xs, ()) (kT K t) xs := fun M us H l a Q q => by
  obtain ⟨v, r, rfl, ⟨p, vs, rfl, hp, ha⟩, rfl⟩ := a
  exact ⟨p, vs, rfl, .inr ⟨ex_t del_le hp, q _ H (Ex.refl H) ⟨p, vs, rfl, hp, ha⟩⟩⟩
theorem o_tup2 {K : PySem.W.Frag} {α β : Type} {t : Ty α} {u : Ty β} {x : α × β} : OpN (fun xs H Q => ∃ p ys, xs = [.ref p] ∧ ((SqL K H p ys ∧ ∀ l, H l = none → Q (.ref l) (upd H l (.tup ys))) ∨ (SqT K H p ys ∧ Q (.ref p) H))) (aC (k2 K t u) a0) (x, ()) (k2 K t u) x := fun M us H l a Q q => by
  obtain ⟨v, r, rfl, ⟨p, v1, v2, rfl, hp, ha⟩, rfl⟩ := a
  exact ⟨p, _, rfl, .inr ⟨ex_t del_le hp, q _ H (Ex.refl H) ⟨p, v1, v2, rfl, hp, ha⟩⟩⟩
end
end Rw
namespace Rw
open PySem PySem.Spec PyProof.Rows L2 Evl
section
variable {K : PySem.W.Frag} {α β γ δ R τ : Type} {E E' : XK} {cl : Nat → Addr} {M : List Addr} {σ : L2.St} {I I' H H' : Hp} {S S' S1 S2 S3 : List Cell} {te ta tb tc to tv : TE} {tt : TT} {tr tk : TA} {t : Ty α} {u : Ty β} {w' : Ty γ} {C x dx : Addr} {D : Ends} {tz : TS}
theorem cond_ok {b : Bool} {x y : α} : cond b (Re.ok x) (Re.ok y) = Re.ok (cond b x y) := by cases b <;> rfl
theorem args_mG {t : Ty α} {A : AR β} {x : α} {b : β} : ∀ (H : Hp) (v : V) (vs : List V), t.r H v x → A H vs b → aC t A H (v :: (vs ++ [])) (x, b) := fun H v vs r h => ⟨v, vs ++ [], rfl, r, by rw [List.append_nil]; exact h⟩
theorem em_2T {x y : α} (h : Em E cl M te σ I S (k2 K t t) (.ok (x, y)) S') : Em E cl M te σ I S (kT K t) (.ok [x, y]) S' :=
  em_ty h fun H v ⟨p, a, b, e, s, ra, rb⟩ => ⟨p, [a, b], e, s, .cons ra (.cons rb .nil)⟩
theorem em_3T {x y z : α} (h : Em E cl M te σ I S (k3 K t t t) (.ok (x, y, z)) S') : Em E cl M te σ I S (kT K t) (.ok [x, y, z]) S' :=
  em_ty h fun H v ⟨p, a, b, c, e, s, ra, rb, rc⟩ => ⟨p, [a, b, c], e, s, .cons ra (.cons rb (.cons rc .nil))⟩
theorem o_catT {xs ys : List α} (h : xs ≠ []) (hl : xs.length + ys.length ≤ 100000) : Op2 (rCatT K) (kT K t) xs (kT K t) ys (kT K t) (xs ++ ys) := fun M v1 v2 H l a b Q q => by
  obtain ⟨p, vs, rfl, hp, ha⟩ := a
  obtain ⟨p2, vs2, rfl, hp2, ha2⟩ := b
  exact ⟨p, p2, vs, vs2, rfl, rfl, ex_t del_le hp, ex_t del_le hp2, (fun z => by subst z; cases ha; exact h rfl), sz_of (by rw [ha.len, ha2.len]; exact hl), (fun z => by subst z; cases ha2; exact q _ H (Ex.refl H) ⟨p, vs, rfl, hp, by rw [List.append_nil]; exact ha⟩), fun _ q2 hq => q _ _ (Ex.new hq) ⟨q2, _, rfl, st_of (del_at (fresh_not l hq) upd_same), all2_up t (ex_del (Ex.new hq)) (ha.app ha2)⟩⟩
theorem o_catL {xs ys : List α} (hl : xs.length + ys.length ≤ 100000) (hX : ∀ (M : List Addr) (H : Hp) (v : V), (kL K t).r (del M H) v xs → ∃ p vs, v = .ref p ∧ H p = some (.lst vs) ∧ All2 (t.r (del M H)) vs xs) (hY : ∀ (M : List Addr) (H : Hp) (v : V), (kL K t).r (del M H) v ys → ∃ p vs, v = .ref p ∧ H p = some (.lst vs) ∧ All2 (t.r (del M H)) vs ys) : Op2 rCat (kL K t) xs (kL K t) ys (kL K t) (xs ++ ys) := fun M u w H l a b Q q => by
  obtain ⟨p, vs, rfl, hp, ha⟩ := hX _ _ _ a
  obtain ⟨p2, ws, rfl, hp2, hb⟩ := hY _ _ _ b
  exact ⟨p, p2, vs, ws, rfl, rfl, hp, hp2, sz_of (by rw [ha.len, hb.len]; exact hl), fun q2 hq => q _ _ (Ex.new hq) ⟨q2, _, rfl, sq_of (del_at (fresh_not l hq) upd_same), all2_up t (ex_del (Ex.new hq)) (ha.app hb)⟩⟩
theorem em_kXL {xs : List α} (h : Em E cl M te σ I S (kX t) (.ok xs) S') : Em E cl M te σ I S (kL K t) (.ok xs) S' :=
  em_ty h fun H v ⟨p, vs, e, s, r⟩ => ⟨p, vs, e, sq_of s, r⟩
theorem o_tupL {K : PySem.W.Frag} {α : Type} {t : Ty α} {xs : List α} : OpN (fun xs H Q => ∃ p ys, xs = [.ref p] ∧ ((SqL K H p ys ∧ ∀ l, H l = none → Q (.ref l) (upd H l (.tup ys))) ∨ (SqT K H p ys ∧ Q (.ref p) H))) (aC (kL K t) a0) (xs, ()) (kT K t) xs := fun M us H l a Q q => by
  obtain ⟨v, r, rfl, ⟨p, vs, rfl, hp, ha⟩, rfl⟩ := a
  exact ⟨p, vs, rfl, .inl ⟨ex_l del_le hp, mk_tup l ha q⟩⟩
/-! ### least and greatest -/
def minOf (l : List Int) : Int := l.foldl min (l.headD 0)
theorem fold_min : ∀ (l : List Int) (a : Int), l.foldl min a ≤ a ∧ (∀ x ∈ l, l.foldl min a ≤ x) ∧ (l.foldl min a = a ∨ l.foldl min a ∈ l)
  | [], a => ⟨Int.le_refl _, fun x h => (by cases h), .inl rfl⟩
  | b :: l, a => by
    obtain ⟨h1, h2, h3⟩ := fold_min l (min a b)
    rw [List.foldl_cons]
    refine ⟨by omega, fun x hx => ?_, ?_⟩
    · rcases List.mem_cons.mp hx with z | z
      · rw [z]; omega
      · exact h2 x z
    · rcases h3 with z | z
      · rw [z]
        rcases Int.le_total a b with q | q
        · left; exact Int.min_eq_left q
        · right; rw [Int.min_eq_right q]; exact List.mem_cons_self
      · exact .inr (List.mem_cons_of_mem _ z)
theorem minOf_is {l : List Int} {m : Int} (h : m ∈ l) (k : ∀ n ∈ l, m ≤ n) : minOf l = m := by
  unfold minOf
  obtain ⟨h1, h2, h3⟩ := fold_min l (l.headD 0)
  have a := h2 m h
  have hd : l.headD 0 ∈ l := by cases l with
    | nil => cases h
    | cons a l => exact List.mem_cons_self
  have b : m ≤ l.foldl min (l.headD 0) := by
    rcases h3 with z | z
    · rw [z]; exact k _ hd
    · exact k _ z
  omega
theorem minOf_mem {l : List Int} (h : 0 < l.length) : minOf l ∈ l ∧ ∀ n ∈ l, minOf l ≤ n := by
  unfold minOf
  obtain ⟨h1, h2, h3⟩ := fold_min l (l.headD 0)
  refine ⟨?_, h2⟩
  rcases h3 with z | z
  · rw [z]
    cases l with
    | nil => cases h
    | cons a l => exact List.mem_cons_self
  · exact z
theorem topOf_mem {l : List Int} (h : 0 < l.length) : topOf l ∈ l ∧ ∀ n ∈ l, n ≤ topOf l := by
  unfold topOf
  obtain ⟨h1, h2, h3⟩ := fold_max l (l.headD 0)
  refine ⟨?_, h2⟩
  rcases h3 with z | z
  · rw [z]
    cases l with
    | nil => cases h
    | cons a l => exact List.mem_cons_self
  · exact z
theorem o_minT {ns : List Int} (h : 0 < ns.length) : OpN (rMinT K) (aC (kT K kI) a0) (ns, ()) kI (minOf ns) := fun M us H l a Q q => by
  obtain ⟨v, r, rfl, ⟨p, vs, rfl, hp, ha⟩, rfl⟩ := a
  exact ⟨p, ns, rfl, ex_t del_le (by rw [← all_ints ha]; exact hp), h, fun m h1 h2 => q _ H (Ex.refl H) (by rw [minOf_is h1 h2]; rfl)⟩
theorem o_minL {ns : List Int} (h : 0 < ns.length) : OpN (rMin K) (aC (kL K kI) a0) (ns, ()) kI (minOf ns) := fun M us H l a Q q => by
  obtain ⟨v, r, rfl, ⟨p, vs, rfl, hp, ha⟩, rfl⟩ := a
  exact ⟨p, ns, rfl, ex_l del_le (by rw [← all_ints ha]; exact hp), h, fun m h1 h2 => q _ H (Ex.refl H) (by rw [minOf_is h1 h2]; rfl)⟩
theorem o_maxL {ns : List Int} (h : 0 < ns.length) : OpN (rMax K) (aC (kL K kI) a0) (ns, ()) kI (topOf ns) := fun M us H l a Q q => by
  obtain ⟨v, r, rfl, ⟨p, vs, rfl, hp, ha⟩, rfl⟩ := a
  exact ⟨p, ns, rfl, ex_l del_le (by rw [← all_ints ha]; exact hp), h, fun m h1 h2 => q _ H (Ex.refl H) (by rw [topOf_is h1 h2]; rfl)⟩
theorem o_sumT {ns : List Int} : OpN (rSumT K) (aC (kT K kI) a0) (ns, ()) kI ns.sum := fun M us H l a Q q => by
  obtain ⟨v, r, rfl, ⟨p, vs, rfl, hp, ha⟩, rfl⟩ := a
  exact ⟨p, ns, rfl, ex_t del_le (by rw [← all_ints ha]; exact hp), q _ H (Ex.refl H) rfl⟩
theorem em_ckw {ns : List Int} {d : Int} (h : Ea E cl M tr σ I S (aC (kL K kI) a0) (.ok (ns, ())) S1) (h2 : Ea E cl M tk σ I S1 (aC kI a0) (.ok (d, ())) S2) : Em E cl M (tCKw (rMaxD K) tr tk) σ I S kI (.ok (maxD d ns)) S2 :=
  em_mk (h2.ad.trans h.ad) fun H1 i w Q q => ea_of h H1 i w _ fun us H2 e2 w2 r2 => ea_of h2 H2 (i.trans (w.grow e2)) w2 _ fun zs H3 e3 w3 r3 => by
    obtain ⟨v, r, rfl, hv, rfl⟩ := r2
    obtain ⟨p, vs, rfl, hp, ha⟩ := (kL K kI).up (w2.grow e3) hv
    obtain ⟨z, r', rfl, rfl, rfl⟩ := r3
    exact ⟨p, ns, d, rfl, rfl, ex_l del_le (by rw [← all_ints ha]; exact hp), q _ H3 (ads_tr h.ad e2 e3) w3 rfl⟩
theorem o_negI {i : Int} : Op1 (rU fun i => .int (-i)) kI i kI (-i) := fun M v H l a Q q => by
  obtain rfl : v = .int i := a
  exact ⟨i, rfl, q _ H (Ex.refl H) rfl⟩
/-! ### x in a list, a list's count -/
theorem op_notInK {X : Cx} (h : X.K = K := by rfl) : OpR X (compareOp .NotIn) (rIn K true) := by
  subst h
  exact op_notIn_seq
theorem inV_int {i : Int} : ∀ {xs : List Int} {vs : List V} {H : Hp}, All2 (kI.r H) vs xs → (vs.all flatV = true ∧ inV (.int i) vs = decide (i ∈ xs))
  | [], vs, H, h => by cases h; exact ⟨rfl, rfl⟩
  | x :: xs, vs, H, h => by
    cases h with
    | cons a t =>
      obtain ⟨p, q⟩ := inV_int (i := i) t
      cases a
      refine ⟨by rw [List.all_cons, p]; rfl, ?_⟩
      show (eqV (.int x) (.int i) || inV (.int i) _) = _
      rw [q]
      show (decide (x = i) || _) = _
      by_cases e : x = i
      · rw [decide_eq_true e, Bool.true_or, decide_eq_true (by rw [e]; exact List.mem_cons_self)]
      · rw [decide_eq_false e, Bool.false_or]
        congr 1
        rw [List.mem_cons]
        simp [Ne.symm e, eq_comm]
theorem o_inI {neg : Bool} {i : Int} {xs : List Int} : Op2 (rIn K neg) kI i (kL K kI) xs kB (if neg then !decide (i ∈ xs) else decide (i ∈ xs)) := fun M v1 v2 H l a b Q q => by
  obtain ⟨p, vs, rfl, hp, ha⟩ := b
  obtain rfl : v1 = .int i := a
  obtain ⟨f1, f2⟩ := inV_int (i := i) ha
  refine ⟨p, vs, rfl, .inl (ex_l del_le hp), rfl, f1, ?_⟩
  rw [f2]
  exact q _ H (Ex.refl H) rfl
theorem o_inIT {neg : Bool} {i : Int} {xs : List Int} : Op2 (rIn K neg) kI i (kT K kI) xs kB (if neg then !decide (i ∈ xs) else decide (i ∈ xs)) := fun M v1 v2 H l a b Q q => by
  obtain ⟨p, vs, rfl, hp, ha⟩ := b
  obtain rfl : v1 = .int i := a
  obtain ⟨f1, f2⟩ := inV_int (i := i) ha
  refine ⟨p, vs, rfl, .inr (ex_t del_le hp), rfl, f1, ?_⟩
  rw [f2]
  exact q _ H (Ex.refl H) rfl
def cntI (i : Int) (ns : List Int) : Int := ((ns.countP fun n => decide (n = i) : Nat) : Int)
def rCntI (K : PySem.W.Frag) : V → List V → Hp → VK → Prop := fun x xs H Q => ∃ (a : Addr) (ns : List Int) (i : Int), x = .ref a ∧ xs = [.int i] ∧ SqL K H a (ns.map V.int) ∧ Q (.int (cntI i ns)) H
theorem vals_cnt {i : Int} {y : Value} (ry : RelV (.int i) y) : ∀ {ns : List Int} {us : List Value}, Vals (ns.map V.int) us → us.countP (eqU (.int i)) = ns.countP (fun n => decide (n = i))
  | [], us, h => by cases h; rfl
  | n :: ns, us, h => by
    cases h with
    | cons a t =>
      rename_i u us'
      rw [List.countP_cons, List.countP_cons, vals_cnt ry t, eqU_of a rfl]
      show _ + (if decide (n = i) = true then 1 else 0) = _
      rfl
theorem mt_cntI {X : Cx} : MtR X "list.count" (rCntI X.K) := fun pn sh st Hh v0 vs0 v1 us0 Q0 IV rv0 rvs hh => by
  obtain ⟨a, ns, i, rfl, rfl, hs, q⟩ := hh
  cases rv0
  cases rvs with
  | cons ry rt =>
    rename_i uy ut
    cases rt
    obtain ⟨its, rr, ⟨⟨c0, d0, da0, sl0⟩, n0, ho, hc0, hd0, hda⟩, hlen⟩ := IV.list hs
    simp only at hc0 hda
    subst hc0 hda
    have fl : (ns.map V.int).all flatV = true := by simp [flatV]
    refine call_meets PySem.F.slot_list_count ⟨_, ho, rfl⟩ PySem.F.entry_list_count (PySem.F.args_list_count_2 _ _) (SeqAt.list_countAt a its.toArray n0 d0 sl0 uy (eqU (.int i))) ⟨ho, fun u' hu' => mem_eqAt ry rfl rr fl u' (by simpa using hu'), ?_⟩
    refine ⟨.int (cntI i ns), Hh, IV.tok _, ⟨sh.toks, ?_⟩, q⟩
    unfold cntI
    rw [← vals_cnt ry rr]
theorem em_cntI {ns : List Int} {i : Int} (h : Em E cl M te σ I S (kL K kI) (.ok ns) S1) (h2 : Ea E cl M tr σ I S1 (aC kI a0) (.ok (i, ())) S2) : Em E cl M (tBM K "list" (rCntI K) te tr) σ I S kI (.ok (cntI i ns)) S2 :=
  em_mk (h2.ad.trans h.ad) fun H1 i1 w Q q => em_of h H1 i1 w _ fun v H2 e2 w2 r2 => by
    obtain ⟨p, vs, rfl, hp, ha⟩ := r2
    refine ⟨.inl ⟨rfl, vs, ex_l del_le hp⟩, ea_of h2 H2 (i1.trans (w.grow e2)) w2 _ fun us H3 e3 w3 r3 => ?_⟩
    obtain ⟨z, r', rfl, rfl, rfl⟩ := r3
    exact ⟨p, ns, i, rfl, rfl, ex_l ((w2.grow e3).trans del_le) (by rw [← all_ints ha]; exact hp), q _ H3 (ads_tr h.ad e2 e3) w3 rfl⟩
end
end Rw
namespace Rw
open PySem PySem.Spec PyProof.Rows L2 Evl
section
variable {K : PySem.W.Frag} {α β γ δ R τ : Type} {E E' : XK} {cl : Nat → Addr} {M : List Addr} {σ : L2.St} {I I' H H' : Hp} {S S' S1 S2 S3 : List Cell} {te ta tb tc to tv : TE} {tt : TT} {tr tk : TA} {t : Ty α} {u : Ty β} {p x dx : Addr} {D : Ends} {tz : TS} {l : List (Int × Int)} {P : R → Prop}
theorem g_newD {i : Nat} (w : Holds M S H) (c : ∀ p H2, H p = none → Gr M S H H2 → Holds (p :: M) (cD p [] :: S) H2 → Ex (del M H) (del (p :: M) H2) → tz D (σ.set i (some (.ref p))) H2) : tSeq (tAsg tDNewK (gName i)) tz D σ H := fun p hp => by
  have e0 : Ex H (upd H p (.dK [])) := Ex.new hp
  exact c p _ hp ⟨ex_del e0, ex_del e0⟩ (w.new (c := cD p []) hp e0 upd_same rfl) ((del_new hp).trans (ex_del e0))
theorem g_appL {n : Nat} {p : Addr} {acc0 acc : List α} {x : α} {k : List α → R} (w : Holds M S H) (o : P (lt (acc ++ [x]) k)) (ha : Em E cl M ta σ (del M H) S (kPtr p) (.ok ()) S) (h : Em E cl M te σ (del M H) S t (.ok x) S') (hk0 : S[n]? = some (cL p t acc0)) (hk : S'[n]? = some (cL p t acc)) (hz : acc.length < 100000)
    (c : ∀ acc' H2, acc' = acc ++ [x] → P (k acc') → Gr M S H H2 → Holds M (S'.set n (cL p t acc')) H2 → D.nx σ H2) : tDrop (tBM K "list" rAppend ta (tCons te tNil)) D σ H :=
  g_app (tz := fun D' σ' H' => D.nx σ' H') (D := D) w o ha h hk0 hk hz c
theorem em_cellGet {n : Nat} {k d : Int} (ha : Em E cl M ta σ I S (kPtr p) (.ok ()) S) (hb : Em E cl M tb σ I S kI (.ok k) S) (hc : Em E cl M tc σ I S kI (.ok d) S) (hk : S[n]? = some (cD p l)) : Em E cl M (tDGet2 ta tb tc) σ I S kI (.ok ((l.lookup k).getD d)) S :=
  em_mk rfl fun H1 i w Q q => em_of ha H1 i w _ fun v1 H2 e1 w1 r1 => by
    obtain rfl : v1 = .ref p := r1
    obtain ⟨_, o2, h2, ro⟩ := w1.at_ _ (List.mem_of_getElem? hk)
    obtain rfl : o2 = .dK (l.map pairV) := ro
    refine ⟨p, rfl, .inl ⟨_, .inl h2⟩, em_of hb H2 (i.trans (w.grow e1)) w1 _ fun v2 H3 e2 w2 r2 => em_of hc H3 ((i.trans (w.grow e1)).trans (w1.grow e2)) w2 _ fun v3 H4 e3 w3 r3 => ?_⟩
    obtain rfl : v2 = .int k := r2
    obtain rfl : v3 = .int d := r3
    obtain ⟨_, o4, h4, ro4⟩ := w3.at_ _ (List.mem_of_getElem? hk)
    obtain rfl : o4 = .dK (l.map pairV) := ro4
    refine ⟨valV (l.map pairV) (.inl k), DGet.k (k := .inl k) h4, ?_⟩
    rw [valV_pair]
    refine q _ H4 ((e1.trans e2).trans e3) w3 ?_
    cases l.lookup k with
    | none => rfl
    | some y => rfl
/-- two dicts of numbers that hold the same: never unlike -/
theorem o_neDic {l2 : List (Int × Int)} (hl : l.length = l2.length) (h : ∀ q ∈ l, l2.lookup q.1 = some q.2) : Op2 rNeDA kDN l kDN l2 kB false := fun M v1 v2 H lv a b Q q => by
  obtain ⟨p1, rfl, h1⟩ := a
  obtain ⟨p2, rfl, h2⟩ := b
  refine ⟨p1, p2, _, _, rfl, rfl, (del_some.mp h1).2, (del_some.mp h2).2, by rw [List.length_map, List.length_map]; exact hl, fun z hz => ?_, q _ H (Ex.refl H) rfl⟩
  obtain ⟨y, hy, rfl⟩ := List.mem_map.mp hz
  refine ⟨?_, rfl⟩
  show valV (l2.map pairV) (.inl y.1) = some (.int y.2)
  rw [valV_pair, h y hy]
  rfl
/-- dict(pairs) -/
def dictP (l : List (Int × Int)) : List (Int × Int) := l.foldl (fun acc q => putN acc q.1 q.2) []
theorem merge_pair : ∀ (l acc : List (Int × Int)), mergeK (acc.map pairV) (l.map pairV) = (l.foldl (fun acc q => putN acc q.1 q.2) acc).map pairV
  | [], acc => rfl
  | q :: l, acc => by
    rw [List.map_cons, List.foldl_cons]
    show mergeK (putK (acc.map pairV) (.inl q.1) (.int q.2)) (l.map pairV) = _
    rw [putK_pair]
    exact merge_pair l _
theorem pairs_r {I : Hp} : ∀ {l : List (Int × Int)} {vs : List V}, All2 ((k2 K kI kI).r I) vs l → ∃ ps : List Addr, vs = ps.map V.ref ∧ Paired (fun p (kv : Key × V) => SqT K I p [kV kv.1, kv.2]) ps (l.map pairV)
  | [], vs, h => by cases h; exact ⟨[], rfl, .nil⟩
  | q :: l, vs, h => by
    cases h with
    | cons a t =>
      obtain ⟨ps, rfl, hp⟩ := pairs_r t
      obtain ⟨p, u, w, rfl, hs, ru, rw_⟩ := a
      obtain rfl : u = .int q.1 := ru
      obtain rfl : w = .int q.2 := rw_
      exact ⟨p :: ps, rfl, .cons hs hp⟩
theorem paired_up {H H' : Hp} (e : Ex H H') {ps : List Addr} {ks : List (Key × V)} (h : Paired (fun p (kv : Key × V) => SqT K H p [kV kv.1, kv.2]) ps ks) : Paired (fun p (kv : Key × V) => SqT K H' p [kV kv.1, kv.2]) ps ks := by
  induction h with
  | nil => exact .nil
  | cons a _ ih => exact .cons (ex_t e a) ih
theorem o_dictPr : OpN (fun xs H Q => ∃ (a : Addr) (ps : List Addr) (kvs : List (Key × V)), xs = [.ref a] ∧ SqL K H a (ps.map V.ref) ∧ Paired (fun p kv => SqT K H p [kV kv.1, kv.2]) ps kvs ∧ ∀ p, H p = none → Q (.ref p) (upd H p (.dK (mergeK [] kvs)))) (aC (kL K (k2 K kI kI)) a0) (l, ()) kDN (dictP l) := fun M us H lv a Q q => by
  obtain ⟨v, r, rfl, ⟨p, vs, rfl, hp, ha⟩, rfl⟩ := a
  obtain ⟨ps, rfl, hps⟩ := pairs_r ha
  refine ⟨p, ps, _, rfl, ex_l del_le hp, paired_up del_le hps, fun p2 hp2 => q _ _ (Ex.new hp2) ⟨p2, rfl, ?_⟩⟩
  have e : mergeK [] (l.map pairV) = (dictP l).map pairV := merge_pair l []
  rw [e]
  exact del_at (fresh_not lv hp2) upd_same
end
end Rw
namespace Rw
open PySem PySem.Spec PyProof.Rows L2 Evl
section
variable {K : PySem.W.Frag} {α β γ δ R τ : Type} {E : XK} {cl : Nat → Addr} {M : List Addr} {σ : L2.St} {I I' H H' : Hp} {S S' S1 S2 S3 : List Cell} {te ta tb tc to : TE} {tt : TT} {tr : TA} {t : Ty α} {u : Ty β} {w' : Ty γ} {x : α} {y : β} {v : V} {xs : List α}
theorem em_lcEX {wi : TI} {g : TG} {vs : List Nat} {B : Hp → α → L2.St → Prop} {ct : α → τ → Bool × τ} {f : α → τ → β × τ} {Sx : τ → List Cell} {s0 : τ} (hi : Ei E cl M wi σ I S t xs (Sx s0)) (hz : xs.length ≤ 100000 - 1) (hS : ∀ s, ads (Sx s) = ads (Sx s0))
    (hg : Eg g t (wipe σ vs) B) (hw : ∀ I x σ', B I x σ' → wipe σ' vs = wipe σ vs)
    (ht : ∀ D acc I' x s σ', Ex I I' → x ∈ xs → B I' x σ' → Et E cl (D :: M) tt σ' I' (cL D u acc :: Sx s) (.ok (ct x s).1) (cL D u acc :: Sx (ct x s).2))
    (he : ∀ D acc I' x s σ', Ex I I' → x ∈ xs → (ct x s).1 = true → B I' x σ' → Em E cl (D :: M) te σ' I' (cL D u acc :: Sx (ct x s).2) u (.ok (f x (ct x s).2).1) (cL D u acc :: Sx (f x (ct x s).2).2)) :
    Em E cl M (tLc wi g tt te vs) σ I S (kX u) (.ok (runE ct f xs s0).1) (Sx (runE ct f xs s0).2) := by
  refine em_mk ((hS _).trans hi.ad) fun H0 i0 w0 Q q => hi.run H0 i0 w0 _ fun J H2 G Y e2 w2 wk gG gY D hD => ?_
  let acc : Nat → List β := fun i => (runE ct f (xs.take i) s0).1
  let st : Nat → τ := fun i => (runE ct f (xs.take i) s0).2
  let Pv : Nat → Hp → Prop := fun i H' => Holds (D :: M) (cL D u (acc i) :: Sx (st i)) H' ∧ Ex (del (D :: ads (Sx s0)) (upd H2 D (.lst []))) (del (D :: ads (Sx s0)) H')
  have dM : D ∉ M := fresh_not w2.live hD
  have toM : ∀ {i H'}, Pv i H' → Ex (del M H2) (del (D :: M) H') := fun {i H'} p => by
    refine ex_lone (o := .lst []) hD (ex_sub (A := D :: ads (Sx s0)) (fun a h => ?_) p.2)
    rcases List.mem_cons.mp h with z | z
    · rw [z]; exact List.mem_cons_self
    · exact List.mem_cons_of_mem _ (w2.sub a z)
  have stop : ∀ i, i < xs.length → ∃ x, xs[i]? = some x := fun i hi => ⟨xs[i], by simp [hi]⟩
  have accLen : ∀ i, (acc i).length ≤ i := by
    intro i
    have : ∀ (l : List α) (s : τ), (runE ct f l s).1.length ≤ l.length := by
      intro l
      induction l with
      | nil => intro s; exact Nat.le_refl _
      | cons a l ih =>
        intro s
        simp only [runE]
        split
        · simp only [List.length_cons]
          exact Nat.succ_le_succ (ih _)
        · exact Nat.le_succ_of_le (ih _)
    exact Nat.le_trans (this _ _) (by rw [List.length_take]; omega)
  refine lc_it wk Pv ⟨?_, Ex.refl _⟩ (fun i H' hi p => gG H' ((toM p).trans del_le2)) (fun i v H Hy hi p y => ?_) (fun H' p => ?_)
  · have e0 : acc 0 = [] := by show (runE ct f (xs.take 0) s0).1 = []; rw [List.take_zero]; rfl
    have e1 : st 0 = s0 := by show (runE ct f (xs.take 0) s0).2 = s0; rw [List.take_zero]; rfl
    show Holds (D :: M) (cL D u (acc 0) :: Sx (st 0)) _
    rw [e0, e1]
    exact w2.new (c := cL D u []) hD (Ex.new hD) upd_same ⟨[], rfl, .nil⟩
  · obtain ⟨x, hx⟩ := stop i hi
    have xm : x ∈ xs := List.mem_of_getElem? hx
    obtain ⟨eH, rv⟩ := gY i H v Hy x hx ((toM p).trans del_le2) y
    have rx := rv (D :: M) p.1.live (toM p)
    have wy := p.1.ex eH
    have i1 : Ex I (del (D :: M) Hy) := ((i0.trans (w0.grow e2)).trans (toM p)).trans (ex_del eH)
    refine hg v Hy x _ rx del_le _ fun σ' b => ⟨hw _ x σ' b, ?_⟩
    have tk : xs.take (i + 1) = xs.take i ++ [x] := by rw [List.take_add_one, hx]; rfl
    have nx : runE ct f (xs.take (i + 1)) s0 = (if (ct x (st i)).1 = true then (acc i ++ [(f x (ct x (st i)).2).1], (f x (ct x (st i)).2).2) else (acc i, (ct x (st i)).2)) := by rw [tk, runE_app]
    have fr : Ex (del (D :: ads (Sx s0)) (upd H2 D (.lst []))) (del (D :: ads (Sx s0)) Hy) := p.2.trans (ex_del eH)
    have same : ∀ s, ads (cL D u (acc i) :: Sx s) = D :: ads (Sx s0) := fun s => by show D :: ads (Sx s) = _; rw [hS s]
    refine et_of (ht D (acc i) _ x (st i) σ' i1 xm b) Hy (Ex.refl _) wy _ fun H3 e3 w3 => ?_
    rw [same] at e3
    cases hc : (ct x (st i)).1 with
    | true =>
      rw [if_pos rfl]
      have i3 : Ex (del (D :: M) Hy) (del (D :: M) H3) := wy.grow (by rw [same]; exact e3)
      refine em_of (he D (acc i) _ x _ σ' i1 xm hc b) H3 i3 w3 _ fun vy H4 e4 w4 r4 => ?_
      rw [same] at e4
      obtain ⟨_, o4, h4, ys, rfl, a4⟩ := w4.at_ _ List.mem_cons_self
      refine ⟨ys, h4, ?_, ?_, ?_⟩
      · rw [All2.len a4]
        exact sz_lt (by have := accLen i; show (acc i).length < _; omega)
      · have a1 : acc (i + 1) = acc i ++ [(f x (ct x (st i)).2).1] := by show (runE ct f (xs.take (i + 1)) s0).1 = _; rw [nx]; simp [hc]
        have s1 : st (i + 1) = (f x (ct x (st i)).2).2 := by show (runE ct f (xs.take (i + 1)) s0).2 = _; rw [nx]; simp [hc]
        show Holds (D :: M) (cL D u (acc (i + 1)) :: Sx (st (i + 1))) _
        rw [a1, s1]
        exact w4.put (k := 0) (c := cL D u (acc i)) (c' := cL D u (acc i ++ [(f x (ct x (st i)).2).1])) rfl rfl ⟨_, rfl, a4.app (.one r4)⟩
      · rw [show del (D :: ads (Sx s0)) (upd H4 D (.lst (ys ++ [vy]))) = del (D :: ads (Sx s0)) H4 from del_upd List.mem_cons_self]
        exact (fr.trans e3).trans e4
    | false =>
      rw [if_neg Bool.false_ne_true]
      refine ⟨?_, fr.trans e3⟩
      have a1 : acc (i + 1) = acc i := by show (runE ct f (xs.take (i + 1)) s0).1 = _; rw [nx]; simp [hc]
      have s1 : st (i + 1) = (ct x (st i)).2 := by show (runE ct f (xs.take (i + 1)) s0).2 = _; rw [nx]; simp [hc]
      rw [a1, s1]
      exact w3
  · have al : acc xs.length = (runE ct f xs s0).1 := by show (runE ct f (xs.take xs.length) s0).1 = _; rw [List.take_length]
    have sl : st xs.length = (runE ct f xs s0).2 := by show (runE ct f (xs.take xs.length) s0).2 = _; rw [List.take_length]
    obtain ⟨pw, pe⟩ := p
    rw [al, sl] at pw
    obtain ⟨_, o4, h4, ys, rfl, a4⟩ := pw.at_ _ List.mem_cons_self
    refine q _ H' ?_ (pw.drop (c := cL D u _) dM) ⟨D, ys, rfl, del_at dM h4, all2_up u del_le2 a4⟩
    rw [← hi.ad]
    rw [← hi.ad] at e2
    exact e2.trans ((ex_lone (M := ads (Sx s0)) hD pe).trans del_le2)
theorem em_lcX {wi : TI} {g : TG} {vs : List Nat} {B : Hp → α → L2.St → Prop} (c : α → Bool) (f : α → β) (hi : Ei E cl M wi σ I S t xs S1) (hz : xs.length ≤ 100000 - 1) (hg : Eg g t (wipe σ vs) B) (hw : ∀ I x σ', B I x σ' → wipe σ' vs = wipe σ vs)
    (ht : ∀ M' S' I' x σ', Ex I I' → x ∈ xs → B I' x σ' → Et E cl M' tt σ' I' S' (.ok (c x)) S') (he : ∀ M' S' I' x σ', Ex I I' → x ∈ xs → c x = true → B I' x σ' → Em E cl M' te σ' I' S' u (.ok (f x)) S') :
    Em E cl M (tLc wi g tt te vs) σ I S (kX u) (.ok ((xs.filter c).map f)) S1 := by
  have h := em_lcEX (u := u) (te := te) (tt := tt) (ct := fun x (s : Unit) => (c x, s)) (f := fun x (s : Unit) => (f x, s)) (Sx := fun _ => S1) (s0 := ()) hi hz (fun _ => rfl) hg hw (fun D acc I' x s σ' a b d => ht _ _ I' x σ' a b d) (fun D acc I' x s σ' a b d z => he _ _ I' x σ' a b d z)
  rw [runE_pure] at h
  exact h
end
theorem q_dice2 {K : PySem.W.Frag} {a PT : Addr} {LQ : Str} {ns : List Int} {σ : L2.St} {H : Hp} {ta : TA} {D : Ends} {tu tz : TS} {j : Nat} (hv : EvA ta σ H [.ref a, .int 1]) (hS : SqL K H a (ns.map V.int)) (hT : H PT = some (.tbl #[])) (Sg : L2.St → Prop) (s0 : Sg σ)
    (hs : ∀ d z σ' H', Sg σ' → Holds [d, PT] [cDice d z, cTab PT LQ] H' → ∀ Nx : L2.St → Hp → Prop, (∀ z' σ2 H2, Sg σ2 → Gr [d, PT] [cDice d z, cTab PT LQ] H' H2 → Holds [d, PT] [cDice d z', cTab PT LQ] H2 → Nx σ2 H2) → tu { D with nx := Nx, ct := Nx, bk := tz D } (σ'.set j (some (.ref d))) H')
    (hd : ∀ d z σ' H', Sg σ' → Holds [d, PT] [cDice d z, cTab PT LQ] H' → tz D σ' H') :
    tSeq (tFor (iList K (tCall (spRounds K) [] E0 ta)) (gName j) tu) tz D σ H :=
  hv H (Ex.refl H) _ fun H1 e1 => ⟨a, ns, rfl, ex_l e1 hS, fun r d x y z H2 hr hd0 hne e2 h2 h3 => by
    have hP : H2 PT = some (.tbl #[]) := e2 _ _ (e1 _ _ hT)
    have dP : d ≠ PT := fun q => by rw [q, hP] at h3; cases h3
    have rP : r ≠ PT := fun q => by rw [q, hP] at h2; cases h2
    have w0 : Holds [d, PT] [cDice d (x, y, z), cTab PT LQ] H2 := by
      refine ⟨fun c hc => ?_, by simp [ads, cDice, cTab, dP], fun m hm => ?_⟩
      · rcases List.mem_cons.mp hc with q | q
        · rw [q]; exact ⟨List.mem_cons_self, _, h3, rfl⟩
        · rw [List.mem_singleton.mp q]
          refine ⟨by simp [cTab], _, hP, #[], rfl, by first | trivial | decide, fun pos cv z => ?_⟩
          cases z
      · rcases List.mem_cons.mp hm with q | q
        · rw [q, h3]; exact fun z => nomatch z
        · rw [List.mem_singleton.mp q, hP]; exact fun z => nomatch z
    have rM : r ∉ [d, PT] := by simp [hne, rP]
    have keep : ∀ H', Ex (del [d, PT] H2) (del [d, PT] H') → H' r = some (.lst [.ref d]) := fun H' e => (del_some.mp (e r _ (del_some.mpr ⟨rM, h2⟩))).2
    refine ⟨r, rfl, ⟨_, SqL.of h2⟩, for_list (xs := [.ref d]) (fun _ σ' H' => Sg σ' ∧ Ex (del [d, PT] H2) (del [d, PT] H') ∧ ∃ z, Holds [d, PT] [cDice d z, cTab PT LQ] H') ⟨s0, Ex.refl _, _, w0⟩ (fun i σ' H' _ p => SqL.of (keep H' p.2.1)) (fun i v σ' H' hi p => ?_) (fun σ' H' p => ?_)⟩
    · obtain rfl : v = .ref d := by
        cases i with
        | zero => exact (Option.some.inj hi).symm
        | succ i => simp at hi
      obtain ⟨p1, p2, z, p3⟩ := p
      exact hs d z σ' H' p1 p3 _ fun z' σ2 H3 g1 g2 g3 => ⟨g1, p2.trans g2.im, z', g3⟩
    · obtain ⟨p1, p2, z, p3⟩ := p
      exact hd d z σ' H' p1 p3⟩
theorem q_dice3 {K : PySem.W.Frag} {a PT : Addr} {LQ : Str} {ns : List Int} {σ : L2.St} {H : Hp} {ta : TA} {D : Ends} {tu tz : TS} {j : Nat} (hv : EvA ta σ H [.ref a, .int 1]) (hS : SqL K H a (ns.map V.int)) (hT : H PT = some (.tbl #[])) (Sg : L2.St → Prop) (s0 : Sg σ)
    (hs : ∀ d z σ' H', Sg σ' → Holds [d, PT] [cDice d z, cTab PT LQ] H' → ∀ Nx : L2.St → Hp → Prop, (∀ z' σ2 H2, Sg σ2 → Gr [d, PT] [cDice d z, cTab PT LQ] H' H2 → Holds [d, PT] [cDice d z', cTab PT LQ] H2 → Nx σ2 H2) → tu { D with nx := Nx, ct := Nx, bk := tz D } (σ'.set j (some (.ref d))) H')
    (hd : ∀ d z σ' H', Sg σ' → (∀ a o, a ≠ PT → H a = some o → H' a = some o) → Holds [d, PT] [cDice d z, cTab PT LQ] H' → tz D σ' H') :
    tSeq (tFor (iList K (tCall (spRounds K) [] E0 ta)) (gName j) tu) tz D σ H :=
  hv H (Ex.refl H) _ fun H1 e1 => ⟨a, ns, rfl, ex_l e1 hS, fun r d x y z H2 hr hd0 hne e2 h2 h3 => by
    have hP : H2 PT = some (.tbl #[]) := e2 _ _ (e1 _ _ hT)
    have dP : d ≠ PT := fun q => by rw [q, hP] at h3; cases h3
    have rP : r ≠ PT := fun q => by rw [q, hP] at h2; cases h2
    have w0 : Holds [d, PT] [cDice d (x, y, z), cTab PT LQ] H2 := by
      refine ⟨fun c hc => ?_, by simp [ads, cDice, cTab, dP], fun m hm => ?_⟩
      · rcases List.mem_cons.mp hc with q | q
        · rw [q]; exact ⟨List.mem_cons_self, _, h3, rfl⟩
        · rw [List.mem_singleton.mp q]
          refine ⟨by simp [cTab], _, hP, #[], rfl, by first | trivial | decide, fun pos cv z => ?_⟩
          cases z
      · rcases List.mem_cons.mp hm with q | q
        · rw [q, h3]; exact fun z => nomatch z
        · rw [List.mem_singleton.mp q, hP]; exact fun z => nomatch z
    have rM : r ∉ [d, PT] := by simp [hne, rP]
    have keep : ∀ H', Ex (del [d, PT] H2) (del [d, PT] H') → H' r = some (.lst [.ref d]) := fun H' e => (del_some.mp (e r _ (del_some.mpr ⟨rM, h2⟩))).2
    refine ⟨r, rfl, ⟨_, SqL.of h2⟩, for_list (xs := [.ref d]) (fun _ σ' H' => Sg σ' ∧ Ex (del [d, PT] H2) (del [d, PT] H') ∧ ∃ z, Holds [d, PT] [cDice d z, cTab PT LQ] H') ⟨s0, Ex.refl _, _, w0⟩ (fun i σ' H' _ p => SqL.of (keep H' p.2.1)) (fun i v σ' H' hi p => ?_) (fun σ' H' p => ?_)⟩
    · obtain rfl : v = .ref d := by
        cases i with
        | zero => exact (Option.some.inj hi).symm
        | succ i => simp at hi
      obtain ⟨p1, p2, z, p3⟩ := p
      exact hs d z σ' H' p1 p3 _ fun z' σ2 H3 g1 g2 g3 => ⟨g1, p2.trans g2.im, z', g3⟩
    · obtain ⟨p1, p2, z, p3⟩ := p
      exact hd d z σ' H' p1 (fun b o nb hb => (del_some.mp (p2 b o (del_some.mpr ⟨by rw [List.mem_cons, List.mem_singleton]; rintro (e | e); exact absurd (e1 _ _ hb) (by rw [e, hd0]; exact fun z => nomatch z); exact nb e, e2 _ _ (e1 _ _ hb)⟩))).2) p3⟩

section
variable {K : PySem.W.Frag} {α β γ δ R τ : Type} {E E' : XK} {cl : Nat → Addr} {M : List Addr} {σ : L2.St} {I I' H H' : Hp} {S S' S1 S2 S3 : List Cell} {te ta tb tc to tv : TE} {t : Ty α} {u : Ty β}
theorem em_toEr {r : Re α} {i : Nat} (h : Em E cl M te σ I S t r S') (e : r = .er i) : Em E cl M te σ I S kN (.er i) S' := by
  subst e
  exact em_er h
theorem em_kXL2 {xs : List α} (h : Em E cl M te σ I S (kL K t) (.ok xs) S') : Em E cl M te σ I S (kL K t) (.ok xs) S' := h
theorem o_eqNil : Op2 (rEqD K) (kL K t) ([] : List α) (kL K t) [] kB true := fun M v1 v2 H l a b Q q => by
  obtain ⟨p, vs, rfl, hp, ha⟩ := a
  obtain ⟨p2, vs2, rfl, hp2, ha2⟩ := b
  cases ha
  cases ha2
  exact ⟨.list [], .list [], .lst (ex_l del_le hp) .nil, .lst (ex_l del_le hp2) .nil, rfl, rfl, q _ H (Ex.refl H) rfl⟩
theorem ix_listK {X : Cx} {K : PySem.W.Frag} (h : X.K = K := by rfl) : IxR X (rIxL K) := by
  subst h
  exact ix_list
end
theorem cr_maxK {X : Cx} {K : PySem.W.Frag} (hc : X.calm = true) (h : X.K = K := by rfl) : CallR X (.builtin "max") (rMax K) := by
  subst h
  exact cr_max hc
theorem cr_minK {X : Cx} {K : PySem.W.Frag} (hc : X.calm = true) (h : X.K = K := by rfl) : CallR X (.builtin "min") (rMin K) := by
  subst h
  exact cr_min hc
theorem cr_minTK {X : Cx} {K : PySem.W.Frag} (hc : X.calm = true) (h : X.K = K := by rfl) : CallR X (.builtin "min") (rMinT K) := by
  subst h
  exact cr_minT hc
theorem cr_sumK {X : Cx} {K : PySem.W.Frag} (hc : X.calm = true) (h : X.K = K := by rfl) : CallR X (.builtin "sum") (rSum K) := by
  subst h
  exact cr_sum hc
theorem cr_sumTK {X : Cx} {K : PySem.W.Frag} (hc : X.calm = true) (h : X.K = K := by rfl) : CallR X (.builtin "sum") (rSumT K) := by
  subst h
  exact cr_sumT hc
theorem pe_cntK {X : Cx} {K : PySem.W.Frag} {o e : Expr} {es : List Expr} {to : TE} {t : TA} {apos cpos : Pos} (ho : PE X o to) (ha : PA X (e :: es) t) (h : X.K = K := by rfl)
    (h1 : attributeBase o "count" X.env (eval o X.env) = eval o X.env := by rfl)
    (h2 : ((backTo cpos (starEach (e :: es) X.env)).all (fun x => !x.1) && (backToKw cpos (keywordEach [] X.env)).all (fun x => x.1.isSome) && decide ((e :: es).length + ([] : List Keyword).length + (if ([] : List Keyword).isEmpty then 0 else 1) < 30)) = true := by rfl)
    (h3 : (apos.endLine == cpos.line) = true := by rfl) (h4 : starEach (e :: es) X.env = (false, eval e X.env) :: starEach es X.env := by rfl) (h5 : (backTo cpos (starEach es X.env)).any (·.1) = false := by rfl) :
    PE X (.Call (.Attribute o "count" apos) (e :: es) [] cpos) (tBM K "list" (rCntI K) to t) := by
  subst h
  exact pe_bm PySem.F.plainAttrs_list PySem.F.slot_list_count PySem.F.type_list_count mt_cntI ho ha h1 h2 h3 h4 h5
theorem op_eqDK {X : Cx} {K : PySem.W.Frag} (hu : X.A.units + 64 < cLine) (h : X.K = K := by rfl) : OpR X (compareOp .Eq) (rEqD K) := by
  subst h
  exact op_eqD hu
theorem op_neDK {X : Cx} {K : PySem.W.Frag} (hu : X.A.units + 64 < cLine) (h : X.K = K := by rfl) : OpR X (compareOp .NotEq) (rNeD K) := by
  subst h
  exact op_neD hu
theorem forK_true {α : Type} {b : α → Unit → (Unit → Bool) → (Unit → Bool) → Bool} {kn : Unit → Bool} (hk : kn () = true) : ∀ {xs : List α}, (∀ x ∈ xs, ∀ k1 k2 : Unit → Bool, k1 () = true → b x () k1 k2 = true) → forK b kn xs () = true
  | [], _ => hk
  | x :: xs, h => h x List.mem_cons_self _ _ (forK_true hk fun y hy => h y (List.mem_cons_of_mem _ hy))
section
variable {α β R : Type} {E : XK} {cl : Nat → Addr} {M : List Addr} {σ : L2.St} {H : Hp} {S S' : List Cell} {tr : TA} {t : Ty α} {u : Ty β} {x : α} {y : β} {P : R → Prop} {D : Ends}
theorem g_parL {i j : Nat} {kk : α → β → R} (w : Holds M S H) (o : P (lt x fun a => lt y fun b => kk a b)) (h : Ea E cl M tr σ (del M H) S (aC t (aC u a0)) (.ok (x, y, ())) S') (c : ∀ x' y' v1 v2 H2, x' = x → y' = y → P (kk x' y') → Gr M S H H2 → Holds M S' H2 → t.r (del M H2) v1 x' → u.r (del M H2) v2 y' → D.nx ((σ.set i (some v1)).set j (some v2)) H2) : tPar i j tr D σ H :=
  g_par (tz := fun _ σ' H' => D.nx σ' H') (D := D) w o h c
theorem g_tup2L {i j : Nat} {K : PySem.W.Frag} {kk : α → β → R} (w : Holds M S H) (o : P (lt x fun a => lt y fun b => kk a b)) (h : Ea E cl M tr σ (del M H) S (aC t (aC u a0)) (.ok (x, y, ())) S') (c : ∀ x' y' v1 v2 H2, x' = x → y' = y → P (kk x' y') → Gr M S H H2 → Holds M S' H2 → t.r (del M H2) v1 x' → u.r (del M H2) v2 y' → D.nx ((σ.set i (some v1)).set j (some v2)) H2) : tAsg (tTup tr) (gTup K 2 (gCons (gName i) (gCons (gName j) gNil))) D σ H :=
  g_tup2 (tz := fun _ σ' H' => D.nx σ' H') (D := D) w o h c
end
theorem cf {t r : Bool} (h : t = false) (k : r = true) : cond t false r = true := by rw [h]; exact k
theorem nd {p : Prop} [Decidable p] (h : p) : (!decide p) = false := by rw [decide_eq_true h]; rfl
theorem or_ff {a b : Bool} (h : a = false) (k : b = false) : (a || b) = false := by rw [h, k]; rfl
theorem atI_map {f : Int → Int} {n k : Int} (h : 0 ≤ k ∧ k < n) : (atI ((rng 0 n).map f) k).getD 0 = f k := by
  have e := atI_nat (xs := (rng 0 n).map f) (j := k.toNat) (v := f k) (by rw [List.getElem?_map, rng_get h]; rfl)
  rw [Int.toNat_of_nonneg h.1] at e
  rw [e]
  rfl
end Rw
/-! sorted of a dict's whole numbers, any number of them -/
namespace L2
open PySem PySem.Spec PyProof.Rows Srt SrtO
section
variable {X : Cx}
def rSortDK : List V → Hp → VK → Prop := fun xs H Q => ∃ (a : Addr) (kvs : List (Key × V)) (ks : List Int), xs = [.ref a] ∧ Rd H a (.dK kvs) ∧ kvs.map (·.1) = ks.map Sum.inl ∧ ks.length ≤ 100000 ∧
    ∀ (ys : List Int) (p : Addr), ys.Perm ks → ys.Pairwise (· ≤ ·) → H p = none → Q (.ref p) (upd H p (.lst (ys.map V.int)))
theorem cr_sortedDK (hcalm : X.calm = true) : CallR X (.builtin "sorted") rSortDK := by
  intro pn sh st Hh vs0 us0 Q0 IV rv hh
  obtain ⟨a, kvs, ks, ex, hd, hks, h64, q⟩ := hh
  subst ex
  obtain ⟨u, eu, rx⟩ := vals1 rv
  subst eu
  cases rx
  obtain ⟨z, lo, vs, rel, dd⟩ := dk_rd IV.hok hd
  obtain ⟨ep, hat⟩ := dd.dictAt
  have hkeys : vs.map (·.1) = ks.map Sum.inl := rel.keys.symm.trans hks
  have hl : vs.length = ks.length := by
    have e := congrArg List.length hkeys
    rw [List.length_map, List.length_map] at e
    exact e
  have h16 : vs.length ≤ sizeLine := by rw [hl, sizeLine_eq]; omega
  refine Calls.call_function_entry PyProof.Rows.kind_sorted PyProof.Rows.plain_sorted PyProof.Rows.entry_sorted (PyProof.Rows.args_sorted1 _) (?_ : _)
  unfold Builtin.«sorted»
  refine wpAny_bind (m := checkCount "sorted" 1 1 _) (wpAny_pure (?_ : _)); refine wpAny_bind (PySem.W.kdu_collect (A := X.A.in1) (PySem.W.kdl_dict (knd := mixKind X.prog X.w) (kvs := vs) (ep := ep) lo) (IV.ok.hd hcalm) hat h16 fun h1 tk acc hk hacc => (?_ : _))
  have hal : acc.toList.length = ks.length := by rw [Array.length_toList, hacc.1, hl]
  have hS : IntsAre acc.toList ks := ints_each hal fun j v e => by
    obtain ⟨k, x, e1, e2⟩ := hacc.2 j v (by rw [← Array.getElem?_toList]; exact e)
    have e3 : (vs.map (·.1))[j]? = some k := by rw [List.getElem?_map, e1]; rfl
    rw [hkeys, List.getElem?_map] at e3
    cases e4 : ks[j]? with
    | none => rw [e4] at e3; cases e3
    | some y =>
      rw [e4] at e3
      have e5 : Sum.inl y = k := Option.some.inj e3
      subst e5
      rcases keyIs_shape (show keyIs (Sum.inl y) v = true from e2) with ⟨i, t, ek, ev⟩ | ⟨z, t, ek, ev⟩
      · cases ek
        exact ⟨y, t, rfl, ev⟩
      · cases ek
  have I1 : Inv X pn st Hh { sh with heap := h1, toks := tk } := IV.kept hk
  have hz : acc.toList.length ≤ sizeLine := by rw [hal, sizeLine_eq]; omega
  refine wpAny_bind (wpAny_newList (?_ : _) hz)
  have hoL : (h1.push (seqObj "list" acc.toList.toArray 0)).get? h1.objs.size = some (seqObj "list" acc.toList.toArray 0) := Heap.get?_push_size _ rfl
  show wpAny _ _ _ _ _ { sh with heap := h1.push (seqObj "list" acc.toList.toArray 0), toks := tk }
  refine wpAny_bind (wpAny_holding (wpAny_call_entry PyProof.Rows.slot_list_sort ⟨_, hoL, rfl⟩ PyProof.Rows.entry_list_sort
    (SrtO.list_sort_ord (s := { sh with heap := h1.push (seqObj "list" acc.toList.toArray 0), toks := tk }) SrtO.swo_int hoL hz (fun h2 => SrtO.ints_sortable hS h2) fun out g1 g2 => ⟨_, rfl, (?_ : _)⟩) (PyProof.Rows.args_list_sort _)))
  obtain ⟨k1, k2, k3⟩ := SrtO.ints_out hS g1 g2
  obtain ⟨e', he'⟩ := PyProof.Rows.sortedHeap_at (vs := acc.toList) (out := out.toArray) hoL
  have hlen : ((out.map SrtO.iv).map V.int).length ≤ sizeLine := by
    rw [List.length_map, k2.length_eq, sizeLine_eq]
    omega
  refine wpAny_pure ⟨_, rfl, .ref h1.objs.size, upd Hh h1.objs.size (.lst ((out.map SrtO.iv).map V.int)), I1.laid (t' := tk) (fun b u e => ?_) (Nat.le_refl _)
    (show ObjOk X.prog X.w _ _ _ (.lst ((out.map SrtO.iv).map V.int)) from ⟨hlen, out, e', vals_of_ints k1, he'⟩), rfl, q _ _ k2 k3 (I1.hok.fresh (Nat.le_refl _))⟩
  have hb : b < h1.objs.size := Heap.lt_size e
  rw [PyProof.Rows.sortedHeap_old (Nat.ne_of_lt hb) (by rw [size_push']; exact Nat.lt_succ_of_lt hb)]
  exact Heap.get?_push_of_some _ e
end
end L2
/-! set(l) of a list of whole numbers, by the library's loop -/
namespace L2
open PySem PySem.Spec PyProof.Rows
abbrev nSet (w : World) : Obj := ⟨.type "set", none, .set #[] 0 (.fresh 0 0 (!w.params.followText "set-order")), #[]⟩
section
variable {P : Program} {w : World} {A : Around} {E : Value → Shared → Prop} {s : Shared}
def SetDone (w : World) (s : Shared) (ns : List Int) (t : Shared) : Prop := ∃ (h' : Heap) (tk c : Nat), t = { s with heap := h', toks := tk } ∧
  SetR w h' s.heap.objs.size (fun j => decide (j ∈ ns)) c ∧ c ≤ ns.length ∧ ∀ (b : Addr) (o : Obj), s.heap.get? b = some o → h'.get? b = some o
theorem set_list_at {l : Addr} {its : Array Value} (ns : List Int) {Q : Value → Shared → Prop} (hh : A.handled = none) (hl : s.heap.IsList l its) (hi : IntsAre its.toList ns) (hb : ns.length + 1 < scanBound)
    (h : ∀ t, SetDone w s ns t → Q (.ref s.heap.objs.size) t) : wpAny (model P w) A (call (.type "set") [.ref l]) Q E s := by
  have len : its.size = ns.length := by rw [← Array.length_toList]; exact IntsAre.length hi
  obtain ⟨c, tl, hmro⟩ := F.called_set.mro
  have hmade := F.called_set.made; have hsub := F.called_set.sub; have h1 := F.called_set.notType; have h2 := F.called_set.canCreate; have hct := F.typeCall_set_1 (.ref l)
  apply wpAny_call; apply codeAny_of_tree
  show wpAny _ _ (callAny (.type "set") _) _ _ _; refine wpAny_pure ⟨Code.quiet_builtin _ (by decide +kernel), codeAny_builtin F.entry_type_call ?_⟩; rw [Around.under_plain (weight_type_call_type "set" [.ref l] []) rfl]
  repeat (any_goals (first | assumption | wp_step))
  refine codeAny_mono (code_set_led1 (.ref l) (E := E) (Q₁ := fun ob t => ob = .ref s.heap.objs.size ∧ t = { s with heap := s.heap.push (nSet w) }) ⟨rfl, rfl⟩) fun r t hr => ?_
  match r, hr with
  | .ok (.ret ob), hr =>
    obtain ⟨e1, e2⟩ := hr
    subst e1 e2
    have at0 : (s.heap.push (nSet w)).get? s.heap.objs.size = some (nSet w) := Heap.get?_push_size _ rfl
    have ty : Shared.TypeIs { s with heap := s.heap.push (nSet w) } (.ref s.heap.objs.size) "set" := ⟨_, at0, rfl⟩
    have hli := F.called_set.init.lookup; have hbi := F.called_set.init.bind (.ref s.heap.objs.size)
    repeat (any_goals (first | assumption | wp_step))
    refine codeAny_mono (codeAny_call_builtin (R := wants (fun r t => r = .none ∧ SetDone w s ns t) E) F.called_set.init.plain F.entry_set_init (check_set_init_1 ty ?_)) fun r2 t2 hr2 => ?_
    · obtain ⟨⟨oc, od, oda, osl⟩, ho, ec, n, ed⟩ := hl
      simp only at ec ed; subst ec ed
      have hs1 := F.sub_list_set; have hs2 := F.sub_list_frozenset; have ne : (Value.type "list" == Value.type "dict") = false := by decide
      have hl1 : (s.heap.push (nSet w)).IsList l its := ⟨_, Heap.get?_push_of_some _ ho, rfl, n, rfl⟩
      have ho' := Heap.get?_push_of_some (nSet w) ho
      unfold Builtin.«set.__init__» noKeywords Builtin.Frozenset.updateFrom
      generalize hPI : pyIter = PI
      wp_walk
      subst hPI
      refine wpAny_pyIter_list hl1 ?_
      refine wpAny_bind (wpAny_runValue ?_)
      have lt0 : l < s.heap.objs.size := Heap.lt_size ho
      have hh3 : A.in1.in1.in1.handled = none := by simp [hh]
      have sz : (s.heap.push (nSet w)).objs.size = s.heap.objs.size + 1 := Heap.size_push ..
      have nI : l ≠ (s.heap.push (nSet w)).objs.size := fun z => absurd (z ▸ lt0 : (s.heap.push (nSet w)).objs.size < s.heap.objs.size) (by rw [sz]; exact Nat.not_lt.mpr (Nat.le_succ _))
      have nf : s.heap.objs.size ∉ [(s.heap.push (nSet w)).objs.size, l] := by
        rw [sz]
        intro z
        rcases List.mem_cons.mp z with z | z
        · exact absurd z (Nat.ne_of_lt (Nat.lt_succ_self _))
        · exact absurd (List.mem_singleton.mp z) (Nat.ne_of_gt lt0)
      have val : ∀ (i : Nat) (v : Value), its[i]? = some v → ∃ k t, ns[i]? = some k ∧ v = .int k t := fun i v hv => by
        have hi2 : i < ns.length := by rw [← len]; exact (Array.getElem?_eq_some_iff.mp hv).1
        obtain ⟨t, e⟩ := IntsAre.int_at hi i v (by rw [Array.getElem?_toList]; exact hv)
        exact ⟨ns[i], t, List.getElem?_eq_getElem hi2, by rw [e, List.getD_eq_getElem?_getD, List.getElem?_eq_getElem hi2]; rfl⟩
      refine set_update_ints ((Walks.list hh3 _ l nI its).toS) s.heap.objs.size nf ns len hb val (its.size - 0) 0 _ (by omega) (Nat.zero_le _) ⟨⟨_, Heap.get?_push_size _ rfl, rfl, rfl⟩, (hl1.push _)⟩ ⟨0, Nat.le_refl 0, setR_new_at (Heap.get?_push_of_some _ at0)⟩ fun t' c' hm hc' hS' => ?_
      obtain ⟨h', g2, d2, tk2, os2⟩ := t'
      obtain rfl : g2 = s.gens := hm.gens
      obtain rfl : d2 = s.drawn := hm.drawn
      obtain rfl : os2 = s.os := hm.os
      show wpAny _ _ _ _ _ _; refine wpAny_pure ?_; show wpAny _ _ (ret Value.none) _ _ _; refine wpAny_pure ⟨rfl, h', tk2, c', rfl, hS', by rw [← len]; exact hc', fun b o e => ?_⟩
      have lb : b < s.heap.objs.size := Heap.lt_size e
      refine hm.heap b o (fun z => ?_) (Heap.get?_push_of_some _ (Heap.get?_push_of_some _ e))
      rcases List.mem_cons.mp z with z | z
      · exact absurd z (Nat.ne_of_lt lb)
      · exact absurd ((List.mem_singleton.mp z).trans sz) (Nat.ne_of_lt (Nat.lt_succ_of_lt lb))
    · match r2, hr2 with
      | .ok (.ret r), hr2 =>
        obtain ⟨rfl, hd⟩ := hr2
        repeat (any_goals (first | assumption | wp_step))
        exact h _ hd
      | .error e, hr2 => exact hr2
      | .ok .next, hr2 => exact hr2.elim
      | .ok .brk, hr2 => exact hr2.elim
      | .ok .cont, hr2 => exact hr2.elim
  | .error e, hr => exact hr
  | .ok .next, hr => exact hr.elim
  | .ok .brk, hr => exact hr.elim
  | .ok .cont, hr => exact hr.elim
end
/-- rising whole numbers: each member once -/
def insS (x : Int) : List Int → List Int
  | [] => [x]
  | y :: r => if x < y then x :: y :: r else if x = y then y :: r else y :: insS x r
def setL : List Int → List Int
  | [] => []
  | x :: r => insS x (setL r)
theorem insS_mem {x k : Int} : ∀ {l : List Int}, k ∈ insS x l ↔ k = x ∨ k ∈ l
  | [] => by simp [insS]
  | y :: r => by
    unfold insS
    split
    · simp
    · split
      · rename_i h; subst h; simp
      · rw [List.mem_cons, List.mem_cons, insS_mem]
        constructor
        · rintro (h | h | h)
          · exact .inr (.inl h)
          · exact .inl h
          · exact .inr (.inr h)
        · rintro (h | h | h)
          · exact .inr (.inl h)
          · exact .inl h
          · exact .inr (.inr h)
theorem insS_up {x : Int} : ∀ {l : List Int}, l.Pairwise (· < ·) → (insS x l).Pairwise (· < ·)
  | [], _ => by simp [insS]
  | y :: r, h => by
    unfold insS
    have hr := List.pairwise_cons.mp h
    split
    · rename_i hx
      refine List.pairwise_cons.mpr ⟨fun z hz => ?_, h⟩
      rcases List.mem_cons.mp hz with e | e
      · rw [e]; exact hx
      · exact Int.lt_trans hx (hr.1 z e)
    · split
      · exact h
      · refine List.pairwise_cons.mpr ⟨fun z hz => ?_, insS_up hr.2⟩
        rcases insS_mem.mp hz with e | e
        · rw [e]; omega
        · exact hr.1 z e
theorem setL_mem {k : Int} : ∀ {l : List Int}, k ∈ setL l ↔ k ∈ l
  | [] => Iff.rfl
  | x :: r => by rw [setL, insS_mem, List.mem_cons, setL_mem]
theorem setL_up : ∀ (l : List Int), (setL l).Pairwise (· < ·)
  | [] => .nil
  | x :: r => insS_up (setL_up r)
theorem up_same : ∀ {l r : List Int}, l.Pairwise (· < ·) → r.Pairwise (· < ·) → (∀ k, k ∈ l ↔ k ∈ r) → l = r
  | [], [], _, _, _ => rfl
  | [], y :: r, _, _, h => absurd ((h y).mpr List.mem_cons_self) List.not_mem_nil
  | x :: l, [], _, _, h => absurd ((h x).mp List.mem_cons_self) List.not_mem_nil
  | x :: l, y :: r, hl, hr, h => by
    have a := List.pairwise_cons.mp hl
    have b := List.pairwise_cons.mp hr
    have e : x = y := by
      have h1 := (h x).mp List.mem_cons_self
      have h2 := (h y).mpr List.mem_cons_self
      rcases List.mem_cons.mp h1 with z | z
      · exact z
      · rcases List.mem_cons.mp h2 with q | q
        · exact q.symm
        · have := b.1 x z; have := a.1 y q; omega
    subst e
    refine congrArg (x :: ·) (up_same a.2 b.2 fun k => ⟨fun m => ?_, fun m => ?_⟩)
    · rcases List.mem_cons.mp ((h k).mp (List.mem_cons_of_mem _ m)) with z | z
      · have := a.1 k m; omega
      · exact z
    · rcases List.mem_cons.mp ((h k).mpr (List.mem_cons_of_mem _ m)) with z | z
      · have := b.1 k m; omega
      · exact z
theorem up_nodup {l : List Int} (h : l.Pairwise (· < ·)) : l.Nodup := h.imp fun h e => by omega
theorem setR_count {w : World} {h : Heap} {a : Addr} {ns : List Int} {c : Nat} (R : SetR w h a (fun j => decide (j ∈ ns)) c) : c = (setL ns).length := by
  obtain ⟨o, es, ep, t, _, _, _, _, nd, hm, _, _, hn, _⟩ := R
  have p : (es.toList.map keyOf).Perm (setL ns) := (List.perm_ext_iff_of_nodup nd (up_nodup (setL_up ns))).mpr fun k => by rw [setL_mem, ← hm k, decide_eq_true_eq]
  rw [← p.length_eq, List.length_map, Array.length_toList, hn]
/-- set(l) -/
def rSetIL (K : PySem.W.Frag) (w : World) : List V → Hp → VK → Prop := fun xs H Q => ∃ (l : Addr) (ns : List Int), xs = [.ref l] ∧ SqL K H l (ns.map V.int) ∧ ns.length ≤ 1000 ∧
  ∀ p, H p = none → Q (.ref p) (upd H p (SetO w p (fun j => decide (j ∈ ns)) (setL ns).length))
theorem cr_setIL {X : Cx} (hc : X.calm = true) : CallR X (.type "set") (rSetIL X.K X.w) := by
  intro pins s σ H xs us Q I r h
  obtain ⟨l, ns, rfl, hl, hz, q⟩ := h
  rw [Vals.ref1 r]
  obtain ⟨its, rv, pl, _⟩ := I.list hl
  have hn : H s.heap.objs.size = none := I.hok.fresh (Nat.le_refl _)
  refine set_list_at ns (I.ok.hd hc) pl.isList (ints_of_vals rv) (by unfold scanBound; omega) fun t ⟨h', tk, c, e, R, hcn, k⟩ => ?_
  subst e
  rw [setR_count R] at R
  exact ⟨.ref s.heap.objs.size, upd H s.heap.objs.size (SetO X.w s.heap.objs.size _ _), I.laid (t' := tk) k (Nat.le_refl _) (setO_new R), rfl, q _ hn⟩
end L2
namespace Rw
open PySem PySem.Spec PyProof.Rows L2 Evl
section
variable {K : PySem.W.Frag} {α β γ δ R τ : Type} {E E' : XK} {cl : Nat → Addr} {M : List Addr} {σ : L2.St} {I I' H H' : Hp} {S S' S1 S2 S3 : List Cell} {te ta tb tc to tv : TE} {tt : TT} {tr tk : TA} {t : Ty α} {u : Ty β} {D : Ends} {tz : TS} {l : List (Int × Int)} {P : R → Prop}
/-! ### a list of two, taken apart -/
def kL2 (K : PySem.W.Frag) (t : Ty α) : Ty (α × α) := ⟨fun H v p => (kL K t).r H v [p.1, p.2], fun e h => (kL K t).up e h⟩
theorem em_L2 {a b : α} (h : Em E cl M te σ I S (kL K t) (.ok [a, b]) S') : Em E cl M te σ I S (kL2 K t) (.ok (a, b)) S' := em_ty h fun _ _ r => r
theorem eg_u2 {i j : Nat} : Eg (gUnl K 2 (gCons (gName i) (gCons (gName j) gNil))) (kL2 K t) σ (fun I x σ' => ∃ v w, t.r I v x.1 ∧ t.r I w x.2 ∧ σ' = (σ.set i (some v)).set j (some w)) := fun v H x I r e k q => by
  obtain ⟨p, vs, rfl, hp, ha⟩ := r
  cases ha with
  | cons h1 ha =>
    cases ha with
    | cons h2 ha =>
      cases ha
      exact ⟨p, _, rfl, ex_l e hp, rfl, _, _, rfl, _, _, rfl, rfl, q _ ⟨_, _, h1, h2, rfl⟩⟩
/-! ### list(range(a, b)) -/
theorem rgV_rng {a b : Int} : rgV a b = (rng a b).map V.int := by unfold rgV rng; rw [List.map_map]; rfl
theorem em_listRg {a b : Int} (ha : Em E cl M ta σ I S kI (.ok a) S1) (hb : Em E cl M tb σ I S1 kI (.ok b) S2) (h : -1000000 ≤ a ∧ a ≤ 1000000 ∧ -1000000 ≤ b ∧ b ≤ 1000000) : Em E cl M (tLstRg (tRg2 ta tb)) σ I S (kX kI) (.ok (rng a b)) S2 :=
  em_mk (hb.ad.trans ha.ad) fun H1 i w Q q => em_of ha H1 i w _ fun v1 H2 e1 w1 r1 => em_of hb H2 (i.trans (w.grow e1)) w1 _ fun v2 H3 e2 w2 r2 => by
    obtain rfl : v1 = .int a := r1
    obtain rfl : v2 = .int b := r2
    refine ⟨a, b, rfl, rfl, ⟨by omega, by omega, by omega, by omega, by omega⟩, fun p hp => ?_⟩
    have e3 : Ex H3 (upd H3 p (.lst (rgV a b))) := Ex.new hp
    rw [rgV_rng] at e3 ⊢
    exact q _ _ ((ads_tr ha.ad e1 e2).trans (ex_del e3)) (w2.ex e3) ⟨p, _, rfl, del_at (fresh_not w2.live hp) upd_same, all_intsR _⟩
theorem em_XL {xs : List α} (h : Em E cl M te σ I S (kX t) (.ok xs) S') : Em E cl M te σ I S (kL K t) (.ok xs) S' :=
  em_ty h fun H v ⟨p, vs, a, b, c⟩ => ⟨p, vs, a, sq_of b, c⟩
/-! ### is True, is not True -/
theorem o_isB {a b : Bool} : Op2 (fun x y H Q => ∃ a b, x = .bl a ∧ y = .bl b ∧ Q (.bl (decide (a = b))) H) kB a kB b kB (decide (a = b)) := fun M u w H l r1 r2 Q q => by
  obtain rfl : u = .bl a := r1
  obtain rfl : w = .bl b := r2
  exact ⟨a, b, rfl, rfl, q _ H (Ex.refl H) rfl⟩
theorem o_isnB {a b : Bool} : Op2 (fun x y H Q => ∃ a b, x = .bl a ∧ y = .bl b ∧ Q (.bl (!decide (a = b))) H) kB a kB b kB (!decide (a = b)) := fun M u w H l r1 r2 Q q => by
  obtain rfl : u = .bl a := r1
  obtain rfl : w = .bl b := r2
  exact ⟨a, b, rfl, rfl, q _ H (Ex.refl H) rfl⟩
theorem at_inG {xs : List α} {i : Int} {z : α} (h : 0 - (xs.length : Int) ≤ i ∧ i < (xs.length : Int)) : atI xs i = some ((atI xs i).getD z) := by
  have e : ∃ j, j < xs.length ∧ ixN xs.length i = some j := by
    unfold ixN
    split
    · rw [if_pos h.2]; exact ⟨i.toNat, by omega, rfl⟩
    · rw [if_pos (by omega)]; exact ⟨(i + xs.length).toNat, by omega, rfl⟩
  obtain ⟨j, hj, e⟩ := e
  unfold atI
  rw [e]
  show xs[j]? = some (xs[j]?.getD z)
  rw [List.getElem?_eq_getElem hj]
  rfl
/-! ### sorted of a dict -/
theorem putN_keys {l : List (Int × Int)} {k v : Int} (h : (l.map (·.1)).Nodup) : ((putN l k v).map (·.1)).Nodup ∧ ∀ x, x ∈ (putN l k v).map (·.1) ↔ x = k ∨ x ∈ l.map (·.1) := by
  unfold putN
  split
  · rename_i c
    have e : (l.map (fun q => if q.1 = k then (q.1, v) else q)).map (·.1) = l.map (·.1) := by
      rw [List.map_map]
      apply List.map_congr_left
      intro q _
      show (if q.1 = k then (q.1, v) else q).1 = q.1
      split <;> rfl
    rw [e]
    refine ⟨h, fun x => ⟨.inr, fun z => z.elim (fun y => ?_) id⟩⟩
    subst y
    obtain ⟨q, hq, hk⟩ := List.any_eq_true.mp c
    exact List.mem_map.mpr ⟨q, hq, of_decide_eq_true hk⟩
  · rename_i c
    have nk : k ∉ l.map (·.1) := fun z => by
      obtain ⟨q, hq, hk⟩ := List.mem_map.mp z
      exact c (List.any_eq_true.mpr ⟨q, hq, decide_eq_true hk⟩)
    rw [List.map_append]
    refine ⟨List.nodup_append.mpr ⟨h, by simp, fun a ha b hb => ?_⟩, fun x => ?_⟩
    · rw [List.map_cons, List.map_nil, List.mem_singleton] at hb
      subst hb
      exact fun e => nk (e ▸ ha)
    · rw [List.mem_append, List.map_cons, List.map_nil, List.mem_singleton]
      exact Or.comm
theorem dictP_keys (l : List (Int × Int)) : ((dictP l).map (·.1)).Nodup ∧ ∀ x, x ∈ (dictP l).map (·.1) ↔ x ∈ l.map (·.1) := by
  have k : ∀ (l acc : List (Int × Int)), (acc.map (·.1)).Nodup → ((l.foldl (fun acc q => putN acc q.1 q.2) acc).map (·.1)).Nodup ∧ ∀ x, x ∈ (l.foldl (fun acc q => putN acc q.1 q.2) acc).map (·.1) ↔ x ∈ acc.map (·.1) ∨ x ∈ l.map (·.1) := by
    intro l
    induction l with
    | nil => intro acc h; exact ⟨h, fun x => by simp⟩
    | cons q l ih =>
      intro acc h
      obtain ⟨n, m⟩ := putN_keys (k := q.1) (v := q.2) h
      obtain ⟨n2, m2⟩ := ih _ n
      refine ⟨n2, fun x => ?_⟩
      rw [List.foldl_cons, m2, m, List.map_cons, List.mem_cons]
      constructor
      · rintro ((q | q) | q)
        · exact .inr (.inl q)
        · exact .inl q
        · exact .inr (.inr q)
      · rintro (q | q | q)
        · exact .inl (.inr q)
        · exact .inl (.inl q)
        · exact .inr q
  obtain ⟨n, m⟩ := k l [] (by simp)
  exact ⟨n, fun x => (m x).trans (by simp)⟩
theorem le_up : ∀ {l : List Int}, l.Pairwise (· ≤ ·) → l.Nodup → l.Pairwise (· < ·)
  | [], _, _ => .nil
  | x :: l, h, n => by
    have a := List.pairwise_cons.mp h
    have b := List.nodup_cons.mp n
    refine List.pairwise_cons.mpr ⟨fun y hy => ?_, le_up a.2 b.2⟩
    have := a.1 y hy
    have : x ≠ y := fun e => b.1 (e ▸ hy)
    omega
theorem o_sortDK (hn : (l.map (·.1)).Nodup) (hz : l.length ≤ 100000) : OpN rSortDK (aC kDN a0) (l, ()) (kL K kI) (setL (l.map (·.1))) := fun M us H lv a Q q => by
  obtain ⟨v, r, rfl, ⟨p, rfl, hp⟩, rfl⟩ := a
  refine ⟨p, l.map pairV, l.map (·.1), rfl, .inl (del_some.mp hp).2, by rw [List.map_map, List.map_map]; rfl, by rw [List.length_map]; exact hz, fun ys p2 perm up new => ?_⟩
  have e : ys = setL (l.map (·.1)) := up_same (le_up up (perm.nodup_iff.mpr hn)) (setL_up _) fun k => by rw [perm.mem_iff, setL_mem]
  subst e
  exact q _ _ (Ex.new new) ⟨p2, _, rfl, sq_of (del_at (fresh_not lv new) upd_same), all_intsR _⟩
end
end Rw
namespace Rw
open PySem PySem.Spec PyProof.Rows L2 Evl
theorem pi_listK {X : Cx} {K : PySem.W.Frag} {tg l : Expr} {tl : TE} (hl : PE X l tl) (h : X.K = K := by rfl) : PI X tg l (iList K tl) := by
  subst h
  exact pi_list hl
theorem pi_tupK {X : Cx} {K : PySem.W.Frag} {tg l : Expr} {tl : TE} (hl : PE X l tl) (h : X.K = K := by rfl) : PI X tg l (iTup K tl) := by
  subst h
  exact pi_tup hl
theorem em_someO {α : Type} {t : Ty α} {E : XK} {cl : Nat → Addr} {M : List Addr} {te : TE} {σ : L2.St} {I : Hp} {S S' : List Cell} {x : α} (nn : ∀ H v, t.r H v x → v ≠ .non) (h : Em E cl M te σ I S t (.ok x) S') : Em E cl M te σ I S (kO t) (.ok (some x)) S' :=
  em_ty h fun H v r => some_r r (nn H v r)
theorem dictP_len (l : List (Int × Int)) : (dictP l).length ≤ l.length := by
  have k : ∀ (l acc : List (Int × Int)), (l.foldl (fun acc q => putN acc q.1 q.2) acc).length ≤ acc.length + l.length := by
    intro l
    induction l with
    | nil => intro acc; exact Nat.le_refl _
    | cons q l ih =>
      intro acc
      have := ih (putN acc q.1 q.2)
      have := len_putN acc q.1 q.2
      rw [List.foldl_cons, List.length_cons]
      omega
  have := k l []
  rw [List.length_nil, Nat.zero_add] at this
  exact this
end Rw
namespace Rw
open PySem PySem.Spec PyProof.Rows L2 Evl
section
variable {K : PySem.W.Frag} {α β γ δ R τ : Type} {E E' : XK} {cl : Nat → Addr} {M : List Addr} {σ : L2.St} {I I' H H' : Hp} {S S' S1 S2 S3 : List Cell} {te ta tb tc to tv ti : TE} {tt : TT} {tr tk : TA} {t : Ty α} {u : Ty β} {w' : Ty γ} {z' : Ty δ} {x : α} {y : β} {z : γ} {q' : δ} {D : Ends} {tz : TS} {i j k l n0 : Nat}
/-! ### four parts -/
def k4 (K : PySem.W.Frag) (a : Ty α) (b : Ty β) (c : Ty γ) (d : Ty δ) : Ty (α × β × γ × δ) := ⟨fun H v x => ∃ p u1 u2 u3 u4, v = .ref p ∧ SqT K H p [u1, u2, u3, u4] ∧ a.r H u1 x.1 ∧ b.r H u2 x.2.1 ∧ c.r H u3 x.2.2.1 ∧ d.r H u4 x.2.2.2, fun e ⟨p, u1, u2, u3, u4, h1, h2, h3, h4, h5, h6⟩ => ⟨p, u1, u2, u3, u4, h1, ex_t e h2, a.up e h3, b.up e h4, c.up e h5, d.up e h6⟩⟩
theorem em_t4 (K : PySem.W.Frag) (h : Ea E cl M tr σ I S (aC t (aC u (aC w' (aC z' a0)))) (.ok (x, y, z, q', ())) S') : Em E cl M (tTup tr) σ I S (k4 K t u w' z') (.ok (x, y, z, q')) S' :=
  em_mk h.ad fun H1 i w0 Q q => ea_of h H1 i w0 _ fun vs H2 e w1 r => by
    obtain ⟨v1, r1, rfl, g1, v2, r2, rfl, g2, v3, r3, rfl, g3, v4, r4, rfl, g4, rfl⟩ := r
    refine ⟨by show 4 ≤ sizeLine; decide, fun p hp => q _ _ (e.trans (ex_del (Ex.new hp))) (w1.ex (Ex.new hp)) ⟨p, v1, v2, v3, v4, rfl, st_of (del_at (fresh_not w1.live hp) upd_same), t.up (ex_del (Ex.new hp)) g1, u.up (ex_del (Ex.new hp)) g2, w'.up (ex_del (Ex.new hp)) g3, z'.up (ex_del (Ex.new hp)) g4⟩⟩
theorem eg_4 {m : Nat} : Eg (gTup K 4 (gCons (gName i) (gCons (gName j) (gCons (gName l) (gCons (gName m) gNil))))) (k4 K t u w' z') σ (fun I x σ' => ∃ v1 v2 v3 v4, t.r I v1 x.1 ∧ u.r I v2 x.2.1 ∧ w'.r I v3 x.2.2.1 ∧ z'.r I v4 x.2.2.2 ∧ σ' = (((σ.set i (some v1)).set j (some v2)).set l (some v3)).set m (some v4)) := fun v H x I r e k q => by
  obtain ⟨p, v1, v2, v3, v4, rfl, hp, h1, h2, h3, h4⟩ := r
  exact ⟨p, _, rfl, ex_t e hp, rfl, v1, _, rfl, v2, _, rfl, v3, _, rfl, v4, [], rfl, rfl, q _ ⟨v1, v2, v3, v4, h1, h2, h3, h4, rfl⟩⟩
def d4 (A : Dq K t i) (B : Dq K u j) (C : Dq K w' k) (D : Dq K z' l) : Dq K (k4 K t u w' z') (max i (max j (max k l)) + 1) := ⟨fun x => .tuple [A.enc x.1, B.enc x.2.1, C.enc x.2.2.1, D.enc x.2.2.2], fun ⟨p, v1, v2, v3, v4, e, h, h1, h2, h3, h4⟩ => by subst e; exact ⟨.tup h (.cons (A.dp h1).1 (.cons (B.dp h2).1 (.cons (C.dp h3).1 (.cons (D.dp h4).1 .nil)))), by simp [PyData.canLay0, PyData.canLayAll0, (A.dp h1).2, (B.dp h2).2, (C.dp h3).2, (D.dp h4).2]⟩,
  fun x => by simp only [PyData.depth, PyData.depthAll]; have := A.dep x.1; have := B.dep x.2.1; have := C.dep x.2.2.1; have := D.dep x.2.2.2; omega, fun x y => by simp [PyData.eqv, PyData.eqvAll, A.eq, B.eq, C.eq, D.eq, Prod.ext_iff]⟩
theorem nn_3 {a : Ty α} {b : Ty β} {c : Ty γ} {x : α × β × γ} : ∀ H v, (k3 K a b c).r H v x → v ≠ .non := fun H v ⟨p, _, _, _, h, _⟩ z => by rw [h] at z; cases z
theorem nn_4 {a : Ty α} {b : Ty β} {c : Ty γ} {d : Ty δ} {x : α × β × γ × δ} : ∀ H v, (k4 K a b c d).r H v x → v ≠ .non := fun H v ⟨p, _, _, _, _, h, _⟩ z => by rw [h] at z; cases z
/-- three numbers of one kind are a triple -/
theorem em_T3 {a b c : α} (h : Em E cl M te σ I S (kT K t) (.ok [a, b, c]) S') : Em E cl M te σ I S (k3 K t t t) (.ok (a, b, c)) S' :=
  em_ty h fun H v ⟨p, vs, e, s, r⟩ => by
    cases r with
    | cons r1 r =>
      cases r with
      | cons r2 r =>
        cases r with
        | cons r3 r =>
          cases r
          exact ⟨p, _, _, _, e, s, r1, r2, r3⟩
/-! ### any(..) -/
theorem all_boolsE {H : Hp} : ∀ {vs : List V} {bs : List Bool}, All2 (kB.r H) vs bs → vs = bs.map V.bl
  | _, _, .nil => rfl
  | _, _, .cons a b => by rw [List.map_cons, ← all_boolsE b]; exact congrArg (· :: _) a
theorem o_any {bs : List Bool} : OpN (rAny K) (aC (kL K kB) a0) (bs, ()) kB (bs.any id) := fun M us H lv a Q q => by
  obtain ⟨v, r, rfl, ⟨p, vs, rfl, hp, ha⟩, rfl⟩ := a
  exact ⟨p, bs, rfl, ex_l del_le (by rw [← all_boolsE ha]; exact hp), q _ H (Ex.refl H) rfl⟩
/-! ### enumerate(tuple) -/
theorem walk_enT {p : Addr} {vs : List V} : Walk (ItEn K p) vs.length (fun H => SqT K H p vs) (YPair (fun i => some (.int (i : Nat))) (fun i => vs[i]?)) :=
  ⟨fun i _ hi q => ⟨vs, vs[i], q, by simp [hi]⟩, fun _ q => ⟨vs, q, rfl⟩, fun i _ _ _ _ q ⟨T, y, e1, e2, e3, e4⟩ => ⟨T, .int i, y, e1, e2, e3, rfl, e4 vs q⟩⟩
def enL (xs : List α) : List (Int × α) := xs.zipIdx.map fun q => (((q.2 : Nat) : Int), q.1)
theorem enL_len {xs : List α} : (enL xs).length = xs.length := by unfold enL; rw [List.length_map, List.length_zipIdx]
theorem enL_at {xs : List α} {n : Nat} {q : Int × α} : (enL xs)[n]? = some q ↔ q.1 = (n : Int) ∧ xs[n]? = some q.2 := by
  unfold enL
  rw [List.getElem?_map, List.getElem?_zipIdx]
  cases h : xs[n]? with
  | none => simp
  | some y =>
    obtain ⟨a, b⟩ := q
    simp [eq_comm]
theorem ei_EnT {xs : List α} (h : Ea E cl M tr σ I S (aC (kT K t) a0) (.ok (xs, ())) S') : Ei E cl M (iEnumT K tr) σ I S (k2 K kI t) (enL xs) S' :=
  ⟨h.ad, fun H1 i w R q => ea_of h H1 i w _ fun us H2 e w1 r => by
    obtain ⟨v, rs, rfl, ⟨p, vs, rfl, hp, ha⟩, rfl⟩ := r
    refine ⟨p, vs, rfl, ex_t del_le hp, q _ H2 (fun H => SqT K H p vs) _ e w1 (by rw [enL_len, ← ha.len]; exact walk_enT) (fun H' e2 => ex_t (e2.trans del_le) hp) ?_⟩
    intro i H v H' x hx e2 y
    obtain ⟨T, a, b, rfl, hT, rfl, h1, h2⟩ := y
    obtain ⟨x1, x2⟩ := enL_at.mp hx
    obtain ⟨v', hv', r⟩ := ha.at2 x2
    have h2 : vs[i]? = some b := h2
    have h1 : some (V.int (i : Nat)) = some a := h1
    rw [hv'] at h2
    obtain rfl := Option.some.inj h2
    obtain rfl := Option.some.inj h1
    refine ⟨Ex.new hT, fun M' l e3 => ⟨T, _, _, rfl, st_of (del_at (fresh_not l hT) upd_same), by show V.int _ = V.int _; rw [x1], t.up (e3.trans (ex_del (Ex.new hT))) r⟩⟩⟩
theorem eg_22 : Eg (gTup K 2 (gCons (gName i) (gCons (gTup K 2 (gCons (gName j) (gCons (gName l) gNil))) gNil))) (k2 K t (k2 K u w')) σ (fun I x σ' => ∃ v1 v2 v3, t.r I v1 x.1 ∧ u.r I v2 x.2.1 ∧ w'.r I v3 x.2.2 ∧ σ' = ((σ.set i (some v1)).set j (some v2)).set l (some v3)) := fun v H x I r e k q => by
  obtain ⟨p, v1, v2, rfl, hp, h1, p2, w1, w2, rfl, hp2, h2, h3⟩ := r
  exact ⟨p, _, rfl, ex_t e hp, rfl, v1, _, rfl, _, [], rfl, ⟨p2, _, rfl, ex_t e hp2, rfl, w1, _, rfl, w2, [], rfl, rfl, rfl, q _ ⟨v1, w1, w2, h1, h2, h3, rfl⟩⟩⟩
/-! ### a table of what a plain function gives -/
def kTab (f : Int → α) (hi : Int) (t : Ty α) : Ty Unit := ⟨fun H v _ => ∃ p kvs, v = .ref p ∧ H p = some (.dK kvs) ∧ ∀ k : Int, 0 ≤ k → k < hi → ∃ u, valV kvs (.inl k) = some u ∧ t.r H u (f k), fun e ⟨p, kvs, a, b, c⟩ => ⟨p, kvs, a, e _ _ b, fun k h1 h2 => let ⟨u, d, r⟩ := c k h1 h2; ⟨u, d, t.up e r⟩⟩⟩
theorem merge_has {H : Hp} {f : Int → α} (t : Ty α) : ∀ {xs : List Int} {kvs acc : List (Key × V)}, All2 (fun kv n => kv.1 = (.inl n : Key) ∧ t.r H kv.2 (f n)) kvs xs → ∀ k : Int, (k ∈ xs ∨ ∃ u, valV acc (.inl k) = some u ∧ t.r H u (f k)) → ∃ u, valV (mergeK acc kvs) (.inl k) = some u ∧ t.r H u (f k)
  | [], kvs, acc, h, k, z => by
    cases h
    exact z.elim (fun y => by cases y) id
  | n :: xs, kvs, acc, h, k, z => by
    cases h with
    | cons a r =>
      rename_i kv kvs
      obtain ⟨a1, a2⟩ := a
      show ∃ u, valV (mergeK (putK acc kv.1 kv.2) kvs) (.inl k) = some u ∧ _
      refine merge_has t r k ?_
      rw [a1, valV_put]
      by_cases e : k = n
      · subst e
        exact .inr ⟨_, by rw [if_pos rfl], a2⟩
      · rcases z with z | z
        · rcases List.mem_cons.mp z with y | y
          · exact absurd y e
          · exact .inl y
        · refine .inr ?_
          rw [if_neg (fun y => e (by injection y))]
          exact z
theorem pairs_g {I : Hp} {f : Int → α} (t : Ty α) : ∀ {xs : List Int} {vs : List V}, All2 ((k2 K kI t).r I) vs (xs.map fun n => (n, f n)) → ∃ (ps : List Addr) (kvs : List (Key × V)), vs = ps.map V.ref ∧ Paired (fun p (kv : Key × V) => SqT K I p [kV kv.1, kv.2]) ps kvs ∧ All2 (fun kv n => kv.1 = (.inl n : Key) ∧ t.r I kv.2 (f n)) kvs xs
  | [], vs, h => by cases h; exact ⟨[], [], rfl, .nil, .nil⟩
  | n :: xs, vs, h => by
    rw [List.map_cons] at h
    cases h with
    | cons a r =>
      obtain ⟨ps, kvs, rfl, hp, ha⟩ := pairs_g t r
      obtain ⟨p, u1, u2, rfl, hs, r1, r2⟩ := a
      obtain rfl : u1 = .int n := r1
      exact ⟨p :: ps, (.inl n, u2) :: kvs, rfl, .cons hs hp, .cons ⟨rfl, r2⟩ ha⟩
theorem o_dictTab {f : Int → α} {F : Int} : OpN (fun xs H Q => ∃ (a : Addr) (ps : List Addr) (kvs : List (Key × V)), xs = [.ref a] ∧ SqL K H a (ps.map V.ref) ∧ Paired (fun p kv => SqT K H p [kV kv.1, kv.2]) ps kvs ∧ ∀ p, H p = none → Q (.ref p) (upd H p (.dK (mergeK [] kvs)))) (aC (kL K (k2 K kI t)) a0) ((rng 0 F).map fun n => (n, f n), ()) (kTab f F t) () := fun M us H lv a Q q => by
  obtain ⟨v, r, rfl, ⟨p, vs, rfl, hp, ha⟩, rfl⟩ := a
  obtain ⟨ps, kvs, rfl, h1, h2⟩ := pairs_g t ha
  refine ⟨p, ps, kvs, rfl, ex_l del_le hp, paired_up del_le h1, fun p2 hp2 => q _ _ (Ex.new hp2) ⟨p2, _, rfl, del_at (fresh_not lv hp2) upd_same, fun k k0 k1 => ?_⟩⟩
  obtain ⟨u, e, ru⟩ := merge_has (acc := []) t h2 k (.inl (rng_mem.mpr ⟨k0, k1⟩))
  exact ⟨u, e, t.up (ex_del (Ex.new hp2)) ru⟩
theorem em_tabGet {f : Int → α} {hi k : Int} (ha : Em E cl M ta σ I S (kTab f hi t) (.ok ()) S1) (hb : Em E cl M tb σ I S1 kI (.ok k) S2) (h : 0 ≤ k ∧ k < hi) : Em E cl M (tDGet ta tb) σ I S t (.ok (f k)) S2 :=
  em_mk (hb.ad.trans ha.ad) fun H1 i w Q q => em_of ha H1 i w _ fun v1 H2 e1 w1 r1 => em_of hb H2 (i.trans (w.grow e1)) w1 _ fun v2 H3 e2 w2 r2 => by
    obtain rfl : v2 = .int k := r2
    obtain ⟨p, kvs, rfl, hp, c⟩ := (kTab f hi t).up (w1.grow e2) r1
    obtain ⟨u, e, r⟩ := c k h.1 h.2
    exact ⟨p, u, rfl, by rw [← e]; exact DGet.k (k := .inl k) (del_some.mp hp).2, q _ H3 (ads_tr ha.ad e1 e2) w2 r⟩
/-! ### texts in a row of texts -/
theorem inV_str {s : Str} : ∀ {xs : List Str} {vs : List V} {H : Hp}, All2 (kS.r H) vs xs → (vs.all flatV = true ∧ inV (.str s) vs = decide (s ∈ xs))
  | [], vs, H, h => by cases h; exact ⟨rfl, rfl⟩
  | x :: xs, vs, H, h => by
    cases h with
    | cons a t =>
      obtain ⟨p, q⟩ := inV_str (s := s) t
      cases a
      refine ⟨by rw [List.all_cons, p]; rfl, ?_⟩
      show (eqV (.str x) (.str s) || inV (.str s) _) = _
      rw [q]
      have e0 : eqV (.str x) (.str s) = decide (x = s) := by
        show (x == s) = decide (x = s)
        by_cases e : x = s
        · rw [decide_eq_true e]; exact beq_iff_eq.mpr e
        · rw [decide_eq_false e]; exact beq_eq_false_iff_ne.mpr e
      rw [e0]
      by_cases e : x = s
      · rw [decide_eq_true e, Bool.true_or, decide_eq_true (by rw [e]; exact List.mem_cons_self)]
      · rw [decide_eq_false e, Bool.false_or]
        congr 1
        rw [List.mem_cons]
        simp [Ne.symm e, eq_comm]
theorem o_inST {neg : Bool} {s : Str} {xs : List Str} : Op2 (rIn K neg) kS s (kT K kS) xs kB (if neg then !decide (s ∈ xs) else decide (s ∈ xs)) := fun M v1 v2 H l a b Q q => by
  obtain ⟨p, vs, rfl, hp, ha⟩ := b
  obtain rfl : v1 = .str s := a
  obtain ⟨f1, f2⟩ := inV_str (s := s) ha
  refine ⟨p, vs, rfl, .inr (ex_t del_le hp), rfl, f1, ?_⟩
  rw [f2]
  exact q _ H (Ex.refl H) rfl
theorem call_tuple_ofK {X : Cx} {K : PySem.W.Frag} (h : X.K = K := by rfl) : CallR X (.type "tuple") (fun xs H Q => ∃ p ys, xs = [.ref p] ∧ ((SqL K H p ys ∧ ∀ l, H l = none → Q (.ref l) (upd H l (.tup ys))) ∨ (SqT K H p ys ∧ Q (.ref p) H))) := by
  subst h
  exact call_tuple_of
end
end Rw
namespace Rw
open PySem PySem.Spec PyProof.Rows L2 Evl
section
variable {K : PySem.W.Frag} {α β γ δ R τ : Type} {E E' : XK} {cl : Nat → Addr} {M : List Addr} {σ : L2.St} {I I' H H' : Hp} {S S' S1 S2 S3 : List Cell} {te ta tb tc to tv ti : TE} {tt : TT} {tr tk : TA} {t : Ty α} {u : Ty β} {w' : Ty γ} {x : α} {y : β}
/-! ### what may raise, within -/
theorem em_consR1 {r : Re γ} (k : Em E cl M tb σ I S w' r S2) : Ea E cl M (tCons tb tNil) σ I S (aC w' a0) (r.bind fun y => .ok (y, ())) S2 :=
  ⟨k.ad, fun H1 i w Q q qe => k.run H1 i w _ (fun y v2 H3 ey e2 w2 r2 => q (y, ()) [v2] H3 (by rw [ey]; rfl) e2 w2 ⟨v2, _, rfl, r2, rfl⟩) (fun j H3 ej e2 w2 => qe j H3 (by rw [ej]; rfl) e2 w2)⟩
theorem em_opR1 {rl : R2} {r : Re α} {g : α → γ} (ha : Em E cl M ta σ I S t r S1) (hb : Em E cl M tb σ I S1 u (.ok y) S1) (ho : ∀ x, Op2 rl t x u y w' (g x)) : Em E cl M (tOp rl ta tb) σ I S w' (r.bind fun x => .ok (g x)) S1 := by
  cases r with
  | ok x => exact em_op ha hb (ho x)
  | er k => exact ⟨ha.ad, fun H1 i w Q q qe => ha.run H1 i w _ (fun _ _ _ z => nomatch z) fun j H2 ej e2 w2 => qe j H2 (by cases ej; rfl) e2 w2⟩
theorem em_opR2 {rl : R2} {r : Re β} {g : β → γ} (ha : Em E cl M ta σ I S t (.ok x) S1) (hb : Em E cl M tb σ I S1 u r S2) (ho : ∀ y, r = .ok y → Op2 rl t x u y w' (g y)) : Em E cl M (tOp rl ta tb) σ I S w' (r.bind fun y => .ok (g y)) S2 := by
  cases r with
  | ok y => exact em_op ha hb (ho y rfl)
  | er k => exact ⟨hb.ad.trans ha.ad, fun H1 i w Q q qe => em_of ha H1 i w _ fun v H2 e w2 r2 => hb.run H2 (i.trans (w.grow e)) w2 _ (fun _ _ _ z => nomatch z) fun j H3 ej e3 w3 => qe j H3 (by cases ej; rfl) (ads_tr ha.ad e e3) w3⟩
end
end Rw
namespace Rw
open PySem PySem.Spec PyProof.Rows L2 Evl
theorem o_ixTG {K : PySem.W.Frag} {α : Type} {t : Ty α} {xs : List α} {x : α} {i : Int} (h : atI xs i = some x) : Op2 (rIxT K) (kT K t) xs kI i t x := fun M u w H l a b Q q => by
  obtain ⟨p, vs, rfl, hp, ha⟩ := a
  obtain rfl : w = .int i := b
  obtain ⟨j, hj, hx⟩ : ∃ j, ixN xs.length i = some j ∧ xs[j]? = some x := by
    unfold atI at h
    cases hj : ixN xs.length i with
    | none => rw [hj] at h; cases h
    | some j => rw [hj] at h; exact ⟨j, rfl, h⟩
  obtain ⟨v, hv, hr⟩ := ha.at2 hx
  refine ⟨p, vs, i, v, rfl, rfl, ex_t del_le hp, ?_, q v H (Ex.refl H) hr⟩
  unfold atI
  rw [ha.len]
  show (ixN xs.length i).bind _ = _
  rw [hj]
  exact hv
end Rw
namespace Rw
open PySem PySem.Spec PyProof.Rows L2 Evl Cy
section
variable {K : PySem.W.Frag} {α β γ δ R τ : Type} {E E' E'' : XK} {cl : Nat → Addr} {M : List Addr} {σ : L2.St} {I I' H H' : Hp} {S S' S1 S2 S3 : List Cell} {te ta tb tc to tv ti : TE} {tt : TT} {tr tk : TA} {t : Ty α} {u : Ty β} {C : Addr} {c : Ca}
theorem cal_run {n j : Nat} {d : Addr} {z : Dice} {Q : VK} (w : Holds M S H) (lt : ∀ z', LT M (S.set n (cDice d z'))) (hk : S[n]? = some (cDice d z)) (hσ : σ[j]? = some (some (.ref d)))
    (g : ∀ c z' a H2, c.Ok → Tiny c → Ex (del (ads S) H) (del (ads S) H2) → Holds M (S.set n (cDice d z')) H2 → (kCal K C).r (del M H2) (.ref a) c → Q (.ref a) H2) : tCall (spLawCal K C) [] E' (tCons (tVar j) tNil) σ H Q := by
  obtain ⟨_, u, h1, hu⟩ := w.at_ _ (List.mem_of_getElem? hk)
  obtain rfl : u = .lst [.int z.1, .int z.2.1, .int z.2.2] := hu
  refine ⟨.ref d, hσ, d, z.1, z.2.1, z.2.2, rfl, h1, fun x c H2 k tiny hc hx rel => ?_⟩
  obtain ⟨eB, a, b, e, h2⟩ := rel
  obtain ⟨w2, e2⟩ := dice_put (z' := (a, b, e)) w hk eB h2
  refine g c (a, b, e) x H2 k tiny e2 w2 ⟨x, rfl, ?_, Tiny.small k tiny⟩
  obtain ⟨dx, tm, ty, dl, ts, kvs, st, g1, g2, g3, g4, g5, g6, g7, g8, g9⟩ := hc
  have lt2 := lt (a, b, e)
  have tsM : ts ∉ M := fun z => by
    cases q : H ts with
    | none => exact w.live ts z q
    | some o => exact g8 ts o (fun y => by rw [y, hx] at q; cases q) q rfl
  exact ⟨dx, tm, ty, dl, ts, kvs, st, del_at (lt2.not (w := w2) g1 (fun _ z => nomatch z) (fun _ z => nomatch z)) g1, lt2.sqT (w := w2) g2, lt2.sqT (w := w2) g3, del_at (lt2.not (w := w2) g4 (fun _ z => nomatch z) (fun _ z => nomatch z)) g4, g5, sq_of (del_at tsM g9), g7⟩
/-- one, other, offset = two calendars and a roll -/
theorem g_lawcal2 {P : R → Prop} {D : Ends} {tz : TS} {i1 i2 i3 j n : Nat} {d : Addr} {z : Dice} {m : Int} {k : Ca → Ca → Dice → R} (w : Holds M S H) (lt : ∀ z', LT M (S.set n (cDice d z'))) (hk : S[n]? = some (cDice d z)) (hσ : σ[j]? = some (some (.ref d))) (hm : 0 < m ∧ m < 1000000) (o : ∀ c e z', c.Ok → Tiny c → e.Ok → Tiny e → P (k c e z'))
    (g : ∀ c e z' a b H2, c.Ok → Tiny c → e.Ok → Tiny e → P (k c e z') → Gr M S H H2 → Holds M (S.set n (cDice d (roll z' m).2)) H2 → (kCal K C).r (del M H2) (.ref a) c → (kCal K C).r (del M H2) (.ref b) e → tz D (((σ.set i1 (some (.ref a))).set i2 (some (.ref b))).set i3 (some (.int (roll z' m).1))) H2) :
    tSeq (tAsg (tTup (tCons (tCall (spLawCal K C) [] E' (tCons (tVar j) tNil)) (tCons (tCall (spLawCal K C) [] E' (tCons (tVar j) tNil)) (tCons (tCall spRollX [] E'' (tCons (tVar j) (tCons (tC (.int m)) tNil))) tNil)))) (gTup K 3 (gCons (gName i1) (gCons (gName i2) (gCons (gName i3) gNil))))) tz D σ H := by
  have st : ∀ z', ads (S.set n (cDice d z')) = ads S := fun z' => ads_set hk rfl
  have hlen : n < S.length := (List.getElem?_eq_some_iff.mp hk).1
  have hk2 : ∀ z', (S.set n (cDice d z'))[n]? = some (cDice d z') := fun z' => by rw [List.getElem?_set_self hlen]
  have ss : ∀ z1 z2, (S.set n (cDice d z1)).set n (cDice d z2) = S.set n (cDice d z2) := fun z1 z2 => List.set_set ..
  refine cal_run w lt hk hσ fun c z1 a H1 kc tc e1 w1 r1 => cal_run w1 (fun z' => by rw [ss]; exact lt z') (hk2 z1) hσ fun e z2 b H2 ke te e2 w2 r2 => ?_
  rw [ss] at w2
  rw [st] at e2
  refine em_of (cl := fun _ => 0) (em_roll (E' := E'') (E := E') (z := z2) (m := m) (n := n) (em_cons (em_var (t := kPtr d) (v := .ref d) (x := ()) hσ rfl) (em_cons em_int em_nil)) (hk2 z2) hm) H2 (Ex.refl _) w2 _ fun v H3 e3 w3 r3 => ?_
  obtain rfl : v = .int (roll z2 m).1 := r3
  rw [ss] at w3
  rw [st] at e3
  refine ⟨by show 3 ≤ sizeLine; decide, fun p hp => ⟨p, _, rfl, st_of upd_same, rfl, _, _, rfl, _, _, rfl, _, [], rfl, rfl, ?_⟩⟩
  show tz D _ _
  have e4 := Ex.new (o := .tup [.ref a, .ref b, .int (roll z2 m).1]) hp
  have e23 := e3.trans (ex_del (M := ads S) e4)
  have w0 := w3.ex e4
  have g1 : Ex (del M H1) (del M (upd H3 p (.tup [.ref a, .ref b, .int (roll z2 m).1]))) := (w1.grow (by rw [st]; exact e2)).trans ((w2.grow (by rw [st]; exact e3)).trans (ex_del e4))
  have g2 : Ex (del M H2) (del M (upd H3 p (.tup [.ref a, .ref b, .int (roll z2 m).1]))) := (w2.grow (by rw [st]; exact e3)).trans (ex_del e4)
  exact g c e z2 a b _ kc tc ke te (o c e z2 kc tc ke te) (.of w ((e1.trans e2).trans e23)) w0 ((kCal K C).up g1 r1) ((kCal K C).up g2 r2)
/-- row[1:4] -/
theorem row14_is (c : Ca) (n : Int) : ((rowI c n).drop 1).take 3 = [yearOf c n, ((dateM c n : Nat) : Int), dateD c n] := rfl
theorem em_row3 (ha : Em E cl M ta σ I S (kR K c) (.ok n) S') : Em E cl M (tSl (rSlT K) ta (tPart (tC (.int 1))) (tPart (tC (.int 4)))) σ I S (k3 K kI kI kI) (.ok (yearOf c n, ((dateM c n : Nat) : Int), dateD c n)) S' :=
  em_T3 (em_row14 ha)
/-- a calendar's method of a number that may raise -/
theorem em_oldMR {m : Str} {f : Ca → List V → Option Rs} {rs : Int → Rs} {r : Re Int} {g : Int → β} (ho : Em E cl M to σ I S (kCal K C) (.ok c) S1) (h : Ea E cl M tr σ I S1 (aC kI a0) (r.bind fun y => .ok (y, ())) S') (hm : ∀ tm ty dl ts, (calF c tm ty dl ts).lookup m = none) (hf : ∀ y, f c ([.int y] ++ []) = some (rs y)) (hr : ∀ y, RsT K (rs y) u (g y)) : Em E cl M (tMeth C m (spM K C cl f) [] E' to tr) σ I S u (r.bind fun y => .ok (g y)) S' := by
  cases r with
  | ok y => exact em_oldM ho h hB1 hm (hf y) (hr y)
  | er k => exact ⟨h.ad.trans ho.ad, fun H1 i w Q q qe => em_of ho H1 i w _ fun v H2 e w2 r2 => by
      obtain ⟨a, rfl, hc, hs⟩ := r2
      have hc2 : CalP K C H2 a c := hc.ex del_le
      obtain ⟨dx, tm, ty, dl, ts, kvs, st, h1, hrest⟩ := hc2
      exact ⟨a, dx, _, rfl, h1, hm _ _ _ _, h.run H2 (i.trans (w.grow e)) w2 _ (fun _ _ _ z => nomatch z) fun j H3 ej e3 w3 => qe j H3 (by cases ej; rfl) (ads_tr ho.ad e e3) w3⟩⟩
theorem fDate_ok {c : Ca} {n : Int} : fDate c ([.int n] ++ []) = some (.tup [.int (yearOf c n), .int ((dateM c n : Nat) : Int), .int (dateD c n)]) := rfl
theorem number_first {c : Ca} (k : c.Ok) {y m : Int} (h : 0 ≤ m ∧ m < (c.months.length : Int)) : f_number_of (c, y, m, 0, ()) = .ok (numAt c y m.toNat 0) :=
  number_ok ⟨h.1, h.2, Int.le_refl 0, by have := Ca.md_pos k y (m := m.toNat) (by omega); omega⟩
end
end Rw
namespace Rw
open PySem PySem.Spec PyProof.Rows L2 Evl Cy
def zval : Re Int → Int
  | .ok m => m
  | .er _ => 0
def zneI (z : Re Int) (n : Int) : Bool := match z with
  | .ok m => !decide (m = n)
  | .er _ => true
def zneS (z : Re Int) (s : Str) : Bool := match z with
  | .ok _ => true
  | .er i => !decide (kindName i = s)
theorem zval_of {z : Re Int} (h : zneS z "no day" = true) (k : ∀ i, z = .er i → i = 9) : z = .ok (zval z) := by
  cases z with
  | ok m => rfl
  | er i =>
    obtain rfl := k i rfl
    exact absurd h (by decide)
section
variable {K : PySem.W.Frag} {α β γ δ R τ : Type} {E E' E'' : XK} {cl : Nat → Addr} {M : List Addr} {σ : L2.St} {I I' H H' : Hp} {S S' S1 S2 S3 : List Cell} {te ta tb tc to tv ti : TE} {tt : TT} {tr tk : TA} {t : Ty α} {u : Ty β} {D : Ends} {tz : TS} {z : Re Int} {n : Int} {s : Str}
theorem sl_tupK {X : Cx} {K : PySem.W.Frag} (h : X.K = K := by rfl) : SlR X (rSlT K) := by
  subst h
  exact sl_tup
theorem o_neReI : Op2 rNe (kRe kI) z kI n kB (zneI z n) := fun M v1 v2 H l a b Q q => by
  obtain rfl : v2 = .int n := b
  cases z with
  | ok m =>
    obtain rfl : v1 = .int m := a
    exact ⟨rfl, q _ H (Ex.refl H) (by show V.bl _ = V.bl _; congr 1 <;> simp [zneI])⟩
  | er i =>
    obtain ⟨rfl, _⟩ := a
    exact ⟨rfl, q _ H (Ex.refl H) (by show V.bl _ = V.bl _; congr 1 <;> simp [zneI])⟩
theorem o_neReS : Op2 rNe (kRe kI) z kS s kB (zneS z s) := fun M v1 v2 H l a b Q q => by
  obtain rfl : v2 = .str s := b
  cases z with
  | ok m =>
    obtain rfl : v1 = .int m := a
    exact ⟨rfl, q _ H (Ex.refl H) (by show V.bl _ = V.bl _; congr 1 <;> simp [zneS])⟩
  | er i =>
    obtain ⟨rfl, _⟩ := a
    exact ⟨rfl, q _ H (Ex.refl H) (by show V.bl _ = V.bl _; congr 1 <;> simp [zneS])⟩
theorem em_zval (h : Em E cl M te σ I S (kRe kI) (.ok z) S') (e : z = .ok (zval z)) : Em E cl M te σ I S kI (.ok (zval z)) S' := em_ty h fun _ _ r => re_ok e r
theorem o_lenDN {l : List (Int × Int)} : OpN (fun xs H Q => ∃ a kvs, xs = [V.ref a] ∧ H a = some (.dK kvs) ∧ Q (.int kvs.length) H) (aC kDN a0) (l, ()) kI (l.length : Int) := fun M us H lv a Q q => by
  obtain ⟨v, r, rfl, ⟨p, rfl, hp⟩, rfl⟩ := a
  exact ⟨p, _, rfl, (del_some.mp hp).2, q _ H (Ex.refl H) (by show V.int _ = V.int _; rw [List.length_map])⟩
theorem all2_take {R : V → α → Prop} : ∀ {vs : List V} {xs : List α} (k : Nat), All2 R vs xs → All2 R (vs.take k) (xs.take k)
  | _, _, 0, _ => by rw [List.take_zero, List.take_zero]; exact .nil
  | _, _, k + 1, .nil => .nil
  | _, _, k + 1, .cons a r => by rw [List.take_succ_cons, List.take_succ_cons]; exact .cons a (all2_take k r)
theorem em_slTake {xs : List α} {n : Int} (ha : Em E cl M ta σ I S (kL K t) (.ok xs) S1) (hb : Em E cl M tb σ I S1 kI (.ok n) S2) (h : 0 ≤ n) : Em E cl M (tSl (rSlL K) ta tNoPart (tPart tb)) σ I S (kL K t) (.ok (xs.take n.toNat)) S2 :=
  em_mk (hb.ad.trans ha.ad) fun H1 i w Q q => em_of ha H1 i w _ fun v1 H2 e1 w1 r1 => em_of hb H2 (i.trans (w.grow e1)) w1 _ fun v2 H3 e2 w2 r2 => by
    obtain rfl : v2 = .int n := r2
    obtain ⟨p, vs, rfl, hp, h2⟩ := (kL K t).up (w1.grow e2) r1
    refine ⟨n, rfl, p, vs, rfl, ex_l del_le hp, fun q2 hq => ?_⟩
    have e3 := Ex.new (o := .lst (cutV vs none (some n))) hq
    have ec : cutV vs none (some n) = vs.take n.toNat := by
      have e : n = ((n.toNat : Nat) : Int) := by omega
      unfold cutV
      rw [e, HT.sIx_none, HT.sIx_nat, List.drop_zero, Int.toNat_natCast, Nat.sub_zero, List.take_eq_take_iff]
      omega
    refine q _ _ ((ads_tr ha.ad e1 e2).trans (ex_del e3)) (w2.ex e3) ⟨q2, cutV vs none (some n), rfl, sq_of (del_at (fresh_not w2.live hq) upd_same), ?_⟩
    rw [ec]
    rw [ec] at e3
    exact all2_up t (ex_del e3) (all2_take _ h2)
/-- a list in the making and a number, at once -/
theorem g_newP {i j : Nat} {n : Int} (K : PySem.W.Frag) (t : Ty α) (w : Holds M S H) (c : ∀ p H2, H p = none → Gr M S H H2 → Holds (p :: M) (cL p t [] :: S) H2 → Ex (del M H) (del (p :: M) H2) → tz D ((σ.set i (some (.ref p))).set j (some (.int n))) H2) : tSeq (tAsg (tTup (tCons (tLst tNil) (tCons (tC (.int n)) tNil))) (gTup K 2 (gCons (gName i) (gCons (gName j) gNil)))) tz D σ H := by
  refine ⟨Nat.zero_le _, fun p hp => ?_⟩
  refine ⟨by show 2 ≤ sizeLine; decide, fun p2 hp2 => ?_⟩
  have e0 : Ex H (upd H p (.lst [])) := Ex.new hp
  have e1 : Ex (upd H p (.lst [])) (upd (upd H p (.lst [])) p2 (.tup [.ref p, .int n])) := Ex.new hp2
  refine ⟨p2, _, rfl, st_of upd_same, rfl, _, _, rfl, _, [], rfl, rfl, ?_⟩
  show tz D _ _
  exact c p _ hp ⟨ex_del (e0.trans e1), ex_del (e0.trans e1)⟩ ((w.new (c := cL p t []) hp e0 upd_same ⟨[], rfl, .nil⟩).ex e1) (((del_new hp).trans (ex_del e0)).trans (ex_del e1))
end
end Rw
namespace Rw
open PySem PySem.Spec PyProof.Rows L2 Evl Cy

theorem up_any {l : List Int} (h : ((rng 1 (l.length : Int)).map fun k => decide ((atI l k).getD 0 ≤ (atI l (k - 1)).getD 0)).any id = false) : l.Pairwise (· < ·) := by
  have key : ∀ i (hi : i + 1 < l.length), l[i] < l[i + 1] := fun i hi => by
    rw [List.any_eq_false] at h
    have := h (decide ((atI l (((i + 1 : Nat) : Int))).getD 0 ≤ (atI l ((((i + 1 : Nat) : Int)) - 1)).getD 0)) (List.mem_map.mpr ⟨((i + 1 : Nat) : Int), rng_mem.mpr ⟨by omega, by omega⟩, rfl⟩)
    have e1 := atI_nat (xs := l) (j := i + 1) (v := l[i + 1]) (by rw [List.getElem?_eq_getElem hi])
    have e2 := atI_nat (xs := l) (j := i) (v := l[i]) (by rw [List.getElem?_eq_getElem])
    rw [show (((i + 1 : Nat) : Int)) - 1 = (i : Int) by omega, e1, e2] at this
    simp only [id, Option.getD_some, decide_eq_true_eq] at this
    omega
  rw [List.pairwise_iff_getElem]
  intro i j hi hj hij
  induction j with
  | zero => omega
  | succ j ih =>
    by_cases e : i = j
    · subst e; exact key _ hj
    · exact Int.lt_trans (ih (by omega) (by omega)) (key j hj)

def I_Pa (b : (Ca × Ca × Int)) : Prop := match b with
  | (c, e, o) => Small c ∧ Small e
def R_Pa (K : PySem.W.Frag) (C : Addr) : Hp → List (Str × V) → (Ca × Ca × Int) → Prop := fun H fs b => ∃ v0 v1 : V, fs = ([("one", v0), ("other", v1), ("offset", (.int (b.2.2)))] : List (Str × V)) ∧ (kCal K C).r H v0 (b.1) ∧ (kCal K C).r H v1 (b.2.1) ∧ I_Pa b
theorem R_Pa_up {K : PySem.W.Frag} {C : Addr} {H H' : Hp} {fs : List (Str × V)} {b : (Ca × Ca × Int)} (e : Ex H H') (h : R_Pa K C H fs b) : R_Pa K C H' fs b := by
  obtain ⟨v0, v1, h0, h1, h2, hz⟩ := h
  exact ⟨v0, v1, h0, (kCal K C).up e h1, (kCal K C).up e h2, hz⟩
abbrev k_Pa (K : PySem.W.Frag) (CP : Addr) (C : Addr) : Ty (Ca × Ca × Int) := kOb CP (R_Pa K C) (fun e h => R_Pa_up e h)
structure Tt_Pa (K : PySem.W.Frag) (CP : Addr) : Prop where
  cls : Cls K CP
  n_one : NoAttr K CP "one"
  n_other : NoAttr K CP "other"
  n_offset : NoAttr K CP "offset"
theorem em_Pa_one {K : PySem.W.Frag} {E : XK} {cl : Nat → Addr} {M : List Addr} {σ : L2.St} {I : Hp} {S S' : List Cell} {to : TE} {CP : Addr} {C : Addr} {b : (Ca × Ca × Int)} (T : Tt_Pa K CP) (h : Em E cl M to σ I S (k_Pa K CP C) (.ok b) S') : Em E cl M (tFld K to "one") σ I S (kCal K C) (.ok (b.1)) S' :=
  em_obF T.cls T.n_one (fun H fs r => by
    obtain ⟨v0, v1, h0, h1, h2, hz⟩ := r
    exact ⟨_, by rw [h0]; rfl, h1⟩) h
theorem em_Pa_other {K : PySem.W.Frag} {E : XK} {cl : Nat → Addr} {M : List Addr} {σ : L2.St} {I : Hp} {S S' : List Cell} {to : TE} {CP : Addr} {C : Addr} {b : (Ca × Ca × Int)} (T : Tt_Pa K CP) (h : Em E cl M to σ I S (k_Pa K CP C) (.ok b) S') : Em E cl M (tFld K to "other") σ I S (kCal K C) (.ok (b.2.1)) S' :=
  em_obF T.cls T.n_other (fun H fs r => by
    obtain ⟨v0, v1, h0, h1, h2, hz⟩ := r
    exact ⟨_, by rw [h0]; rfl, h2⟩) h
theorem em_Pa_offset {K : PySem.W.Frag} {E : XK} {cl : Nat → Addr} {M : List Addr} {σ : L2.St} {I : Hp} {S S' : List Cell} {to : TE} {CP : Addr} {C : Addr} {b : (Ca × Ca × Int)} (T : Tt_Pa K CP) (h : Em E cl M to σ I S (k_Pa K CP C) (.ok b) S') : Em E cl M (tFld K to "offset") σ I S kI (.ok (b.2.2)) S' :=
  em_obF T.cls T.n_offset (fun H fs r => by
    obtain ⟨v0, v1, h0, h1, h2, hz⟩ := r
    exact ⟨_, by rw [h0]; rfl, rfl⟩) h
theorem ob_Pa {K : PySem.W.Frag} {CP : Addr} {C : Addr} {m : Str} (hm : ∀ (b : (Ca × Ca × Int)) (v0 v1 : V), (([("one", v0), ("other", v1), ("offset", (.int (b.2.2)))] : List (Str × V)).lookup m = none)) : Ob (k_Pa K CP C) CP m := fun H v b ⟨x, dx, fs, e, h, r⟩ => by
  obtain ⟨v0, v1, h0, h1, h2, hz⟩ := r
  exact ⟨x, dx, fs, e, h, by rw [h0]; exact hm b v0 v1⟩
theorem inv_Pa {K : PySem.W.Frag} {CP : Addr} {C : Addr} {H : Hp} {v : V} {b : (Ca × Ca × Int)} (h : (k_Pa K CP C).r H v b) : I_Pa b := by
  obtain ⟨_, _, _, _, _, r⟩ := h
  obtain ⟨v0, v1, h0, h1, h2, hz⟩ := r
  exact hz

def I_Rn (b : (List (Str × Int) × List Int)) : Prop := match b with
  | (r, l) => l = (r.map fun q => q.2) ∧ r ≠ [] ∧ l.Pairwise (· < ·) ∧ r.length ≤ 100
def R_Rn (K : PySem.W.Frag)  : Hp → List (Str × V) → (List (Str × Int) × List Int) → Prop := fun H fs b => ∃ v0 v1 : V, fs = ([("rows", v0), ("firsts", v1)] : List (Str × V)) ∧ (kT K (k2 K kSo kI)).r H v0 (b.1) ∧ (kL K kI).r H v1 (b.2) ∧ I_Rn b
theorem R_Rn_up {K : PySem.W.Frag}  {H H' : Hp} {fs : List (Str × V)} {b : (List (Str × Int) × List Int)} (e : Ex H H') (h : R_Rn K  H fs b) : R_Rn K  H' fs b := by
  obtain ⟨v0, v1, h0, h1, h2, hz⟩ := h
  exact ⟨v0, v1, h0, (kT K (k2 K kSo kI)).up e h1, (kL K kI).up e h2, hz⟩
abbrev k_Rn (K : PySem.W.Frag) (CG : Addr)  : Ty (List (Str × Int) × List Int) := kOb CG (R_Rn K ) (fun e h => R_Rn_up e h)
structure Tt_Rn (K : PySem.W.Frag) (CG : Addr) : Prop where
  cls : Cls K CG
  n_rows : NoAttr K CG "rows"
  n_firsts : NoAttr K CG "firsts"
theorem em_Rn_rows {K : PySem.W.Frag} {E : XK} {cl : Nat → Addr} {M : List Addr} {σ : L2.St} {I : Hp} {S S' : List Cell} {to : TE} {CG : Addr}  {b : (List (Str × Int) × List Int)} (T : Tt_Rn K CG) (h : Em E cl M to σ I S (k_Rn K CG ) (.ok b) S') : Em E cl M (tFld K to "rows") σ I S (kT K (k2 K kSo kI)) (.ok (b.1)) S' :=
  em_obF T.cls T.n_rows (fun H fs r => by
    obtain ⟨v0, v1, h0, h1, h2, hz⟩ := r
    exact ⟨_, by rw [h0]; rfl, h1⟩) h
theorem em_Rn_firsts {K : PySem.W.Frag} {E : XK} {cl : Nat → Addr} {M : List Addr} {σ : L2.St} {I : Hp} {S S' : List Cell} {to : TE} {CG : Addr}  {b : (List (Str × Int) × List Int)} (T : Tt_Rn K CG) (h : Em E cl M to σ I S (k_Rn K CG ) (.ok b) S') : Em E cl M (tFld K to "firsts") σ I S (kL K kI) (.ok (b.2)) S' :=
  em_obF T.cls T.n_firsts (fun H fs r => by
    obtain ⟨v0, v1, h0, h1, h2, hz⟩ := r
    exact ⟨_, by rw [h0]; rfl, h2⟩) h
theorem ob_Rn {K : PySem.W.Frag} {CG : Addr}  {m : Str} (hm : ∀ (b : (List (Str × Int) × List Int)) (v0 v1 : V), (([("rows", v0), ("firsts", v1)] : List (Str × V)).lookup m = none)) : Ob (k_Rn K CG ) CG m := fun H v b ⟨x, dx, fs, e, h, r⟩ => by
  obtain ⟨v0, v1, h0, h1, h2, hz⟩ := r
  exact ⟨x, dx, fs, e, h, by rw [h0]; exact hm b v0 v1⟩
theorem inv_Rn {K : PySem.W.Frag} {CG : Addr}  {H : Hp} {v : V} {b : (List (Str × Int) × List Int)} (h : (k_Rn K CG ).r H v b) : I_Rn b := by
  obtain ⟨_, _, _, _, _, r⟩ := h
  obtain ⟨v0, v1, h0, h1, h2, hz⟩ := r
  exact hz

section
variable {P : Program} {w : World} {K : PySem.W.Frag} {mg : Str → Option Value} {base : Heap} {C D CP CG : Addr} {cl : Nat → Addr}

abbrev s_Pair_init : Stmt := inClass (topS 20) 0
def Pair_initN : List Str := ["self", "one", "other", "offset"]
theorem sc_Pair_init : FnScope Pair_initN ["self", "one", "other", "offset"] (defScope s_Pair_init) := ⟨rfl, rfl, rfl, by decide +kernel, rfl, by decide +kernel, by decide +kernel⟩
def f_Pair_init : Ca × Ca × Int × Unit → Re (Ca × Ca × Int) := fun a => match a with
  | (c0, c1, x2, _) =>
    (.ok (c0, c1, x2))
def pre_Pair_init : Ca × Ca × Int × Unit → Prop := fun a => match a with
  | (c0, c1, x2, _) => True
abbrev sp_Pair_init (K : PySem.W.Frag) (C : Addr) (CP : Addr) (cl : Nat → Addr) : Sp := spIni CP (aC (kCal K C) (aC (kCal K C) (aC kI a0))) pre_Pair_init f_Pair_init (R_Pa K C) cl
theorem ok_Pair_init {f : Addr} {fd : FuncData} (F : Fun K "__init__" "Pair.__init__" s_Pair_init f fd) (T_Pa : Tt_Pa K CP) : FnOk P w K mg base (L2.CX P w) 1 f fd ["self", "one", "other", "offset"] (sp_Pair_init K C CP cl) := by
  refine F.okX sc_Pair_init (fun vs H Q E h => ?_) (fun cdv A outer s H vs Q E hr h => ?_)
  · obtain ⟨M, x, dx, ws, a, rfl, _, _, _, hA, _⟩ := h
    obtain ⟨v0, _, rfl, r0, v1, _, rfl, r1, v2, _, rfl, r2, rfl⟩ := hA
    rfl
  · obtain ⟨M, x, dx, ws, ⟨c0, c1, x2, _⟩, rfl, xM, live, hx, hA, hpre, qok, qer⟩ := h
    obtain ⟨v0, _, rfl, r0, v1, _, rfl, r1, v2, _, rfl, r2, rfl⟩ := hA
    obtain rfl : v2 = (.int x2) := r2
    have sm0 : Small c0 := by obtain ⟨_, _, _, z⟩ := r0; exact z
    have ok0 := sm0.ok
    have wk0 := ok0.wk
    have wl0 := sm0.wk
    have len0 := sm0.len
    have lm00 := ok0.lm0
    have lm10 := ok0.lm1
    have sm1 : Small c1 := by obtain ⟨_, _, _, z⟩ := r1; exact z
    have ok1 := sm1.ok
    have wk1 := ok1.wk
    have wl1 := sm1.wk
    have len1 := sm1.len
    have lm01 := ok1.lm0
    have lm11 := ok1.lm1
    have w0 : Holds M [cIns x CP dx []] H := ⟨fun c hc => by rw [List.mem_singleton.mp hc]; exact ⟨xM, _, hx, rfl⟩, by simp [ads], live⟩
    have o0 : Pr (f_Pair_init (c0, c1, x2, ())) ((.ok (c0, c1, x2))) := rfl
    refine ⟨_, pss_cons (ps_fld (pv 0) (pv 1) rfl) (pss_cons (ps_fld (pv 0) (pv 2) rfl) (pss_one (ps_fld (pv 0) (pv 3) rfl))), ?_⟩
    refine g_fld (E := E) (cl := cl) (n := 0) (C := CP) (t := (kCal K C)) (y := c0) w0 (em_var (t := (kCal K C)) (v := v0) (x := c0) rfl r0) (em_var (t := kPtr x) (v := .ref x) (x := ()) rfl rfl) rfl T_Pa.cls T_Pa.n_one (Nat.lt_of_le_of_lt (Nat.le_refl 0) (by decide)) (fun v_1 H_2 g_3 w_4 r_5 => ?_)
    have r_6 := (kCal K C).up g_3.im r0
    have r_7 := (kCal K C).up g_3.im r1
    refine g_fld (E := E) (cl := cl) (n := 0) (C := CP) (t := (kCal K C)) (y := c1) w_4 (em_var (t := (kCal K C)) (v := v1) (x := c1) rfl r_7) (em_var (t := kPtr x) (v := .ref x) (x := ()) rfl rfl) rfl T_Pa.cls T_Pa.n_other (Nat.lt_of_le_of_lt (putF_le (Nat.le_refl 0)) (by decide)) (fun v_8 H_9 g_10 w_11 r_12 => ?_)
    have r_13 := (kCal K C).up g_10.im r_6
    have r_14 := (kCal K C).up g_10.im r_7
    have r_15 := (kCal K C).up g_10.im r_5
    refine g_fldL (E := E) (cl := cl) (n := 0) (C := CP) (t := kI) (y := x2) w_11 (em_var (t := kI) (v := (.int x2)) (x := x2) rfl rfl) (em_var (t := kPtr x) (v := .ref x) (x := ()) rfl rfl) rfl T_Pa.cls T_Pa.n_offset (Nat.lt_of_le_of_lt (putF_le (putF_le (Nat.le_refl 0))) (by decide)) (fun v_16 H_17 g_18 w_19 r_20 => ?_)
    have r_21 := (kCal K C).up g_18.im r_13
    have r_22 := (kCal K C).up g_18.im r_14
    have r_23 := (kCal K C).up g_18.im r_15
    have r_24 := (kCal K C).up g_18.im r_12
    obtain rfl : v_16 = (.int x2) := r_20
    obtain ⟨_, oF, hF⟩ := w_19.at_ _ (List.mem_singleton.mpr rfl)
    obtain ⟨hF1, hF2⟩ := hF
    subst hF2
    exact qok (c0, c1, x2) _ H_17 o0 hF1 (show Ex (del [x] H) (del [x] H_17) from Gr.fr ((g_3.then g_10 rfl).then g_18 rfl)) ⟨v_1, v_8, rfl, r_23, r_24, by show I_Pa (c0, c1, x2); first | (exact ⟨sm0, sm1⟩) | (dsimp only; exact ⟨sm0, sm1⟩)⟩

abbrev s_Pair_across : Stmt := inClass (topS 20) 1
def Pair_acrossN : List Str := ["self", "year", "month", "day"]
theorem sc_Pair_across : FnScope Pair_acrossN ["self", "year", "month", "day"] (defScope s_Pair_across) := ⟨rfl, rfl, rfl, by decide +kernel, rfl, by decide +kernel, by decide +kernel⟩
def f_Pair_across : (Ca × Ca × Int) × Int × Int × Int × Unit → Re (Int × Int × Int) := fun a => match a with
  | ((c0, e0, ofs0), x1, x2, x3, _) =>
    (((f_number_of (c0, x1, x2, x3, ())).bind fun n => .ok (n + ofs0)).bind fun n => .ok ((fun n => (yearOf e0 n, ((dateM e0 n : Nat) : Int), dateD e0 n)) n))
def pre_Pair_across : (Ca × Ca × Int) × Int × Int × Int × Unit → Prop := fun a => match a with
  | ((c0, e0, ofs0), x1, x2, x3, _) => True
abbrev sp_Pair_across (K : PySem.W.Frag) (C : Addr) (D : Addr) (CP : Addr) (cl : Nat → Addr) : Sp := spD (aC (k_Pa K CP C) (aC kI (aC kI (aC kI a0)))) pre_Pair_across f_Pair_across (k3 K kI kI kI) cl
theorem ok_Pair_across {f : Addr} {fd : FuncData} (F : Fun K "across" "Pair.across" s_Pair_across f fd) (T_Pa : Tt_Pa K CP) (mNO : Mt P w K mg base 3 C "number_of" (sp_number_of K C D cl) []) (mDA : Mt P w K mg base 3 C "date" (spM K C cl fDate) []) : FnOk P w K mg base (L2.CX P w) 4 f fd ["self", "year", "month", "day"] (sp_Pair_across K C D CP cl) := by
  refine F.okX sc_Pair_across (fun vs H Q E h => ?_) (fun cdv A outer s H vs Q E hr h => ?_)
  · obtain ⟨M, a, live, hA, _⟩ := h
    obtain ⟨v0, _, rfl, r0, v1, _, rfl, r1, v2, _, rfl, r2, v3, _, rfl, r3, rfl⟩ := hA
    rfl
  · obtain ⟨M, ⟨⟨c0, e0, ofs0⟩, x1, x2, x3, _⟩, live, hA, hpre, qok, qer⟩ := h
    obtain ⟨v0, _, rfl, r0, v1, _, rfl, r1, v2, _, rfl, r2, v3, _, rfl, r3, rfl⟩ := hA
    obtain rfl : v1 = (.int x1) := r1
    obtain rfl : v2 = (.int x2) := r2
    obtain rfl : v3 = (.int x3) := r3
    have iv0 : I_Pa (c0, e0, ofs0) := inv_Pa r0
    obtain ⟨ic0, ie0⟩ := iv0
    have w0 : Holds M [] H := hold0 live
    have o0 : Pr (f_Pair_across ((c0, e0, ofs0), x1, x2, x3, ())) ((((f_number_of (c0, x1, x2, x3, ())).bind fun n => .ok (n + ofs0)).bind fun n => .ok ((fun n => (yearOf e0 n, ((dateM e0 n : Nat) : Int), dateD e0 n)) n))) := rfl
    refine ⟨_, pss_one (ps_ret (pe_mk mDA hr (by decide) passL (pe_fld (pv 0) rfl) (pa_cons (pe_op op_add (pe_mk mNO hr (by decide) (passE (E := E)) (pe_fld (pv 0) rfl) (pa_cons (pv 1) (pa_cons (pv 2) (pa_cons (pv 3) pa_nil)))) (pe_fld (pv 0) rfl)) pa_nil))), ?_⟩
    refine g_retX (E := E) (cl := cl) (t := (k3 K kI kI kI)) (r := (((f_number_of (c0, x1, x2, x3, ())).bind fun n => .ok (n + ofs0)).bind fun n => .ok ((fun n => (yearOf e0 n, ((dateM e0 n : Nat) : Int), dateD e0 n)) n))) w0 (em_oldMR (g := (fun n => (yearOf e0 n, ((dateM e0 n : Nat) : Int), dateD e0 n))) (em_Pa_other T_Pa (em_var (t := (k_Pa K CP C)) (v := v0) (x := (c0, e0, ofs0)) rfl r0)) (em_consR1 (em_opR1 (g := fun n => n + ofs0) (em_meth (b := (x1, x2, x3, ())) (em_Pa_one T_Pa (em_var (t := (k_Pa K CP C)) (v := v0) (x := (c0, e0, ofs0)) rfl r0)) (ob_cal fun _ _ _ _ _ => rfl) (em_cons (em_var (t := kI) (v := (.int x1)) (x := x1) rfl rfl) (em_cons (em_var (t := kI) (v := (.int x2)) (x := x2) rfl rfl) (em_cons (em_var (t := kI) (v := (.int x3)) (x := x3) rfl rfl) em_nil))) args_m trivial) (em_Pa_offset T_Pa (em_var (t := (k_Pa K CP C)) (v := v0) (x := (c0, e0, ofs0)) rfl r0)) (fun _ => o_I))) (fun _ _ _ _ => rfl) (fun _ => fDate_ok) (fun _ => rs3)) (fun x_30 v_25 H_26 e_31 g_27 w_28 r_29 => ?_) (fun k_32 H_33 e_34 g_35 w_36 => ?_)
    · exact qok _ v_25 H_26 (Eq.trans o0 e_31) (show Ex H _ from Gr.fr g_27) r_29
    · exact qer _ _ (Eq.trans o0 e_34) (show Ex H _ from Gr.fr g_35)

abbrev s_Pair_back : Stmt := inClass (topS 20) 2
def Pair_backN : List Str := ["self", "year", "month", "day"]
theorem sc_Pair_back : FnScope Pair_backN ["self", "year", "month", "day"] (defScope s_Pair_back) := ⟨rfl, rfl, rfl, by decide +kernel, rfl, by decide +kernel, by decide +kernel⟩
def f_Pair_back : (Ca × Ca × Int) × Int × Int × Int × Unit → Re (Int × Int × Int) := fun a => match a with
  | ((c0, e0, ofs0), x1, x2, x3, _) =>
    (((f_number_of (e0, x1, x2, x3, ())).bind fun n => .ok (n - ofs0)).bind fun n => .ok ((fun n => (yearOf c0 n, ((dateM c0 n : Nat) : Int), dateD c0 n)) n))
def pre_Pair_back : (Ca × Ca × Int) × Int × Int × Int × Unit → Prop := fun a => match a with
  | ((c0, e0, ofs0), x1, x2, x3, _) => True
abbrev sp_Pair_back (K : PySem.W.Frag) (C : Addr) (D : Addr) (CP : Addr) (cl : Nat → Addr) : Sp := spD (aC (k_Pa K CP C) (aC kI (aC kI (aC kI a0)))) pre_Pair_back f_Pair_back (k3 K kI kI kI) cl
theorem ok_Pair_back {f : Addr} {fd : FuncData} (F : Fun K "back" "Pair.back" s_Pair_back f fd) (T_Pa : Tt_Pa K CP) (mNO : Mt P w K mg base 3 C "number_of" (sp_number_of K C D cl) []) (mDA : Mt P w K mg base 3 C "date" (spM K C cl fDate) []) : FnOk P w K mg base (L2.CX P w) 4 f fd ["self", "year", "month", "day"] (sp_Pair_back K C D CP cl) := by
  refine F.okX sc_Pair_back (fun vs H Q E h => ?_) (fun cdv A outer s H vs Q E hr h => ?_)
  · obtain ⟨M, a, live, hA, _⟩ := h
    obtain ⟨v0, _, rfl, r0, v1, _, rfl, r1, v2, _, rfl, r2, v3, _, rfl, r3, rfl⟩ := hA
    rfl
  · obtain ⟨M, ⟨⟨c0, e0, ofs0⟩, x1, x2, x3, _⟩, live, hA, hpre, qok, qer⟩ := h
    obtain ⟨v0, _, rfl, r0, v1, _, rfl, r1, v2, _, rfl, r2, v3, _, rfl, r3, rfl⟩ := hA
    obtain rfl : v1 = (.int x1) := r1
    obtain rfl : v2 = (.int x2) := r2
    obtain rfl : v3 = (.int x3) := r3
    have iv0 : I_Pa (c0, e0, ofs0) := inv_Pa r0
    obtain ⟨ic0, ie0⟩ := iv0
    have w0 : Holds M [] H := hold0 live
    have o0 : Pr (f_Pair_back ((c0, e0, ofs0), x1, x2, x3, ())) ((((f_number_of (e0, x1, x2, x3, ())).bind fun n => .ok (n - ofs0)).bind fun n => .ok ((fun n => (yearOf c0 n, ((dateM c0 n : Nat) : Int), dateD c0 n)) n))) := rfl
    refine ⟨_, pss_one (ps_ret (pe_mk mDA hr (by decide) passL (pe_fld (pv 0) rfl) (pa_cons (pe_op op_sub (pe_mk mNO hr (by decide) (passE (E := E)) (pe_fld (pv 0) rfl) (pa_cons (pv 1) (pa_cons (pv 2) (pa_cons (pv 3) pa_nil)))) (pe_fld (pv 0) rfl)) pa_nil))), ?_⟩
    refine g_retX (E := E) (cl := cl) (t := (k3 K kI kI kI)) (r := (((f_number_of (e0, x1, x2, x3, ())).bind fun n => .ok (n - ofs0)).bind fun n => .ok ((fun n => (yearOf c0 n, ((dateM c0 n : Nat) : Int), dateD c0 n)) n))) w0 (em_oldMR (g := (fun n => (yearOf c0 n, ((dateM c0 n : Nat) : Int), dateD c0 n))) (em_Pa_one T_Pa (em_var (t := (k_Pa K CP C)) (v := v0) (x := (c0, e0, ofs0)) rfl r0)) (em_consR1 (em_opR1 (g := fun n => n - ofs0) (em_meth (b := (x1, x2, x3, ())) (em_Pa_other T_Pa (em_var (t := (k_Pa K CP C)) (v := v0) (x := (c0, e0, ofs0)) rfl r0)) (ob_cal fun _ _ _ _ _ => rfl) (em_cons (em_var (t := kI) (v := (.int x1)) (x := x1) rfl rfl) (em_cons (em_var (t := kI) (v := (.int x2)) (x := x2) rfl rfl) (em_cons (em_var (t := kI) (v := (.int x3)) (x := x3) rfl rfl) em_nil))) args_m trivial) (em_Pa_offset T_Pa (em_var (t := (k_Pa K CP C)) (v := v0) (x := (c0, e0, ofs0)) rfl r0)) (fun _ => o_I))) (fun _ _ _ _ => rfl) (fun _ => fDate_ok) (fun _ => rs3)) (fun x_42 v_37 H_38 e_43 g_39 w_40 r_41 => ?_) (fun k_44 H_45 e_46 g_47 w_48 => ?_)
    · exact qok _ v_37 H_38 (Eq.trans o0 e_43) (show Ex H _ from Gr.fr g_39) r_41
    · exact qer _ _ (Eq.trans o0 e_46) (show Ex H _ from Gr.fr g_47)

abbrev s_begins : Stmt := topS 21
def beginsN : List Str := ["calendar", "number", "unit", "_", "month", "day"]
theorem sc_begins : FnScope beginsN ["calendar", "number", "unit"] (defScope s_begins) := ⟨rfl, rfl, rfl, by decide +kernel, rfl, by decide +kernel, by decide +kernel⟩
def f_begins : Ca × Int × Str × Unit → Re Bool := fun a => match a with
  | (c0, x1, x2, _) =>
    lt ((yearOf c0 x1), ((dateM c0 x1 : Nat) : Int), (dateD c0 x1)) fun _ =>
    (.ok ((decide ((dateD c0 x1) = (0 : Int))) && ((decide (x2 = "month")) || (decide (((dateM c0 x1 : Nat) : Int) = (0 : Int))))))
def pre_begins : Ca × Int × Str × Unit → Prop := fun a => match a with
  | (c0, x1, x2, _) => True
abbrev sp_begins (K : PySem.W.Frag) (C : Addr) (D : Addr) (CP : Addr) (cl : Nat → Addr) : Sp := spD (aC (kCal K C) (aC kI (aC kS a0))) pre_begins f_begins kB cl
theorem ok_begins {f : Addr} {fd : FuncData} (F : Fun K "begins" "begins" s_begins f fd) (mDA : Mt P w K mg base 3 C "date" (spM K C cl fDate) []) : FnOk P w K mg base (L2.CX P w) 4 f fd ["calendar", "number", "unit"] (sp_begins K C D CP cl) := by
  refine F.okX sc_begins (fun vs H Q E h => ?_) (fun cdv A outer s H vs Q E hr h => ?_)
  · obtain ⟨M, a, live, hA, _⟩ := h
    obtain ⟨v0, _, rfl, r0, v1, _, rfl, r1, v2, _, rfl, r2, rfl⟩ := hA
    rfl
  · obtain ⟨M, ⟨c0, x1, x2, _⟩, live, hA, hpre, qok, qer⟩ := h
    obtain ⟨v0, _, rfl, r0, v1, _, rfl, r1, v2, _, rfl, r2, rfl⟩ := hA
    obtain rfl : v1 = (.int x1) := r1
    obtain rfl : v2 = (.str x2) := r2
    have sm0 : Small c0 := by obtain ⟨_, _, _, z⟩ := r0; exact z
    have ok0 := sm0.ok
    have wk0 := ok0.wk
    have wl0 := sm0.wk
    have len0 := sm0.len
    have lm00 := ok0.lm0
    have lm10 := ok0.lm1
    have w0 : Holds M [] H := hold0 live
    have o0 : Pr (f_begins (c0, x1, x2, ())) (lt ((yearOf c0 x1), ((dateM c0 x1 : Nat) : Int), (dateD c0 x1)) fun _ =>
(.ok ((decide ((dateD c0 x1) = (0 : Int))) && ((decide (x2 = "month")) || (decide (((dateM c0 x1 : Nat) : Int) = (0 : Int))))))) := rfl
    refine ⟨_, pss_cons (ps_asg (pe_mk mDA hr (by decide) passL (pv 0) (pa_cons (pv 1) pa_nil)) (pg_tup rfl (pgs_cons (pg_name (i := 3) sc_begins.nd rfl (.inl rfl)) (pgs_cons (pg_name (i := 4) sc_begins.nd rfl (.inl rfl)) (pgs_cons (pg_name (i := 5) sc_begins.nd rfl (.inl rfl)) pgs_nil))))) (pss_one (ps_ret (pe_and (pe_cmpR op_eq (pv 5) pe_int (nomark _)) (pe_one (pe_or (pe_cmpR op_eq (pv 2) pe_str (nomark _)) (pe_one (pe_cmpR op_eq (pv 4) pe_int (nomark _)))))))), ?_⟩
    refine g_asgG (E := E) (cl := cl) (t := (k3 K kI kI kI)) (x := ((yearOf c0 x1), ((dateM c0 x1 : Nat) : Int), (dateD c0 x1))) w0 eg_3 o0 (em_oldM (y := ((yearOf c0 x1), ((dateM c0 x1 : Nat) : Int), (dateD c0 x1))) (em_var (t := (kCal K C)) (v := v0) (x := c0) rfl r0) (em_cons (em_var (t := kI) (v := (.int x1)) (x := x1) rfl rfl) em_nil) hB1 (fun _ _ _ _ => rfl) fDate_ok rs3) (fun p_49 σ_50 H_51 hx_52 o_53 g_54 w_55 b => ?_)
    subst hx_52
    have r_56 := (kCal K C).up g_54.im r0
    obtain ⟨_, _, _, rfl, rfl, rfl, rfl⟩ := b
    refine g_ret (E := E) (cl := cl) (t := kB) (x := ((decide ((dateD c0 x1) = (0 : Int))) && ((decide (x2 = "month")) || (decide (((dateM c0 x1 : Nat) : Int) = (0 : Int)))))) w_55 (em_andV (em_op (em_var (t := kI) (v := (.int (dateD c0 x1))) (x := (dateD c0 x1)) rfl rfl) em_int o_eqI) (fun h_57 => (em_orV (em_op (em_var (t := kS) (v := (.str x2)) (x := x2) rfl rfl) em_str o_eqS) (fun h_58 => (em_op (em_var (t := kI) (v := (.int ((dateM c0 x1 : Nat) : Int))) (x := ((dateM c0 x1 : Nat) : Int)) rfl rfl) em_int o_eqI))))) (fun v_61 H_62 g_63 w_64 r_65 => ?_)
    exact qok _ v_61 H_62 o_53 (show Ex H _ from Gr.fr (g_54.then g_63 rfl)) r_65
def v_begins : Ca × Int × Str × Unit → Bool := fun a => match a with
  | (c0, x1, x2, _) =>
    lt ((yearOf c0 x1), ((dateM c0 x1 : Nat) : Int), (dateD c0 x1)) fun _ =>
    (((decide ((dateD c0 x1) = (0 : Int))) && ((decide (x2 = "month")) || (decide (((dateM c0 x1 : Nat) : Int) = (0 : Int))))))
theorem is_begins (a : Ca × Int × Str × Unit) : f_begins a = .ok (v_begins a) := by
  obtain ⟨c0, x1, x2, _⟩ := a
  rfl

abbrev s_Pair_both_begin : Stmt := inClass (topS 20) 3
def Pair_both_beginN : List Str := ["self", "number", "unit", "most", "start", "place", "year", "month", "here"]
theorem sc_Pair_both_begin : FnScope Pair_both_beginN ["self", "number", "unit", "most"] (defScope s_Pair_both_begin) := ⟨rfl, rfl, rfl, by decide +kernel, rfl, by decide +kernel, by decide +kernel⟩
def f_Pair_both_begin : (Ca × Ca × Int) × Int × Str × Int × Unit → Re Int := fun a => match a with
  | ((c0, e0, ofs0), x1, x2, x3, _) =>
    cond (!decide (x2 ∈ (["year", "month"] : List Str)))
    ((.er 10))
    (lt (yearOf c0 x1 * (List.length (Ca.months c0) : Int) + ((dateM c0 x1 : Nat) : Int)) fun start_78 =>
    forK (fun (x_87 : Int) (s_88 : Unit) (kn : Unit → _) (kb : Unit → _) =>
    lt (x_87 / ((Ca.months c0).length : Int), x_87 % ((Ca.months c0).length : Int)) fun _ =>
    cond ((decide (x2 = "month")) || (decide ((x_87 % ((Ca.months c0).length : Int)) = (0 : Int))))
    (lt (numAt c0 (x_87 / ((Ca.months c0).length : Int)) ((x_87 % ((Ca.months c0).length : Int))).toNat (0 : Int)) fun here_133 =>
    cond ((decide (x1 ≤ here_133)) && (v_begins (e0, (here_133 + ofs0), x2, ())))
    ((.ok here_133))
    (kn ()))
    (kn ()))
    (fun (s_162 : Unit) =>
    (.er 9))
    (rng start_78 (start_78 + x3)) ())
def pre_Pair_both_begin : (Ca × Ca × Int) × Int × Str × Int × Unit → Prop := fun a => match a with
  | ((c0, e0, ofs0), x1, x2, x3, _) => (0 ≤ (yearOf c0 x1 * (List.length (Ca.months c0) : Int) + ((dateM c0 x1 : Nat) : Int)) ∧ (yearOf c0 x1 * (List.length (Ca.months c0) : Int) + ((dateM c0 x1 : Nat) : Int)) ≤ 100000) ∧ 0 ≤ x3 ∧ x3 ≤ 1000
abbrev sp_Pair_both_begin (K : PySem.W.Frag) (C : Addr) (D : Addr) (CP : Addr) (cl : Nat → Addr) : Sp := spD (aC (k_Pa K CP C) (aC kI (aC kS (aC kI a0)))) pre_Pair_both_begin f_Pair_both_begin kI cl
theorem ok_Pair_both_begin {f : Addr} {fd : FuncData} (F : Fun K "both_begin" "Pair.both_begin" s_Pair_both_begin f fd) (T_Pa : Tt_Pa K CP) (TC : CalT K C) (B : BD mg) (nD : Nw P w K mg base 4 "Day" D (spDay K C D) []) (d_month_number : Mt P w K mg base 1 D "month_number" (sp_month_number K C D cl) []) (mNO : Mt P w K mg base 3 C "number_of" (sp_number_of K C D cl) []) (c_begins : Cal P w K mg base 4 "begins" (sp_begins K C D CP cl) []) (xNoSuch : Exc1 K mg "NoSuch" (cl 10)) (xNoDay : Exc1 K mg "NoDay" (cl 9)) : FnOk P w K mg base (L2.CX P w) 6 f fd ["self", "number", "unit", "most"] (sp_Pair_both_begin K C D CP cl) := by
  refine F.okX sc_Pair_both_begin (fun vs H Q E h => ?_) (fun cdv A outer s H vs Q E hr h => ?_)
  · obtain ⟨M, a, live, hA, _⟩ := h
    obtain ⟨v0, _, rfl, r0, v1, _, rfl, r1, v2, _, rfl, r2, v3, _, rfl, r3, rfl⟩ := hA
    rfl
  · obtain ⟨M, ⟨⟨c0, e0, ofs0⟩, x1, x2, x3, _⟩, live, hA, hpre, qok, qer⟩ := h
    obtain ⟨v0, _, rfl, r0, v1, _, rfl, r1, v2, _, rfl, r2, v3, _, rfl, r3, rfl⟩ := hA
    obtain rfl : v1 = (.int x1) := r1
    obtain rfl : v2 = (.str x2) := r2
    obtain rfl : v3 = (.int x3) := r3
    have iv0 : I_Pa (c0, e0, ofs0) := inv_Pa r0
    obtain ⟨ic0, ie0⟩ := iv0
    have hpre : (0 ≤ (yearOf c0 x1 * (List.length (Ca.months c0) : Int) + ((dateM c0 x1 : Nat) : Int)) ∧ (yearOf c0 x1 * (List.length (Ca.months c0) : Int) + ((dateM c0 x1 : Nat) : Int)) ≤ 100000) ∧ 0 ≤ x3 ∧ x3 ≤ 1000 := hpre
    have lm := ic0.ok.lm0; have lm1 := ic0.ok.lm1; have lm2 := ic0.len
    have w0 : Holds M [] H := hold0 live
    have o0 : Pr (f_Pair_both_begin ((c0, e0, ofs0), x1, x2, x3, ())) (cond (!decide (x2 ∈ (["year", "month"] : List Str)))
((.er 10))
(lt (yearOf c0 x1 * (List.length (Ca.months c0) : Int) + ((dateM c0 x1 : Nat) : Int)) fun start_78 =>
forK (fun (x_87 : Int) (s_88 : Unit) (kn : Unit → _) (kb : Unit → _) =>
lt (x_87 / ((Ca.months c0).length : Int), x_87 % ((Ca.months c0).length : Int)) fun _ =>
cond ((decide (x2 = "month")) || (decide ((x_87 % ((Ca.months c0).length : Int)) = (0 : Int))))
(lt (numAt c0 (x_87 / ((Ca.months c0).length : Int)) ((x_87 % ((Ca.months c0).length : Int))).toNat (0 : Int)) fun here_133 =>
cond ((decide (x1 ≤ here_133)) && (v_begins (e0, (here_133 + ofs0), x2, ())))
((.ok here_133))
(kn ()))
(kn ()))
(fun (s_162 : Unit) =>
(.er 9))
(rng start_78 (start_78 + x3)) ())) := rfl
    refine ⟨_, pss_cons (ps_if (pt_cmpR op_notIn_seq (pv 2) (pe_tup (pa_cons pe_str (pa_cons pe_str pa_nil))) (by rfl)) (pss_one (ps_raiseX xNoSuch)) (pss_nil)) (pss_cons (ps_set (i := 4) sc_Pair_both_begin.nd rfl (.inl rfl) (pe_mk0 d_month_number hr (by decide) passL (pe_nw nD hr (by decide) passL (pa_cons (pe_fld (pv 0) rfl) (pa_cons (pv 1) pa_nil))))) (pss_cons (ps_for (passes_of rfl) rfl (pi_range2 rfl B.range (pa_cons (pv 4) (pa_cons (pe_op op_add (pv 4) (pv 3)) pa_nil))) (pg_name (i := 5) sc_Pair_both_begin.nd rfl (Or.inl rfl)) (pss_cons (ps_asg (pe_callB call_divmod (by rfl) B.divmod (by decide +kernel) (pa_cons (pv 5) (pa_cons (pe_callB call_len_seq (by rfl) B.len (by decide +kernel) (pa_cons (pe_fld (pe_fld (pv 0) rfl) rfl) pa_nil)) pa_nil))) (pg_tup rfl (pgs_cons (pg_name (i := 6) sc_Pair_both_begin.nd rfl (.inl rfl)) (pgs_cons (pg_name (i := 7) sc_Pair_both_begin.nd rfl (.inl rfl)) pgs_nil)))) (pss_one (ps_if (PW.pt (pw_or (pt_cmpR op_eq (pv 2) pe_str (nomark _)) (pw_or1 (pt_cmpR op_eq (pv 7) pe_int (nomark _))))) (pss_cons (ps_set (i := 8) sc_Pair_both_begin.nd rfl (.inl rfl) (pe_mk mNO hr (by decide) passL (pe_fld (pv 0) rfl) (pa_cons (pv 6) (pa_cons (pv 7) (pa_cons pe_int pa_nil))))) (pss_one (ps_if (PW.pt (pw_and (pt_cmpR op_ge (pv 8) (pv 1) (nomark _)) (pw_and1 (pt_val (pe_k c_begins hr (by decide) passL (pa_cons (pe_fld (pv 0) rfl) (pa_cons (pe_op op_add (pv 8) (pe_fld (pv 0) rfl)) (pa_cons (pv 2) pa_nil)))))))) (pss_one (ps_ret (pv 8))) (pss_nil)))) (pss_nil))))) (pss_one (ps_raiseX xNoDay)))), ?_⟩
    refine g_when (E := E) (cl := cl) (b := (!decide (x2 ∈ (["year", "month"] : List Str)))) w0 o0 (gt_test (em_op (em_var (t := kS) (v := (.str x2)) (x := x2) rfl rfl) (em_tupL K (t := kS) (em_consL em_str (em_consL em_str em_nilL)) (by simp)) (o_inST (neg := true)))) (fun hb_67 o_68 H_66 g_69 w_70 => ?_) (fun hb_72 o_73 H_71 g_74 w_75 => ?_)
    · try simp only [decide_eq_true_eq, decide_eq_false_iff_not, Bool.and_eq_true, Bool.or_eq_true, Bool.and_eq_false_iff, Bool.or_eq_false_iff, Bool.not_eq_true', Bool.not_eq_false'] at hb_67
      have r_76 := (k_Pa K CP C).up g_69.im r0
      exact qer 10 _ o_68 (show Ex H _ from Gr.fr g_69)
    · try simp only [decide_eq_true_eq, decide_eq_false_iff_not, Bool.and_eq_true, Bool.or_eq_true, Bool.and_eq_false_iff, Bool.or_eq_false_iff, Bool.not_eq_true', Bool.not_eq_false'] at hb_72
      have r_77 := (k_Pa K CP C).up g_74.im r0
      refine g_asg (E := E) (cl := cl) (i := 4) (t := kI) (x := (yearOf c0 x1 * (List.length (Ca.months c0) : Int) + ((dateM c0 x1 : Nat) : Int))) w_75 o_73 (em_methP (y := (yearOf c0 x1 * (List.length (Ca.months c0) : Int) + ((dateM c0 x1 : Nat) : Int))) (b := ()) (em_mkDay (em_cons (em_Pa_one T_Pa (em_var (t := (k_Pa K CP C)) (v := v0) (x := (c0, e0, ofs0)) rfl r_77)) (em_cons (em_var (t := kI) (v := (.int x1)) (x := x1) rfl rfl) em_nil))) (ob_day fun _ _ _ => rfl) em_nil args_m0 trivial rfl) (fun start_78 v_79 H_80 hx_81 o_82 g_83 w_84 r_85 => ?_)
      have r_86 := (k_Pa K CP C).up g_83.im r_77
      obtain rfl : v_79 = (.int start_78) := r_85
      refine g_for (E := E) (cl := cl) (xs := (rng start_78 (start_78 + x3))) (s0 := ()) (Sx := (fun s : Unit => [])) (fun (I : Hp) (rs : List Int) (s : Unit) (σ : L2.St) => ∃ (l5 : Option V) (l6 : Option V) (l7 : Option V) (l8 : Option V), σ = [some v0, some (.int x1), some (.str x2), some (.int x3), some (.int start_78), l5, l6, l7, l8]) w_84 o_82 (ei_R2 (em_cons (em_var (t := kI) (v := (.int start_78)) (x := start_78) rfl rfl) (em_cons (em_op (em_var (t := kI) (v := (.int start_78)) (x := start_78) rfl rfl) (em_var (t := kI) (v := (.int x3)) (x := x3) rfl rfl) o_I) em_nil)) (by subst_vars; refine ⟨by omega, by omega, by omega, by omega⟩)) (fun _ => rfl) (fun _ => eg_name) (fun _ g => ⟨_, _, _, _, rfl⟩) (fun s_162 σ_163 H_164 g_165 w_166 rv_167 o_168 => ?_) (fun hd_103 x_87 s_88 σ_89 σ_90 I_91 H_92 rest_93 hm_94 g_95 w_96 ei_97 rv_98 b_99 o_100 Nx_101 nx_102 => ?_)
      · have r_169 := (k_Pa K CP C).up g_165.im r_86
        obtain ⟨l_170, l_171, l_172, l_173, rfl⟩ := rv_167
        exact qer 9 _ o_168 (show Ex H _ from Gr.fr ((g_74.then g_83 rfl).then g_165 rfl))
      · obtain ⟨l_106, l_107, l_108, l_109, rfl⟩ := rv_98
        have r_111 := (k_Pa K CP C).up g_95.im r_86
        obtain ⟨_, rfl, rfl⟩ := b_99
        rw [rng_mem] at hm_94
        refine g_asgG (E := E) (cl := cl) (t := (k2 K kI kI)) (x := (x_87 / ((Ca.months c0).length : Int), x_87 % ((Ca.months c0).length : Int))) w_96 eg_2 o_100 (em_cb (em_cons (em_var (t := kI) (v := (.int x_87)) (x := x_87) rfl rfl) (em_cons (em_cb (em_cons (em_calMonths TC (em_Pa_one T_Pa (em_var (t := (k_Pa K CP C)) (v := v0) (x := (c0, e0, ofs0)) rfl r_111))) em_nil) o_lenT) em_nil)) (o_divmod (by first | exact ⟨by omega, by omega⟩ | (dsimp only; exact ⟨by omega, by omega⟩)))) (fun p_112 σ_113 H_114 hx_115 o_116 g_117 w_118 b => ?_)
        subst hx_115
        have r_119 := (k_Pa K CP C).up g_117.im r_111
        obtain ⟨_, _, rfl, rfl, rfl⟩ := b
        refine g_ifL (E := E) (cl := cl) (b := ((decide (x2 = "month")) || (decide ((x_87 % ((Ca.months c0).length : Int)) = (0 : Int))))) w_118 o_116 (gt_or (gt_test (em_op (em_var (t := kS) (v := (.str x2)) (x := x2) rfl rfl) em_str o_eqS)) (fun h_120 => (gt_test (em_op (em_var (t := kI) (v := (.int (x_87 % ((Ca.months c0).length : Int)))) (x := (x_87 % ((Ca.months c0).length : Int))) rfl rfl) em_int o_eqI)))) (fun hb_123 o_124 H_122 g_125 w_126 => ?_) (fun hb_128 o_129 H_127 g_130 w_131 => ?_)
        · try simp only [decide_eq_true_eq, decide_eq_false_iff_not, Bool.and_eq_true, Bool.or_eq_true, Bool.and_eq_false_iff, Bool.or_eq_false_iff, Bool.not_eq_true', Bool.not_eq_false'] at hb_123
          have r_132 := (k_Pa K CP C).up g_125.im r_119
          refine g_asg (E := E) (cl := cl) (i := 8) (t := kI) (x := (numAt c0 (x_87 / ((Ca.months c0).length : Int)) ((x_87 % ((Ca.months c0).length : Int))).toNat (0 : Int))) w_126 o_124 (em_methP (y := (numAt c0 (x_87 / ((Ca.months c0).length : Int)) ((x_87 % ((Ca.months c0).length : Int))).toNat (0 : Int))) (b := ((x_87 / ((Ca.months c0).length : Int)), (x_87 % ((Ca.months c0).length : Int)), (0 : Int), ())) (em_Pa_one T_Pa (em_var (t := (k_Pa K CP C)) (v := v0) (x := (c0, e0, ofs0)) rfl r_132)) (ob_cal fun _ _ _ _ _ => rfl) (em_cons (em_var (t := kI) (v := (.int (x_87 / ((Ca.months c0).length : Int)))) (x := (x_87 / ((Ca.months c0).length : Int))) rfl rfl) (em_cons (em_var (t := kI) (v := (.int (x_87 % ((Ca.months c0).length : Int)))) (x := (x_87 % ((Ca.months c0).length : Int))) rfl rfl) (em_cons em_int em_nil))) args_m (by exact trivial) (by exact number_first ic0.ok ⟨Int.emod_nonneg _ (by omega), Int.emod_lt_of_pos _ (by omega)⟩)) (fun here_133 v_134 H_135 hx_136 o_137 g_138 w_139 r_140 => ?_)
          have r_141 := (k_Pa K CP C).up g_138.im r_132
          obtain rfl : v_134 = (.int here_133) := r_140
          refine g_ifL (E := E) (cl := cl) (b := ((decide (x1 ≤ here_133)) && (v_begins (e0, (here_133 + ofs0), x2, ())))) w_139 o_137 (gt_and (gt_test (em_op (em_var (t := kI) (v := (.int here_133)) (x := here_133) rfl rfl) (em_var (t := kI) (v := (.int x1)) (x := x1) rfl rfl) o_IB)) (fun h_142 => (gt_B (em_callP (y := (v_begins (e0, (here_133 + ofs0), x2, ()))) (a := (e0, (here_133 + ofs0), x2, ())) (em_cons (em_Pa_other T_Pa (em_var (t := (k_Pa K CP C)) (v := v0) (x := (c0, e0, ofs0)) rfl r_141)) (em_cons (em_op (em_var (t := kI) (v := (.int here_133)) (x := here_133) rfl rfl) (em_Pa_offset T_Pa (em_var (t := (k_Pa K CP C)) (v := v0) (x := (c0, e0, ofs0)) rfl r_141)) o_I) (em_cons (em_var (t := kS) (v := (.str x2)) (x := x2) rfl rfl) em_nil))) args_id (by exact trivial) (by first | (exact is_begins _) | (dsimp only; exact is_begins _)))))) (fun hb_145 o_146 H_144 g_147 w_148 => ?_) (fun hb_150 o_151 H_149 g_152 w_153 => ?_)
          · try simp only [decide_eq_true_eq, decide_eq_false_iff_not, Bool.and_eq_true, Bool.or_eq_true, Bool.and_eq_false_iff, Bool.or_eq_false_iff, Bool.not_eq_true', Bool.not_eq_false'] at hb_145
            have r_154 := (k_Pa K CP C).up g_147.im r_141
            refine g_ret (E := E) (cl := cl) (t := kI) (x := here_133) w_148 (em_var (t := kI) (v := (.int here_133)) (x := here_133) rfl rfl) (fun v_155 H_156 g_157 w_158 r_159 => ?_)
            exact qok _ v_155 H_156 o_146 (show Ex H _ from Gr.fr (((((((g_74.then g_83 rfl).then g_95 rfl).then g_117 rfl).then g_125 rfl).then g_138 rfl).then g_147 rfl).then g_157 rfl)) r_159
          · try simp only [decide_eq_true_eq, decide_eq_false_iff_not, Bool.and_eq_true, Bool.or_eq_true, Bool.and_eq_false_iff, Bool.or_eq_false_iff, Bool.not_eq_true', Bool.not_eq_false'] at hb_150
            have r_160 := (k_Pa K CP C).up g_152.im r_141
            exact nx_102 () _ _ o_151 (Gr.cast (((g_117.then g_125 rfl).then g_138 rfl).then g_152 rfl) rfl) w_153 ⟨_, _, _, _, rfl⟩
        · try simp only [decide_eq_true_eq, decide_eq_false_iff_not, Bool.and_eq_true, Bool.or_eq_true, Bool.and_eq_false_iff, Bool.or_eq_false_iff, Bool.not_eq_true', Bool.not_eq_false'] at hb_128
          have r_161 := (k_Pa K CP C).up g_130.im r_119
          exact nx_102 () _ _ o_129 (Gr.cast (g_117.then g_130 rfl) rfl) w_131 ⟨_, _, _, _, rfl⟩
end
end Rw
namespace Rw
open PySem PySem.Spec PyProof.Rows L2 Evl Cy

section
variable {P : Program} {w : World} {K : PySem.W.Frag} {mg : Str → Option Value} {base : Heap} {C D CP CG : Addr} {cl : Nat → Addr}

abbrev s_count_belowL : Stmt := topS 15
def count_belowLN : List Str := ["numbers", "bound", "low", "high", "half"]
theorem sc_count_belowL : FnScope count_belowLN ["numbers", "bound"] (defScope s_count_belowL) := ⟨rfl, rfl, rfl, by decide +kernel, rfl, by decide +kernel, by decide +kernel⟩
def f_count_belowL : (List Int) × Int × Unit → Re Int := fun a => match a with
  | (x0, x1, _) =>
    lt (0 : Int) fun low_175 =>
    lt (x0.length : Int) fun high_184 =>
    whK (fun s_195 : (Int × Int) => (decide ((s_195.1) < (s_195.2))))
    (fun (s_225 : (Int × Int)) (kn : (Int × Int) → _) (kb : (Int × Int) → _) =>
    lt (((s_225.1) + (s_225.2)) / (2 : Int)) fun half_240 =>
    cond (decide (((atI x0 half_240).getD 0) < x1))
    (lt (half_240 + (1 : Int)) fun low_260 =>
    kn (low_260, (s_225.2)))
    (lt half_240 fun high_270 =>
    kn ((s_225.1), high_270)))
    (fun (s_205 : (Int × Int)) =>
    (.ok (s_205.1))) (x0.length) (low_175, high_184)
def pre_count_belowL : (List Int) × Int × Unit → Prop := fun a => match a with
  | (x0, x1, _) => x0.length ≤ 1000
abbrev sp_count_belowL (K : PySem.W.Frag)  (cl : Nat → Addr) : Sp := spD (aC (kL K kI) (aC kI a0)) pre_count_belowL f_count_belowL kI cl
theorem ok_count_belowL {f : Addr} {fd : FuncData} (F : Fun K "count_below" "count_below" s_count_belowL f fd) (B : BD mg) : FnOk P w K mg base (L2.CX P w) 1 f fd ["numbers", "bound"] (sp_count_belowL K  cl) := by
  refine F.okX sc_count_belowL (fun vs H Q E h => ?_) (fun cdv A outer s H vs Q E hr h => ?_)
  · obtain ⟨M, a, live, hA, _⟩ := h
    obtain ⟨v0, _, rfl, r0, v1, _, rfl, r1, rfl⟩ := hA
    rfl
  · obtain ⟨M, ⟨x0, x1, _⟩, live, hA, hpre, qok, qer⟩ := h
    obtain ⟨v0, _, rfl, r0, v1, _, rfl, r1, rfl⟩ := hA
    obtain rfl : v1 = (.int x1) := r1
    have hpre : x0.length ≤ 1000 := hpre
    have w0 : Holds M [] H := hold0 live
    have o0 : Pr (f_count_belowL (x0, x1, ())) (lt (0 : Int) fun low_175 =>
lt (x0.length : Int) fun high_184 =>
whK (fun s_195 : (Int × Int) => (decide ((s_195.1) < (s_195.2))))
(fun (s_225 : (Int × Int)) (kn : (Int × Int) → _) (kb : (Int × Int) → _) =>
lt (((s_225.1) + (s_225.2)) / (2 : Int)) fun half_240 =>
cond (decide (((atI x0 half_240).getD 0) < x1))
(lt (half_240 + (1 : Int)) fun low_260 =>
kn (low_260, (s_225.2)))
(lt half_240 fun high_270 =>
kn ((s_225.1), high_270)))
(fun (s_205 : (Int × Int)) =>
(.ok (s_205.1))) (x0.length) (low_175, high_184)) := rfl
    refine ⟨_, pss_cons (ps_set (i := 2) sc_count_belowL.nd rfl (.inl rfl) pe_int) (pss_cons (ps_set (i := 3) sc_count_belowL.nd rfl (.inl rfl) (pe_callB call_len_seq (by rfl) B.len (by decide +kernel) (pa_cons (pv 0) pa_nil))) (pss_cons (ps_while (passes_of rfl) (pt_cmpR op_lt (pv 2) (pv 3) (nomark _)) (pss_cons (ps_set (i := 4) sc_count_belowL.nd rfl (.inl rfl) (pe_op op_fdiv (pe_op op_add (pv 2) (pv 3)) pe_int)) (pss_one (ps_if (pt_cmpR op_lt (pe_ix ix_list (pv 0) (pv 4) (fun _ _ => rfl)) (pv 1) (nomark _)) (pss_one (ps_set (i := 2) sc_count_belowL.nd rfl (.inl rfl) (pe_op op_add (pv 4) pe_int))) (pss_one (ps_set (i := 3) sc_count_belowL.nd rfl (.inl rfl) (pv 4))))))) (pss_one (ps_ret (pv 2))))), ?_⟩
    refine g_asg (E := E) (cl := cl) (i := 2) (t := kI) (x := (0 : Int)) w0 o0 em_int (fun low_175 v_176 H_177 hx_178 o_179 g_180 w_181 r_182 => ?_)
    have r_183 := (kL K kI).up g_180.im r0
    obtain rfl : v_176 = (.int low_175) := r_182
    refine g_asg (E := E) (cl := cl) (i := 3) (t := kI) (x := (x0.length : Int)) w_181 o_179 (em_cb (em_cons (em_var (t := (kL K kI)) (v := v0) (x := x0) rfl r_183) em_nil) o_lenL) (fun high_184 v_185 H_186 hx_187 o_188 g_189 w_190 r_191 => ?_)
    have r_192 := (kL K kI).up g_189.im r_183
    obtain rfl : v_185 = (.int high_184) := r_191
    refine g_while (E := E) (cl := cl) (c := (fun s_195 : (Int × Int) => (decide ((s_195.1) < (s_195.2))))) (n := x0.length) (s0 := (low_175, high_184)) (Sx := (fun s : (Int × Int) => [])) (fun (n : Nat) (s : (Int × Int)) => 0 ≤ (s.1) ∧ (s.1) ≤ (s.2) ∧ (s.2) ≤ (x0.length : Int) ∧ (s.2) - (s.1) ≤ (n : Int)) (fun (I : Hp) (s : (Int × Int)) (σ : L2.St) => ∃ (l_193 : Option V), σ = [some v0, some (.int x1), some (.int (s.1)), some (.int (s.2)), l_193]) w_190 o_188 (fun _ => rfl) (by show 0 ≤ low_175 ∧ low_175 ≤ high_184 ∧ high_184 ≤ (x0.length : Int) ∧ _; omega) (fun s h => by have := h.2.1; have := h.2.2.2; exact decide_eq_false (by omega)) ⟨_, rfl⟩ (fun n_194 s_195 σ_196 H_197 ok_198 g_199 w_200 rv_201 => ?_) (fun n_204 s_205 σ_206 I_207 H_208 ok_209 hc_210 g_211 w_212 e_213 rv_214 o_215 => ?_) (fun hd_223 n_224 s_225 σ_226 I_227 H_228 ok_229 hc_230 g_231 w_232 e_233 rv_234 o_235 Nx_236 nx_237 => ?_)
    · obtain ⟨l_202, rfl⟩ := rv_201
      have r_203 := (kL K kI).up g_199.im r_192
      have ok1 := ok_198.1; have ok2 := ok_198.2.1; have ok3 := ok_198.2.2.1; have ok4 := ok_198.2.2.2
      exact (gt_test (em_op (em_var (t := kI) (v := (.int (s_195.1))) (x := (s_195.1)) rfl rfl) (em_var (t := kI) (v := (.int (s_195.2))) (x := (s_195.2)) rfl rfl) o_IB))
    · obtain ⟨l_216, rfl⟩ := rv_214
      have r_217 := (kL K kI).up g_211.im r_192
      have hc_210' : ((decide ((s_205.1) < (s_205.2)))) = false := hc_210
      try simp only [decide_eq_true_eq, decide_eq_false_iff_not, Bool.and_eq_true, Bool.or_eq_true, Bool.and_eq_false_iff, Bool.or_eq_false_iff, Bool.not_eq_true', Bool.not_eq_false'] at hc_210'
      have ok1 := ok_209.1; have ok2 := ok_209.2.1; have ok3 := ok_209.2.2.1; have ok4 := ok_209.2.2.2
      refine g_ret (E := E) (cl := cl) (t := kI) (x := (s_205.1)) w_212 (em_var (t := kI) (v := (.int (s_205.1))) (x := (s_205.1)) rfl rfl) (fun v_218 H_219 g_220 w_221 r_222 => ?_)
      exact qok _ v_218 H_219 o_215 (show Ex H _ from Gr.fr (((g_180.then g_189 rfl).then g_211 rfl).then g_220 rfl)) r_222
    · obtain ⟨l_238, rfl⟩ := rv_234
      have r_239 := (kL K kI).up g_231.im r_192
      have hc_230' : ((decide ((s_225.1) < (s_225.2)))) = true := hc_230
      try simp only [decide_eq_true_eq, decide_eq_false_iff_not, Bool.and_eq_true, Bool.or_eq_true, Bool.and_eq_false_iff, Bool.or_eq_false_iff, Bool.not_eq_true', Bool.not_eq_false'] at hc_230'
      have ok1 := ok_229.1; have ok2 := ok_229.2.1; have ok3 := ok_229.2.2.1; have ok4 := ok_229.2.2.2
      refine g_asg (E := E) (cl := cl) (i := 4) (t := kI) (x := (((s_225.1) + (s_225.2)) / (2 : Int))) w_232 o_235 (em_op (em_op (em_var (t := kI) (v := (.int (s_225.1))) (x := (s_225.1)) rfl rfl) (em_var (t := kI) (v := (.int (s_225.2))) (x := (s_225.2)) rfl rfl) o_I) em_int (o_IC (C := CDiv) (g := fun i j => i / j) (by first | (exact ⟨by omega, by omega⟩) | (dsimp only; exact ⟨by omega, by omega⟩)))) (fun half_240 v_241 H_242 hx_243 o_244 g_245 w_246 r_247 => ?_)
      have r_248 := (kL K kI).up g_245.im r_239
      obtain rfl : v_241 = (.int half_240) := r_247
      refine g_ifL (E := E) (cl := cl) (b := (decide (((atI x0 half_240).getD 0) < x1))) w_246 o_244 (gt_test (em_op (em_op (em_var (t := (kL K kI)) (v := v0) (x := x0) rfl r_248) (em_var (t := kI) (v := (.int half_240)) (x := half_240) rfl rfl) (o_ixLI (at_in (by first | (omega) | (dsimp only; omega))))) (em_var (t := kI) (v := (.int x1)) (x := x1) rfl rfl) o_IB)) (fun hb_250 o_251 H_249 g_252 w_253 => ?_) (fun hb_255 o_256 H_254 g_257 w_258 => ?_)
      · try simp only [decide_eq_true_eq, decide_eq_false_iff_not, Bool.and_eq_true, Bool.or_eq_true, Bool.and_eq_false_iff, Bool.or_eq_false_iff, Bool.not_eq_true', Bool.not_eq_false'] at hb_250
        have r_259 := (kL K kI).up g_252.im r_248
        refine g_asgL (E := E) (cl := cl) (i := 2) (t := kI) (x := (half_240 + (1 : Int))) w_253 o_251 (em_op (em_var (t := kI) (v := (.int half_240)) (x := half_240) rfl rfl) em_int o_I) (fun low_260 v_261 H_262 hx_263 o_264 g_265 w_266 r_267 => ?_)
        have r_268 := (kL K kI).up g_265.im r_259
        obtain rfl : v_261 = (.int low_260) := r_267
        exact nx_237 (low_260, (s_225.2)) _ _ (by have := hc_230'; omega) o_264 (Gr.cast ((g_245.then g_252 rfl).then g_265 rfl) rfl) w_266 ⟨_, rfl⟩
      · try simp only [decide_eq_true_eq, decide_eq_false_iff_not, Bool.and_eq_true, Bool.or_eq_true, Bool.and_eq_false_iff, Bool.or_eq_false_iff, Bool.not_eq_true', Bool.not_eq_false'] at hb_255
        have r_269 := (kL K kI).up g_257.im r_248
        refine g_asgL (E := E) (cl := cl) (i := 3) (t := kI) (x := half_240) w_258 o_256 (em_var (t := kI) (v := (.int half_240)) (x := half_240) rfl rfl) (fun high_270 v_271 H_272 hx_273 o_274 g_275 w_276 r_277 => ?_)
        have r_278 := (kL K kI).up g_275.im r_269
        obtain rfl : v_271 = (.int high_270) := r_277
        exact nx_237 ((s_225.1), high_270) _ _ (by have := hc_230'; omega) o_274 (Gr.cast ((g_245.then g_257 rfl).then g_275 rfl) rfl) w_276 ⟨_, rfl⟩
end
end Rw
namespace Rw
open PySem PySem.Spec PyProof.Rows L2 Evl Cy

def cntB (xs : List Int) (b : Int) : Int := ((xs.filter fun x => decide (x < b)).length : Int)
theorem atI_le {xs : List Int} {i : Int} (h0 : 0 ≤ i) (h1 : i < xs.length) : (atI xs i).getD 0 = xs[i.toNat]'(by omega) := by
  obtain ⟨n, rfl⟩ : ∃ n : Nat, i = (n : Int) := ⟨i.toNat, by omega⟩
  have h2 : n < xs.length := by omega
  rw [atI_nat (v := xs[n]) (by rw [List.getElem?_eq_getElem h2])]
  rfl
theorem cb_at {xs : List Int} {b : Int} {k : Nat} (hk : k ≤ xs.length) (h1 : ∀ j (h : j < xs.length), j < k → xs[j] < b) (h2 : ∀ j (h : j < xs.length), k ≤ j → ¬ xs[j] < b) : cntB xs b = (k : Int) := by
  have e : xs.filter (fun x => decide (x < b)) = xs.take k := by
    conv => lhs; rw [← List.take_append_drop k xs]
    rw [List.filter_append]
    have a : (xs.take k).filter (fun x => decide (x < b)) = xs.take k := List.filter_eq_self.mpr fun x hx => by
      obtain ⟨j, hj, rfl⟩ := List.mem_iff_getElem.mp hx
      rw [List.length_take] at hj
      rw [List.getElem_take]
      exact decide_eq_true (h1 j (by omega) (by omega))
    have c : (xs.drop k).filter (fun x => decide (x < b)) = [] := List.filter_eq_nil_iff.mpr fun x hx => by
      obtain ⟨j, hj, rfl⟩ := List.mem_iff_getElem.mp hx
      rw [List.length_drop] at hj
      rw [List.getElem_drop]
      simpa using h2 (k + j) (by omega) (by omega)
    rw [a, c, List.append_nil]
  unfold cntB
  rw [e, List.length_take]
  omega
theorem up_at {xs : List Int} (up : xs.Pairwise (· < ·)) {i j : Nat} (hi : i < xs.length) (hj : j < xs.length) (h : i ≤ j) : xs[i] ≤ xs[j] := by
  rcases Nat.lt_or_eq_of_le h with z | z
  · exact Int.le_of_lt (List.pairwise_iff_getElem.mp up i j hi hj z)
  · subst z; exact Int.le_refl _
theorem cb_eq {xs : List Int} (up : xs.Pairwise (· < ·)) (b : Int) : f_count_belowL (xs, b, ()) = .ok (cntB xs b) := by
  have k : ∀ (n : Nat) (lo hi : Int), 0 ≤ lo → lo ≤ hi → hi ≤ xs.length → hi - lo ≤ n → (∀ j (h : j < xs.length), (j : Int) < lo → xs[j] < b) → (∀ j (h : j < xs.length), hi ≤ (j : Int) → ¬ xs[j] < b) →
      whK (fun s : Int × Int => decide (s.1 < s.2)) (fun s (kn : Int × Int → Re Int) _ => lt ((s.1 + s.2) / 2) fun half => cond (decide ((atI xs half).getD 0 < b)) (lt (half + 1) fun low => kn (low, s.2)) (lt half fun high => kn (s.1, high))) (fun s => .ok s.1) n (lo, hi) = .ok (cntB xs b) := by
    intro n
    induction n with
    | zero =>
      intro lo hi h0 h1 h2 h3 a1 a2
      show Re.ok lo = _
      rw [cb_at (k := lo.toNat) (by omega) (fun j h q => a1 j h (by omega)) (fun j h q => a2 j h (by omega))]
      exact congrArg Re.ok (by omega)
    | succ n ih =>
      intro lo hi h0 h1 h2 h3 a1 a2
      show cond (decide (lo < hi)) _ (Re.ok lo) = _
      by_cases h : lo < hi
      · rw [decide_eq_true h]
        show cond (decide ((atI xs ((lo + hi) / 2)).getD 0 < b)) _ _ = _
        have e := atI_le (xs := xs) (i := (lo + hi) / 2) (by omega) (by omega)
        by_cases hb : (atI xs ((lo + hi) / 2)).getD 0 < b
        · rw [decide_eq_true hb]
          refine ih _ _ (by omega) (by omega) (by omega) (by omega) (fun j hj q => ?_) a2
          rw [e] at hb
          exact Int.lt_of_le_of_lt (up_at up hj (by omega) (by omega)) hb
        · rw [decide_eq_false hb]
          refine ih _ _ (by omega) (by omega) (by omega) (by omega) a1 (fun j hj q z => ?_)
          rw [e] at hb
          exact hb (Int.lt_of_le_of_lt (up_at up (by omega) hj (by omega)) z)
      · rw [decide_eq_false h]
        show Re.ok lo = _
        rw [cb_at (k := lo.toNat) (by omega) (fun j h q => a1 j h (by omega)) (fun j h q => a2 j h (by omega))]
        exact congrArg Re.ok (by omega)
  exact k _ _ _ (by omega) (by omega) (by omega) (by omega) (fun j h q => absurd q (by omega)) (fun j h q => absurd q (by omega))

section
variable {P : Program} {w : World} {K : PySem.W.Frag} {mg : Str → Option Value} {base : Heap} {C D CP CG : Addr} {cl : Nat → Addr}

abbrev s_Reigns_init : Stmt := inClass (topS 22) 0
def Reigns_initN : List Str := ["self", "rows", "name", "first", "row", "k"]
theorem sc_Reigns_init : FnScope Reigns_initN ["self", "rows"] (defScope s_Reigns_init) := ⟨rfl, rfl, rfl, by decide +kernel, rfl, by decide +kernel, by decide +kernel⟩
def f_Reigns_init : (List (Str × Int)) × Unit → Re (List (Str × Int) × List Int) := fun a => match a with
  | (x0, _) =>
    cond ((decide ((x0.map (fun (x_279 : (Str × Int)) => x_279)) = [])) || (((rng (1 : Int) (((x0.map (fun (x_279 : (Str × Int)) => x_279)).map (fun (x_296 : (Str × Int)) => x_296.2)).length : Int)).map (fun (x_315 : Int) => (decide (((atI ((x0.map (fun (x_279 : (Str × Int)) => x_279)).map (fun (x_296 : (Str × Int)) => x_296.2)) x_315).getD 0) ≤ ((atI ((x0.map (fun (x_279 : (Str × Int)) => x_279)).map (fun (x_296 : (Str × Int)) => x_296.2)) (x_315 - (1 : Int))).getD 0))))).any id))
    ((.er 5))
    ((.ok ((x0.map (fun (x_279 : (Str × Int)) => x_279)), ((x0.map (fun (x_279 : (Str × Int)) => x_279)).map (fun (x_296 : (Str × Int)) => x_296.2)))))
def pre_Reigns_init : (List (Str × Int)) × Unit → Prop := fun a => match a with
  | (x0, _) => x0.length ≤ 100
abbrev sp_Reigns_init (K : PySem.W.Frag) (CG : Addr) (cl : Nat → Addr) : Sp := spIni CG (aC (kL K (k2 K kSo kI)) a0) pre_Reigns_init f_Reigns_init (R_Rn K ) cl
theorem ok_Reigns_init {f : Addr} {fd : FuncData} (F : Fun K "__init__" "Reigns.__init__" s_Reigns_init f fd) (T_Rn : Tt_Rn K CG) (B : BD mg) (n_tuple : mg "tuple" = none) (n_any : mg "any" = none) (xBadSize : Exc1 K mg "BadSize" (cl 5)) : FnOk P w K mg base (L2.CX P w) 1 f fd ["self", "rows"] (sp_Reigns_init K CG cl) := by
  refine F.okX sc_Reigns_init (fun vs H Q E h => ?_) (fun cdv A outer s H vs Q E hr h => ?_)
  · obtain ⟨M, x, dx, ws, a, rfl, _, _, _, hA, _⟩ := h
    obtain ⟨v0, _, rfl, r0, rfl⟩ := hA
    rfl
  · obtain ⟨M, x, dx, ws, ⟨x0, _⟩, rfl, xM, live, hx, hA, hpre, qok, qer⟩ := h
    obtain ⟨v0, _, rfl, r0, rfl⟩ := hA
    have hpre : x0.length ≤ 100 := hpre
    have w0 : Holds M [cIns x CG dx []] H := ⟨fun c hc => by rw [List.mem_singleton.mp hc]; exact ⟨xM, _, hx, rfl⟩, by simp [ads], live⟩
    have o0 : Pr (f_Reigns_init (x0, ())) (cond ((decide ((x0.map (fun (x_279 : (Str × Int)) => x_279)) = [])) || (((rng (1 : Int) (((x0.map (fun (x_279 : (Str × Int)) => x_279)).map (fun (x_296 : (Str × Int)) => x_296.2)).length : Int)).map (fun (x_315 : Int) => (decide (((atI ((x0.map (fun (x_279 : (Str × Int)) => x_279)).map (fun (x_296 : (Str × Int)) => x_296.2)) x_315).getD 0) ≤ ((atI ((x0.map (fun (x_279 : (Str × Int)) => x_279)).map (fun (x_296 : (Str × Int)) => x_296.2)) (x_315 - (1 : Int))).getD 0))))).any id))
((.er 5))
((.ok ((x0.map (fun (x_279 : (Str × Int)) => x_279)), ((x0.map (fun (x_279 : (Str × Int)) => x_279)).map (fun (x_296 : (Str × Int)) => x_296.2)))))) := rfl
    refine ⟨_, pss_cons (ps_fld (pv 0) (pe_callTy call_tuple_of (by rfl) n_tuple (by decide +kernel) (pa_cons (pe_lc (own := [("row", 4)]) (g := gName 4) (tt := tYes) rfl sc_Reigns_init.nd (pi_list (pv 1)) (blkOk_by (own := [("row", 4)]) (N := Reigns_initN) (sc := defScope s_Reigns_init) (by decide +kernel)) (fun _ _ _ _ _ => pg_name (i := 4) sc_Reigns_init.nd rfl (Or.inl rfl)) (fun _ _ _ _ _ => pts_nil) (fun _ _ _ _ _ => (pe_callTy (call_tuple_ofK (K := K)) (by rfl) n_tuple (by decide +kernel) (pa_cons (pv 4) pa_nil)))) pa_nil)) rfl) (pss_cons (ps_fld (pv 0) (pe_lc (own := [("name", 2), ("first", 3)]) (g := gTup K 2 (gCons (gName 2) (gCons (gName 3) gNil))) (tt := tYes) rfl sc_Reigns_init.nd (pi_tup (pe_fld (pv 0) rfl)) (blkOk_by (own := [("name", 2), ("first", 3)]) (N := Reigns_initN) (sc := defScope s_Reigns_init) (by decide +kernel)) (fun _ _ _ _ _ => pg_tup rfl (pgs_cons (pg_name (i := 2) sc_Reigns_init.nd rfl (Or.inl rfl)) (pgs_cons (pg_name (i := 3) sc_Reigns_init.nd rfl (Or.inl rfl)) pgs_nil))) (fun _ _ _ _ _ => pts_nil) (fun _ _ _ _ _ => (pv 3))) rfl) (pss_one (ps_if (PW.pt (pw_or (pt_cmpR (op_eqD hr.units) (pe_fld (pv 0) rfl) (pe_tup pa_nil) (nomark _)) (pw_or1 (pt_val (pe_callB (cr_any rfl) (by rfl) n_any (by decide +kernel) (pa_cons (pe_lc (own := [("k", 5)]) (g := gName 5) (tt := tYes) rfl sc_Reigns_init.nd (pi_range2 rfl B.range (pa_cons pe_int (pa_cons (pe_callB call_len_seq (by rfl) B.len (by decide +kernel) (pa_cons (pe_fld (pv 0) rfl) pa_nil)) pa_nil))) (blkOk_by (own := [("k", 5)]) (N := Reigns_initN) (sc := defScope s_Reigns_init) (by decide +kernel)) (fun _ _ _ _ _ => pg_name (i := 5) sc_Reigns_init.nd rfl (Or.inl rfl)) (fun _ _ _ _ _ => pts_nil) (fun _ _ _ _ _ => (pe_cmpR op_le (pe_ix (ix_listK (K := K)) (pe_fldK (K := K) (pv 0) rfl) (pv 5) (fun _ _ => rfl)) (pe_ix (ix_listK (K := K)) (pe_fldK (K := K) (pv 0) rfl) (pe_op op_sub (pv 5) pe_int) (fun _ _ => rfl)) (nomark _)))) pa_nil)))))) (pss_one (ps_raiseX xBadSize)) (pss_nil)))), ?_⟩
    refine g_fld (E := E) (cl := cl) (n := 0) (C := CG) (t := (kT K (k2 K kSo kI))) (y := (x0.map (fun (x_279 : (Str × Int)) => x_279))) w0 (em_cb (em_cons (em_eq (em_lc (K := K) (u := (k2 K kSo kI)) (fun _ => true) (fun x_279 => x_279) (ei_L (em_var (t := (kL K (k2 K kSo kI))) (v := v0) (x := x0) rfl r0)) (by omega) eg_name (fun _ _ _ b => by obtain ⟨v_287, r_288, rfl⟩ := b; rfl) (fun _ _ _ _ _ _ _ _ => gt_yes) (fun M_285 S_286 I_280 x_279 s_284 e_281 m_282 c_289 b_283 => by obtain ⟨v_287, r_288, rfl⟩ := b_283; exact (em_cb (em_cons (em_var (t := (k2 K kSo kI)) (v := v_287) (x := x_279) rfl r_288) em_nil) o_tup2))) (by rw [filter_yes])) em_nil) o_tupL) (em_var (t := kPtr x) (v := .ref x) (x := ()) rfl rfl) rfl T_Rn.cls T_Rn.n_rows (Nat.lt_of_le_of_lt (Nat.le_refl 0) (by decide)) (fun v_290 H_291 g_292 w_293 r_294 => ?_)
    have r_295 := (kL K (k2 K kSo kI)).up g_292.im r0
    refine g_fld (E := E) (cl := cl) (n := 0) (C := CG) (t := (kL K kI)) (y := ((x0.map (fun (x_279 : (Str × Int)) => x_279)).map (fun (x_296 : (Str × Int)) => x_296.2))) w_293 (em_eq (em_lc (K := K) (u := kI) (fun _ => true) (fun x_296 => x_296.2) (ei_T (em_cellF (n := 0) (C := CG) (y := (x0.map (fun (x_279 : (Str × Int)) => x_279))) (v := v_290) (em_var (t := kPtr x) (v := .ref x) (x := ()) rfl rfl) rfl T_Rn.cls T_Rn.n_rows rfl r_294)) (by simp; omega) eg_2 (fun _ _ _ b => by obtain ⟨v_304, _, r_305, rfl, rfl⟩ := b; rfl) (fun _ _ _ _ _ _ _ _ => gt_yes) (fun M_302 S_303 I_297 x_296 s_301 e_298 m_299 c_306 b_300 => by obtain ⟨v_304, _, r_305, rfl, rfl⟩ := b_300; exact (em_var (t := kI) (v := (.int x_296.2)) (x := x_296.2) rfl rfl))) (by rw [filter_yes])) (em_var (t := kPtr x) (v := .ref x) (x := ()) rfl rfl) rfl T_Rn.cls T_Rn.n_firsts (Nat.lt_of_le_of_lt (putF_le (Nat.le_refl 0)) (by decide)) (fun v_307 H_308 g_309 w_310 r_311 => ?_)
    have r_312 := (kL K (k2 K kSo kI)).up g_309.im r_295
    have r_313 := (kT K (k2 K kSo kI)).up g_309.im r_294
    refine g_ifL (E := E) (cl := cl) (b := ((decide ((x0.map (fun (x_279 : (Str × Int)) => x_279)) = [])) || (((rng (1 : Int) (((x0.map (fun (x_279 : (Str × Int)) => x_279)).map (fun (x_296 : (Str × Int)) => x_296.2)).length : Int)).map (fun (x_315 : Int) => (decide (((atI ((x0.map (fun (x_279 : (Str × Int)) => x_279)).map (fun (x_296 : (Str × Int)) => x_296.2)) x_315).getD 0) ≤ ((atI ((x0.map (fun (x_279 : (Str × Int)) => x_279)).map (fun (x_296 : (Str × Int)) => x_296.2)) (x_315 - (1 : Int))).getD 0))))).any id))) w_310 o0 (gt_or (gt_test (em_op (em_cellF (n := 0) (C := CG) (y := (x0.map (fun (x_279 : (Str × Int)) => x_279))) (v := v_290) (em_var (t := kPtr x) (v := .ref x) (x := ()) rfl rfl) rfl T_Rn.cls T_Rn.n_rows rfl r_313) (em_tupL K (t := (k2 K kSo kI)) em_nilL (by simp)) (o_eqD (dT (d2 dS dI)) (by decide)))) (fun h_314 => (gt_B (em_cb (em_cons (em_eq (em_lcE (K := K) (u := kB) (ct := fun (_ : Int) (q : Unit) => (true, q)) (f := fun (x_315 : Int) (q : Unit) => ((decide (((atI ((x0.map (fun (x_279 : (Str × Int)) => x_279)).map (fun (x_296 : (Str × Int)) => x_296.2)) x_315).getD 0) ≤ ((atI ((x0.map (fun (x_279 : (Str × Int)) => x_279)).map (fun (x_296 : (Str × Int)) => x_296.2)) (x_315 - (1 : Int))).getD 0))), q)) (Sx := fun _ => [cIns x CG dx (putF "firsts" v_307 (putF "rows" v_290 []))]) (s0 := ()) (ei_R2 (em_cons em_int (em_cons (em_cb (em_cons (em_cellF (n := 0) (C := CG) (y := ((x0.map (fun (x_279 : (Str × Int)) => x_279)).map (fun (x_296 : (Str × Int)) => x_296.2))) (v := v_307) (em_var (t := kPtr x) (v := .ref x) (x := ()) rfl rfl) rfl T_Rn.cls T_Rn.n_firsts rfl r_311) em_nil) o_lenL) em_nil)) (by simp only [List.length_map]; refine ⟨by omega, by omega, by omega, by omega⟩)) (by rw [rng_len]; simp only [List.length_map]; omega) (fun _ => rfl) eg_name (fun _ _ _ b => by obtain ⟨_, rfl, rfl⟩ := b; rfl) (fun _ _ _ _ _ _ _ _ _ => gt_yes) (fun D_321 acc_322 I_316 x_315 z_323 s_320 e_317 m_318 c_324 b_319 => by obtain ⟨_, rfl, rfl⟩ := b_319; rw [rng_mem] at m_318; exact (em_op (em_op (em_cellF (n := 1) (C := CG) (y := ((x0.map (fun (x_279 : (Str × Int)) => x_279)).map (fun (x_296 : (Str × Int)) => x_296.2))) (v := v_307) (em_var (t := kPtr x) (v := .ref x) (x := ()) rfl rfl) rfl T_Rn.cls T_Rn.n_firsts rfl ((kL K kI).up e_317 r_311)) (em_var (t := kI) (v := (.int x_315)) (x := x_315) rfl rfl) (o_ixLI (at_in (by first | (omega) | (dsimp only; omega))))) (em_op (em_cellF (n := 1) (C := CG) (y := ((x0.map (fun (x_279 : (Str × Int)) => x_279)).map (fun (x_296 : (Str × Int)) => x_296.2))) (v := v_307) (em_var (t := kPtr x) (v := .ref x) (x := ()) rfl rfl) rfl T_Rn.cls T_Rn.n_firsts rfl ((kL K kI).up e_317 r_311)) (em_op (em_var (t := kI) (v := (.int x_315)) (x := x_315) rfl rfl) em_int o_I) (o_ixLI (at_in (by first | (omega) | (dsimp only; omega))))) o_IB))) (by rw [runE_pure, filter_yes])) em_nil) o_any)))) (fun hb_329 o_330 H_328 g_331 w_332 => ?_) (fun hb_334 o_335 H_333 g_336 w_337 => ?_)
    · try simp only [decide_eq_true_eq, decide_eq_false_iff_not, Bool.and_eq_true, Bool.or_eq_true, Bool.and_eq_false_iff, Bool.or_eq_false_iff, Bool.not_eq_true', Bool.not_eq_false'] at hb_329
      have r_338 := (kL K (k2 K kSo kI)).up g_331.im r_312
      have r_339 := (kT K (k2 K kSo kI)).up g_331.im r_313
      have r_340 := (kL K kI).up g_331.im r_311
      exact qer 5 _ o_330 (show Ex (del [x] H) (del [x] _) from Gr.fr ((g_292.then g_309 rfl).then g_331 rfl))
    · try simp only [decide_eq_true_eq, decide_eq_false_iff_not, Bool.and_eq_true, Bool.or_eq_true, Bool.and_eq_false_iff, Bool.or_eq_false_iff, Bool.not_eq_true', Bool.not_eq_false'] at hb_334
      have r_341 := (kL K (k2 K kSo kI)).up g_336.im r_312
      have r_342 := (kT K (k2 K kSo kI)).up g_336.im r_313
      have r_343 := (kL K kI).up g_336.im r_311
      obtain ⟨_, oF, hF⟩ := w_337.at_ _ (List.mem_singleton.mpr rfl)
      obtain ⟨hF1, hF2⟩ := hF
      subst hF2
      exact qok ((x0.map (fun (x_279 : (Str × Int)) => x_279)), ((x0.map (fun (x_279 : (Str × Int)) => x_279)).map (fun (x_296 : (Str × Int)) => x_296.2))) _ H_333 o_335 hF1 (show Ex (del [x] H) (del [x] H_333) from Gr.fr ((g_292.then g_309 rfl).then g_336 rfl)) ⟨v_290, v_307, rfl, r_342, r_343, by show I_Rn ((x0.map (fun (x_279 : (Str × Int)) => x_279)), ((x0.map (fun (x_279 : (Str × Int)) => x_279)).map (fun (x_296 : (Str × Int)) => x_296.2))); first | (exact ⟨by simp, by simpa using hb_334.1, up_any hb_334.2, by simpa using hpre⟩) | (dsimp only; exact ⟨by simp, by simpa using hb_334.1, up_any hb_334.2, by simpa using hpre⟩)⟩

abbrev s_Reigns_reign : Stmt := inClass (topS 22) 1
def Reigns_reignN : List Str := ["self", "number", "found"]
theorem sc_Reigns_reign : FnScope Reigns_reignN ["self", "number"] (defScope s_Reigns_reign) := ⟨rfl, rfl, rfl, by decide +kernel, rfl, by decide +kernel, by decide +kernel⟩
def f_Reigns_reign : (List (Str × Int) × List Int) × Int × Unit → Re Int := fun a => match a with
  | ((rws0, fst0), x1, _) =>
    lt (cntB fst0 (x1 + (1 : Int))) fun found_344 =>
    cond (decide (found_344 = (0 : Int)))
    ((.er 10))
    ((.ok (found_344 - (1 : Int))))
def pre_Reigns_reign : (List (Str × Int) × List Int) × Int × Unit → Prop := fun a => match a with
  | ((rws0, fst0), x1, _) => True
abbrev sp_Reigns_reign (K : PySem.W.Frag) (CG : Addr) (cl : Nat → Addr) : Sp := spD (aC (k_Rn K CG) (aC kI a0)) pre_Reigns_reign f_Reigns_reign kI cl
theorem ok_Reigns_reign {f : Addr} {fd : FuncData} (F : Fun K "reign" "Reigns.reign" s_Reigns_reign f fd) (T_Rn : Tt_Rn K CG) (c_count_below : Cal P w K mg base 1 "count_below" (sp_count_belowL K cl) []) (xNoSuch : Exc1 K mg "NoSuch" (cl 10)) : FnOk P w K mg base (L2.CX P w) 2 f fd ["self", "number"] (sp_Reigns_reign K CG cl) := by
  refine F.okX sc_Reigns_reign (fun vs H Q E h => ?_) (fun cdv A outer s H vs Q E hr h => ?_)
  · obtain ⟨M, a, live, hA, _⟩ := h
    obtain ⟨v0, _, rfl, r0, v1, _, rfl, r1, rfl⟩ := hA
    rfl
  · obtain ⟨M, ⟨⟨rws0, fst0⟩, x1, _⟩, live, hA, hpre, qok, qer⟩ := h
    obtain ⟨v0, _, rfl, r0, v1, _, rfl, r1, rfl⟩ := hA
    obtain rfl : v1 = (.int x1) := r1
    have iv0 : I_Rn (rws0, fst0) := inv_Rn r0
    obtain ⟨im0, in0, iu0, iz0⟩ := iv0
    have w0 : Holds M [] H := hold0 live
    have o0 : Pr (f_Reigns_reign ((rws0, fst0), x1, ())) (lt (cntB fst0 (x1 + (1 : Int))) fun found_344 =>
cond (decide (found_344 = (0 : Int)))
((.er 10))
((.ok (found_344 - (1 : Int))))) := rfl
    refine ⟨_, pss_cons (ps_set (i := 2) sc_Reigns_reign.nd rfl (.inl rfl) (pe_k c_count_below hr (by decide) passL (pa_cons (pe_fld (pv 0) rfl) (pa_cons (pe_op op_add (pv 1) pe_int) pa_nil)))) (pss_cons (ps_if (pt_cmpR op_eq (pv 2) pe_int (nomark _)) (pss_one (ps_raiseX xNoSuch)) (pss_nil)) (pss_one (ps_ret (pe_op op_sub (pv 2) pe_int)))), ?_⟩
    refine g_asg (E := E) (cl := cl) (i := 2) (t := kI) (x := (cntB fst0 (x1 + (1 : Int)))) w0 o0 (em_callP (y := (cntB fst0 (x1 + (1 : Int)))) (a := (fst0, (x1 + (1 : Int)), ())) (em_cons (em_Rn_firsts T_Rn (em_var (t := (k_Rn K CG)) (v := v0) (x := (rws0, fst0)) rfl r0)) (em_cons (em_op (em_var (t := kI) (v := (.int x1)) (x := x1) rfl rfl) em_int o_I) em_nil)) args_id (by first | (show _ ≤ 1000; have q := congrArg List.length im0; rw [List.length_map] at q; omega) | (dsimp only; show _ ≤ 1000; have q := congrArg List.length im0; rw [List.length_map] at q; omega)) (by first | (exact cb_eq iu0 _) | (dsimp only; exact cb_eq iu0 _))) (fun found_344 v_345 H_346 hx_347 o_348 g_349 w_350 r_351 => ?_)
    have r_352 := (k_Rn K CG).up g_349.im r0
    obtain rfl : v_345 = (.int found_344) := r_351
    refine g_when (E := E) (cl := cl) (b := (decide (found_344 = (0 : Int)))) w_350 o_348 (gt_test (em_op (em_var (t := kI) (v := (.int found_344)) (x := found_344) rfl rfl) em_int o_eqI)) (fun hb_354 o_355 H_353 g_356 w_357 => ?_) (fun hb_359 o_360 H_358 g_361 w_362 => ?_)
    · try simp only [decide_eq_true_eq, decide_eq_false_iff_not, Bool.and_eq_true, Bool.or_eq_true, Bool.and_eq_false_iff, Bool.or_eq_false_iff, Bool.not_eq_true', Bool.not_eq_false'] at hb_354
      have r_363 := (k_Rn K CG).up g_356.im r_352
      exact qer 10 _ o_355 (show Ex H _ from Gr.fr (g_349.then g_356 rfl))
    · try simp only [decide_eq_true_eq, decide_eq_false_iff_not, Bool.and_eq_true, Bool.or_eq_true, Bool.and_eq_false_iff, Bool.or_eq_false_iff, Bool.not_eq_true', Bool.not_eq_false'] at hb_359
      have r_364 := (k_Rn K CG).up g_361.im r_352
      refine g_ret (E := E) (cl := cl) (t := kI) (x := (found_344 - (1 : Int))) w_362 (em_op (em_var (t := kI) (v := (.int found_344)) (x := found_344) rfl rfl) em_int o_I) (fun v_365 H_366 g_367 w_368 r_369 => ?_)
      exact qok _ v_365 H_366 o_360 (show Ex H _ from Gr.fr ((g_349.then g_361 rfl).then g_367 rfl)) r_369

abbrev s_Reigns_is_in : Stmt := inClass (topS 22) 4
def Reigns_is_inN : List Str := ["self", "number", "place"]
theorem sc_Reigns_is_in : FnScope Reigns_is_inN ["self", "number", "place"] (defScope s_Reigns_is_in) := ⟨rfl, rfl, rfl, by decide +kernel, rfl, by decide +kernel, by decide +kernel⟩
def f_Reigns_is_in : (List (Str × Int) × List Int) × Int × Int × Unit → Re Bool := fun a => match a with
  | ((rws0, fst0), x1, x2, _) =>
    (.ok (decide ((cntB fst0 (x1 + (1 : Int))) = (x2 + (1 : Int)))))
def pre_Reigns_is_in : (List (Str × Int) × List Int) × Int × Int × Unit → Prop := fun a => match a with
  | ((rws0, fst0), x1, x2, _) => True
abbrev sp_Reigns_is_in (K : PySem.W.Frag) (CG : Addr) (cl : Nat → Addr) : Sp := spD (aC (k_Rn K CG) (aC kI (aC kI a0))) pre_Reigns_is_in f_Reigns_is_in kB cl
theorem ok_Reigns_is_in {f : Addr} {fd : FuncData} (F : Fun K "is_in" "Reigns.is_in" s_Reigns_is_in f fd) (T_Rn : Tt_Rn K CG) (c_count_below : Cal P w K mg base 1 "count_below" (sp_count_belowL K cl) []) : FnOk P w K mg base (L2.CX P w) 2 f fd ["self", "number", "place"] (sp_Reigns_is_in K CG cl) := by
  refine F.okX sc_Reigns_is_in (fun vs H Q E h => ?_) (fun cdv A outer s H vs Q E hr h => ?_)
  · obtain ⟨M, a, live, hA, _⟩ := h
    obtain ⟨v0, _, rfl, r0, v1, _, rfl, r1, v2, _, rfl, r2, rfl⟩ := hA
    rfl
  · obtain ⟨M, ⟨⟨rws0, fst0⟩, x1, x2, _⟩, live, hA, hpre, qok, qer⟩ := h
    obtain ⟨v0, _, rfl, r0, v1, _, rfl, r1, v2, _, rfl, r2, rfl⟩ := hA
    obtain rfl : v1 = (.int x1) := r1
    obtain rfl : v2 = (.int x2) := r2
    have iv0 : I_Rn (rws0, fst0) := inv_Rn r0
    obtain ⟨im0, in0, iu0, iz0⟩ := iv0
    have w0 : Holds M [] H := hold0 live
    have o0 : Pr (f_Reigns_is_in ((rws0, fst0), x1, x2, ())) ((.ok (decide ((cntB fst0 (x1 + (1 : Int))) = (x2 + (1 : Int)))))) := rfl
    refine ⟨_, pss_one (ps_ret (pe_cmpR op_eq (pe_k c_count_below hr (by decide) passL (pa_cons (pe_fld (pv 0) rfl) (pa_cons (pe_op op_add (pv 1) pe_int) pa_nil))) (pe_op op_add (pv 2) pe_int) (nomark _))), ?_⟩
    refine g_ret (E := E) (cl := cl) (t := kB) (x := (decide ((cntB fst0 (x1 + (1 : Int))) = (x2 + (1 : Int))))) w0 (em_op (em_callP (y := (cntB fst0 (x1 + (1 : Int)))) (a := (fst0, (x1 + (1 : Int)), ())) (em_cons (em_Rn_firsts T_Rn (em_var (t := (k_Rn K CG)) (v := v0) (x := (rws0, fst0)) rfl r0)) (em_cons (em_op (em_var (t := kI) (v := (.int x1)) (x := x1) rfl rfl) em_int o_I) em_nil)) args_id (by first | (show _ ≤ 1000; have q := congrArg List.length im0; rw [List.length_map] at q; omega) | (dsimp only; show _ ≤ 1000; have q := congrArg List.length im0; rw [List.length_map] at q; omega)) (by first | (exact cb_eq iu0 _) | (dsimp only; exact cb_eq iu0 _))) (em_op (em_var (t := kI) (v := (.int x2)) (x := x2) rfl rfl) em_int o_I) o_eqI) (fun v_370 H_371 g_372 w_373 r_374 => ?_)
    exact qok _ v_370 H_371 o0 (show Ex H _ from Gr.fr g_372) r_374
def v_Reigns_is_in : (List (Str × Int) × List Int) × Int × Int × Unit → Bool := fun a => match a with
  | ((rws0, fst0), x1, x2, _) =>
    ((decide ((cntB fst0 (x1 + (1 : Int))) = (x2 + (1 : Int)))))
theorem is_Reigns_is_in (a : (List (Str × Int) × List Int) × Int × Int × Unit) : f_Reigns_is_in a = .ok (v_Reigns_is_in a) := by
  obtain ⟨⟨rws0, fst0⟩, x1, x2, _⟩ := a
  rfl
end
end Rw
namespace Rw
open PySem PySem.Spec PyProof.Rows L2 Evl Cy

theorem reign_in {r : List (Str × Int)} {l : List Int} (k : I_Rn (r, l)) {n y : Int} (h : f_Reigns_reign ((r, l), n, ()) = .ok y) : 0 - (r.length : Int) ≤ y ∧ y < (r.length : Int) := by
  obtain ⟨e, _, _, _⟩ := k
  have hl : l.length = r.length := by rw [e, List.length_map]
  have c0 : 0 ≤ cntB l (n + 1) := by unfold cntB; omega
  have c1 : cntB l (n + 1) ≤ l.length := by
    unfold cntB
    have := List.length_filter_le (fun x => decide (x < n + 1)) l
    omega
  have h2 : cond (decide (cntB l (n + 1) = 0)) (.er 10) (.ok (cntB l (n + 1) - 1)) = Re.ok y := h
  by_cases z : cntB l (n + 1) = 0
  · rw [decide_eq_true z] at h2; cases h2
  · rw [decide_eq_false z] at h2
    injection h2 with h2
    omega

section
variable {P : Program} {w : World} {K : PySem.W.Frag} {mg : Str → Option Value} {base : Heap} {C D CP CG : Addr} {cl : Nat → Addr}

abbrev s_Reigns_told : Stmt := inClass (topS 22) 2
def Reigns_toldN : List Str := ["self", "calendar", "number", "name", "first", "year", "month", "day"]
theorem sc_Reigns_told : FnScope Reigns_toldN ["self", "calendar", "number"] (defScope s_Reigns_told) := ⟨rfl, rfl, rfl, by decide +kernel, rfl, by decide +kernel, by decide +kernel⟩
def f_Reigns_told : (List (Str × Int) × List Int) × Ca × Int × Unit → Re (Str × Int × Int × Int) := fun a => match a with
  | ((rws0, fst0), c1, x2, _) =>
    lr ((f_Reigns_reign ((rws0, fst0), x2, ())).bind fun i => .ok ((fun i => (atI rws0 i).getD ("", 0)) i)) fun p_375 =>
    lt ((yearOf c1 x2), ((dateM c1 x2 : Nat) : Int), (dateD c1 x2)) fun _ =>
    (.ok (p_375.1, (((yearOf c1 x2) - (yearOf c1 p_375.2)) + (1 : Int)), ((dateM c1 x2 : Nat) : Int), (dateD c1 x2)))
def pre_Reigns_told : (List (Str × Int) × List Int) × Ca × Int × Unit → Prop := fun a => match a with
  | ((rws0, fst0), c1, x2, _) => True
abbrev sp_Reigns_told (K : PySem.W.Frag) (C : Addr) (CG : Addr) (cl : Nat → Addr) : Sp := spD (aC (k_Rn K CG) (aC (kCal K C) (aC kI a0))) pre_Reigns_told f_Reigns_told (k4 K kSo kI kI kI) cl
theorem ok_Reigns_told {f : Addr} {fd : FuncData} (F : Fun K "told" "Reigns.told" s_Reigns_told f fd) (T_Rn : Tt_Rn K CG) (m_reign : Mt P w K mg base 2 CG "reign" (sp_Reigns_reign K CG cl) []) (mYO : Mt P w K mg base 2 C "year_of" (spM K C cl fYearOf) []) (mDA : Mt P w K mg base 3 C "date" (spM K C cl fDate) []) : FnOk P w K mg base (L2.CX P w) 4 f fd ["self", "calendar", "number"] (sp_Reigns_told K C CG cl) := by
  refine F.okX sc_Reigns_told (fun vs H Q E h => ?_) (fun cdv A outer s H vs Q E hr h => ?_)
  · obtain ⟨M, a, live, hA, _⟩ := h
    obtain ⟨v0, _, rfl, r0, v1, _, rfl, r1, v2, _, rfl, r2, rfl⟩ := hA
    rfl
  · obtain ⟨M, ⟨⟨rws0, fst0⟩, c1, x2, _⟩, live, hA, hpre, qok, qer⟩ := h
    obtain ⟨v0, _, rfl, r0, v1, _, rfl, r1, v2, _, rfl, r2, rfl⟩ := hA
    obtain rfl : v2 = (.int x2) := r2
    have iv0 : I_Rn (rws0, fst0) := inv_Rn r0
    obtain ⟨im0, in0, iu0, iz0⟩ := iv0
    have sm1 : Small c1 := by obtain ⟨_, _, _, z⟩ := r1; exact z
    have ok1 := sm1.ok
    have wk1 := ok1.wk
    have wl1 := sm1.wk
    have len1 := sm1.len
    have lm01 := ok1.lm0
    have lm11 := ok1.lm1
    have w0 : Holds M [] H := hold0 live
    have o0 : Pr (f_Reigns_told ((rws0, fst0), c1, x2, ())) (lr ((f_Reigns_reign ((rws0, fst0), x2, ())).bind fun i => .ok ((fun i => (atI rws0 i).getD ("", 0)) i)) fun p_375 =>
lt ((yearOf c1 x2), ((dateM c1 x2 : Nat) : Int), (dateD c1 x2)) fun _ =>
(.ok (p_375.1, (((yearOf c1 x2) - (yearOf c1 p_375.2)) + (1 : Int)), ((dateM c1 x2 : Nat) : Int), (dateD c1 x2)))) := rfl
    refine ⟨_, pss_cons (ps_asg (pe_ix ix_tup (pe_fld (pv 0) rfl) (pe_mk m_reign hr (by decide) (passE (E := E)) (pv 0) (pa_cons (pv 2) pa_nil)) (fun _ _ => rfl)) (pg_tup rfl (pgs_cons (pg_name (i := 3) sc_Reigns_told.nd rfl (.inl rfl)) (pgs_cons (pg_name (i := 4) sc_Reigns_told.nd rfl (.inl rfl)) pgs_nil)))) (pss_cons (ps_asg (pe_mk mDA hr (by decide) passL (pv 1) (pa_cons (pv 2) pa_nil)) (pg_tup rfl (pgs_cons (pg_name (i := 5) sc_Reigns_told.nd rfl (.inl rfl)) (pgs_cons (pg_name (i := 6) sc_Reigns_told.nd rfl (.inl rfl)) (pgs_cons (pg_name (i := 7) sc_Reigns_told.nd rfl (.inl rfl)) pgs_nil))))) (pss_one (ps_ret (pe_tup (pa_cons (pv 3) (pa_cons (pe_op op_add (pe_op op_sub (pv 5) (pe_mk mYO hr (by decide) passL (pv 1) (pa_cons (pv 4) pa_nil))) pe_int) (pa_cons (pv 6) (pa_cons (pv 7) pa_nil)))))))), ?_⟩
    refine g_asgGX (E := E) (cl := cl) (t := k2 K kSo kI) (r := ((f_Reigns_reign ((rws0, fst0), x2, ())).bind fun i => .ok ((fun i => (atI rws0 i).getD ("", 0)) i))) w0 eg_2 o0 (em_opR2 (g := (fun i => (atI rws0 i).getD ("", 0))) (em_Rn_rows T_Rn (em_var (t := (k_Rn K CG)) (v := v0) (x := (rws0, fst0)) rfl r0)) (em_meth (pre := pre_Reigns_reign) (f := f_Reigns_reign) (b := (x2, ())) (em_var (t := (k_Rn K CG)) (v := v0) (x := (rws0, fst0)) rfl r0) (ob_Rn fun _ _ _ => rfl) (em_cons (em_var (t := kI) (v := (.int x2)) (x := x2) rfl rfl) em_nil) args_mG (by exact trivial)) (fun y e => o_ixTG (at_inG (reign_in (inv_Rn r0) e)))) (fun p_375 σ_376 H_377 e_378 o_379 g_380 w_381 b => ?_) (fun k_384 H_385 e_386 o_387 g_388 w_389 => ?_)
    · have r_390 := (k_Rn K CG).up g_380.im r0
      have r_391 := (kCal K C).up g_380.im r1
      obtain ⟨v_382, _, r_383, rfl, rfl⟩ := b
      refine g_asgG (E := E) (cl := cl) (t := (k3 K kI kI kI)) (x := ((yearOf c1 x2), ((dateM c1 x2 : Nat) : Int), (dateD c1 x2))) w_381 eg_3 o_379 (em_oldM (y := ((yearOf c1 x2), ((dateM c1 x2 : Nat) : Int), (dateD c1 x2))) (em_var (t := (kCal K C)) (v := v1) (x := c1) rfl r_391) (em_cons (em_var (t := kI) (v := (.int x2)) (x := x2) rfl rfl) em_nil) hB1 (fun _ _ _ _ => rfl) fDate_ok rs3) (fun p_392 σ_393 H_394 hx_395 o_396 g_397 w_398 b => ?_)
      subst hx_395
      have r_399 := (k_Rn K CG).up g_397.im r_390
      have r_400 := (kCal K C).up g_397.im r_391
      have r_401 := kSo.up g_397.im r_383
      obtain ⟨_, _, _, rfl, rfl, rfl, rfl⟩ := b
      refine g_ret (E := E) (cl := cl) (t := (k4 K kSo kI kI kI)) (x := (p_375.1, (((yearOf c1 x2) - (yearOf c1 p_375.2)) + (1 : Int)), ((dateM c1 x2 : Nat) : Int), (dateD c1 x2))) w_398 (em_t4 K (em_cons (em_var (t := kSo) (v := v_382) (x := p_375.1) rfl r_401) (em_cons (em_op (em_op (em_var (t := kI) (v := (.int (yearOf c1 x2))) (x := (yearOf c1 x2)) rfl rfl) (em_oldM (y := (yearOf c1 p_375.2)) (em_var (t := (kCal K C)) (v := v1) (x := c1) rfl r_400) (em_cons (em_var (t := kI) (v := (.int p_375.2)) (x := p_375.2) rfl rfl) em_nil) hB1 (fun _ _ _ _ => rfl) rfl rsI) o_I) em_int o_I) (em_cons (em_var (t := kI) (v := (.int ((dateM c1 x2 : Nat) : Int))) (x := ((dateM c1 x2 : Nat) : Int)) rfl rfl) (em_cons (em_var (t := kI) (v := (.int (dateD c1 x2))) (x := (dateD c1 x2)) rfl rfl) em_nil))))) (fun v_402 H_403 g_404 w_405 r_406 => ?_)
      exact qok _ v_402 H_403 o_396 (show Ex H _ from Gr.fr ((g_380.then g_397 rfl).then g_404 rfl)) r_406
    · exact qer _ _ o_387 (show Ex H _ from Gr.fr g_388)

abbrev s_Reigns_day_number : Stmt := inClass (topS 22) 3
def Reigns_day_numberN : List Str := ["self", "calendar", "name", "year", "month", "day", "place", "reign", "first", "there", "number"]
theorem sc_Reigns_day_number : FnScope Reigns_day_numberN ["self", "calendar", "name", "year", "month", "day"] (defScope s_Reigns_day_number) := ⟨rfl, rfl, rfl, by decide +kernel, rfl, by decide +kernel, by decide +kernel⟩
def f_Reigns_day_number : (List (Str × Int) × List Int) × Ca × Str × Int × Int × Int × Unit → Re Int := fun a => match a with
  | ((rws0, fst0), c1, x2, x3, x4, x5, _) =>
    forK (fun (x_407 : (Int × (Str × Int))) (s_408 : Unit) (kn : Unit → _) (kb : Unit → _) =>
    cond (decide (x_407.2.1 = x2))
    (lt (((yearOf c1 x_407.2.2) + x3) - (1 : Int)) fun there_449 =>
    cond ((decide ((0 : Int) ≤ x5)) && (decide (x5 < (Ca.md c1 there_449 (x4).toNat))))
    (lt (numAt c1 there_449 (x4).toNat x5) fun number_475 =>
    cond (v_Reigns_is_in ((rws0, fst0), number_475, x_407.1, ()))
    ((.ok number_475))
    (kn ()))
    (kn ()))
    (kn ()))
    (fun (s_518 : Unit) =>
    (.er 10))
    (enL rws0) ()
def pre_Reigns_day_number : (List (Str × Int) × List Int) × Ca × Str × Int × Int × Int × Unit → Prop := fun a => match a with
  | ((rws0, fst0), c1, x2, x3, x4, x5, _) => 0 ≤ x4 ∧ x4 < (List.length (Ca.months c1) : Int)
abbrev sp_Reigns_day_number (K : PySem.W.Frag) (C : Addr) (D : Addr) (CG : Addr) (cl : Nat → Addr) : Sp := spD (aC (k_Rn K CG) (aC (kCal K C) (aC kSo (aC kI (aC kI (aC kI a0)))))) pre_Reigns_day_number f_Reigns_day_number kI cl
theorem ok_Reigns_day_number {f : Addr} {fd : FuncData} (F : Fun K "day_number" "Reigns.day_number" s_Reigns_day_number f fd) (T_Rn : Tt_Rn K CG) (mYO : Mt P w K mg base 2 C "year_of" (spM K C cl fYearOf) []) (mMD : Mt P w K mg base 2 C "month_days" (spM K C cl fMonthDays) []) (mNO : Mt P w K mg base 3 C "number_of" (sp_number_of K C D cl) []) (m_is_in : Mt P w K mg base 2 CG "is_in" (sp_Reigns_is_in K CG cl) []) (n_enumerate : mg "enumerate" = none) (xNoSuch : Exc1 K mg "NoSuch" (cl 10)) : FnOk P w K mg base (L2.CX P w) 4 f fd ["self", "calendar", "name", "year", "month", "day"] (sp_Reigns_day_number K C D CG cl) := by
  refine F.okX sc_Reigns_day_number (fun vs H Q E h => ?_) (fun cdv A outer s H vs Q E hr h => ?_)
  · obtain ⟨M, a, live, hA, _⟩ := h
    obtain ⟨v0, _, rfl, r0, v1, _, rfl, r1, v2, _, rfl, r2, v3, _, rfl, r3, v4, _, rfl, r4, v5, _, rfl, r5, rfl⟩ := hA
    rfl
  · obtain ⟨M, ⟨⟨rws0, fst0⟩, c1, x2, x3, x4, x5, _⟩, live, hA, hpre, qok, qer⟩ := h
    obtain ⟨v0, _, rfl, r0, v1, _, rfl, r1, v2, _, rfl, r2, v3, _, rfl, r3, v4, _, rfl, r4, v5, _, rfl, r5, rfl⟩ := hA
    obtain rfl : v3 = (.int x3) := r3
    obtain rfl : v4 = (.int x4) := r4
    obtain rfl : v5 = (.int x5) := r5
    have iv0 : I_Rn (rws0, fst0) := inv_Rn r0
    obtain ⟨im0, in0, iu0, iz0⟩ := iv0
    have sm1 : Small c1 := by obtain ⟨_, _, _, z⟩ := r1; exact z
    have ok1 := sm1.ok
    have wk1 := ok1.wk
    have wl1 := sm1.wk
    have len1 := sm1.len
    have lm01 := ok1.lm0
    have lm11 := ok1.lm1
    have hpre : 0 ≤ x4 ∧ x4 < (List.length (Ca.months c1) : Int) := hpre
    have w0 : Holds M [] H := hold0 live
    have o0 : Pr (f_Reigns_day_number ((rws0, fst0), c1, x2, x3, x4, x5, ())) (forK (fun (x_407 : (Int × (Str × Int))) (s_408 : Unit) (kn : Unit → _) (kb : Unit → _) =>
cond (decide (x_407.2.1 = x2))
(lt (((yearOf c1 x_407.2.2) + x3) - (1 : Int)) fun there_449 =>
cond ((decide ((0 : Int) ≤ x5)) && (decide (x5 < (Ca.md c1 there_449 (x4).toNat))))
(lt (numAt c1 there_449 (x4).toNat x5) fun number_475 =>
cond (v_Reigns_is_in ((rws0, fst0), number_475, x_407.1, ()))
((.ok number_475))
(kn ()))
(kn ()))
(kn ()))
(fun (s_518 : Unit) =>
(.er 10))
(enL rws0) ()) := rfl
    refine ⟨_, pss_cons (ps_for (passes_of rfl) rfl (pi_enumT n_enumerate (pa_cons (pe_fld (pv 0) rfl) pa_nil)) (pg_tup rfl (pgs_cons (pg_name (i := 6) sc_Reigns_day_number.nd rfl (Or.inl rfl)) (pgs_cons (pg_tup rfl (pgs_cons (pg_name (i := 7) sc_Reigns_day_number.nd rfl (Or.inl rfl)) (pgs_cons (pg_name (i := 8) sc_Reigns_day_number.nd rfl (Or.inl rfl)) pgs_nil))) pgs_nil))) (pss_one (ps_if (pt_cmpR (op_eqD hr.units) (pv 7) (pv 2) (nomark _)) (pss_cons (ps_set (i := 9) sc_Reigns_day_number.nd rfl (.inl rfl) (pe_op op_sub (pe_op op_add (pe_mk mYO hr (by decide) passL (pv 1) (pa_cons (pv 8) pa_nil)) (pv 3)) pe_int)) (pss_one (ps_if (pt_chain op_le op_lt pe_int (pv 5) (pe_mk mMD hr (by decide) passL (pv 1) (pa_cons (pv 9) (pa_cons (pv 4) pa_nil)))) (pss_cons (ps_set (i := 10) sc_Reigns_day_number.nd rfl (.inl rfl) (pe_mk mNO hr (by decide) passL (pv 1) (pa_cons (pv 9) (pa_cons (pv 4) (pa_cons (pv 5) pa_nil))))) (pss_one (ps_if (pt_val (pe_mk m_is_in hr (by decide) passL (pv 0) (pa_cons (pv 10) (pa_cons (pv 6) pa_nil)))) (pss_one (ps_ret (pv 10))) (pss_nil)))) (pss_nil)))) (pss_nil)))) (pss_one (ps_raiseX xNoSuch)), ?_⟩
    refine g_for (E := E) (cl := cl) (xs := (enL rws0)) (s0 := ()) (Sx := (fun s : Unit => [])) (fun (I : Hp) (rs : List (Int × (Str × Int))) (s : Unit) (σ : L2.St) => ∃ (l6 : Option V) (l7 : Option V) (l8 : Option V) (l9 : Option V) (l10 : Option V), σ = [some v0, some v1, some v2, some (.int x3), some (.int x4), some (.int x5), l6, l7, l8, l9, l10]) w0 o0 (ei_EnT (em_cons (em_Rn_rows T_Rn (em_var (t := (k_Rn K CG)) (v := v0) (x := (rws0, fst0)) rfl r0)) em_nil)) (fun _ => rfl) (fun _ => eg_22) (fun _ g => ⟨_, _, _, _, _, rfl⟩) (fun s_518 σ_519 H_520 g_521 w_522 rv_523 o_524 => ?_) (fun hd_423 x_407 s_408 σ_409 σ_410 I_411 H_412 rest_413 hm_414 g_415 w_416 ei_417 rv_418 b_419 o_420 Nx_421 nx_422 => ?_)
    · have r_525 := (k_Rn K CG).up g_521.im r0
      have r_526 := (kCal K C).up g_521.im r1
      have r_527 := kSo.up g_521.im r2
      obtain ⟨l_528, l_529, l_530, l_531, l_532, rfl⟩ := rv_523
      exact qer 10 _ o_524 (show Ex H _ from Gr.fr g_521)
    · obtain ⟨l_426, l_427, l_428, l_429, l_430, rfl⟩ := rv_418
      have r_432 := (k_Rn K CG).up g_415.im r0
      have r_433 := (kCal K C).up g_415.im r1
      have r_434 := kSo.up g_415.im r2
      obtain ⟨_, v_424, _, rfl, r_425, rfl, rfl⟩ := b_419
      refine g_ifL (E := E) (cl := cl) (b := (decide (x_407.2.1 = x2))) w_416 o_420 (gt_test (em_op (em_var (t := kSo) (v := v_424) (x := x_407.2.1) rfl r_425) (em_var (t := kSo) (v := v2) (x := x2) rfl r_434) (o_eqD dS (by decide)))) (fun hb_436 o_437 H_435 g_438 w_439 => ?_) (fun hb_441 o_442 H_440 g_443 w_444 => ?_)
      · try simp only [decide_eq_true_eq, decide_eq_false_iff_not, Bool.and_eq_true, Bool.or_eq_true, Bool.and_eq_false_iff, Bool.or_eq_false_iff, Bool.not_eq_true', Bool.not_eq_false'] at hb_436
        have r_445 := (k_Rn K CG).up g_438.im r_432
        have r_446 := (kCal K C).up g_438.im r_433
        have r_447 := kSo.up g_438.im r_434
        have r_448 := kSo.up g_438.im r_425
        refine g_asg (E := E) (cl := cl) (i := 9) (t := kI) (x := (((yearOf c1 x_407.2.2) + x3) - (1 : Int))) w_439 o_437 (em_op (em_op (em_oldM (y := (yearOf c1 x_407.2.2)) (em_var (t := (kCal K C)) (v := v1) (x := c1) rfl r_446) (em_cons (em_var (t := kI) (v := (.int x_407.2.2)) (x := x_407.2.2) rfl rfl) em_nil) hB1 (fun _ _ _ _ => rfl) rfl rsI) (em_var (t := kI) (v := (.int x3)) (x := x3) rfl rfl) o_I) em_int o_I) (fun there_449 v_450 H_451 hx_452 o_453 g_454 w_455 r_456 => ?_)
        have r_457 := (k_Rn K CG).up g_454.im r_445
        have r_458 := (kCal K C).up g_454.im r_446
        have r_459 := kSo.up g_454.im r_447
        have r_460 := kSo.up g_454.im r_448
        obtain rfl : v_450 = (.int there_449) := r_456
        refine g_ifL (E := E) (cl := cl) (b := ((decide ((0 : Int) ≤ x5)) && (decide (x5 < (Ca.md c1 there_449 (x4).toNat))))) w_455 o_453 (gt_test (em_chain em_int (em_var (t := kI) (v := (.int x5)) (x := x5) rfl rfl) (fun _ => (em_oldM (y := (Ca.md c1 there_449 (x4).toNat)) (em_var (t := (kCal K C)) (v := v1) (x := c1) rfl r_458) (em_cons (em_var (t := kI) (v := (.int there_449)) (x := there_449) rfl rfl) (em_cons (em_var (t := kI) (v := (.int x4)) (x := x4) rfl rfl) em_nil)) hB2 (fun _ _ _ _ => rfl) (fMd_ok (by exact hpre)) rsI)) o_IB o_IB)) (fun hb_462 o_463 H_461 g_464 w_465 => ?_) (fun hb_467 o_468 H_466 g_469 w_470 => ?_)
        · try simp only [decide_eq_true_eq, decide_eq_false_iff_not, Bool.and_eq_true, Bool.or_eq_true, Bool.and_eq_false_iff, Bool.or_eq_false_iff, Bool.not_eq_true', Bool.not_eq_false'] at hb_462
          have r_471 := (k_Rn K CG).up g_464.im r_457
          have r_472 := (kCal K C).up g_464.im r_458
          have r_473 := kSo.up g_464.im r_459
          have r_474 := kSo.up g_464.im r_460
          refine g_asg (E := E) (cl := cl) (i := 10) (t := kI) (x := (numAt c1 there_449 (x4).toNat x5)) w_465 o_463 (em_methP (y := (numAt c1 there_449 (x4).toNat x5)) (b := (there_449, x4, x5, ())) (em_var (t := (kCal K C)) (v := v1) (x := c1) rfl r_472) (ob_cal fun _ _ _ _ _ => rfl) (em_cons (em_var (t := kI) (v := (.int there_449)) (x := there_449) rfl rfl) (em_cons (em_var (t := kI) (v := (.int x4)) (x := x4) rfl rfl) (em_cons (em_var (t := kI) (v := (.int x5)) (x := x5) rfl rfl) em_nil))) args_m (by exact trivial) (by exact number_ok ⟨hpre.1, hpre.2, hb_462.1, hb_462.2⟩)) (fun number_475 v_476 H_477 hx_478 o_479 g_480 w_481 r_482 => ?_)
          have r_483 := (k_Rn K CG).up g_480.im r_471
          have r_484 := (kCal K C).up g_480.im r_472
          have r_485 := kSo.up g_480.im r_473
          have r_486 := kSo.up g_480.im r_474
          obtain rfl : v_476 = (.int number_475) := r_482
          refine g_ifL (E := E) (cl := cl) (b := (v_Reigns_is_in ((rws0, fst0), number_475, x_407.1, ()))) w_481 o_479 (gt_B (em_methP (y := (v_Reigns_is_in ((rws0, fst0), number_475, x_407.1, ()))) (b := (number_475, x_407.1, ())) (em_var (t := (k_Rn K CG)) (v := v0) (x := (rws0, fst0)) rfl r_483) (ob_Rn fun _ _ _ => rfl) (em_cons (em_var (t := kI) (v := (.int number_475)) (x := number_475) rfl rfl) (em_cons (em_var (t := kI) (v := (.int x_407.1)) (x := x_407.1) rfl rfl) em_nil)) args_mG (by exact trivial) (by first | (exact is_Reigns_is_in _) | (dsimp only; exact is_Reigns_is_in _)))) (fun hb_488 o_489 H_487 g_490 w_491 => ?_) (fun hb_493 o_494 H_492 g_495 w_496 => ?_)
          · try simp only [decide_eq_true_eq, decide_eq_false_iff_not, Bool.and_eq_true, Bool.or_eq_true, Bool.and_eq_false_iff, Bool.or_eq_false_iff, Bool.not_eq_true', Bool.not_eq_false'] at hb_488
            have r_497 := (k_Rn K CG).up g_490.im r_483
            have r_498 := (kCal K C).up g_490.im r_484
            have r_499 := kSo.up g_490.im r_485
            have r_500 := kSo.up g_490.im r_486
            refine g_ret (E := E) (cl := cl) (t := kI) (x := number_475) w_491 (em_var (t := kI) (v := (.int number_475)) (x := number_475) rfl rfl) (fun v_501 H_502 g_503 w_504 r_505 => ?_)
            exact qok _ v_501 H_502 o_489 (show Ex H _ from Gr.fr ((((((g_415.then g_438 rfl).then g_454 rfl).then g_464 rfl).then g_480 rfl).then g_490 rfl).then g_503 rfl)) r_505
          · try simp only [decide_eq_true_eq, decide_eq_false_iff_not, Bool.and_eq_true, Bool.or_eq_true, Bool.and_eq_false_iff, Bool.or_eq_false_iff, Bool.not_eq_true', Bool.not_eq_false'] at hb_493
            have r_506 := (k_Rn K CG).up g_495.im r_483
            have r_507 := (kCal K C).up g_495.im r_484
            have r_508 := kSo.up g_495.im r_485
            have r_509 := kSo.up g_495.im r_486
            exact nx_422 () _ _ o_494 (Gr.cast ((((g_438.then g_454 rfl).then g_464 rfl).then g_480 rfl).then g_495 rfl) rfl) w_496 ⟨_, _, _, _, _, rfl⟩
        · try simp only [decide_eq_true_eq, decide_eq_false_iff_not, Bool.and_eq_true, Bool.or_eq_true, Bool.and_eq_false_iff, Bool.or_eq_false_iff, Bool.not_eq_true', Bool.not_eq_false'] at hb_467
          have r_510 := (k_Rn K CG).up g_469.im r_457
          have r_511 := (kCal K C).up g_469.im r_458
          have r_512 := kSo.up g_469.im r_459
          have r_513 := kSo.up g_469.im r_460
          exact nx_422 () _ _ o_468 (Gr.cast ((g_438.then g_454 rfl).then g_469 rfl) rfl) w_470 ⟨_, _, _, _, _, rfl⟩
      · try simp only [decide_eq_true_eq, decide_eq_false_iff_not, Bool.and_eq_true, Bool.or_eq_true, Bool.and_eq_false_iff, Bool.or_eq_false_iff, Bool.not_eq_true', Bool.not_eq_false'] at hb_441
        have r_514 := (k_Rn K CG).up g_443.im r_432
        have r_515 := (kCal K C).up g_443.im r_433
        have r_516 := kSo.up g_443.im r_434
        have r_517 := kSo.up g_443.im r_425
        exact nx_422 () _ _ o_442 (Gr.cast g_443 rfl) w_444 ⟨_, _, _, _, _, rfl⟩

abbrev s_Reigns_years_of : Stmt := inClass (topS 22) 5
def Reigns_years_ofN : List Str := ["self", "calendar", "place", "last"]
theorem sc_Reigns_years_of : FnScope Reigns_years_ofN ["self", "calendar", "place"] (defScope s_Reigns_years_of) := ⟨rfl, rfl, rfl, by decide +kernel, rfl, by decide +kernel, by decide +kernel⟩
def f_Reigns_years_of : (List (Str × Int) × List Int) × Ca × Int × Unit → Re Int := fun a => match a with
  | ((rws0, fst0), c1, x2, _) =>
    cond (!((decide ((0 : Int) ≤ x2)) && (decide (x2 < ((rws0.length : Int) - (1 : Int))))))
    ((.er 10))
    (lt (((atI fst0 (x2 + (1 : Int))).getD 0) - (1 : Int)) fun last_548 =>
    (.ok (((yearOf c1 last_548) - (yearOf c1 ((atI fst0 x2).getD 0))) + (1 : Int))))
def pre_Reigns_years_of : (List (Str × Int) × List Int) × Ca × Int × Unit → Prop := fun a => match a with
  | ((rws0, fst0), c1, x2, _) => True
abbrev sp_Reigns_years_of (K : PySem.W.Frag) (C : Addr) (CG : Addr) (cl : Nat → Addr) : Sp := spD (aC (k_Rn K CG) (aC (kCal K C) (aC kI a0))) pre_Reigns_years_of f_Reigns_years_of kI cl
theorem ok_Reigns_years_of {f : Addr} {fd : FuncData} (F : Fun K "years_of" "Reigns.years_of" s_Reigns_years_of f fd) (T_Rn : Tt_Rn K CG) (B : BD mg) (mYO : Mt P w K mg base 2 C "year_of" (spM K C cl fYearOf) []) (xNoSuch : Exc1 K mg "NoSuch" (cl 10)) : FnOk P w K mg base (L2.CX P w) 3 f fd ["self", "calendar", "place"] (sp_Reigns_years_of K C CG cl) := by
  refine F.okX sc_Reigns_years_of (fun vs H Q E h => ?_) (fun cdv A outer s H vs Q E hr h => ?_)
  · obtain ⟨M, a, live, hA, _⟩ := h
    obtain ⟨v0, _, rfl, r0, v1, _, rfl, r1, v2, _, rfl, r2, rfl⟩ := hA
    rfl
  · obtain ⟨M, ⟨⟨rws0, fst0⟩, c1, x2, _⟩, live, hA, hpre, qok, qer⟩ := h
    obtain ⟨v0, _, rfl, r0, v1, _, rfl, r1, v2, _, rfl, r2, rfl⟩ := hA
    obtain rfl : v2 = (.int x2) := r2
    have iv0 : I_Rn (rws0, fst0) := inv_Rn r0
    obtain ⟨im0, in0, iu0, iz0⟩ := iv0
    have sm1 : Small c1 := by obtain ⟨_, _, _, z⟩ := r1; exact z
    have ok1 := sm1.ok
    have wk1 := ok1.wk
    have wl1 := sm1.wk
    have len1 := sm1.len
    have lm01 := ok1.lm0
    have lm11 := ok1.lm1
    have w0 : Holds M [] H := hold0 live
    have o0 : Pr (f_Reigns_years_of ((rws0, fst0), c1, x2, ())) (cond (!((decide ((0 : Int) ≤ x2)) && (decide (x2 < ((rws0.length : Int) - (1 : Int))))))
((.er 10))
(lt (((atI fst0 (x2 + (1 : Int))).getD 0) - (1 : Int)) fun last_548 =>
(.ok (((yearOf c1 last_548) - (yearOf c1 ((atI fst0 x2).getD 0))) + (1 : Int))))) := rfl
    refine ⟨_, pss_cons (ps_if (pt_not (pt_chain op_le op_lt pe_int (pv 2) (pe_op op_sub (pe_callB call_len_seq (by rfl) B.len (by decide +kernel) (pa_cons (pe_fld (pv 0) rfl) pa_nil)) pe_int))) (pss_one (ps_raiseX xNoSuch)) (pss_nil)) (pss_cons (ps_set (i := 3) sc_Reigns_years_of.nd rfl (.inl rfl) (pe_op op_sub (pe_ix ix_list (pe_fld (pv 0) rfl) (pe_op op_add (pv 2) pe_int) (fun _ _ => rfl)) pe_int)) (pss_one (ps_ret (pe_op op_add (pe_op op_sub (pe_mk mYO hr (by decide) passL (pv 1) (pa_cons (pv 3) pa_nil)) (pe_mk mYO hr (by decide) passL (pv 1) (pa_cons (pe_ix ix_list (pe_fld (pv 0) rfl) (pv 2) (fun _ _ => rfl)) pa_nil))) pe_int)))), ?_⟩
    refine g_when (E := E) (cl := cl) (b := (!((decide ((0 : Int) ≤ x2)) && (decide (x2 < ((rws0.length : Int) - (1 : Int))))))) w0 o0 (gt_not (gt_test (em_chain em_int (em_var (t := kI) (v := (.int x2)) (x := x2) rfl rfl) (fun _ => (em_op (em_cb (em_cons (em_Rn_rows T_Rn (em_var (t := (k_Rn K CG)) (v := v0) (x := (rws0, fst0)) rfl r0)) em_nil) o_lenT) em_int o_I)) o_IB o_IB))) (fun hb_535 o_536 H_534 g_537 w_538 => ?_) (fun hb_540 o_541 H_539 g_542 w_543 => ?_)
    · try simp only [decide_eq_true_eq, decide_eq_false_iff_not, Bool.and_eq_true, Bool.or_eq_true, Bool.and_eq_false_iff, Bool.or_eq_false_iff, Bool.not_eq_true', Bool.not_eq_false'] at hb_535
      have r_544 := (k_Rn K CG).up g_537.im r0
      have r_545 := (kCal K C).up g_537.im r1
      exact qer 10 _ o_536 (show Ex H _ from Gr.fr g_537)
    · try simp only [decide_eq_true_eq, decide_eq_false_iff_not, Bool.and_eq_true, Bool.or_eq_true, Bool.and_eq_false_iff, Bool.or_eq_false_iff, Bool.not_eq_true', Bool.not_eq_false'] at hb_540
      have r_546 := (k_Rn K CG).up g_542.im r0
      have r_547 := (kCal K C).up g_542.im r1
      refine g_asg (E := E) (cl := cl) (i := 3) (t := kI) (x := (((atI fst0 (x2 + (1 : Int))).getD 0) - (1 : Int))) w_543 o_541 (em_op (em_op (em_Rn_firsts T_Rn (em_var (t := (k_Rn K CG)) (v := v0) (x := (rws0, fst0)) rfl r_546)) (em_op (em_var (t := kI) (v := (.int x2)) (x := x2) rfl rfl) em_int o_I) (o_ixLI (at_in (by dsimp only; have q := congrArg List.length im0; rw [List.length_map] at q; omega)))) em_int o_I) (fun last_548 v_549 H_550 hx_551 o_552 g_553 w_554 r_555 => ?_)
      have r_556 := (k_Rn K CG).up g_553.im r_546
      have r_557 := (kCal K C).up g_553.im r_547
      obtain rfl : v_549 = (.int last_548) := r_555
      refine g_ret (E := E) (cl := cl) (t := kI) (x := (((yearOf c1 last_548) - (yearOf c1 ((atI fst0 x2).getD 0))) + (1 : Int))) w_554 (em_op (em_op (em_oldM (y := (yearOf c1 last_548)) (em_var (t := (kCal K C)) (v := v1) (x := c1) rfl r_557) (em_cons (em_var (t := kI) (v := (.int last_548)) (x := last_548) rfl rfl) em_nil) hB1 (fun _ _ _ _ => rfl) rfl rsI) (em_oldM (y := (yearOf c1 ((atI fst0 x2).getD 0))) (em_var (t := (kCal K C)) (v := v1) (x := c1) rfl r_557) (em_cons (em_op (em_Rn_firsts T_Rn (em_var (t := (k_Rn K CG)) (v := v0) (x := (rws0, fst0)) rfl r_556)) (em_var (t := kI) (v := (.int x2)) (x := x2) rfl rfl) (o_ixLI (at_in (by dsimp only; have q := congrArg List.length im0; rw [List.length_map] at q; omega)))) em_nil) hB1 (fun _ _ _ _ => rfl) rfl rsI) o_I) em_int o_I) (fun v_558 H_559 g_560 w_561 r_562 => ?_)
      exact qok _ v_558 H_559 o_552 (show Ex H _ from Gr.fr ((g_542.then g_553 rfl).then g_560 rfl)) r_562
end
end Rw
namespace Rw
open PySem PySem.Spec PyProof.Rows L2 Evl Cy
theorem upA_Pa {K : PySem.W.Frag} {C : Addr} : UpA (aC (kCal K C) (aC (kCal K C) (aC kI a0))) := @up_aC _ _ _ _ (@up_aC _ _ _ _ (@up_aC _ _ _ _ @up_a0))
theorem upA_Rn {K : PySem.W.Frag} : UpA (aC (kL K (k2 K kSo kI)) a0) := @up_aC _ _ _ _ @up_a0
theorem fn_ne {α : Type} {l : List α} [Decidable (l = [])] (h : (!decide (l = [])) = true) : l ≠ [] := fun e => by rw [decide_eq_true e] at h; cases h
theorem map_i {α : Type} (l : List α) : (l.map fun n => n) = l := List.map_id' l
/-! ### calendars -/
theorem first5 {c : Ca} (k : c.Ok) (t : Tiny c) : 1 ≤ c.firstOf 5 ∧ c.firstOf 5 ≤ 80 := by
  have f0 := Ca.first_zero k
  have g0 := first_grow k t 0
  have g1 := first_grow k t 1
  have g2 := first_grow k t 2
  have g3 := first_grow k t 3
  have g4 := first_grow k t 4
  rw [show (0 : Int) + 1 = 1 by rfl] at g0
  rw [show (1 : Int) + 1 = 2 by rfl] at g1
  rw [show (2 : Int) + 1 = 3 by rfl] at g2
  rw [show (3 : Int) + 1 = 4 by rfl] at g3
  rw [show (4 : Int) + 1 = 5 by rfl] at g4
  omega
theorem first_lo {c : Ca} (k : c.Ok) : ∀ n : Nat, (n : Int) * c.plain ≤ c.firstOf (n : Int)
  | 0 => by rw [show (((0 : Nat) : Int)) = 0 by rfl, Ca.first_zero k]; omega
  | n + 1 => by
    have ih := first_lo k n
    rw [show (((n + 1 : Nat) : Int)) = (n : Int) + 1 by omega, Ca.first_succ k, Int.add_mul, Int.one_mul]
    have : c.plain ≤ c.yearDays (n : Int) := by unfold Ca.yearDays; split <;> omega
    omega
theorem first_hi {c : Ca} (k : c.Ok) (t : Tiny c) : ∀ n : Nat, c.firstOf (n : Int) ≤ 16 * (n : Int)
  | 0 => by rw [show (((0 : Nat) : Int)) = 0 by rfl, Ca.first_zero k]; omega
  | n + 1 => by
    have ih := first_hi k t n
    have g := first_grow k t (n : Int)
    rw [show (((n + 1 : Nat) : Int)) = (n : Int) + 1 by omega]
    omega
def F2 (c e : Ca) (o : Int) : Int := (c.firstOf 5 + o) / e.months.sum + 2
theorem plain_in {e : Ca} (k : e.Ok) (t : Tiny e) : 2 ≤ e.months.sum ∧ e.months.sum ≤ 16 := by
  have g := first_grow k t 0
  have s := Ca.first_succ k 0
  have yd : e.months.sum ≤ e.yearDays 0 := by unfold Ca.yearDays Ca.plain; split <;> omega
  have lo : 2 ≤ e.months.sum := by
    cases h : e.months with
    | nil => exact absurd h k.some
    | cons a l =>
      have h1 := (t.mon a (by rw [h]; exact List.mem_cons_self)).1
      have h2 : 0 ≤ l.sum := by
        have : ∀ (l : List Int), (∀ x ∈ l, 0 ≤ x) → 0 ≤ l.sum := by
          intro l
          induction l with
          | nil => intro _; exact Int.le_refl _
          | cons a l ih => intro q; rw [List.sum_cons]; have := q a List.mem_cons_self; have := ih fun x hx => q x (List.mem_cons_of_mem _ hx); omega
        exact this l fun x hx => by have := (t.mon x (by rw [h]; exact List.mem_cons_of_mem _ hx)).1; omega
      rw [List.sum_cons]
      omega
  have g2 := g.2
  rw [s] at g2
  exact ⟨lo, by omega⟩
section
variable {c e : Ca} (okc : c.Ok) (tic : Tiny c) {o : Int} (ho : 0 ≤ o ∧ o < 9) (oke : e.Ok) (tie : Tiny e)
include okc tic ho oke tie
theorem f2_pos : 2 ≤ F2 c e o ∧ F2 c e o ≤ 95 := by
  have p := plain_in oke tie
  have f := first5 okc tic
  have h0 := Int.ediv_nonneg (a := c.firstOf 5 + o) (b := e.months.sum) (by omega) (by omega)
  have h1 := Int.ediv_le_self (a := c.firstOf 5 + o) e.months.sum (by omega)
  unfold F2
  omega
theorem f2_nat : (c.firstOf 5 + o) / e.months.sum + 2 = (((F2 c e o).toNat : Nat) : Int) := by
  have := f2_pos okc tic ho oke tie
  rw [Int.toNat_of_nonneg (by omega)]
  rfl
theorem f2_ok : 0 < e.months.sum ∧ e.months.sum ≤ 100 ∧ (F2 c e o).toNat ≤ 1000 ∧ e.firstOf (((F2 c e o).toNat : Nat) : Int) < 50000 := by
  have p := plain_in oke tie
  have q := f2_pos okc tic ho oke tie
  have h := first_hi oke tie (F2 c e o).toNat
  exact ⟨by omega, by omega, by omega, by omega⟩
theorem f2_far : c.firstOf 5 + o ≤ e.firstOf (((F2 c e o).toNat : Nat) : Int) := by
  have p := plain_in oke tie
  have q := f2_pos okc tic ho oke tie
  have h := first_lo oke (F2 c e o).toNat
  rw [Int.toNat_of_nonneg (by omega)] at h ⊢
  have d := Int.lt_mul_ediv_self_add (x := c.firstOf 5 + o) (k := e.months.sum) (by omega)
  have e1 : F2 c e o * e.plain = e.months.sum * ((c.firstOf 5 + o) / e.months.sum) + 2 * e.months.sum := by
    unfold F2 Ca.plain
    rw [Int.add_mul, Int.mul_comm]
  omega
end
theorem num_back {c : Ca} (k : c.Ok) (n : Int) : f_number_of (c, yearOf c n, ((dateM c n : Nat) : Int), dateD c n, ()) = .ok n := by
  obtain ⟨dm, d0, d1, dn⟩ := date_at k n
  rw [number_ok ⟨by omega, by omega, d0, by rw [Int.toNat_natCast]; exact d1⟩]
  rw [Int.toNat_natCast]
  exact congrArg Re.ok dn.symm
theorem across_ok {c e : Ca} (k : c.Ok) {o n : Int} : f_Pair_across ((c, e, o), yearOf c n, ((dateM c n : Nat) : Int), dateD c n, ()) = .ok (yearOf e (n + o), ((dateM e (n + o) : Nat) : Int), dateD e (n + o)) := by
  show ((f_number_of (c, yearOf c n, ((dateM c n : Nat) : Int), dateD c n, ())).bind _).bind _ = _
  rw [num_back k]
  rfl
theorem back_ok {c e : Ca} (k : e.Ok) {o n : Int} : f_Pair_back ((c, e, o), yearOf e n, ((dateM e n : Nat) : Int), dateD e n, ()) = .ok (yearOf c (n - o), ((dateM c (n - o) : Nat) : Int), dateD c (n - o)) := by
  show ((f_number_of (e, yearOf e n, ((dateM e n : Nat) : Int), dateD e n, ())).bind _).bind _ = _
  rw [num_back k]
  rfl
theorem across_er {c e : Ca} (k : c.Ok) (t : Tiny c) {o : Int} : f_Pair_across ((c, e, o), 0, 0, 99, ()) = .er 1 := by
  show ((f_number_of (c, 0, 0, 99, ())).bind _).bind _ = _
  have lm0 := k.lm0
  have lm1 := k.lm1
  have md : c.md 0 0 ≤ 6 := by
    have hm : 0 < c.months.length := by omega
    have := t.mon _ (List.getElem_mem hm)
    have e1 : c.md 0 0 = c.months[0] ∨ c.md 0 0 = c.months[0] + 1 := by
      unfold Ca.md
      rw [List.getD_eq_getElem?_getD, List.getElem?_eq_getElem hm]
      simp only [Option.getD_some]
      split <;> simp
    omega
  rw [number_no (fun h => by have := h.2.2.2; simp at this; omega)]
  rfl
theorem month_at {c : Ca} (k : c.Ok) {n : Int} : 0 ≤ ((dateM c n : Nat) : Int) ∧ ((dateM c n : Nat) : Int) < (c.months.length : Int) := by
  obtain ⟨dm, d0, d1, dn⟩ := date_at k n
  omega
def mnOf (c : Ca) (n : Int) : Int := yearOf c n * (List.length (Ca.months c) : Int) + ((dateM c n : Nat) : Int)
theorem mn_in {c : Ca} (k : c.Ok) (t : Tiny c) {n : Int} (h0 : 0 ≤ n) (h1 : n < c.firstOf 5) : 0 ≤ mnOf c n ∧ mnOf c n < 5 * (c.months.length : Int) := by
  obtain ⟨y0, y1⟩ := year_rng k h0 h1
  obtain ⟨m0, m1⟩ := month_at k (n := n)
  have a : 0 ≤ yearOf c n * (c.months.length : Int) := Int.mul_nonneg y0 (by omega)
  have b : (yearOf c n + 1) * (c.months.length : Int) ≤ 5 * (c.months.length : Int) := Int.mul_le_mul_of_nonneg_right (by omega) (by omega)
  rw [Int.add_mul, Int.one_mul] at b
  unfold mnOf
  omega
theorem first_10 {c : Ca} (k : c.Ok) (t : Tiny c) : 10 ≤ c.firstOf 5 := by
  have q : (5 : Int) * c.plain ≤ c.firstOf 5 := first_lo k 5
  have p : 2 ≤ c.plain := (plain_in k t).1
  omega
theorem both_pre {c e : Ca} (k : c.Ok) (t : Tiny c) {o n m : Int} {u : Str} (h : 0 ≤ n ∧ n < 10) (hm : 0 ≤ m ∧ m ≤ 1000) : pre_Pair_both_begin ((c, e, o), n, u, m, ()) := by
  have f := first_10 k t
  have q := mn_in k t h.1 (by omega)
  have len := t.len
  unfold mnOf at q
  exact ⟨⟨q.1, by omega⟩, hm.1, hm.2⟩
/-! ### a for that finds -/
def fndR {α β : Type} (f : α → β) (k : Nat) : Option α → Re β
  | some x => .ok (f x)
  | none => .er k
theorem forK_find {α β : Type} {p : α → Bool} {f : α → β} {k : Nat} : ∀ (xs : List α), forK (fun (x : α) (_ : Unit) (kn : Unit → Re β) (_ : Unit → Re β) => cond (p x) (Re.ok (f x)) (kn ())) (fun _ => Re.er k) xs () = fndR f k (xs.find? p)
  | [] => rfl
  | x :: xs => by
    rw [List.find?_cons]
    show cond (p x) _ _ = _
    cases p x with
    | true => rfl
    | false => exact forK_find xs
def bgV (c e : Ca) (o s : Int) (u : Str) (p : Int) : Bool := (decide (u = "month") || decide (p % (c.months.length : Int) = 0)) && (decide (s ≤ numAt c (p / (c.months.length : Int)) (p % (c.months.length : Int)).toNat 0) && v_begins (e, numAt c (p / (c.months.length : Int)) (p % (c.months.length : Int)).toNat 0 + o, u, ()))
theorem both_is {c e : Ca} {o s m : Int} {u : Str} (hu : u ∈ (["year", "month"] : List Str)) : f_Pair_both_begin ((c, e, o), s, u, m, ()) = fndR (fun p => numAt c (p / (c.months.length : Int)) (p % (c.months.length : Int)).toNat 0) 9 ((rng (mnOf c s) (mnOf c s + m)).find? (bgV c e o s u)) := by
  refine Eq.trans ?_ (forK_find (p := bgV c e o s u) (f := fun p => numAt c (p / (c.months.length : Int)) (p % (c.months.length : Int)).toNat 0) (k := 9) (rng (mnOf c s) (mnOf c s + m)))
  show cond (!decide (u ∈ (["year", "month"] : List Str))) _ _ = _
  rw [decide_eq_true hu]
  show forK _ _ (rng (mnOf c s) (mnOf c s + m)) () = _
  congr 1
  funext x s1 kn kb
  unfold bgV
  show cond (decide (u = "month") || decide (x % (c.months.length : Int) = 0)) (cond (decide (s ≤ numAt c (x / (c.months.length : Int)) (x % (c.months.length : Int)).toNat 0) && v_begins (e, numAt c (x / (c.months.length : Int)) (x % (c.months.length : Int)).toNat 0 + o, u, ())) _ _) _ = _
  cases decide (u = "month") || decide (x % (c.months.length : Int) = 0) <;> rfl
theorem unit_in {u : Str} (h : u ∈ (["month", "year"] : List Str)) : u ∈ (["year", "month"] : List Str) := by
  simp only [List.mem_cons, List.not_mem_nil, or_false] at h ⊢
  exact h.symm
theorem both_9 {c e : Ca} {o s m : Int} {u : Str} {i : Nat} (hu : u ∈ (["month", "year"] : List Str)) (h : f_Pair_both_begin ((c, e, o), s, u, m, ()) = .er i) : i = 9 := by
  rw [both_is (unit_in hu)] at h
  cases z : (rng (mnOf c s) (mnOf c s + m)).find? (bgV c e o s u) with
  | some p => rw [z] at h; cases h
  | none => rw [z] at h; injection h with h; exact h.symm
theorem both_lt {a : (Ca × Ca × Int) × Int × Str × Int × Unit} {i : Nat} (h : f_Pair_both_begin a = .er i) : i < 11 := by
  obtain ⟨⟨c, e, o⟩, s, u, m, _⟩ := a
  by_cases hu : u ∈ (["year", "month"] : List Str)
  · rw [both_is hu] at h
    cases z : (rng (mnOf c s) (mnOf c s + m)).find? (bgV c e o s u) with
    | some p => rw [z] at h; cases h
    | none => rw [z] at h; injection h with h; omega
  · have e1 : f_Pair_both_begin ((c, e, o), s, u, m, ()) = .er 10 := by
      show cond (!decide (u ∈ (["year", "month"] : List Str))) _ _ = _
      rw [decide_eq_false hu]
      rfl
    rw [e1] at h
    injection h with h
    omega
/-! ### reigns -/
def FI (l : List (Str × Int)) (h : Int) : Prop := (l.map fun q => q.2).Pairwise (· < ·) ∧ (∀ q ∈ l, 1 ≤ q.2 ∧ q.2 ≤ h ∧ q.1 ≠ "z") ∧ 0 ≤ h ∧ h ≤ 16 * l.length
theorem fi_nil : FI [] 0 := ⟨.nil, (fun q hq => absurd hq List.not_mem_nil), Int.le_refl _, Int.le_refl _⟩
theorem fi_step {l : List (Str × Int)} {h r : Int} {nm : Str} (f : FI l h) (hr : 0 ≤ r ∧ r < 15) (hn : nm ≠ "z") : FI (l ++ [(nm, h + 1 + r)]) (h + 1 + r) := by
  obtain ⟨a, b, c, d⟩ := f
  refine ⟨?_, fun q hq => ?_, by omega, by rw [List.length_append, List.length_singleton]; omega⟩
  · rw [List.map_append, List.pairwise_append]
    refine ⟨a, by simp, fun x hx y hy => ?_⟩
    obtain ⟨q, hq, rfl⟩ := List.mem_map.mp hx
    rw [List.map_cons, List.map_nil, List.mem_singleton] at hy
    have := (b q hq).2.1
    omega
  · rcases List.mem_append.mp hq with z | z
    · have := b q z; exact ⟨this.1, by omega, this.2.2⟩
    · rw [List.mem_singleton.mp z]
      exact ⟨by show 1 ≤ h + 1 + r; omega, Int.le_refl _, hn⟩
theorem name_ok {n : Nat} {x : Str} (h : x ∈ List.take n (["x", "y", "x"] : List Str)) : x ≠ "z" := by
  have := List.mem_of_mem_take h
  simp only [List.mem_cons, List.not_mem_nil, or_false] at this
  rcases this with rfl | rfl | rfl <;> decide
theorem xs_len {r : Int} (h : 0 ≤ r ∧ r < 3) : 1 ≤ (List.take ((1 : Int) + r).toNat (["x", "y", "x"] : List Str)).length ∧ (List.take ((1 : Int) + r).toNat (["x", "y", "x"] : List Str)).length ≤ 3 := by
  rw [List.length_take]
  show 1 ≤ min _ 3 ∧ min _ 3 ≤ 3
  omega
section
variable {l : List (Str × Int)} {h : Int} (f : FI l h)
include f
theorem reigns_ok (hl : 1 ≤ l.length) : f_Reigns_init (l, ()) = .ok (l, l.map fun q => q.2) := by
  have up := f.1
  have mp : ∀ x : List (Str × Int), (x.map fun q => q) = x := fun x => List.map_id' x
  show cond ((decide ((l.map fun q => q) = [])) || (((rng (1 : Int) ((((l.map fun q => q).map fun q => q.2).length : Nat) : Int)).map fun k => decide ((atI ((l.map fun q => q).map fun q => q.2) k).getD 0 ≤ (atI ((l.map fun q => q).map fun q => q.2) (k - 1)).getD 0)).any id)) (Re.er 5) (Re.ok ((l.map fun q => q), ((l.map fun q => q).map fun q => q.2))) = _
  rw [mp, decide_eq_false (fun e => by rw [e] at hl; exact absurd hl (by decide)), Bool.false_or]
  have : (((rng (1 : Int) (((l.map fun q => q.2).length : Nat) : Int)).map fun k => decide ((atI (l.map fun q => q.2) k).getD 0 ≤ (atI (l.map fun q => q.2) (k - 1)).getD 0)).any id) = false := by
    rw [List.any_eq_false]
    intro b hb
    obtain ⟨k, hk, rfl⟩ := List.mem_map.mp hb
    rw [rng_mem] at hk
    obtain ⟨j, rfl⟩ : ∃ j : Nat, k = ((j + 1 : Nat) : Int) := ⟨(k - 1).toNat, by omega⟩
    have hj : j + 1 < (l.map fun q => q.2).length := by omega
    have e1 := atI_nat (xs := l.map fun q => q.2) (j := j + 1) (v := (l.map fun q => q.2)[j + 1]) (by rw [List.getElem?_eq_getElem hj])
    have e2 := atI_nat (xs := l.map fun q => q.2) (j := j) (v := (l.map fun q => q.2)[j]) (by rw [List.getElem?_eq_getElem])
    rw [show (((j + 1 : Nat) : Int)) - 1 = (j : Int) by omega, e1, e2]
    have := List.pairwise_iff_getElem.mp up j (j + 1) (by omega) hj (by omega)
    simp only [id, Option.getD_some, decide_eq_true_eq]
    omega
  rw [this]
  rfl
end
abbrev sn (l : List (Str × Int)) : List Int := l.map fun q => q.2
abbrev atG (l : List (Str × Int)) (k : Int) : Str × Int := (atI l k).getD ("", 0)
def rOf (l : List (Str × Int)) (n : Int) : Int := cntB (sn l) (n + 1) - 1
theorem cnt_ix {b : Int} : ∀ {l : List Int}, l.Pairwise (· < ·) → ∀ (k : Nat) (hk : k < l.length), (l[k] < b ↔ (k : Int) < cntB l b)
  | [], _, k, hk => by cases hk
  | x :: l, up, k, hk => by
    have u := List.pairwise_cons.mp up
    have ih := cnt_ix (b := b) u.2
    unfold cntB at ih ⊢
    rw [List.filter_cons]
    by_cases c : x < b
    · rw [if_pos (by simpa using c), List.length_cons]
      cases k with
      | zero => exact ⟨fun _ => by omega, fun _ => c⟩
      | succ k =>
        rw [List.getElem_cons_succ, ih k (by simpa using hk)]
        omega
    · rw [if_neg (by simpa using c)]
      have none : l.filter (fun x => decide (x < b)) = [] := by
        rw [List.filter_eq_nil_iff]
        intro y hy
        have := u.1 y hy
        simp
        omega
      rw [none]
      constructor
      · intro z
        cases k with
        | zero => exact absurd z c
        | succ k =>
          rw [List.getElem_cons_succ] at z
          have := u.1 _ (List.getElem_mem (show k < l.length by simpa using hk))
          omega
      · intro z
        simp at z
        exfalso
        omega
theorem cnt_rng {l : List Int} {b : Int} : 0 ≤ cntB l b ∧ cntB l b ≤ l.length := by
  unfold cntB
  have := List.length_filter_le (fun x => decide (x < b)) l
  omega
theorem atG_is {l : List (Str × Int)} {k : Int} (h : 0 ≤ k ∧ k < (l.length : Int)) : atG l k = l[k.toNat]'(by omega) := by
  obtain ⟨n, rfl⟩ : ∃ n : Nat, k = (n : Int) := ⟨k.toNat, by omega⟩
  have e := atI_nat (xs := l) (j := n) (v := l[n]'(by omega)) (by rw [List.getElem?_eq_getElem])
  unfold atG
  rw [e]
  rfl
theorem atG_mem {l : List (Str × Int)} {k : Int} (h : 0 ≤ k ∧ k < (l.length : Int)) : atG l k ∈ l := by
  rw [atG_is h]
  exact List.getElem_mem _
section
variable {l : List (Str × Int)} {h : Int} (f : FI l h)
include f
theorem r_ix {k n : Int} (hk : 0 ≤ k ∧ k < (l.length : Int)) : (atG l k).2 ≤ n ↔ k ≤ rOf l n := by
  have q : (sn l)[k.toNat]'(by rw [List.length_map]; omega) < n + 1 ↔ ((k.toNat : Nat) : Int) < cntB (sn l) (n + 1) := cnt_ix (b := n + 1) f.1 k.toNat (by rw [List.length_map]; omega)
  rw [List.getElem_map] at q
  rw [atG_is hk]
  unfold rOf
  constructor
  · intro z; have := q.mp (by omega); omega
  · intro z; have := q.mpr (by show ((k.toNat : Nat) : Int) < cntB (sn l) (n + 1); omega); omega
theorem r_rng {n : Int} : -1 ≤ rOf l n ∧ rOf l n < (l.length : Int) := by
  have := cnt_rng (l := sn l) (b := n + 1)
  have e : (sn l).length = l.length := List.length_map ..
  unfold rOf
  omega
theorem ins_is {n : Int} : ((rng 0 (l.length : Int)).filter fun k => decide ((atG l k).2 ≤ n)) = rng 0 (rOf l n + 1) := by
  have r := r_rng f (n := n)
  rw [filter_cut (lo := 0) (hi := rOf l n + 1) (q := fun _ => true) (by omega) (by omega) (by omega) fun x h1 h2 => ?_, List.filter_eq_self.mpr fun _ _ => rfl]
  rw [Bool.and_true]
  exact decide_eq_decide.mpr ⟨fun z => ⟨h1, by have := (r_ix f ⟨h1, h2⟩).mp z; omega⟩, fun z => (r_ix f ⟨h1, h2⟩).mpr (by omega)⟩
theorem none_in {n : Int} (hi : ((rng 0 (l.length : Int)).filter fun k => decide ((atG l k).2 ≤ n)).map (fun k => k) = []) : rOf l n = -1 := by
  rw [map_i, ins_is f] at hi
  have r := r_rng f (n := n)
  have := congrArg List.length hi
  rw [rng_len] at this
  simp at this
  omega
theorem place_is {n : Int} {ins : List Int} (e : ins = ((rng 0 (l.length : Int)).filter fun k => decide ((atG l k).2 ≤ n)).map (fun k => k)) (ne : ¬ ins = []) : (atI ins ((ins.length : Int) - 1)).getD 0 = rOf l n ∧ 0 ≤ rOf l n ∧ rOf l n < (l.length : Int) := by
  rw [map_i, ins_is f] at e
  have r := r_rng f (n := n)
  have h0 : 0 ≤ rOf l n := by
    by_cases z : 0 ≤ rOf l n
    · exact z
    · exfalso
      apply ne
      rw [e]
      apply List.length_eq_zero_iff.mp
      rw [rng_len]
      omega
  refine ⟨?_, h0, r.2⟩
  rw [e, rng_len, show (((rOf l n + 1 - 0).toNat : Nat) : Int) - 1 = rOf l n by omega]
  have e2 := atI_nat (xs := rng 0 (rOf l n + 1)) (j := (rOf l n).toNat) (v := rOf l n) (rng_get ⟨h0, by omega⟩)
  rw [show (((rOf l n).toNat : Nat) : Int) = rOf l n by omega] at e2
  rw [e2]
  rfl
theorem up_le {i j : Int} (hi : 0 ≤ i) (hij : i ≤ j) (hj : j < (l.length : Int)) : (atG l i).2 ≤ (atG l j).2 := by
  rw [atG_is ⟨hi, by omega⟩, atG_is ⟨by omega, hj⟩]
  rcases Int.lt_or_eq_of_le hij with z | z
  · have := List.pairwise_iff_getElem.mp f.1 i.toNat j.toNat (by rw [List.length_map]; omega) (by rw [List.length_map]; omega) (by omega)
    rw [List.getElem_map, List.getElem_map] at this
    omega
  · subst z; exact Int.le_refl _
theorem up_lt {i j : Int} (hi : 0 ≤ i) (hij : i < j) (hj : j < (l.length : Int)) : (atG l i).2 < (atG l j).2 := by
  rw [atG_is ⟨hi, by omega⟩, atG_is ⟨by omega, hj⟩]
  have := List.pairwise_iff_getElem.mp f.1 i.toNat j.toNat (by rw [List.length_map]; omega) (by rw [List.length_map]; omega) (by omega)
  rw [List.getElem_map, List.getElem_map] at this
  exact this
theorem at_in1 {k : Int} (hk : 0 ≤ k ∧ k < (l.length : Int)) : 1 ≤ (atG l k).2 ∧ (atG l k).2 ≤ 16 * (l.length : Int) ∧ (atG l k).1 ≠ "z" := by
  have := f.2.1 _ (atG_mem hk)
  have := f.2.2.2
  exact ⟨by omega, by omega, (f.2.1 _ (atG_mem hk)).2.2⟩
end
def toldV (c : Ca) (l : List (Str × Int)) (n : Int) : Str × Int × Int × Int := ((atG l (rOf l n)).1, yearOf c n - yearOf c (atG l (rOf l n)).2 + 1, ((dateM c n : Nat) : Int), dateD c n)
theorem reign_ok {l : List (Str × Int)} {n : Int} (r : 0 ≤ rOf l n) : f_Reigns_reign ((l, sn l), n, ()) = .ok (rOf l n) := by
  show cond (decide (cntB (sn l) (n + 1) = 0)) _ _ = _
  unfold rOf at r
  rw [decide_eq_false (by omega)]
  rfl
theorem reign_er {l : List (Str × Int)} {n : Int} (r : rOf l n = -1) : f_Reigns_reign ((l, sn l), n, ()) = .er 10 := by
  show cond (decide (cntB (sn l) (n + 1) = 0)) _ _ = _
  unfold rOf at r
  rw [decide_eq_true (by omega)]
  rfl
theorem told_ok {c : Ca} {l : List (Str × Int)} {n : Int} (r : 0 ≤ rOf l n) : f_Reigns_told ((l, sn l), c, n, ()) = .ok (toldV c l n) := by
  show lr ((f_Reigns_reign ((l, sn l), n, ())).bind _) _ = _
  rw [reign_ok r]
  rfl
theorem told_er {c : Ca} {l : List (Str × Int)} {n : Int} (r : rOf l n = -1) : f_Reigns_told ((l, sn l), c, n, ()) = .er 10 := by
  show lr ((f_Reigns_reign ((l, sn l), n, ())).bind _) _ = _
  rw [reign_er r]
  rfl
def dayN (c : Ca) (y m d : Int) (x : Int × (Str × Int)) : Int := numAt c (yearOf c x.2.2 + y - 1) m.toNat d
def dayP (l : List (Str × Int)) (c : Ca) (nm : Str) (y m d : Int) (x : Int × (Str × Int)) : Bool := decide (x.2.1 = nm) && ((decide ((0 : Int) ≤ d) && decide (d < c.md (yearOf c x.2.2 + y - 1) m.toNat)) && v_Reigns_is_in ((l, sn l), dayN c y m d x, x.1, ()))
theorem day_is {l : List (Str × Int)} {c : Ca} {nm : Str} {y m d : Int} : f_Reigns_day_number ((l, sn l), c, nm, y, m, d, ()) = fndR (dayN c y m d) 10 ((enL l).find? (dayP l c nm y m d)) := by
  refine Eq.trans ?_ (forK_find (enL l))
  show forK _ _ (enL l) () = _
  congr 1
  funext x s1 kn kb
  unfold dayP
  show cond (decide (x.2.1 = nm)) (cond (decide ((0 : Int) ≤ d) && decide (d < c.md (yearOf c x.2.2 + y - 1) m.toNat)) (cond (v_Reigns_is_in ((l, sn l), dayN c y m d x, x.1, ())) _ _) _) _ = _
  cases decide (x.2.1 = nm) <;> cases decide ((0 : Int) ≤ d) && decide (d < c.md (yearOf c x.2.2 + y - 1) m.toNat) <;> rfl
def dnV (c : Ca) (l : List (Str × Int)) (nm : Str) (y m d : Int) : Int := match (enL l).find? (dayP l c nm y m d) with
  | some x => dayN c y m d x
  | none => 0
theorem is_in_iff {l : List (Str × Int)} {n k : Int} : v_Reigns_is_in ((l, sn l), n, k, ()) = decide (rOf l n = k) := by
  show decide (cntB (sn l) (n + 1) = k + 1) = _
  unfold rOf
  exact decide_eq_decide.mpr ⟨fun h => by omega, fun h => by omega⟩
theorem enL_mem {α : Type} {l : List α} {q : Int × α} : q ∈ enL l ↔ ∃ n : Nat, q.1 = (n : Int) ∧ l[n]? = some q.2 := by
  constructor
  · intro h
    obtain ⟨n, hn, e⟩ := List.mem_iff_getElem.mp h
    exact ⟨n, enL_at.mp (by rw [List.getElem?_eq_getElem hn, e])⟩
  · rintro ⟨n, h1, h2⟩
    exact List.mem_of_getElem? (enL_at.mpr ⟨h1, h2⟩)
theorem day_hit {c : Ca} (k : c.Ok) {l : List (Str × Int)} {h : Int} (f : FI l h) {n : Int} (r : 0 ≤ rOf l n) : (rOf l n, atG l (rOf l n)) ∈ enL l ∧ dayP l c (toldV c l n).1 (toldV c l n).2.1 (toldV c l n).2.2.1 (toldV c l n).2.2.2 (rOf l n, atG l (rOf l n)) = true ∧ dayN c (toldV c l n).2.1 (toldV c l n).2.2.1 (toldV c l n).2.2.2 (rOf l n, atG l (rOf l n)) = n := by
  obtain ⟨dm, d0, d1, dn⟩ := date_at k n
  have rr := r_rng f (n := n)
  have ey : yearOf c (atG l (rOf l n)).2 + (yearOf c n - yearOf c (atG l (rOf l n)).2 + 1) - 1 = yearOf c n := by omega
  have en : dayN c (toldV c l n).2.1 (toldV c l n).2.2.1 (toldV c l n).2.2.2 (rOf l n, atG l (rOf l n)) = n := by
    show numAt c (yearOf c (atG l (rOf l n)).2 + (yearOf c n - yearOf c (atG l (rOf l n)).2 + 1) - 1) (((dateM c n : Nat) : Int)).toNat (dateD c n) = n
    rw [ey, Int.toNat_natCast]
    exact dn.symm
  refine ⟨enL_mem.mpr ⟨(rOf l n).toNat, by show rOf l n = _; omega, ?_⟩, ?_, en⟩
  · show l[(rOf l n).toNat]? = some (atG l (rOf l n))
    rw [atG_is ⟨r, rr.2⟩, List.getElem?_eq_getElem]
  · unfold dayP
    rw [en, is_in_iff]
    show (decide ((atG l (rOf l n)).1 = (atG l (rOf l n)).1) && ((decide ((0 : Int) ≤ dateD c n) && decide (dateD c n < c.md (yearOf c (atG l (rOf l n)).2 + (yearOf c n - yearOf c (atG l (rOf l n)).2 + 1) - 1) (((dateM c n : Nat) : Int)).toNat)) && decide (rOf l n = rOf l n))) = true
    rw [ey, Int.toNat_natCast, decide_eq_true d0, decide_eq_true d1]
    simp
theorem dn_ok {c : Ca} (k : c.Ok) {l : List (Str × Int)} {h : Int} (f : FI l h) (hl : 1 ≤ l.length) {n : Int} (r : 0 ≤ rOf l n) : f_Reigns_day_number ((l, sn l), c, (toldV c l n).1, (toldV c l n).2.1, (toldV c l n).2.2.1, (toldV c l n).2.2.2, ()) = .ok (dnV c l (toldV c l n).1 (toldV c l n).2.1 (toldV c l n).2.2.1 (toldV c l n).2.2.2) := by
  obtain ⟨h1, h2, h3⟩ := day_hit k f r
  rw [day_is]
  unfold dnV
  cases z : (enL l).find? (dayP l c (toldV c l n).1 (toldV c l n).2.1 (toldV c l n).2.2.1 (toldV c l n).2.2.2) with
  | some x => rfl
  | none => exact absurd h2 (List.find?_eq_none.mp z _ h1)
theorem day_z {c : Ca} {l : List (Str × Int)} {h : Int} (f : FI l h) : f_Reigns_day_number ((l, sn l), c, "z", 1, 0, 0, ()) = .er 10 := by
  rw [day_is]
  cases z : (enL l).find? (dayP l c "z" 1 0 0) with
  | none => rfl
  | some x =>
    exfalso
    have h1 := List.find?_some z
    obtain ⟨n, e1, e2⟩ := enL_mem.mp (List.mem_of_find?_eq_some z)
    have := (f.2.1 x.2 (List.mem_of_getElem? e2)).2.2
    unfold dayP at h1
    rw [decide_eq_false this] at h1
    cases h1
def ysV (c : Ca) (l : List (Str × Int)) (p : Int) : Int := yearOf c ((atI (sn l) (p + 1)).getD 0 - 1) - yearOf c ((atI (sn l) p).getD 0) + 1
theorem ys_ok {c : Ca} {l : List (Str × Int)} {p : Int} (h : 0 ≤ p ∧ p < (l.length : Int) - 1) : f_Reigns_years_of ((l, sn l), c, p, ()) = .ok (ysV c l p) := by
  show cond (!((decide ((0 : Int) ≤ p)) && (decide (p < ((l.length : Int) - (1 : Int)))))) _ _ = _
  rw [decide_eq_true h.1, decide_eq_true h.2]
  rfl
theorem years_er {c : Ca} {l : List (Str × Int)} {p : Int} (h : ¬ (0 ≤ p ∧ p < (l.length : Int) - 1)) : f_Reigns_years_of ((l, sn l), c, p, ()) = .er 10 := by
  show cond (!((decide ((0 : Int) ≤ p)) && (decide (p < ((l.length : Int) - (1 : Int)))))) _ _ = _
  rw [← Bool.decide_and, decide_eq_false h]
  rfl
section
variable {l : List (Str × Int)} {h : Int} (f : FI l h)
include f
theorem first_in {F p : Int} (lB : ((atI l (-1)).getD ("", 0)).2 < F) (pl : 0 ≤ p ∧ p < (l.length : Int)) : 0 ≤ (atG l p).2 ∧ (atG l p).2 < F := by
  have e : atI l (-1) = atI l ((l.length : Int) - 1) := by
    unfold atI
    congr 1
    unfold ixN
    rw [if_neg (by omega), if_pos (by omega), if_pos (by omega), if_pos (by omega)]
    congr 1
  rw [e] at lB
  have a := at_in1 f pl
  have b := up_le f pl.1 (show p ≤ (l.length : Int) - 1 by omega) (by omega)
  exact ⟨by omega, by show _ < F; exact Int.lt_of_le_of_lt b lB⟩
theorem r_of_first {n : Int} (hl : 1 ≤ l.length) (h0 : (atG l 0).2 ≤ n) : 0 ≤ rOf l n := (r_ix f ⟨Int.le_refl _, by omega⟩).mp h0
theorem of_r_first {n : Int} (hl : 1 ≤ l.length) (h0 : 0 ≤ rOf l n) : (atG l 0).2 ≤ n := (r_ix f ⟨Int.le_refl _, by omega⟩).mpr h0
theorem lasts_in {p : Int} (pl : 0 ≤ p ∧ p < (l.length : Int) - 1) : 1 ≤ (atG l p).2 ∧ (atG l p).2 < (atG l (p + 1)).2 ∧ (atG l (p + 1)).2 ≤ 16 * (l.length : Int) :=
  ⟨(at_in1 f ⟨pl.1, by omega⟩).1, up_lt f pl.1 (by omega) (by omega), (at_in1 f ⟨by omega, by omega⟩).2.1⟩
end
theorem same_ne {c : Ca} (k : c.Ok) {l : List (Str × Int)} {h : Int} (f : FI l h) (hl : 1 ≤ l.length) {n : Int} (r : 0 ≤ rOf l n) (rowIn : 0 ≤ n ∧ n < c.firstOf 5) {s : List Int} (hs : s = ((rng 0 (c.firstOf 5)).filter fun x => decide ((atG l 0).2 ≤ x) && decide (toldV c l x = ((toldV c l n).1, (toldV c l n).2.1, (toldV c l n).2.2.1, (toldV c l n).2.2.2))).map fun x => x) : 0 < s.length := by
  rw [hs, map_i]
  apply List.length_pos_iff.mpr
  intro e
  have : n ∈ (rng 0 (c.firstOf 5)).filter fun x => decide ((atG l 0).2 ≤ x) && decide (toldV c l x = ((toldV c l n).1, (toldV c l n).2.1, (toldV c l n).2.2.1, (toldV c l n).2.2.2)) := List.mem_filter.mpr ⟨rng_mem.mpr rowIn, by rw [decide_eq_true (of_r_first f hl r), decide_eq_true rfl]; rfl⟩
  rw [e] at this
  cases this
end Rw
namespace Rw
open PySem PySem.Spec PyProof.Rows L2 Evl Cy
abbrev sLaw : Stmt := topS 30
def lawN : List Str := ["script", "dice", "one", "other", "offset", "pair", "rows", "theirs", "row", "date", "start", "unit", "good", "told_now", "firsts", "here", "name", "reigns", "years", "turn", "inside", "place", "year", "month", "day", "found", "same_now", "lasts", "k", "each", "number"]
theorem scLaw : FnScope lawN ["script"] (defScope sLaw) := ⟨rfl, rfl, rfl, by decide +kernel, rfl, by decide +kernel, by decide +kernel⟩

section
variable (P : Program) (w : World) (K : PySem.W.Frag) (mg : Str → Option Value) (base : Heap) (C D CP CG : Addr) (cl : Nat → Addr)
abbrev lawX (f cc : Addr) (A : Around) (outer : List Env) (s : Shared) (H : Hp) (E : XK) : Cx := cxOf (L2.CX P w) P w K mg base lawN "law" (defScope sLaw) f (.ref cc) A outer s H E
structure LawTL : Prop where
  TC : CalT K C
  TD : DayT K D
  T_Pa : Tt_Pa K CP
  T_Rn : Tt_Rn K CG
  n_dict : mg "dict" = none
  cal : Cal P w K mg base 5 "_law_calendar" (spLawCal K C) []
  rows : Cal P w K mg base 5 "_law_rows" (spRows K C) []
  roll : Cal P w K mg base 1 "_law_roll" spRollX []
  rounds : Cal P w K mg base 2 "_law_rounds" (spRounds K) []
  nPa : Nw P w K mg base 1 "Pair" CP (sp_Pair_init K C CP cl) []
  nRn : Nw P w K mg base 1 "Reigns" CG (sp_Reigns_init K CG cl) []
  m_across : Mt P w K mg base 4 CP "across" (sp_Pair_across K C D CP cl) []
  m_back : Mt P w K mg base 4 CP "back" (sp_Pair_back K C D CP cl) []
  m_both_begin : Mt P w K mg base 6 CP "both_begin" (sp_Pair_both_begin K C D CP cl) []
  m_reign : Mt P w K mg base 2 CG "reign" (sp_Reigns_reign K CG cl) []
  m_told : Mt P w K mg base 4 CG "told" (sp_Reigns_told K C CG cl) []
  m_day_number : Mt P w K mg base 4 CG "day_number" (sp_Reigns_day_number K C D CG cl) []
  m_years_of : Mt P w K mg base 3 CG "years_of" (sp_Reigns_years_of K C CG cl) []
  exs : Exs K mg cl
  told : ToldF K mg
end
def m_lawB (c c2 : Ca) (z : Dice) : Bool :=
  lt (c, c2, (roll z 9).1) fun pair_9 =>
  lt (rng 0 (c.firstOf 5)) fun rows_19 =>
  lt () fun theirs_44 =>
  forK (fun (x_56 : Int) (s_57 : Unit) (kn : Unit → _) (kb : Unit → _) =>
  lt ((yearOf c2 (x_56 + (roll z 9).1)), ((dateM c2 (x_56 + (roll z 9).1) : Nat) : Int), (dateD c2 (x_56 + (roll z 9).1))) fun date_83 =>
  cond ((!decide (((yearOf c2 (x_56 + (roll z 9).1)), ((dateM c2 (x_56 + (roll z 9).1) : Nat) : Int), (dateD c2 (x_56 + (roll z 9).1))) = ((yearOf c2 (x_56 + (roll z 9).1)), ((dateM c2 (x_56 + (roll z 9).1) : Nat) : Int), (dateD c2 (x_56 + (roll z 9).1))))) || (!decide (((yearOf c ( (x_56 + (roll z 9).1) - (roll z 9).1)), ((dateM c ( (x_56 + (roll z 9).1) - (roll z 9).1) : Nat) : Int), (dateD c ( (x_56 + (roll z 9).1) - (roll z 9).1))) = ((yearOf c x_56), ((dateM c x_56 : Nat) : Int), (dateD c x_56)))))
  (false)
  (kn ()))
  (fun (s_123 : Unit) =>
  lt (roll (roll z 9).2 (10 : Int)).1 fun start_138 =>
  forK (fun (x_151 : Str) (s_152 : Unit) (kn : Unit → _) (kb : Unit → _) =>
  lt (((rng 0 (c.firstOf 5)).filter (fun (x_179 : Int) => ((decide (start_138 ≤ x_179)) && ((decide ((dateD c x_179) = (0 : Int))) && ((decide ((dateD c2 (x_179 + (roll z 9).1)) = (0 : Int))) && ((decide (x_151 = ("month" : Str))) || ((decide (((dateM c x_179 : Nat) : Int) = (0 : Int))) && (decide (((dateM c2 (x_179 + (roll z 9).1) : Nat) : Int) = (0 : Int)))))))))).map (fun (x_179 : Int) => x_179)) fun good_201 =>
  lt (f_Pair_both_begin ((c, c2, (roll z 9).1), start_138, x_151, (60 : Int), ())) fun told_now_214 =>
  cond (((!decide (good_201 = ([] : List Int))) && (zneI told_now_214 ((atI good_201 (0 : Int)).getD 0))) || ((decide (good_201 = ([] : List Int))) && ((zneS told_now_214 ("no day" : Str)) && (decide ((zval told_now_214) < (Ca.firstOf c 5))))))
  (false)
  (kn ()))
  (fun (s_259 : Unit) =>
  forK (fun (x_286 : Str) (s_287 : (Int × (List (Str × Int)) × Dice)) (kn : (Int × (List (Str × Int)) × Dice) → _) (kb : (Int × (List (Str × Int)) × Dice) → _) =>
  lt ((s_287.1 + (1 : Int)) + (roll s_287.2.2 (15 : Int)).1) fun here_315 =>
  lt (s_287.2.1 ++ [(x_286, here_315)]) fun firsts_329 =>
  kn (here_315, firsts_329, (roll s_287.2.2 (15 : Int)).2))
  (fun (s_342 : (Int × (List (Str × Int)) × Dice)) =>
  lt (s_342.2.1, s_342.2.1.map (fun (q : Str × Int) => q.2)) fun reigns_368 =>
  lt () fun years_396 =>
  forK (fun (x_411 : Int) (s_412 : (Dice)) (kn : (Dice) → _) (kb : (Dice) → _) =>
  lt (roll s_412 (Ca.firstOf c 5)).1 fun row_450 =>
  lt (((rng 0 (s_342.2.1.length : Int)).filter (fun (x_466 : Int) => (decide ((((atI s_342.2.1 x_466).getD ("", 0))).2 ≤ row_450)))).map (fun (x_466 : Int) => x_466)) fun inside_480 =>
  cond (decide (inside_480 = ([] : List Int)))
  (cond (!decide ((kindName 10) = ("no such" : Str)))
  (false)
  (cond (!decide ((kindName 10) = ("no such" : Str)))
  (false)
  (kn ((roll s_412 (Ca.firstOf c 5)).2))))
  (cond (decide ((((atI s_342.2.1 (-(1 : Int))).getD ("", 0))).2 < (Ca.firstOf c 5)))
  (lt ((atI inside_480 ((inside_480.length : Int) - (1 : Int))).getD 0) fun place_607 =>
  lt (toldV c s_342.2.1 row_450) fun _ =>
  cond ((!decide ((rOf s_342.2.1 row_450) = place_607)) || ((!decide (((toldV c s_342.2.1 row_450).1, (toldV c s_342.2.1 row_450).2.2.1, (toldV c s_342.2.1 row_450).2.2.2) = ((((atI s_342.2.1 place_607).getD ("", 0))).1, ((dateM c row_450 : Nat) : Int), (dateD c row_450)))) || (!decide ((toldV c s_342.2.1 row_450).2.1 = (((yearOf c row_450) - (yearOf c (((atI s_342.2.1 place_607).getD ("", 0))).2)) + (1 : Int))))))
  (false)
  (lt (dnV c s_342.2.1 (toldV c s_342.2.1 row_450).1 (toldV c s_342.2.1 row_450).2.1 (toldV c s_342.2.1 row_450).2.2.1 (toldV c s_342.2.1 row_450).2.2.2) fun found_679 =>
  lt (((rng 0 (c.firstOf 5)).filter (fun (x_698 : Int) => ((decide ((((atI s_342.2.1 (0 : Int)).getD ("", 0))).2 ≤ x_698)) && (decide ((toldV c s_342.2.1 x_698) = ((toldV c s_342.2.1 row_450).1, (toldV c s_342.2.1 row_450).2.1, (toldV c s_342.2.1 row_450).2.2.1, (toldV c s_342.2.1 row_450).2.2.2)))))).map (fun (x_698 : Int) => x_698)) fun same_now_714 =>
  cond (!decide (found_679 = ((atI same_now_714 (0 : Int)).getD 0)))
  (false)
  (kn ((roll s_412 (Ca.firstOf c 5)).2))))
  (kn ((roll s_412 (Ca.firstOf c 5)).2))))
  (fun (s_777 : (Dice)) =>
  forK (fun (x_804 : Int) (s_805 : Unit) (kn : Unit → _) (kb : Unit → _) =>
  cond (decide ((((atI s_342.2.1 (x_804 + (1 : Int))).getD ("", 0))).2 < (Ca.firstOf c 5)))
  (lt ((rng (((atI s_342.2.1 x_804).getD ("", 0))).2 (((atI s_342.2.1 (x_804 + (1 : Int))).getD ("", 0))).2).map (fun (x_852 : Int) => (yearOf c x_852))) fun lasts_866 =>
  cond (!decide ((ysV c s_342.2.1 x_804) = ((dictP (lasts_866.map (fun (x_896 : Int) => (x_896, (1 : Int))))).length : Int)))
  (false)
  (kn ()))
  (kn ()))
  (fun (s_946 : Unit) =>
  cond (!decide ((kindName 10) = ("no such" : Str)))
  (false)
  (cond (!decide ((kindName 10) = ("no such" : Str)))
  (false)
  (cond (!decide ((kindName 10) = ("no such" : Str)))
  (false)
  (cond (!decide ((kindName 1) = ("day" : Str)))
  (false)
  (true)))))
  (rng 0 ((s_342.2.1.length : Int) - (1 : Int))) ())
  (rng 0 (5 : Int)) (s_342.2.2))
  (List.take (((1 : Int) + (roll (roll (roll z 9).2 (10 : Int)).2 (3 : Int)).1)).toNat ([("x" : Str), ("y" : Str), ("x" : Str)] : List Str)) ((0 : Int), ([] : (List (Str × Int))), (roll (roll (roll z 9).2 (10 : Int)).2 (3 : Int)).2))
  ([("month" : Str), ("year" : Str)] : List Str) ())
  (rng 0 (c.firstOf 5)) ()
section
variable {P : Program} {w : World} {K : PySem.W.Frag} {mg : Str → Option Value} {base : Heap} {C D CP CG : Addr} {cl : Nat → Addr}
def spLaw (K : PySem.W.Frag) (PT : Addr) : Sp := fun vs H Q _ => ∃ (a : Addr) (ns : List Int), vs = [.ref a] ∧ SqL K H a (ns.map V.int) ∧ H PT = some (.tbl #[]) ∧ ∀ H', Q (.bl true) H'
theorem ok_law {f cc PT : Addr} {oc : Value} {od an : Option Addr} {osl : Array (Option Value)} {kV doc pm ct : Value} (lk : K.lookup f = some ⟨oc, od, .func (PySem.W.fnOf "law" "law" (defArgs sLaw) (defBody sLaw) (defScope sLaw) .none kV doc pm an (.ref cc) ct), osl⟩) (hcd : PySem.W.codeIn K (.ref cc) "law" = true) (TB : LamX.TabB base mg cc PT) (L : LawTL P w K mg base C D CP CG cl) (B : BD mg) (o0 : ∀ c e z', c.Ok → Tiny c → e.Ok → Tiny e → Pt (m_lawB c e z')) :
    FnOk P w K mg base (L2.CX P w) 11 f (PySem.W.fnOf "law" "law" (defArgs sLaw) (defBody sLaw) (defScope sLaw) .none kV doc pm an (.ref cc) ct) ["script"] (spLaw K PT) := by
  refine fn_of lk hcd scLaw (fun vs H Q E h => ?_) (fun A outer s H vs Q E hr h => ?_)
  · obtain ⟨a, ns, rfl, _⟩ := h
    rfl
  · obtain ⟨sc, ns, rfl, hS, hT, q⟩ := h
    obtain ⟨gT, ocT, kVT, dcT, pmT, cdT, ctT, odT, anT, oslT, hmT, kpT, lkT, hcT, bT⟩ := L.told
    let LQ : Str := (lawX P w K mg base f cc A outer s H E).env.qual ++ "<lambda>"
    refine ⟨_, pss_cons (ps_for (passes_of rfl) rfl (pi_list (pe_k L.rounds hr (by decide) passL (pa_cons (pv 0) (pa_cons pe_int pa_nil)))) (pg_name (i := 1) scLaw.nd rfl (.inl rfl)) (pss_cons (ps_asg (pe_tup (pa_cons (pe_k L.cal hr (by decide) passL (pa_cons (pv 1) pa_nil)) (pa_cons (pe_k L.cal hr (by decide) passL (pa_cons (pv 1) pa_nil)) (pa_cons (pe_k L.roll hr (by decide) passL (pa_cons (pv 1) (pa_cons pe_int pa_nil))) pa_nil)))) (pg_tup rfl (pgs_cons (pg_name (i := 2) scLaw.nd rfl (.inr rfl)) (pgs_cons (pg_name (i := 3) scLaw.nd rfl (.inl rfl)) (pgs_cons (pg_name (i := 4) scLaw.nd rfl (.inr rfl)) pgs_nil))))) (pss_cons (ps_set (i := 5) scLaw.nd rfl (.inr rfl) (pe_nw L.nPa hr (by decide) passL (pa_cons (pv 2) (pa_cons (pv 3) (pa_cons (pv 4) pa_nil))))) (pss_cons (ps_set (i := 6) scLaw.nd rfl (.inl rfl) (pe_k L.rows hr (by decide) passL (pa_cons (pv 2) (pa_cons pe_int (pa_cons pe_int pa_nil))))) (pss_cons (ps_set (i := 7) scLaw.nd rfl (.inr rfl) (pe_callTy (call_dictP rfl) (by rfl) L.n_dict (by decide +kernel) (pa_cons (pe_lc (own := [("row", 8)]) (g := gName 8) (tt := tYes) rfl scLaw.nd (pi_list (pe_k L.rows hr (by decide) passL (pa_cons (pv 3) (pa_cons pe_int (pa_cons (pe_op op_add (pe_op op_fdiv (pe_op op_add (pe_callB call_len_seq (by rfl) B.len (by decide +kernel) (pa_cons (pv 6) pa_nil)) (pv 4)) (pe_callB (cr_sumT rfl) (by rfl) B.sum (by decide +kernel) (pa_cons (pe_fld (pv 3) rfl) pa_nil))) pe_int) pa_nil))))) (blkOk_by (own := [("row", 8)]) (N := lawN) (sc := (defScope sLaw)) (by decide +kernel)) (fun _ _ _ _ _ => pg_name (i := 8) scLaw.nd rfl (Or.inl rfl)) (fun _ _ _ _ _ => pts_nil) (fun _ _ _ _ _ => (pe_tup (pa_cons (pe_ix (ix_tupK (K := K)) (pv 8) pe_int (fun _ _ => rfl)) (pa_cons (pe_slice (sl_tupK (K := K)) (pv 8) (po_some pe_int) (po_some pe_int)) pa_nil))))) pa_nil))) (pss_cons (ps_for (passes_of rfl) rfl (pi_list (pv 6)) (pg_name (i := 8) scLaw.nd rfl (Or.inr rfl)) (pss_cons (ps_set (i := 9) scLaw.nd rfl (.inl rfl) (pe_dget hr.u1 (pv 7) (pe_op op_add (pe_ix ix_tup (pv 8) pe_int (fun _ _ => rfl)) (pv 4)) (fun _ _ => rfl))) (pss_one (ps_if (PW.pt (pw_or (pt_cmpR (op_neD hr.units) (pe_mk L.m_across hr (by decide) passL (pv 5) (pa_cons (pe_ix ix_tup (pv 8) pe_int (fun _ _ => rfl)) (pa_cons (pe_ix ix_tup (pv 8) pe_int (fun _ _ => rfl)) (pa_cons (pe_ix ix_tup (pv 8) pe_int (fun _ _ => rfl)) pa_nil)))) (pv 9) (nomark _)) (pw_or1 (pt_cmpR (op_neD hr.units) (pe_mk L.m_back hr (by decide) passL (pv 5) (pa_cons (pe_ix ix_tup (pv 9) pe_int (fun _ _ => rfl)) (pa_cons (pe_ix ix_tup (pv 9) pe_int (fun _ _ => rfl)) (pa_cons (pe_ix ix_tup (pv 9) pe_int (fun _ _ => rfl)) pa_nil)))) (pe_slice sl_tup (pv 8) (po_some pe_int) (po_some pe_int)) (nomark _))))) (pss_one (ps_ret pe_bl)) (pss_nil))))) (pss_cons (ps_set (i := 10) scLaw.nd rfl (.inr rfl) (pe_k L.roll hr (by decide) passL (pa_cons (pv 1) (pa_cons pe_int pa_nil)))) (pss_cons (ps_for (passes_of rfl) rfl (pi_list (pe_lst (pa_cons pe_str (pa_cons pe_str pa_nil)))) (pg_name (i := 11) scLaw.nd rfl (Or.inr rfl)) (pss_cons (ps_setLc (own := [("row", 8)]) (i := 12) (g := gName 8) (tt := _) rfl scLaw.nd rfl rfl (sw_true rfl rfl rfl (by decide +kernel)) (pi_list (pv 6)) (blkOk_by (own := [("row", 8)]) (N := lawN) (sc := defScope sLaw) (by decide +kernel)) (fun _ _ _ _ _ => pg_name (i := 8) scLaw.nd rfl (Or.inl rfl)) (fun _ _ _ _ _ => pts_one (PW.pt (pw_and (pt_cmpR op_ge (pe_ix (ix_tupK (K := K)) (pv 8) pe_int (fun _ _ => rfl)) (pv 10) (nomark _)) (pw_and (pt_cmpR op_eq (pe_ix (ix_tupK (K := K)) (pv 8) pe_int (fun _ _ => rfl)) pe_int (nomark _)) (pw_and (pt_cmpR op_eq (pe_ix (ix_tupK (K := K)) (pe_dget hr.u1 (pv 7) (pe_op op_add (pe_ix (ix_tupK (K := K)) (pv 8) pe_int (fun _ _ => rfl)) (pv 4)) (fun _ _ => rfl)) pe_int (fun _ _ => rfl)) pe_int (nomark _)) (pw_and1 (PW.pt (pw_or (pt_cmpR op_eq (pv 11) pe_str (nomark _)) (pw_or1 (PW.pt (pw_and (pt_cmpR op_eq (pe_ix (ix_tupK (K := K)) (pv 8) pe_int (fun _ _ => rfl)) pe_int (nomark _)) (pw_and1 (pt_cmpR op_eq (pe_ix (ix_tupK (K := K)) (pe_dget hr.u1 (pv 7) (pe_op op_add (pe_ix (ix_tupK (K := K)) (pv 8) pe_int (fun _ _ => rfl)) (pv 4)) (fun _ _ => rfl)) pe_int (fun _ _ => rfl)) pe_int (nomark _)))))))))))))) (fun _ _ _ _ _ => (pe_ix (ix_tupK (K := K)) (pv 8) pe_int (fun _ _ => rfl)))) (pss_cons (ps_set (i := 13) scLaw.nd rfl (.inl rfl) (pe_toldC (c := cl) (k := 8) L.exs hmT kpT lkT hcT bT hr (pa_cons (pe_lamC (T := [(PT, LQ)]) (LamX.lamS_by (sc := defScope sLaw) (by decide +kernel)) TB rfl (List.mem_singleton.mpr rfl) (fun p hp _ => by rw [List.mem_singleton.mp hp]) rfl) pa_nil))) (pss_one (ps_if (PW.pt (pw_or (PW.pt (pw_and (pt_cmpR (op_neD hr.units) (pv 12) (pe_lst pa_nil) (nomark _)) (pw_and1 (pt_cmpR op_ne (pv 13) (pe_ix ix_list (pv 12) pe_int (fun _ _ => rfl)) (nomark _))))) (pw_or1 (PW.pt (pw_and (pt_cmpR (op_eqD hr.units) (pv 12) (pe_lst pa_nil) (nomark _)) (pw_and (pt_cmpR op_ne (pv 13) pe_str (nomark _)) (pw_and1 (pt_cmpR op_lt (pv 13) (pe_callB call_len_seq (by rfl) B.len (by decide +kernel) (pa_cons (pv 6) pa_nil)) (nomark _))))))))) (pss_one (ps_ret pe_bl)) (pss_nil)))))) (pss_cons (ps_asg (pe_tup (pa_cons (pe_lst pa_nil) (pa_cons pe_int pa_nil))) (pg_tup rfl (pgs_cons (pg_name (i := 14) scLaw.nd rfl (.inr rfl)) (pgs_cons (pg_name (i := 15) scLaw.nd rfl (.inl rfl)) pgs_nil)))) (pss_cons (ps_for (passes_of rfl) rfl (pi_list (pe_slice sl_list (pe_lst (pa_cons pe_str (pa_cons pe_str (pa_cons pe_str pa_nil)))) po_none (po_some (pe_op op_add pe_int (pe_k L.roll hr (by decide) passL (pa_cons (pv 1) (pa_cons pe_int pa_nil))))))) (pg_name (i := 16) scLaw.nd rfl (Or.inr rfl)) (pss_cons (ps_set (i := 15) scLaw.nd rfl (.inl rfl) (pe_op op_add (pe_op op_add (pv 15) pe_int) (pe_k L.roll hr (by decide) passL (pa_cons (pv 1) (pa_cons pe_int pa_nil))))) (pss_one (ps_expr (pe_bm PySem.F.plainAttrs_list PySem.F.slot_list_append PySem.F.type_list_append mt_append (pv 14) (pa_cons (pe_tup (pa_cons (pv 16) (pa_cons (pv 15) pa_nil))) pa_nil)))))) (pss_cons (ps_set (i := 17) scLaw.nd rfl (.inr rfl) (pe_nw L.nRn hr (by decide) passL (pa_cons (pv 14) pa_nil))) (pss_cons (ps_set (i := 18) scLaw.nd rfl (.inr rfl) (pe_callTy (call_dictP rfl) (by rfl) L.n_dict (by decide +kernel) (pa_cons (pe_lc (own := [("row", 8)]) (g := gName 8) (tt := tYes) rfl scLaw.nd (pi_list (pv 6)) (blkOk_by (own := [("row", 8)]) (N := lawN) (sc := (defScope sLaw)) (by decide +kernel)) (fun _ _ _ _ _ => pg_name (i := 8) scLaw.nd rfl (Or.inl rfl)) (fun _ _ _ _ _ => pts_nil) (fun _ _ _ _ _ => (pe_tup (pa_cons (pe_ix (ix_tupK (K := K)) (pv 8) pe_int (fun _ _ => rfl)) (pa_cons (pe_ix (ix_tupK (K := K)) (pv 8) pe_int (fun _ _ => rfl)) pa_nil))))) pa_nil))) (pss_cons (ps_for (passes_of rfl) rfl (pi_range1 rfl B.range (pa_cons pe_int pa_nil)) (pg_name (i := 19) scLaw.nd rfl (Or.inl rfl)) (pss_cons (ps_set (i := 8) scLaw.nd rfl (.inr rfl) (pe_ix ix_list (pv 6) (pe_k L.roll hr (by decide) passL (pa_cons (pv 1) (pa_cons (pe_callB call_len_seq (by rfl) B.len (by decide +kernel) (pa_cons (pv 6) pa_nil)) pa_nil))) (fun _ _ => rfl))) (pss_cons (ps_setLc (own := [("k", 28)]) (i := 20) (g := gName 28) (tt := _) rfl scLaw.nd rfl rfl (sw_true rfl rfl rfl (by decide +kernel)) (pi_range1 rfl B.range (pa_cons (pe_callB call_len_seq (by rfl) B.len (by decide +kernel) (pa_cons (pv 14) pa_nil)) pa_nil)) (blkOk_by (own := [("k", 28)]) (N := lawN) (sc := defScope sLaw) (by decide +kernel)) (fun _ _ _ _ _ => pg_name (i := 28) scLaw.nd rfl (Or.inl rfl)) (fun _ _ _ _ _ => pts_one (pt_cmpR op_le (pe_ix (ix_tupK (K := K)) (pe_ix (ix_listK (K := K)) (pv 14) (pv 28) (fun _ _ => rfl)) pe_int (fun _ _ => rfl)) (pe_ix (ix_tupK (K := K)) (pv 8) pe_int (fun _ _ => rfl)) (nomark _))) (fun _ _ _ _ _ => (pv 28))) (pss_one (ps_if (pt_cmpR (op_eqD hr.units) (pv 20) (pe_lst pa_nil) (nomark _)) (pss_cons (ps_if (pt_cmpR op_ne (pe_toldC (c := cl) (k := 8) L.exs hmT kpT lkT hcT bT hr (pa_cons (pe_lamC (T := [(PT, LQ)]) (LamX.lamS_by (sc := defScope sLaw) (by decide +kernel)) TB rfl (List.mem_singleton.mpr rfl) (fun p hp _ => by rw [List.mem_singleton.mp hp]) rfl) pa_nil)) pe_str (nomark _)) (pss_one (ps_ret pe_bl)) (pss_nil)) (pss_one (ps_if (pt_cmpR op_ne (pe_toldC (c := cl) (k := 8) L.exs hmT kpT lkT hcT bT hr (pa_cons (pe_lamC (T := [(PT, LQ)]) (LamX.lamS_by (sc := defScope sLaw) (by decide +kernel)) TB rfl (List.mem_singleton.mpr rfl) (fun p hp _ => by rw [List.mem_singleton.mp hp]) rfl) pa_nil)) pe_str (nomark _)) (pss_one (ps_ret pe_bl)) (pss_nil)))) (pss_one (ps_if (pt_cmpR op_lt (pe_ix ix_tup (pe_ix ix_list (pv 14) (pe_un un_neg pe_int) (fun _ _ => rfl)) pe_int (fun _ _ => rfl)) (pe_callB call_len_seq (by rfl) B.len (by decide +kernel) (pa_cons (pv 6) pa_nil)) (nomark _)) (pss_cons (ps_set (i := 21) scLaw.nd rfl (.inl rfl) (pe_ix ix_list (pv 20) (pe_op op_sub (pe_callB call_len_seq (by rfl) B.len (by decide +kernel) (pa_cons (pv 20) pa_nil)) pe_int) (fun _ _ => rfl))) (pss_cons (ps_asg (pe_mk L.m_told hr (by decide) passL (pv 17) (pa_cons (pv 2) (pa_cons (pe_ix ix_tup (pv 8) pe_int (fun _ _ => rfl)) pa_nil))) (pg_tup rfl (pgs_cons (pg_name (i := 16) scLaw.nd rfl (.inr rfl)) (pgs_cons (pg_name (i := 22) scLaw.nd rfl (.inr rfl)) (pgs_cons (pg_name (i := 23) scLaw.nd rfl (.inr rfl)) (pgs_cons (pg_name (i := 24) scLaw.nd rfl (.inr rfl)) pgs_nil)))))) (pss_cons (ps_if (PW.pt (pw_or (pt_cmpR op_ne (pe_mk L.m_reign hr (by decide) passL (pv 17) (pa_cons (pe_ix ix_tup (pv 8) pe_int (fun _ _ => rfl)) pa_nil)) (pv 21) (nomark _)) (pw_or (pt_cmpR (op_neD hr.units) (pe_tup (pa_cons (pv 16) (pa_cons (pv 23) (pa_cons (pv 24) pa_nil)))) (pe_tup (pa_cons (pe_ix ix_tup (pe_ix ix_list (pv 14) (pv 21) (fun _ _ => rfl)) pe_int (fun _ _ => rfl)) (pa_cons (pe_ix ix_tup (pv 8) pe_int (fun _ _ => rfl)) (pa_cons (pe_ix ix_tup (pv 8) pe_int (fun _ _ => rfl)) pa_nil)))) (nomark _)) (pw_or1 (pt_cmpR op_ne (pv 22) (pe_op op_add (pe_op op_sub (pe_ix ix_tup (pv 8) pe_int (fun _ _ => rfl)) (pe_dget hr.u1 (pv 18) (pe_ix ix_tup (pe_ix ix_list (pv 14) (pv 21) (fun _ _ => rfl)) pe_int (fun _ _ => rfl)) (fun _ _ => rfl))) pe_int) (nomark _)))))) (pss_one (ps_ret pe_bl)) (pss_nil)) (pss_cons (ps_set (i := 25) scLaw.nd rfl (.inl rfl) (pe_mk L.m_day_number hr (by decide) passL (pv 17) (pa_cons (pv 2) (pa_cons (pv 16) (pa_cons (pv 22) (pa_cons (pv 23) (pa_cons (pv 24) pa_nil))))))) (pss_cons (ps_setLc (own := [("each", 29)]) (i := 26) (g := gName 29) (tt := _) rfl scLaw.nd rfl rfl (sw_true rfl rfl rfl (by decide +kernel)) (pi_list (pv 6)) (blkOk_by (own := [("each", 29)]) (N := lawN) (sc := defScope sLaw) (by decide +kernel)) (fun _ _ _ _ _ => pg_name (i := 29) scLaw.nd rfl (Or.inl rfl)) (fun _ _ _ _ _ => pts_one (PW.pt (pw_and (pt_cmpR op_ge (pe_ix (ix_tupK (K := K)) (pv 29) pe_int (fun _ _ => rfl)) (pe_ix (ix_tupK (K := K)) (pe_ix (ix_listK (K := K)) (pv 14) pe_int (fun _ _ => rfl)) pe_int (fun _ _ => rfl)) (nomark _)) (pw_and1 (pt_cmpR (op_eqDK (K := K) hr.units) (pe_mk L.m_told hr (by decide) passL (pv 17) (pa_cons (pv 2) (pa_cons (pe_ix (ix_tupK (K := K)) (pv 29) pe_int (fun _ _ => rfl)) pa_nil))) (pe_tup (pa_cons (pv 16) (pa_cons (pv 22) (pa_cons (pv 23) (pa_cons (pv 24) pa_nil))))) (nomark _)))))) (fun _ _ _ _ _ => (pe_ix (ix_tupK (K := K)) (pv 29) pe_int (fun _ _ => rfl)))) (pss_one (ps_if (pt_cmpR op_ne (pv 25) (pe_ix ix_list (pv 26) pe_int (fun _ _ => rfl)) (nomark _)) (pss_one (ps_ret pe_bl)) (pss_nil)))))))) (pss_nil)))))))) (pss_cons (ps_for (passes_of rfl) rfl (pi_range1 rfl B.range (pa_cons (pe_op op_sub (pe_callB call_len_seq (by rfl) B.len (by decide +kernel) (pa_cons (pv 14) pa_nil)) pe_int) pa_nil)) (pg_name (i := 21) scLaw.nd rfl (Or.inl rfl)) (pss_one (ps_if (pt_cmpR op_lt (pe_ix ix_tup (pe_ix ix_list (pv 14) (pe_op op_add (pv 21) pe_int) (fun _ _ => rfl)) pe_int (fun _ _ => rfl)) (pe_callB call_len_seq (by rfl) B.len (by decide +kernel) (pa_cons (pv 6) pa_nil)) (nomark _)) (pss_cons (ps_setLc (own := [("number", 30)]) (i := 27) (g := gName 30) (tt := tYes) rfl scLaw.nd rfl rfl (sw_true rfl rfl rfl (by decide +kernel)) (pi_range2 rfl B.range (pa_cons (pe_ix ix_tup (pe_ix ix_list (pv 14) (pv 21) (fun _ _ => rfl)) pe_int (fun _ _ => rfl)) (pa_cons (pe_ix ix_tup (pe_ix ix_list (pv 14) (pe_op op_add (pv 21) pe_int) (fun _ _ => rfl)) pe_int (fun _ _ => rfl)) pa_nil))) (blkOk_by (own := [("number", 30)]) (N := lawN) (sc := defScope sLaw) (by decide +kernel)) (fun _ _ _ _ _ => pg_name (i := 30) scLaw.nd rfl (Or.inl rfl)) (fun _ _ _ _ _ => pts_nil) (fun _ _ _ _ _ => (pe_dget hr.u1 (pv 18) (pv 30) (fun _ _ => rfl)))) (pss_one (ps_if (pt_cmpR op_ne (pe_mk L.m_years_of hr (by decide) passL (pv 17) (pa_cons (pv 2) (pa_cons (pv 21) pa_nil))) (pe_callB call_lenD (by rfl) B.len (by decide +kernel) (pa_cons (pe_callTy (call_dictP rfl) (by rfl) L.n_dict (by decide +kernel) (pa_cons (pe_lc (own := [("year", 22)]) (g := gName 22) (tt := tYes) rfl scLaw.nd (pi_list (pv 27)) (blkOk_by (own := [("year", 22)]) (N := lawN) (sc := (defScope sLaw)) (by decide +kernel)) (fun _ _ _ _ _ => pg_name (i := 22) scLaw.nd rfl (Or.inl rfl)) (fun _ _ _ _ _ => pts_nil) (fun _ _ _ _ _ => (pe_tup (pa_cons (pv 22) (pa_cons pe_int pa_nil))))) pa_nil)) pa_nil)) (nomark _)) (pss_one (ps_ret pe_bl)) (pss_nil)))) (pss_nil)))) (pss_cons (ps_if (pt_cmpR op_ne (pe_toldC (c := cl) (k := 8) L.exs hmT kpT lkT hcT bT hr (pa_cons (pe_lamC (T := [(PT, LQ)]) (LamX.lamS_by (sc := defScope sLaw) (by decide +kernel)) TB rfl (List.mem_singleton.mpr rfl) (fun p hp _ => by rw [List.mem_singleton.mp hp]) rfl) pa_nil)) pe_str (nomark _)) (pss_one (ps_ret pe_bl)) (pss_nil)) (pss_cons (ps_if (pt_cmpR op_ne (pe_toldC (c := cl) (k := 8) L.exs hmT kpT lkT hcT bT hr (pa_cons (pe_lamC (T := [(PT, LQ)]) (LamX.lamS_by (sc := defScope sLaw) (by decide +kernel)) TB rfl (List.mem_singleton.mpr rfl) (fun p hp _ => by rw [List.mem_singleton.mp hp]) rfl) pa_nil)) pe_str (nomark _)) (pss_one (ps_ret pe_bl)) (pss_nil)) (pss_cons (ps_if (pt_cmpR op_ne (pe_toldC (c := cl) (k := 8) L.exs hmT kpT lkT hcT bT hr (pa_cons (pe_lamC (T := [(PT, LQ)]) (LamX.lamS_by (sc := defScope sLaw) (by decide +kernel)) TB rfl (List.mem_singleton.mpr rfl) (fun p hp _ => by rw [List.mem_singleton.mp hp]) rfl) pa_nil)) pe_str (nomark _)) (pss_one (ps_ret pe_bl)) (pss_nil)) (pss_one (ps_if (pt_cmpR op_ne (pe_toldC (c := cl) (k := 8) L.exs hmT kpT lkT hcT bT hr (pa_cons (pe_lamC (T := [(PT, LQ)]) (LamX.lamS_by (sc := defScope sLaw) (by decide +kernel)) TB rfl (List.mem_singleton.mpr rfl) (fun p hp _ => by rw [List.mem_singleton.mp hp]) rfl) pa_nil)) pe_str (nomark _)) (pss_one (ps_ret pe_bl)) (pss_nil)))))))))))))))))))) (pss_cons (ps_if (pt_not (pt_cmpR op_eq (pe_toldC (c := cl) (k := 8) L.exs hmT kpT lkT hcT bT hr (pa_cons (pe_lamC (T := [(PT, LQ)]) (LamX.lamS_by (sc := defScope sLaw) (by decide +kernel)) TB rfl (List.mem_singleton.mpr rfl) (fun p hp _ => by rw [List.mem_singleton.mp hp]) rfl) pa_nil)) pe_str (nomark _))) (pss_one (ps_ret pe_bl)) (pss_nil)) (pss_one (ps_ret (pe_cmpR op_eq (pe_toldC (c := cl) (k := 8) L.exs hmT kpT lkT hcT bT hr (pa_cons (pe_lamC (T := [(PT, LQ)]) (LamX.lamS_by (sc := defScope sLaw) (by decide +kernel)) TB rfl (List.mem_singleton.mpr rfl) (fun p hp _ => by rw [List.mem_singleton.mp hp]) rfl) pa_nil)) pe_str (nomark _))))), ?_⟩
    refine q_dice2 (a := sc) (ns := ns) (PT := PT) (LQ := LQ) (ea_cons (ev_var rfl) (ea_cons ev_c ea_nil)) hS hT (fun σ => ∃ l1 l2 l3 l4 l5 l6 l7 l8 l9 l10 l11 l12 l13 l14 l15 l16 l17 l18 l19 l20 l21 l22 l23 l24 l25 l26 l27 l28 l29 l30, σ = [some (.ref sc), l1, l2, l3, l4, l5, l6, l7, l8, l9, l10, l11, l12, l13, l14, l15, l16, l17, l18, l19, l20, l21, l22, l23, l24, l25, l26, l27, l28, l29, l30]) ⟨_, _, _, _, _, _, _, _, _, _, _, _, _, _, _, _, _, _, _, _, _, _, _, _, _, _, _, _, _, _, rfl⟩ (fun d z0 σ' H0 hσ w0 Nx nx => ?_) (fun d z0 σ' H0 hσ w0 => ?_)
    · obtain ⟨l1, l2, l3, l4, l5, l6, l7, l8, l9, l10, l11, l12, l13, l14, l15, l16, l17, l18, l19, l20, l21, l22, l23, l24, l25, l26, l27, l28, l29, l30, rfl⟩ := hσ
      refine nrm (σ' := [some (.ref sc), some (.ref d), l2, l3, l4, l5, l6, l7, l8, l9, l10, l11, l12, l13, l14, l15, l16, l17, l18, l19, l20, l21, l22, l23, l24, l25, l26, l27, l28, l29, l30]) rfl ?_
      refine g_lawcal2 (C := C) (i1 := 2) (i2 := 3) (i3 := 4) (j := 1) (n := 0) (d := d) (z := z0) (m := 9) (k := m_lawB) w0 (fun _ => lt_cons (lt_cons lt_nil lt_tab) lt_dice) rfl rfl (by decide) o0 (fun c c2 z a_1 b_2 H_3 okc tic oke tie o_4 g_5 w_6 r_7 r_8 => ?_)
      have ofB := roll_in z (m := 9) (by decide)
      obtain ⟨f5, f5b⟩ := first5 okc tic
      have f2B := f2_ok okc tic ofB oke tie
      unfold m_lawB at o_4
      refine nrm (σ' := [some (.ref sc), some (.ref d), some (.ref a_1), some (.ref b_2), some (.int (roll z 9).1), l5, l6, l7, l8, l9, l10, l11, l12, l13, l14, l15, l16, l17, l18, l19, l20, l21, l22, l23, l24, l25, l26, l27, l28, l29, l30]) rfl ?_
      refine g_asg (E := E0) (cl := cl) (i := 5) (t := (k_Pa K CP C)) (x := (c, c2, (roll z 9).1)) w_6 o_4 (em_mkObP (a := (c, c2, (roll z 9).1, ())) (pre := pre_Pair_init) (f := f_Pair_init) (Rr := R_Pa K C) (up := fun e h => R_Pa_up e h) (em_cons (em_var (t := (kCal K C)) (v := (.ref a_1)) (x := c) rfl r_7) (em_cons (em_var (t := (kCal K C)) (v := (.ref b_2)) (x := c2) rfl r_8) (em_cons (em_var (t := kI) (v := (.int (roll z 9).1)) (x := (roll z 9).1) rfl rfl) em_nil))) args_id upA_Pa trivial rfl) (fun pair_9 v_10 H_11 hx_12 o_13 g_14 w_15 r_16 => ?_)
      subst hx_12
      have r_17 := (kCal K C).up g_14.im r_7
      have r_18 := (kCal K C).up g_14.im r_8
      refine nrm (σ' := [some (.ref sc), some (.ref d), some (.ref a_1), some (.ref b_2), some (.int (roll z 9).1), some v_10, l6, l7, l8, l9, l10, l11, l12, l13, l14, l15, l16, l17, l18, l19, l20, l21, l22, l23, l24, l25, l26, l27, l28, l29, l30]) rfl ?_
      refine g_asg (E := E0) (cl := cl) (i := 6) (t := (kL K (kR K c))) (x := (rng 0 (c.firstOf 5))) w_15 o_13 (em_rowsK okc (em_rows (l := 5) (em_cons (em_var (t := (kCal K C)) (v := (.ref a_1)) (x := c) rfl r_17) (em_cons em_int (em_cons em_int em_nil))) (lt_cons (lt_cons lt_nil lt_tab) lt_dice) (by decide) (by show c.firstOf 5 < 50000; omega))) (fun rows_19 v_20 H_21 hx_22 o_23 g_24 w_25 r_26 => ?_)
      subst hx_22
      have r_27 := (kCal K C).up g_24.im r_17
      have r_28 := (kCal K C).up g_24.im r_18
      have r_29 := (k_Pa K CP C).up g_24.im r_16
      refine nrm (σ' := [some (.ref sc), some (.ref d), some (.ref a_1), some (.ref b_2), some (.int (roll z 9).1), some v_10, some v_20, l7, l8, l9, l10, l11, l12, l13, l14, l15, l16, l17, l18, l19, l20, l21, l22, l23, l24, l25, l26, l27, l28, l29, l30]) rfl ?_
      refine g_asg (E := E0) (cl := cl) (i := 7) (t := (kTab (fun n => (yearOf c2 n, ((dateM c2 n : Nat) : Int), dateD c2 n)) (c2.firstOf (F2 c c2 (roll z 9).1).toNat) (k3 K kI kI kI))) (x := ()) w_25 o_23 (em_cb (em_cons (em_eq (em_lc (K := K) (u := (k2 K kI (k3 K kI kI kI))) (fun _ => true) (fun x_30 => (x_30, ((yearOf c2 x_30), ((dateM c2 x_30 : Nat) : Int), (dateD c2 x_30)))) (ei_L (em_rowsK oke (em_rows (l := (F2 c c2 (roll z 9).1).toNat) (em_cons (em_var (t := (kCal K C)) (v := (.ref b_2)) (x := c2) rfl r_28) (em_cons em_int (em_cons (em_eq (em_op (em_op (em_op (em_eq (em_cb (em_cons (em_var (t := (kL K (kR K c))) (v := v_20) (x := (rng 0 (c.firstOf 5))) rfl r_26) em_nil) o_lenL) (by rw [rng_len]; omega)) (em_var (t := kI) (v := (.int (roll z 9).1)) (x := (roll z 9).1) rfl rfl) o_I) (em_cb (em_cons (em_calMonths L.TC (em_var (t := (kCal K C)) (v := (.ref b_2)) (x := c2) rfl r_28)) em_nil) o_sumT) (o_IC (C := CDiv) (g := fun i j => i / j) (by exact ⟨f2B.1, by omega⟩))) em_int o_I) (f2_nat okc tic (by omega) oke tie)) em_nil))) (lt_cons (lt_cons lt_nil lt_tab) lt_dice) (by omega) (by exact f2B.2.2.2)))) (by rw [rng_len]; have := f2B.2.2.2; omega) eg_name (fun _ _ _ b => by obtain ⟨v_42, r_43, rfl⟩ := b; rfl) (fun _ _ _ _ _ _ _ _ => gt_yes) (fun M_36 S_37 I_31 x_30 s_35 e_32 m_33 c_41 b_34 => by obtain ⟨v_42, r_43, rfl⟩ := b_34; rw [rng_mem] at m_33; exact (em_t2 K (em_cons (em_op (em_var (t := (kR K c2)) (v := v_42) (x := x_30) rfl r_43) em_int (o_rowK (j := 0) rfl rfl)) (em_cons (em_row3 (em_var (t := (kR K c2)) (v := v_42) (x := x_30) rfl r_43)) em_nil))))) (by rw [filter_yes])) em_nil) (o_dictTab (f := (fun n => (yearOf c2 n, ((dateM c2 n : Nat) : Int), dateD c2 n))) (F := (c2.firstOf (F2 c c2 (roll z 9).1).toNat)))) (fun theirs_44 v_45 H_46 hx_47 o_48 g_49 w_50 r_51 => ?_)
      subst hx_47
      have r_52 := (kCal K C).up g_49.im r_27
      have r_53 := (kCal K C).up g_49.im r_28
      have r_54 := (k_Pa K CP C).up g_49.im r_29
      have r_55 := (kL K (kR K c)).up g_49.im r_26
      refine nrm (σ' := [some (.ref sc), some (.ref d), some (.ref a_1), some (.ref b_2), some (.int (roll z 9).1), some v_10, some v_20, some v_45, l8, l9, l10, l11, l12, l13, l14, l15, l16, l17, l18, l19, l20, l21, l22, l23, l24, l25, l26, l27, l28, l29, l30]) rfl ?_
      refine g_for (E := E0) (cl := cl) (xs := (rng 0 (c.firstOf 5))) (s0 := ()) (Sx := (fun s : Unit => [cDice d (roll z 9).2, cTab PT LQ])) (fun (I : Hp) (rs : List Int) (s : Unit) (σ : L2.St) => ∃ (l8 : Option V) (l9 : Option V), σ = [some (.ref sc), some (.ref d), some (.ref a_1), some (.ref b_2), some (.int (roll z 9).1), some v_10, some v_20, some v_45, l8, l9, l10, l11, l12, l13, l14, l15, l16, l17, l18, l19, l20, l21, l22, l23, l24, l25, l26, l27, l28, l29, l30]) w_50 o_48 (ei_L (em_var (t := (kL K (kR K c))) (v := v_20) (x := (rng 0 (c.firstOf 5))) rfl r_55)) (fun _ => rfl) (fun _ => eg_name) (fun _ g => ⟨_, _, rfl⟩) (fun s_123 σ_124 H_125 g_126 w_127 rv_128 o_129 => ?_) (fun hd_72 x_56 s_57 σ_58 σ_59 I_60 H_61 rest_62 hm_63 g_64 w_65 ei_66 rv_67 b_68 o_69 Nx_70 nx_71 => ?_)
      · have r_130 := (kCal K C).up g_126.im r_52
        have r_131 := (kCal K C).up g_126.im r_53
        have r_132 := (k_Pa K CP C).up g_126.im r_54
        have r_133 := (kL K (kR K c)).up g_126.im r_55
        have r_134 := (kTab (fun n => (yearOf c2 n, ((dateM c2 n : Nat) : Int), dateD c2 n)) (c2.firstOf (F2 c c2 (roll z 9).1).toNat) (k3 K kI kI kI)).up g_126.im r_51
        obtain ⟨l_135, l_136, rfl⟩ := rv_128
        refine nrm (σ' := [some (.ref sc), some (.ref d), some (.ref a_1), some (.ref b_2), some (.int (roll z 9).1), some v_10, some v_20, some v_45, l_135, l_136, l10, l11, l12, l13, l14, l15, l16, l17, l18, l19, l20, l21, l22, l23, l24, l25, l26, l27, l28, l29, l30]) rfl ?_
        refine g_asg (E := E0) (cl := cl) (i := 10) (t := kI) (x := (roll (roll z 9).2 (10 : Int)).1) w_127 o_129 (em_roll (n := 0) (em_cons (em_var (t := kPtr d) (v := .ref d) (x := ()) rfl rfl) (em_cons em_int em_nil)) rfl (by omega)) (fun start_138 v_139 H_140 hx_141 o_142 g_143 w_144 r_145 => ?_)
        have r_146 := (kCal K C).up g_143.im r_130
        have r_147 := (kCal K C).up g_143.im r_131
        have r_148 := (k_Pa K CP C).up g_143.im r_132
        have r_149 := (kL K (kR K c)).up g_143.im r_133
        have r_150 := (kTab (fun n => (yearOf c2 n, ((dateM c2 n : Nat) : Int), dateD c2 n)) (c2.firstOf (F2 c c2 (roll z 9).1).toNat) (k3 K kI kI kI)).up g_143.im r_134
        obtain rfl : v_139 = (.int start_138) := r_145
        refine nrm (σ' := [some (.ref sc), some (.ref d), some (.ref a_1), some (.ref b_2), some (.int (roll z 9).1), some v_10, some v_20, some v_45, l_135, l_136, some (.int start_138), l11, l12, l13, l14, l15, l16, l17, l18, l19, l20, l21, l22, l23, l24, l25, l26, l27, l28, l29, l30]) rfl ?_
        have stB : 0 ≤ start_138 ∧ start_138 < 10 := by rw [hx_141]; exact roll_in _ (by decide)
        refine g_for (E := E0) (cl := cl) (xs := ([("month" : Str), ("year" : Str)] : List Str)) (s0 := ()) (Sx := (fun s : Unit => [cDice d (roll (roll z 9).2 (10 : Int)).2, cTab PT LQ])) (fun (I : Hp) (rs : List Str) (s : Unit) (σ : L2.St) => ∃ (l11 : Option V) (l12 : Option V) (l13 : Option V), σ = [some (.ref sc), some (.ref d), some (.ref a_1), some (.ref b_2), some (.int (roll z 9).1), some v_10, some v_20, some v_45, l_135, l_136, some (.int start_138), l11, l12, l13, l14, l15, l16, l17, l18, l19, l20, l21, l22, l23, l24, l25, l26, l27, l28, l29, l30]) w_144 o_142 (ei_L (em_lst K (t := kS) (em_consL em_str (em_consL em_str em_nilL)) (by simp))) (fun _ => rfl) (fun _ => eg_name) (fun _ g => ⟨_, _, _, rfl⟩) (fun s_259 σ_260 H_261 g_262 w_263 rv_264 o_265 => ?_) (fun hd_167 x_151 s_152 σ_153 σ_154 I_155 H_156 rest_157 hm_158 g_159 w_160 ei_161 rv_162 b_163 o_164 Nx_165 nx_166 => ?_)
        · have r_266 := (kCal K C).up g_262.im r_146
          have r_267 := (kCal K C).up g_262.im r_147
          have r_268 := (k_Pa K CP C).up g_262.im r_148
          have r_269 := (kL K (kR K c)).up g_262.im r_149
          have r_270 := (kTab (fun n => (yearOf c2 n, ((dateM c2 n : Nat) : Int), dateD c2 n)) (c2.firstOf (F2 c c2 (roll z 9).1).toNat) (k3 K kI kI kI)).up g_262.im r_150
          obtain ⟨l_271, l_272, l_273, rfl⟩ := rv_264
          refine nrm (σ' := [some (.ref sc), some (.ref d), some (.ref a_1), some (.ref b_2), some (.int (roll z 9).1), some v_10, some v_20, some v_45, l_135, l_136, some (.int start_138), l_271, l_272, l_273, l14, l15, l16, l17, l18, l19, l20, l21, l22, l23, l24, l25, l26, l27, l28, l29, l30]) rfl ?_
          refine g_newP (i := 14) (j := 15) K (k2 K kSo kI) w_263 fun p_275 H_276 hp_277 g_278 w_279 e_280 => ?_
          have r_281 := (kCal K C).up e_280 r_266
          have r_282 := (kCal K C).up e_280 r_267
          have r_283 := (k_Pa K CP C).up e_280 r_268
          have r_284 := (kL K (kR K c)).up e_280 r_269
          have r_285 := (kTab (fun n => (yearOf c2 n, ((dateM c2 n : Nat) : Int), dateD c2 n)) (c2.firstOf (F2 c c2 (roll z 9).1).toNat) (k3 K kI kI kI)).up e_280 r_270
          refine nrm (σ' := [some (.ref sc), some (.ref d), some (.ref a_1), some (.ref b_2), some (.int (roll z 9).1), some v_10, some v_20, some v_45, l_135, l_136, some (.int start_138), l_271, l_272, l_273, some (.ref p_275), some (.int 0), l16, l17, l18, l19, l20, l21, l22, l23, l24, l25, l26, l27, l28, l29, l30]) rfl ?_
          have xsL : 1 ≤ (List.take ((1 : Int) + (roll (roll (roll z 9).2 (10 : Int)).2 (3 : Int)).1).toNat (["x", "y", "x"] : List Str)).length ∧ (List.take ((1 : Int) + (roll (roll (roll z 9).2 (10 : Int)).2 (3 : Int)).1).toNat (["x", "y", "x"] : List Str)).length ≤ 3 := xs_len (roll_in ((roll (roll z 9).2 (10 : Int)).2) (by decide))
          refine g_for (E := E0) (cl := cl) (xs := (List.take (((1 : Int) + (roll (roll (roll z 9).2 (10 : Int)).2 (3 : Int)).1)).toNat ([("x" : Str), ("y" : Str), ("x" : Str)] : List Str))) (s0 := ((0 : Int), ([] : (List (Str × Int))), (roll (roll (roll z 9).2 (10 : Int)).2 (3 : Int)).2)) (Sx := (fun s : (Int × (List (Str × Int)) × Dice) => [cL p_275 (k2 K kSo kI) (s.2.1), cDice d (s.2.2), cTab PT LQ])) (fun (I : Hp) (rs : List Str) (s : (Int × (List (Str × Int)) × Dice)) (σ : L2.St) => ∃ (l16 : Option V), σ = [some (.ref sc), some (.ref d), some (.ref a_1), some (.ref b_2), some (.int (roll z 9).1), some v_10, some v_20, some v_45, l_135, l_136, some (.int start_138), l_271, l_272, l_273, some (.ref p_275), some (.int (s.1)), l16, l17, l18, l19, l20, l21, l22, l23, l24, l25, l26, l27, l28, l29, l30] ∧ FI (s.2.1) (s.1) ∧ (s.2.1).length + rs.length = (List.take ((1 : Int) + (roll (roll (roll z 9).2 (10 : Int)).2 (3 : Int)).1).toNat (["x", "y", "x"] : List Str)).length) w_279 o_265 (ei_L (em_slTake (em_lst K (t := kSo) (em_consL (em_c (t := kSo) (x := "x") ⟨rfl, by decide +kernel⟩) (em_consL (em_c (t := kSo) (x := "y") ⟨rfl, by decide +kernel⟩) (em_consL (em_c (t := kSo) (x := "x") ⟨rfl, by decide +kernel⟩) em_nilL))) (by simp)) (em_op em_int (em_roll (n := 1) (em_cons (em_var (t := kPtr d) (v := .ref d) (x := ()) rfl rfl) (em_cons em_int em_nil)) rfl (by omega)) o_I) (by have q := roll_in ((roll (roll z 9).2 (10 : Int)).2) (m := 3) (by decide); omega))) (fun _ => rfl) (fun _ => eg_name) (fun _ g => ⟨_, rfl, by exact ⟨fi_nil, by rw [List.length_nil, Nat.zero_add]⟩⟩) (fun s_342 σ_343 H_344 g_345 w_346 rv_347 o_348 => ?_) (fun hd_302 x_286 s_287 σ_288 σ_289 I_290 H_291 rest_292 hm_293 g_294 w_295 ei_296 rv_297 b_298 o_299 Nx_300 nx_301 => ?_)
          · obtain ⟨here_349, firsts_350, dice_351⟩ := s_342
            have r_352 := (kCal K C).up g_345.im r_281
            have r_353 := (kCal K C).up g_345.im r_282
            have r_354 := (k_Pa K CP C).up g_345.im r_283
            have r_355 := (kL K (kR K c)).up g_345.im r_284
            have r_356 := (kTab (fun n => (yearOf c2 n, ((dateM c2 n : Nat) : Int), dateD c2 n)) (c2.firstOf (F2 c c2 (roll z 9).1).toNat) (k3 K kI kI kI)).up g_345.im r_285
            obtain ⟨l_357, rfl, iv_358⟩ := rv_347
            simp only [List.length_nil] at iv_358
            refine nrm (σ' := [some (.ref sc), some (.ref d), some (.ref a_1), some (.ref b_2), some (.int (roll z 9).1), some v_10, some v_20, some v_45, l_135, l_136, some (.int start_138), l_271, l_272, l_273, some (.ref p_275), some (.int here_349), l_357, l17, l18, l19, l20, l21, l22, l23, l24, l25, l26, l27, l28, l29, l30]) rfl ?_
            have pn_362 : p_275 ∉ [d, PT] := fun z => absurd hp_277 (w_263.live _ z)
            have r_360 := cell_end (K := K) w_346 pn_362
            have g_361 := (Gr.lone2 (c := cL p_275 (k2 K kSo kI) []) (Gr.back w0 ((((((g_5.then g_14 rfl).then g_24 rfl).then g_49 rfl).then g_126 rfl).then g_143 rfl).then g_262 rfl) w_263 hp_277) (((((((g_5.then g_14 rfl).then g_24 rfl).then g_49 rfl).then g_126 rfl).then g_143 rfl).then g_262 rfl).then g_278 rfl) (Gr.cast g_345 rfl))
            have w_359 := Holds.drop (c := cL p_275 (k2 K kSo kI) firsts_350) w_346 pn_362
            have r_363 := (kCal K C).up del_free r_352
            have r_364 := (kCal K C).up del_free r_353
            have r_365 := (k_Pa K CP C).up del_free r_354
            have r_366 := (kL K (kR K c)).up del_free r_355
            have r_367 := (kTab (fun n => (yearOf c2 n, ((dateM c2 n : Nat) : Int), dateD c2 n)) (c2.firstOf (F2 c c2 (roll z 9).1).toNat) (k3 K kI kI kI)).up del_free r_356
            obtain ⟨fiE, fiL⟩ := iv_358
            have fl3 : 1 ≤ firsts_350.length ∧ firsts_350.length ≤ 3 := by omega
            refine g_asg (E := E0) (cl := cl) (i := 17) (t := (k_Rn K CG)) (x := (firsts_350, firsts_350.map (fun (q : Str × Int) => q.2))) w_359 o_348 (em_mkObP (a := (firsts_350, ())) (pre := pre_Reigns_init) (f := f_Reigns_init) (Rr := R_Rn K) (up := fun e h => R_Rn_up e h) (em_cons (em_var (t := (kL K (k2 K kSo kI))) (v := (.ref p_275)) (x := firsts_350) rfl r_360) em_nil) args_id upA_Rn (by show _ ≤ 100; omega) (reigns_ok fiE (by omega))) (fun reigns_368 v_369 H_370 hx_371 o_372 g_373 w_374 r_375 => ?_)
            subst hx_371
            have r_376 := (kCal K C).up g_373.im r_363
            have r_377 := (kCal K C).up g_373.im r_364
            have r_378 := (k_Pa K CP C).up g_373.im r_365
            have r_379 := (kL K (kR K c)).up g_373.im r_366
            have r_380 := (kTab (fun n => (yearOf c2 n, ((dateM c2 n : Nat) : Int), dateD c2 n)) (c2.firstOf (F2 c c2 (roll z 9).1).toNat) (k3 K kI kI kI)).up g_373.im r_367
            have r_381 := (kL K (k2 K kSo kI)).up g_373.im r_360
            refine nrm (σ' := [some (.ref sc), some (.ref d), some (.ref a_1), some (.ref b_2), some (.int (roll z 9).1), some v_10, some v_20, some v_45, l_135, l_136, some (.int start_138), l_271, l_272, l_273, some (.ref p_275), some (.int here_349), l_357, some v_369, l18, l19, l20, l21, l22, l23, l24, l25, l26, l27, l28, l29, l30]) rfl ?_
            refine g_asg (E := E0) (cl := cl) (i := 18) (t := (kTab (fun n => yearOf c n) (c.firstOf 5) kI)) (x := ()) w_374 o_372 (em_cb (em_cons (em_eq (em_lc (K := K) (u := (k2 K kI kI)) (fun _ => true) (fun x_382 => (x_382, (yearOf c x_382))) (ei_L (em_var (t := (kL K (kR K c))) (v := v_20) (x := (rng 0 (c.firstOf 5))) rfl r_379)) (by rw [rng_len]; omega) eg_name (fun _ _ _ b => by obtain ⟨v_394, r_395, rfl⟩ := b; rfl) (fun _ _ _ _ _ _ _ _ => gt_yes) (fun M_388 S_389 I_383 x_382 s_387 e_384 m_385 c_393 b_386 => by obtain ⟨v_394, r_395, rfl⟩ := b_386; rw [rng_mem] at m_385; exact (em_t2 K (em_cons (em_op (em_var (t := (kR K c)) (v := v_394) (x := x_382) rfl r_395) em_int (o_rowK (j := 0) rfl rfl)) (em_cons (em_op (em_var (t := (kR K c)) (v := v_394) (x := x_382) rfl r_395) em_int (o_rowK (j := 1) rfl rfl)) em_nil))))) (by rw [filter_yes])) em_nil) (o_dictTab (f := (fun n => yearOf c n)) (F := (c.firstOf 5)))) (fun years_396 v_397 H_398 hx_399 o_400 g_401 w_402 r_403 => ?_)
            subst hx_399
            have r_404 := (kCal K C).up g_401.im r_376
            have r_405 := (kCal K C).up g_401.im r_377
            have r_406 := (k_Pa K CP C).up g_401.im r_378
            have r_407 := (kL K (kR K c)).up g_401.im r_379
            have r_408 := (kTab (fun n => (yearOf c2 n, ((dateM c2 n : Nat) : Int), dateD c2 n)) (c2.firstOf (F2 c c2 (roll z 9).1).toNat) (k3 K kI kI kI)).up g_401.im r_380
            have r_409 := (kL K (k2 K kSo kI)).up g_401.im r_381
            have r_410 := (k_Rn K CG).up g_401.im r_375
            refine nrm (σ' := [some (.ref sc), some (.ref d), some (.ref a_1), some (.ref b_2), some (.int (roll z 9).1), some v_10, some v_20, some v_45, l_135, l_136, some (.int start_138), l_271, l_272, l_273, some (.ref p_275), some (.int here_349), l_357, some v_369, some v_397, l19, l20, l21, l22, l23, l24, l25, l26, l27, l28, l29, l30]) rfl ?_
            refine g_for (E := E0) (cl := cl) (xs := (rng 0 (5 : Int))) (s0 := (dice_351)) (Sx := (fun s : (Dice) => [cDice d (s), cTab PT LQ])) (fun (I : Hp) (rs : List Int) (s : (Dice)) (σ : L2.St) => ∃ (l19 : Option V) (l8 : Option V) (l20 : Option V) (l21 : Option V) (l16 : Option V) (l22 : Option V) (l23 : Option V) (l24 : Option V) (l25 : Option V) (l26 : Option V), σ = [some (.ref sc), some (.ref d), some (.ref a_1), some (.ref b_2), some (.int (roll z 9).1), some v_10, some v_20, some v_45, l8, l_136, some (.int start_138), l_271, l_272, l_273, some (.ref p_275), some (.int here_349), l16, some v_369, some v_397, l19, l20, l21, l22, l23, l24, l25, l26, l27, l28, l29, l30]) w_402 o_400 (ei_R1 (em_cons em_int em_nil) (by refine ⟨by omega, by omega⟩)) (fun _ => rfl) (fun _ => eg_name) (fun _ g => ⟨_, _, _, _, _, _, _, _, _, _, rfl⟩) (fun s_777 σ_778 H_779 g_780 w_781 rv_782 o_783 => ?_) (fun hd_427 x_411 s_412 σ_413 σ_414 I_415 H_416 rest_417 hm_418 g_419 w_420 ei_421 rv_422 b_423 o_424 Nx_425 nx_426 => ?_)
            · have r_785 := (kCal K C).up g_780.im r_404
              have r_786 := (kCal K C).up g_780.im r_405
              have r_787 := (k_Pa K CP C).up g_780.im r_406
              have r_788 := (kL K (kR K c)).up g_780.im r_407
              have r_789 := (kTab (fun n => (yearOf c2 n, ((dateM c2 n : Nat) : Int), dateD c2 n)) (c2.firstOf (F2 c c2 (roll z 9).1).toNat) (k3 K kI kI kI)).up g_780.im r_408
              have r_790 := (kL K (k2 K kSo kI)).up g_780.im r_409
              have r_791 := (k_Rn K CG).up g_780.im r_410
              have r_792 := (kTab (fun n => yearOf c n) (c.firstOf 5) kI).up g_780.im r_403
              obtain ⟨l_793, l_794, l_795, l_796, l_797, l_798, l_799, l_800, l_801, l_802, rfl⟩ := rv_782
              refine nrm (σ' := [some (.ref sc), some (.ref d), some (.ref a_1), some (.ref b_2), some (.int (roll z 9).1), some v_10, some v_20, some v_45, l_794, l_136, some (.int start_138), l_271, l_272, l_273, some (.ref p_275), some (.int here_349), l_797, some v_369, some v_397, l_793, l_795, l_796, l_798, l_799, l_800, l_801, l_802, l27, l28, l29, l30]) rfl ?_
              refine g_for (E := E0) (cl := cl) (xs := (rng 0 ((firsts_350.length : Int) - (1 : Int)))) (s0 := ()) (Sx := (fun s : Unit => [cDice d s_777, cTab PT LQ])) (fun (I : Hp) (rs : List Int) (s : Unit) (σ : L2.St) => ∃ (l21 : Option V) (l27 : Option V), σ = [some (.ref sc), some (.ref d), some (.ref a_1), some (.ref b_2), some (.int (roll z 9).1), some v_10, some v_20, some v_45, l_794, l_136, some (.int start_138), l_271, l_272, l_273, some (.ref p_275), some (.int here_349), l_797, some v_369, some v_397, l_793, l_795, l21, l_798, l_799, l_800, l_801, l_802, l27, l28, l29, l30]) w_781 o_783 (ei_R1 (em_cons (em_op (em_cb (em_cons (em_var (t := (kL K (k2 K kSo kI))) (v := (.ref p_275)) (x := firsts_350) rfl r_790) em_nil) o_lenL) em_int o_I) em_nil) (by refine ⟨by omega, by omega⟩)) (fun _ => rfl) (fun _ => eg_name) (fun _ g => ⟨_, _, rfl⟩) (fun s_946 σ_947 H_948 g_949 w_950 rv_951 o_952 => ?_) (fun hd_820 x_804 s_805 σ_806 σ_807 I_808 H_809 rest_810 hm_811 g_812 w_813 ei_814 rv_815 b_816 o_817 Nx_818 nx_819 => ?_)
              · have r_953 := (kCal K C).up g_949.im r_785
                have r_954 := (kCal K C).up g_949.im r_786
                have r_955 := (k_Pa K CP C).up g_949.im r_787
                have r_956 := (kL K (kR K c)).up g_949.im r_788
                have r_957 := (kTab (fun n => (yearOf c2 n, ((dateM c2 n : Nat) : Int), dateD c2 n)) (c2.firstOf (F2 c c2 (roll z 9).1).toNat) (k3 K kI kI kI)).up g_949.im r_789
                have r_958 := (kL K (k2 K kSo kI)).up g_949.im r_790
                have r_959 := (k_Rn K CG).up g_949.im r_791
                have r_960 := (kTab (fun n => yearOf c n) (c.firstOf 5) kI).up g_949.im r_792
                obtain ⟨l_961, l_962, rfl⟩ := rv_951
                refine nrm (σ' := [some (.ref sc), some (.ref d), some (.ref a_1), some (.ref b_2), some (.int (roll z 9).1), some v_10, some v_20, some v_45, l_794, l_136, some (.int start_138), l_271, l_272, l_273, some (.ref p_275), some (.int here_349), l_797, some v_369, some v_397, l_793, l_795, l_961, l_798, l_799, l_800, l_801, l_802, l_962, l28, l29, l30]) rfl ?_
                refine g_when (E := E0) (cl := cl) (b := (!decide ((kindName 10) = ("no such" : Str)))) w_950 o_952 (gt_test (em_op (em_reS0 (i := 10) (by exact years_er (by omega)) (em_toldR (ag := fun σ2 => σ2 = _) (em_cons (em_lamC (n := 1) (t := kLam (lawX P w K mg base f cc A outer s H E) cl 8 (fun σ2 => σ2 = _) kI) (x := (f_Reigns_years_of ((firsts_350, firsts_350.map (fun (q : Str × Int) => q.2)), c, ((firsts_350.length : Int) - (1 : Int)), ()))) rfl (nc_cons (nc_cons nc_nil nc_tab) nc_dice) (lam_r (LamX.lamS_by (sc := defScope sLaw) (by decide +kernel)) (fun _ _ _ => rfl) (fun f2 cc2 A2 outer2 s2 H2 E2 hr2 => (pe_mk L.m_years_of hr2 (by decide) (passE (E := E2)) (pv 17) (pa_cons (pv 2) (pa_cons (pe_op op_sub (pe_callB (call_len_seqK (K := K)) (by rfl) B.len (by decide +kernel) (pa_cons (pv 14) pa_nil)) pe_int) pa_nil)))) (fun i h => by rw [show (f_Reigns_years_of ((firsts_350, firsts_350.map (fun (q : Str × Int) => q.2)), c, ((firsts_350.length : Int) - (1 : Int)), ())) = .er 10 from by exact years_er (by omega)] at h; cases h; decide) (fun E2 M2 S2 σ2 I2 e ag => by subst ag; exact (em_meth (pre := pre_Reigns_years_of) (f := f_Reigns_years_of) (b := (c, ((firsts_350.length : Int) - (1 : Int)), ())) (em_var (t := (k_Rn K CG)) (v := v_369) (x := (firsts_350, firsts_350.map (fun (q : Str × Int) => q.2))) rfl ((k_Rn K CG).up e r_959)) (ob_Rn fun _ _ _ => rfl) (em_cons (em_var (t := (kCal K C)) (v := (.ref a_1)) (x := c) rfl ((kCal K C).up e r_953)) (em_cons (em_op (em_cb (em_cons (em_var (t := (kL K (k2 K kSo kI))) (v := (.ref p_275)) (x := firsts_350) rfl ((kL K (k2 K kSo kI)).up e r_958)) em_nil) o_lenL) em_int o_I) em_nil)) args_mG (by exact trivial))))) em_nil) rfl)) em_str o_neS)) (fun hb_965 o_966 H_964 g_967 w_968 => ?_) (fun hb_970 o_971 H_969 g_972 w_973 => ?_)
                · try simp only [decide_eq_true_eq, decide_eq_false_iff_not, Bool.and_eq_true, Bool.or_eq_true, Bool.and_eq_false_iff, Bool.or_eq_false_iff, Bool.not_eq_true', Bool.not_eq_false'] at hb_965
                  have r_974 := (kCal K C).up g_967.im r_953
                  have r_975 := (kCal K C).up g_967.im r_954
                  have r_976 := (k_Pa K CP C).up g_967.im r_955
                  have r_977 := (kL K (kR K c)).up g_967.im r_956
                  have r_978 := (kTab (fun n => (yearOf c2 n, ((dateM c2 n : Nat) : Int), dateD c2 n)) (c2.firstOf (F2 c c2 (roll z 9).1).toNat) (k3 K kI kI kI)).up g_967.im r_957
                  have r_979 := (kL K (k2 K kSo kI)).up g_967.im r_958
                  have r_980 := (k_Rn K CG).up g_967.im r_959
                  have r_981 := (kTab (fun n => yearOf c n) (c.firstOf 5) kI).up g_967.im r_960
                  exact absurd o_966 Bool.false_ne_true
                · try simp only [decide_eq_true_eq, decide_eq_false_iff_not, Bool.and_eq_true, Bool.or_eq_true, Bool.and_eq_false_iff, Bool.or_eq_false_iff, Bool.not_eq_true', Bool.not_eq_false'] at hb_970
                  have r_982 := (kCal K C).up g_972.im r_953
                  have r_983 := (kCal K C).up g_972.im r_954
                  have r_984 := (k_Pa K CP C).up g_972.im r_955
                  have r_985 := (kL K (kR K c)).up g_972.im r_956
                  have r_986 := (kTab (fun n => (yearOf c2 n, ((dateM c2 n : Nat) : Int), dateD c2 n)) (c2.firstOf (F2 c c2 (roll z 9).1).toNat) (k3 K kI kI kI)).up g_972.im r_957
                  have r_987 := (kL K (k2 K kSo kI)).up g_972.im r_958
                  have r_988 := (k_Rn K CG).up g_972.im r_959
                  have r_989 := (kTab (fun n => yearOf c n) (c.firstOf 5) kI).up g_972.im r_960
                  refine g_when (E := E0) (cl := cl) (b := (!decide ((kindName 10) = ("no such" : Str)))) w_973 o_971 (gt_test (em_op (em_reS0 (i := 10) (by exact day_z fiE) (em_toldR (ag := fun σ2 => σ2 = _) (em_cons (em_lamC (n := 1) (t := kLam (lawX P w K mg base f cc A outer s H E) cl 8 (fun σ2 => σ2 = _) kI) (x := (f_Reigns_day_number ((firsts_350, firsts_350.map (fun (q : Str × Int) => q.2)), c, ("z" : Str), (1 : Int), (0 : Int), (0 : Int), ()))) rfl (nc_cons (nc_cons nc_nil nc_tab) nc_dice) (lam_r (LamX.lamS_by (sc := defScope sLaw) (by decide +kernel)) (fun _ _ _ => rfl) (fun f2 cc2 A2 outer2 s2 H2 E2 hr2 => (pe_mk L.m_day_number hr2 (by decide) (passE (E := E2)) (pv 17) (pa_cons (pv 2) (pa_cons pe_str (pa_cons pe_int (pa_cons pe_int (pa_cons pe_int pa_nil))))))) (fun i h => by rw [show (f_Reigns_day_number ((firsts_350, firsts_350.map (fun (q : Str × Int) => q.2)), c, ("z" : Str), (1 : Int), (0 : Int), (0 : Int), ())) = .er 10 from by exact day_z fiE] at h; cases h; decide) (fun E2 M2 S2 σ2 I2 e ag => by subst ag; exact (em_meth (pre := pre_Reigns_day_number) (f := f_Reigns_day_number) (b := (c, ("z" : Str), (1 : Int), (0 : Int), (0 : Int), ())) (em_var (t := (k_Rn K CG)) (v := v_369) (x := (firsts_350, firsts_350.map (fun (q : Str × Int) => q.2))) rfl ((k_Rn K CG).up e r_988)) (ob_Rn fun _ _ _ => rfl) (em_cons (em_var (t := (kCal K C)) (v := (.ref a_1)) (x := c) rfl ((kCal K C).up e r_982)) (em_cons (em_c (t := kSo) (x := "z") ⟨rfl, by decide +kernel⟩) (em_cons em_int (em_cons em_int (em_cons em_int em_nil))))) args_mG (by show 0 ≤ (0 : Int) ∧ _; have := okc.lm0; have := okc.lm1; omega))))) em_nil) rfl)) em_str o_neS)) (fun hb_991 o_992 H_990 g_993 w_994 => ?_) (fun hb_996 o_997 H_995 g_998 w_999 => ?_)
                  · try simp only [decide_eq_true_eq, decide_eq_false_iff_not, Bool.and_eq_true, Bool.or_eq_true, Bool.and_eq_false_iff, Bool.or_eq_false_iff, Bool.not_eq_true', Bool.not_eq_false'] at hb_991
                    have r_1000 := (kCal K C).up g_993.im r_982
                    have r_1001 := (kCal K C).up g_993.im r_983
                    have r_1002 := (k_Pa K CP C).up g_993.im r_984
                    have r_1003 := (kL K (kR K c)).up g_993.im r_985
                    have r_1004 := (kTab (fun n => (yearOf c2 n, ((dateM c2 n : Nat) : Int), dateD c2 n)) (c2.firstOf (F2 c c2 (roll z 9).1).toNat) (k3 K kI kI kI)).up g_993.im r_986
                    have r_1005 := (kL K (k2 K kSo kI)).up g_993.im r_987
                    have r_1006 := (k_Rn K CG).up g_993.im r_988
                    have r_1007 := (kTab (fun n => yearOf c n) (c.firstOf 5) kI).up g_993.im r_989
                    exact absurd o_992 Bool.false_ne_true
                  · try simp only [decide_eq_true_eq, decide_eq_false_iff_not, Bool.and_eq_true, Bool.or_eq_true, Bool.and_eq_false_iff, Bool.or_eq_false_iff, Bool.not_eq_true', Bool.not_eq_false'] at hb_996
                    have r_1008 := (kCal K C).up g_998.im r_982
                    have r_1009 := (kCal K C).up g_998.im r_983
                    have r_1010 := (k_Pa K CP C).up g_998.im r_984
                    have r_1011 := (kL K (kR K c)).up g_998.im r_985
                    have r_1012 := (kTab (fun n => (yearOf c2 n, ((dateM c2 n : Nat) : Int), dateD c2 n)) (c2.firstOf (F2 c c2 (roll z 9).1).toNat) (k3 K kI kI kI)).up g_998.im r_986
                    have r_1013 := (kL K (k2 K kSo kI)).up g_998.im r_987
                    have r_1014 := (k_Rn K CG).up g_998.im r_988
                    have r_1015 := (kTab (fun n => yearOf c n) (c.firstOf 5) kI).up g_998.im r_989
                    refine g_when (E := E0) (cl := cl) (b := (!decide ((kindName 10) = ("no such" : Str)))) w_999 o_997 (gt_test (em_op (em_reS0 (i := 10) (by rfl) (em_toldR (ag := fun σ2 => σ2 = _) (em_cons (em_lamC (n := 1) (t := kLam (lawX P w K mg base f cc A outer s H E) cl 8 (fun σ2 => σ2 = _) kI) (x := (f_Pair_both_begin ((c, c2, (roll z 9).1), (0 : Int), ("week" : Str), (5 : Int), ()))) rfl (nc_cons (nc_cons nc_nil nc_tab) nc_dice) (lam_r (LamX.lamS_by (sc := defScope sLaw) (by decide +kernel)) (fun _ _ _ => rfl) (fun f2 cc2 A2 outer2 s2 H2 E2 hr2 => (pe_mk L.m_both_begin hr2 (by decide) (passE (E := E2)) (pv 5) (pa_cons pe_int (pa_cons pe_str (pa_cons pe_int pa_nil))))) (fun i h => by rw [show (f_Pair_both_begin ((c, c2, (roll z 9).1), (0 : Int), ("week" : Str), (5 : Int), ())) = .er 10 from by rfl] at h; cases h; decide) (fun E2 M2 S2 σ2 I2 e ag => by subst ag; exact (em_meth (pre := pre_Pair_both_begin) (f := f_Pair_both_begin) (b := ((0 : Int), ("week" : Str), (5 : Int), ())) (em_var (t := (k_Pa K CP C)) (v := v_10) (x := (c, c2, (roll z 9).1)) rfl ((k_Pa K CP C).up e r_1010)) (ob_Pa fun _ _ _ => rfl) (em_cons em_int (em_cons em_str (em_cons em_int em_nil))) args_mG (by exact both_pre okc tic (by omega) (by decide)))))) em_nil) rfl)) em_str o_neS)) (fun hb_1017 o_1018 H_1016 g_1019 w_1020 => ?_) (fun hb_1022 o_1023 H_1021 g_1024 w_1025 => ?_)
                    · try simp only [decide_eq_true_eq, decide_eq_false_iff_not, Bool.and_eq_true, Bool.or_eq_true, Bool.and_eq_false_iff, Bool.or_eq_false_iff, Bool.not_eq_true', Bool.not_eq_false'] at hb_1017
                      have r_1026 := (kCal K C).up g_1019.im r_1008
                      have r_1027 := (kCal K C).up g_1019.im r_1009
                      have r_1028 := (k_Pa K CP C).up g_1019.im r_1010
                      have r_1029 := (kL K (kR K c)).up g_1019.im r_1011
                      have r_1030 := (kTab (fun n => (yearOf c2 n, ((dateM c2 n : Nat) : Int), dateD c2 n)) (c2.firstOf (F2 c c2 (roll z 9).1).toNat) (k3 K kI kI kI)).up g_1019.im r_1012
                      have r_1031 := (kL K (k2 K kSo kI)).up g_1019.im r_1013
                      have r_1032 := (k_Rn K CG).up g_1019.im r_1014
                      have r_1033 := (kTab (fun n => yearOf c n) (c.firstOf 5) kI).up g_1019.im r_1015
                      exact absurd o_1018 Bool.false_ne_true
                    · try simp only [decide_eq_true_eq, decide_eq_false_iff_not, Bool.and_eq_true, Bool.or_eq_true, Bool.and_eq_false_iff, Bool.or_eq_false_iff, Bool.not_eq_true', Bool.not_eq_false'] at hb_1022
                      have r_1034 := (kCal K C).up g_1024.im r_1008
                      have r_1035 := (kCal K C).up g_1024.im r_1009
                      have r_1036 := (k_Pa K CP C).up g_1024.im r_1010
                      have r_1037 := (kL K (kR K c)).up g_1024.im r_1011
                      have r_1038 := (kTab (fun n => (yearOf c2 n, ((dateM c2 n : Nat) : Int), dateD c2 n)) (c2.firstOf (F2 c c2 (roll z 9).1).toNat) (k3 K kI kI kI)).up g_1024.im r_1012
                      have r_1039 := (kL K (k2 K kSo kI)).up g_1024.im r_1013
                      have r_1040 := (k_Rn K CG).up g_1024.im r_1014
                      have r_1041 := (kTab (fun n => yearOf c n) (c.firstOf 5) kI).up g_1024.im r_1015
                      refine g_ifL (E := E0) (cl := cl) (b := (!decide ((kindName 1) = ("day" : Str)))) w_1025 o_1023 (gt_test (em_op (em_reS0 (i := 1) (by exact across_er okc tic) (em_toldR (ag := fun σ2 => σ2 = _) (em_cons (em_lamC (n := 1) (t := kLam (lawX P w K mg base f cc A outer s H E) cl 8 (fun σ2 => σ2 = _) (k3 K kI kI kI)) (x := (f_Pair_across ((c, c2, (roll z 9).1), (0 : Int), (0 : Int), (99 : Int), ()))) rfl (nc_cons (nc_cons nc_nil nc_tab) nc_dice) (lam_r (LamX.lamS_by (sc := defScope sLaw) (by decide +kernel)) (fun _ _ _ => rfl) (fun f2 cc2 A2 outer2 s2 H2 E2 hr2 => (pe_mk L.m_across hr2 (by decide) (passE (E := E2)) (pv 5) (pa_cons pe_int (pa_cons pe_int (pa_cons pe_int pa_nil))))) (fun i h => by rw [show (f_Pair_across ((c, c2, (roll z 9).1), (0 : Int), (0 : Int), (99 : Int), ())) = .er 1 from by exact across_er okc tic] at h; cases h; decide) (fun E2 M2 S2 σ2 I2 e ag => by subst ag; exact (em_meth (pre := pre_Pair_across) (f := f_Pair_across) (b := ((0 : Int), (0 : Int), (99 : Int), ())) (em_var (t := (k_Pa K CP C)) (v := v_10) (x := (c, c2, (roll z 9).1)) rfl ((k_Pa K CP C).up e r_1036)) (ob_Pa fun _ _ _ => rfl) (em_cons em_int (em_cons em_int (em_cons em_int em_nil))) args_mG (by exact trivial))))) em_nil) rfl)) em_str o_neS)) (fun hb_1043 o_1044 H_1042 g_1045 w_1046 => ?_) (fun hb_1048 o_1049 H_1047 g_1050 w_1051 => ?_)
                      · try simp only [decide_eq_true_eq, decide_eq_false_iff_not, Bool.and_eq_true, Bool.or_eq_true, Bool.and_eq_false_iff, Bool.or_eq_false_iff, Bool.not_eq_true', Bool.not_eq_false'] at hb_1043
                        have r_1052 := (kCal K C).up g_1045.im r_1034
                        have r_1053 := (kCal K C).up g_1045.im r_1035
                        have r_1054 := (k_Pa K CP C).up g_1045.im r_1036
                        have r_1055 := (kL K (kR K c)).up g_1045.im r_1037
                        have r_1056 := (kTab (fun n => (yearOf c2 n, ((dateM c2 n : Nat) : Int), dateD c2 n)) (c2.firstOf (F2 c c2 (roll z 9).1).toNat) (k3 K kI kI kI)).up g_1045.im r_1038
                        have r_1057 := (kL K (k2 K kSo kI)).up g_1045.im r_1039
                        have r_1058 := (k_Rn K CG).up g_1045.im r_1040
                        have r_1059 := (kTab (fun n => yearOf c n) (c.firstOf 5) kI).up g_1045.im r_1041
                        exact absurd o_1044 Bool.false_ne_true
                      · try simp only [decide_eq_true_eq, decide_eq_false_iff_not, Bool.and_eq_true, Bool.or_eq_true, Bool.and_eq_false_iff, Bool.or_eq_false_iff, Bool.not_eq_true', Bool.not_eq_false'] at hb_1048
                        have r_1060 := (kCal K C).up g_1050.im r_1034
                        have r_1061 := (kCal K C).up g_1050.im r_1035
                        have r_1062 := (k_Pa K CP C).up g_1050.im r_1036
                        have r_1063 := (kL K (kR K c)).up g_1050.im r_1037
                        have r_1064 := (kTab (fun n => (yearOf c2 n, ((dateM c2 n : Nat) : Int), dateD c2 n)) (c2.firstOf (F2 c c2 (roll z 9).1).toNat) (k3 K kI kI kI)).up g_1050.im r_1038
                        have r_1065 := (kL K (k2 K kSo kI)).up g_1050.im r_1039
                        have r_1066 := (k_Rn K CG).up g_1050.im r_1040
                        have r_1067 := (kTab (fun n => yearOf c n) (c.firstOf 5) kI).up g_1050.im r_1041
                        exact nx _ _ _ ⟨_, _, _, _, _, _, _, _, _, _, _, _, _, _, _, _, _, _, _, _, _, _, _, _, _, _, _, _, _, _, rfl⟩ (Gr.cast ((((((((g_361.then g_373 rfl).then g_401 rfl).then g_780 rfl).then g_949 rfl).then g_972 rfl).then g_998 rfl).then g_1024 rfl).then g_1050 rfl) rfl) w_1051
              · obtain ⟨l_823, l_824, rfl⟩ := rv_815
                have r_826 := (kCal K C).up g_812.im r_785
                have r_827 := (kCal K C).up g_812.im r_786
                have r_828 := (k_Pa K CP C).up g_812.im r_787
                have r_829 := (kL K (kR K c)).up g_812.im r_788
                have r_830 := (kTab (fun n => (yearOf c2 n, ((dateM c2 n : Nat) : Int), dateD c2 n)) (c2.firstOf (F2 c c2 (roll z 9).1).toNat) (k3 K kI kI kI)).up g_812.im r_789
                have r_831 := (kL K (k2 K kSo kI)).up g_812.im r_790
                have r_832 := (k_Rn K CG).up g_812.im r_791
                have r_833 := (kTab (fun n => yearOf c n) (c.firstOf 5) kI).up g_812.im r_792
                obtain ⟨_, rfl, rfl⟩ := b_816
                rw [rng_mem] at hm_811
                refine nrm (σ' := [some (.ref sc), some (.ref d), some (.ref a_1), some (.ref b_2), some (.int (roll z 9).1), some v_10, some v_20, some v_45, l_794, l_136, some (.int start_138), l_271, l_272, l_273, some (.ref p_275), some (.int here_349), l_797, some v_369, some v_397, l_793, l_795, some (.int x_804), l_798, l_799, l_800, l_801, l_802, l_824, l28, l29, l30]) rfl ?_
                refine g_ifL (E := E0) (cl := cl) (b := (decide ((((atI firsts_350 (x_804 + (1 : Int))).getD ("", 0))).2 < (Ca.firstOf c 5)))) w_813 o_817 (gt_test (em_op (em_op (em_op (em_var (t := (kL K (k2 K kSo kI))) (v := (.ref p_275)) (x := firsts_350) rfl r_831) (em_op (em_var (t := kI) (v := (.int x_804)) (x := x_804) rfl rfl) em_int o_I) (o_ixLI (at_inG (z := (("" : Str), (0 : Int))) (by omega)))) em_int o_ix21) (em_eq (em_cb (em_cons (em_var (t := (kL K (kR K c))) (v := v_20) (x := (rng 0 (c.firstOf 5))) rfl r_829) em_nil) o_lenL) (by rw [rng_len]; omega)) o_IB)) (fun hb_835 o_836 H_834 g_837 w_838 => ?_) (fun hb_840 o_841 H_839 g_842 w_843 => ?_)
                · try simp only [decide_eq_true_eq, decide_eq_false_iff_not, Bool.and_eq_true, Bool.or_eq_true, Bool.and_eq_false_iff, Bool.or_eq_false_iff, Bool.not_eq_true', Bool.not_eq_false'] at hb_835
                  have r_844 := (kCal K C).up g_837.im r_826
                  have r_845 := (kCal K C).up g_837.im r_827
                  have r_846 := (k_Pa K CP C).up g_837.im r_828
                  have r_847 := (kL K (kR K c)).up g_837.im r_829
                  have r_848 := (kTab (fun n => (yearOf c2 n, ((dateM c2 n : Nat) : Int), dateD c2 n)) (c2.firstOf (F2 c c2 (roll z 9).1).toNat) (k3 K kI kI kI)).up g_837.im r_830
                  have r_849 := (kL K (k2 K kSo kI)).up g_837.im r_831
                  have r_850 := (k_Rn K CG).up g_837.im r_832
                  have r_851 := (kTab (fun n => yearOf c n) (c.firstOf 5) kI).up g_837.im r_833
                  have hiB := ‹((atI firsts_350 (x_804 + (1 : Int))).getD ("", 0)).2 < _›
                  have lasF : 1 ≤ ((atI firsts_350 x_804).getD ("", 0)).2 ∧ ((atI firsts_350 x_804).getD ("", 0)).2 < ((atI firsts_350 (x_804 + (1 : Int))).getD ("", 0)).2 ∧ ((atI firsts_350 (x_804 + (1 : Int))).getD ("", 0)).2 ≤ 16 * (firsts_350.length : Int) := lasts_in fiE (p := x_804) (by omega)
                  refine g_asg (E := E0) (cl := cl) (i := 27) (t := (kL K kI)) (x := ((rng (((atI firsts_350 x_804).getD ("", 0))).2 (((atI firsts_350 (x_804 + (1 : Int))).getD ("", 0))).2).map (fun (x_852 : Int) => (yearOf c x_852)))) w_838 o_836 (em_eq (em_lc (K := K) (u := kI) (fun _ => true) (fun x_852 => (yearOf c x_852)) (ei_R2 (em_cons (em_op (em_op (em_var (t := (kL K (k2 K kSo kI))) (v := (.ref p_275)) (x := firsts_350) rfl r_849) (em_var (t := kI) (v := (.int x_804)) (x := x_804) rfl rfl) (o_ixLI (at_inG (z := (("" : Str), (0 : Int))) (by omega)))) em_int o_ix21) (em_cons (em_op (em_op (em_var (t := (kL K (k2 K kSo kI))) (v := (.ref p_275)) (x := firsts_350) rfl r_849) (em_op (em_var (t := kI) (v := (.int x_804)) (x := x_804) rfl rfl) em_int o_I) (o_ixLI (at_inG (z := (("" : Str), (0 : Int))) (by omega)))) em_int o_ix21) em_nil)) (by refine ⟨by omega, by omega, by omega, by omega⟩)) (by rw [rng_len]; omega) eg_name (fun _ _ _ b => by obtain ⟨_, rfl, rfl⟩ := b; rfl) (fun _ _ _ _ _ _ _ _ => gt_yes) (fun M_858 S_859 I_853 x_852 s_857 e_854 m_855 c_863 b_856 => by obtain ⟨_, rfl, rfl⟩ := b_856; rw [rng_mem] at m_855; exact (em_tabGet (f := (fun n => yearOf c n)) (em_var (t := (kTab (fun n => yearOf c n) (c.firstOf 5) kI)) (v := v_397) (x := ()) rfl ((kTab (fun n => yearOf c n) (c.firstOf 5) kI).up e_854 r_851)) (em_var (t := kI) (v := (.int x_852)) (x := x_852) rfl rfl) (by omega)))) (by rw [filter_yes])) (fun lasts_866 v_867 H_868 hx_869 o_870 g_871 w_872 r_873 => ?_)
                  have r_874 := (kCal K C).up g_871.im r_844
                  have r_875 := (kCal K C).up g_871.im r_845
                  have r_876 := (k_Pa K CP C).up g_871.im r_846
                  have r_877 := (kL K (kR K c)).up g_871.im r_847
                  have r_878 := (kTab (fun n => (yearOf c2 n, ((dateM c2 n : Nat) : Int), dateD c2 n)) (c2.firstOf (F2 c c2 (roll z 9).1).toNat) (k3 K kI kI kI)).up g_871.im r_848
                  have r_879 := (kL K (k2 K kSo kI)).up g_871.im r_849
                  have r_880 := (k_Rn K CG).up g_871.im r_850
                  have r_881 := (kTab (fun n => yearOf c n) (c.firstOf 5) kI).up g_871.im r_851
                  refine nrm (σ' := [some (.ref sc), some (.ref d), some (.ref a_1), some (.ref b_2), some (.int (roll z 9).1), some v_10, some v_20, some v_45, l_794, l_136, some (.int start_138), l_271, l_272, l_273, some (.ref p_275), some (.int here_349), l_797, some v_369, some v_397, l_793, l_795, some (.int x_804), l_798, l_799, l_800, l_801, l_802, some v_867, l28, l29, l30]) rfl ?_
                  have lasL : lasts_866.length ≤ 1000 := by rw [hx_869, List.length_map, rng_len]; omega
                  refine g_ifL (E := E0) (cl := cl) (b := (!decide ((ysV c firsts_350 x_804) = ((dictP (lasts_866.map (fun (x_896 : Int) => (x_896, (1 : Int))))).length : Int)))) w_872 o_870 (gt_test (em_op (em_methP (pre := pre_Reigns_years_of) (f := f_Reigns_years_of) (y := (ysV c firsts_350 x_804)) (b := (c, x_804, ())) (em_var (t := (k_Rn K CG)) (v := v_369) (x := (firsts_350, firsts_350.map (fun (q : Str × Int) => q.2))) rfl r_880) (ob_Rn fun _ _ _ => rfl) (em_cons (em_var (t := (kCal K C)) (v := (.ref a_1)) (x := c) rfl r_874) (em_cons (em_var (t := kI) (v := (.int x_804)) (x := x_804) rfl rfl) em_nil)) args_mG (by exact trivial) (by exact ys_ok (by omega))) (em_cb (em_cons (em_cb (em_cons (em_eq (em_lc (K := K) (u := (k2 K kI kI)) (fun _ => true) (fun x_896 => (x_896, (1 : Int))) (ei_L (em_var (t := (kL K kI)) (v := v_867) (x := lasts_866) rfl r_873)) (by omega) eg_name (fun _ _ _ b => by obtain ⟨_, rfl, rfl⟩ := b; rfl) (fun _ _ _ _ _ _ _ _ => gt_yes) (fun M_902 S_903 I_897 x_896 s_901 e_898 m_899 c_907 b_900 => by obtain ⟨_, rfl, rfl⟩ := b_900; exact (em_t2 K (em_cons (em_var (t := kI) (v := (.int x_896)) (x := x_896) rfl rfl) (em_cons em_int em_nil))))) (by rw [filter_yes])) em_nil) o_dictPr) em_nil) o_lenDN) o_neI)) (fun hb_911 o_912 H_910 g_913 w_914 => ?_) (fun hb_916 o_917 H_915 g_918 w_919 => ?_)
                  · try simp only [decide_eq_true_eq, decide_eq_false_iff_not, Bool.and_eq_true, Bool.or_eq_true, Bool.and_eq_false_iff, Bool.or_eq_false_iff, Bool.not_eq_true', Bool.not_eq_false'] at hb_911
                    have r_920 := (kCal K C).up g_913.im r_874
                    have r_921 := (kCal K C).up g_913.im r_875
                    have r_922 := (k_Pa K CP C).up g_913.im r_876
                    have r_923 := (kL K (kR K c)).up g_913.im r_877
                    have r_924 := (kTab (fun n => (yearOf c2 n, ((dateM c2 n : Nat) : Int), dateD c2 n)) (c2.firstOf (F2 c c2 (roll z 9).1).toNat) (k3 K kI kI kI)).up g_913.im r_878
                    have r_925 := (kL K (k2 K kSo kI)).up g_913.im r_879
                    have r_926 := (k_Rn K CG).up g_913.im r_880
                    have r_927 := (kTab (fun n => yearOf c n) (c.firstOf 5) kI).up g_913.im r_881
                    have r_928 := (kL K kI).up g_913.im r_873
                    exact absurd o_912 Bool.false_ne_true
                  · try simp only [decide_eq_true_eq, decide_eq_false_iff_not, Bool.and_eq_true, Bool.or_eq_true, Bool.and_eq_false_iff, Bool.or_eq_false_iff, Bool.not_eq_true', Bool.not_eq_false'] at hb_916
                    have r_929 := (kCal K C).up g_918.im r_874
                    have r_930 := (kCal K C).up g_918.im r_875
                    have r_931 := (k_Pa K CP C).up g_918.im r_876
                    have r_932 := (kL K (kR K c)).up g_918.im r_877
                    have r_933 := (kTab (fun n => (yearOf c2 n, ((dateM c2 n : Nat) : Int), dateD c2 n)) (c2.firstOf (F2 c c2 (roll z 9).1).toNat) (k3 K kI kI kI)).up g_918.im r_878
                    have r_934 := (kL K (k2 K kSo kI)).up g_918.im r_879
                    have r_935 := (k_Rn K CG).up g_918.im r_880
                    have r_936 := (kTab (fun n => yearOf c n) (c.firstOf 5) kI).up g_918.im r_881
                    have r_937 := (kL K kI).up g_918.im r_873
                    exact nx_819 () _ _ o_917 (Gr.cast ((g_837.then g_871 rfl).then g_918 rfl) rfl) w_919 ⟨_, _, rfl⟩
                · try simp only [decide_eq_true_eq, decide_eq_false_iff_not, Bool.and_eq_true, Bool.or_eq_true, Bool.and_eq_false_iff, Bool.or_eq_false_iff, Bool.not_eq_true', Bool.not_eq_false'] at hb_840
                  have r_938 := (kCal K C).up g_842.im r_826
                  have r_939 := (kCal K C).up g_842.im r_827
                  have r_940 := (k_Pa K CP C).up g_842.im r_828
                  have r_941 := (kL K (kR K c)).up g_842.im r_829
                  have r_942 := (kTab (fun n => (yearOf c2 n, ((dateM c2 n : Nat) : Int), dateD c2 n)) (c2.firstOf (F2 c c2 (roll z 9).1).toNat) (k3 K kI kI kI)).up g_842.im r_830
                  have r_943 := (kL K (k2 K kSo kI)).up g_842.im r_831
                  have r_944 := (k_Rn K CG).up g_842.im r_832
                  have r_945 := (kTab (fun n => yearOf c n) (c.firstOf 5) kI).up g_842.im r_833
                  exact nx_819 () _ _ o_841 (Gr.cast g_842 rfl) w_843 ⟨_, _, rfl⟩
            · obtain ⟨l_431, l_432, l_433, l_434, l_435, l_436, l_437, l_438, l_439, l_440, rfl⟩ := rv_422
              have r_442 := (kCal K C).up g_419.im r_404
              have r_443 := (kCal K C).up g_419.im r_405
              have r_444 := (k_Pa K CP C).up g_419.im r_406
              have r_445 := (kL K (kR K c)).up g_419.im r_407
              have r_446 := (kTab (fun n => (yearOf c2 n, ((dateM c2 n : Nat) : Int), dateD c2 n)) (c2.firstOf (F2 c c2 (roll z 9).1).toNat) (k3 K kI kI kI)).up g_419.im r_408
              have r_447 := (kL K (k2 K kSo kI)).up g_419.im r_409
              have r_448 := (k_Rn K CG).up g_419.im r_410
              have r_449 := (kTab (fun n => yearOf c n) (c.firstOf 5) kI).up g_419.im r_403
              obtain ⟨_, rfl, rfl⟩ := b_423
              rw [rng_mem] at hm_418
              refine nrm (σ' := [some (.ref sc), some (.ref d), some (.ref a_1), some (.ref b_2), some (.int (roll z 9).1), some v_10, some v_20, some v_45, l_432, l_136, some (.int start_138), l_271, l_272, l_273, some (.ref p_275), some (.int here_349), l_435, some v_369, some v_397, some (.int x_411), l_433, l_434, l_436, l_437, l_438, l_439, l_440, l27, l28, l29, l30]) rfl ?_
              refine g_asg (E := E0) (cl := cl) (i := 8) (t := (kR K c)) (x := (roll s_412 (Ca.firstOf c 5)).1) w_420 o_424 (em_op (em_var (t := (kL K (kR K c))) (v := v_20) (x := (rng 0 (c.firstOf 5))) rfl r_445) (em_roll (n := 0) (em_cons (em_var (t := kPtr d) (v := .ref d) (x := ()) rfl rfl) (em_cons (em_eq (em_cb (em_cons (em_var (t := (kL K (kR K c))) (v := v_20) (x := (rng 0 (c.firstOf 5))) rfl r_445) em_nil) o_lenL) (by rw [rng_len]; omega)) em_nil)) rfl (by omega)) (o_ixR (by exact roll_in _ (by omega)))) (fun row_450 v_451 H_452 hx_453 o_454 g_455 w_456 r_457 => ?_)
              have r_458 := (kCal K C).up g_455.im r_442
              have r_459 := (kCal K C).up g_455.im r_443
              have r_460 := (k_Pa K CP C).up g_455.im r_444
              have r_461 := (kL K (kR K c)).up g_455.im r_445
              have r_462 := (kTab (fun n => (yearOf c2 n, ((dateM c2 n : Nat) : Int), dateD c2 n)) (c2.firstOf (F2 c c2 (roll z 9).1).toNat) (k3 K kI kI kI)).up g_455.im r_446
              have r_463 := (kL K (k2 K kSo kI)).up g_455.im r_447
              have r_464 := (k_Rn K CG).up g_455.im r_448
              have r_465 := (kTab (fun n => yearOf c n) (c.firstOf 5) kI).up g_455.im r_449
              refine nrm (σ' := [some (.ref sc), some (.ref d), some (.ref a_1), some (.ref b_2), some (.int (roll z 9).1), some v_10, some v_20, some v_45, some v_451, l_136, some (.int start_138), l_271, l_272, l_273, some (.ref p_275), some (.int here_349), l_435, some v_369, some v_397, some (.int x_411), l_433, l_434, l_436, l_437, l_438, l_439, l_440, l27, l28, l29, l30]) rfl ?_
              have rowIn : 0 ≤ row_450 ∧ row_450 < Ca.firstOf c 5 := by rw [hx_453]; exact roll_in _ (by omega)
              refine g_asg (E := E0) (cl := cl) (i := 20) (t := (kL K kI)) (x := (((rng 0 (firsts_350.length : Int)).filter (fun (x_466 : Int) => (decide ((((atI firsts_350 x_466).getD ("", 0))).2 ≤ row_450)))).map (fun (x_466 : Int) => x_466))) w_456 o_454 (em_lc (K := K) (u := kI) (fun x_466 => (decide ((((atI firsts_350 x_466).getD ("", 0))).2 ≤ row_450))) (fun x_466 => x_466) (ei_R1 (em_cons (em_cb (em_cons (em_var (t := (kL K (k2 K kSo kI))) (v := (.ref p_275)) (x := firsts_350) rfl r_463) em_nil) o_lenL) em_nil) (by refine ⟨by omega, by omega⟩)) (by rw [rng_len]; omega) eg_name (fun _ _ _ b => by obtain ⟨_, rfl, rfl⟩ := b; rfl) (fun M_472 S_473 I_467 x_466 s_471 e_468 m_469 b_470 => by obtain ⟨_, rfl, rfl⟩ := b_470; rw [rng_mem] at m_469; exact (gt_test (em_op (em_op (em_op (em_var (t := (kL K (k2 K kSo kI))) (v := (.ref p_275)) (x := firsts_350) rfl ((kL K (k2 K kSo kI)).up e_468 r_463)) (em_var (t := kI) (v := (.int x_466)) (x := x_466) rfl rfl) (o_ixLI (at_inG (z := (("" : Str), (0 : Int))) (by omega)))) em_int o_ix21) (em_op (em_var (t := (kR K c)) (v := v_451) (x := row_450) rfl ((kR K c).up e_468 r_457)) em_int (o_rowK (j := 0) rfl rfl)) o_IB))) (fun M_472 S_473 I_467 x_466 s_471 e_468 m_469 c_477 b_470 => by obtain ⟨_, rfl, rfl⟩ := b_470; rw [rng_mem] at m_469; exact (em_var (t := kI) (v := (.int x_466)) (x := x_466) rfl rfl))) (fun inside_480 v_481 H_482 hx_483 o_484 g_485 w_486 r_487 => ?_)
              have r_488 := (kCal K C).up g_485.im r_458
              have r_489 := (kCal K C).up g_485.im r_459
              have r_490 := (k_Pa K CP C).up g_485.im r_460
              have r_491 := (kL K (kR K c)).up g_485.im r_461
              have r_492 := (kTab (fun n => (yearOf c2 n, ((dateM c2 n : Nat) : Int), dateD c2 n)) (c2.firstOf (F2 c c2 (roll z 9).1).toNat) (k3 K kI kI kI)).up g_485.im r_462
              have r_493 := (kL K (k2 K kSo kI)).up g_485.im r_463
              have r_494 := (k_Rn K CG).up g_485.im r_464
              have r_495 := (kTab (fun n => yearOf c n) (c.firstOf 5) kI).up g_485.im r_465
              have r_496 := (kR K c).up g_485.im r_457
              refine nrm (σ' := [some (.ref sc), some (.ref d), some (.ref a_1), some (.ref b_2), some (.int (roll z 9).1), some v_10, some v_20, some v_45, some v_451, l_136, some (.int start_138), l_271, l_272, l_273, some (.ref p_275), some (.int here_349), l_435, some v_369, some v_397, some (.int x_411), some v_481, l_434, l_436, l_437, l_438, l_439, l_440, l27, l28, l29, l30]) rfl ?_
              have insE : inside_480 = _ := hx_483
              refine g_ifL (E := E0) (cl := cl) (b := (decide (inside_480 = ([] : List Int)))) w_486 o_484 (gt_test (em_op (em_var (t := (kL K kI)) (v := v_481) (x := inside_480) rfl r_487) (em_lst K (t := kI) em_nilL (by simp)) (o_eqD (dL dI) (by decide)))) (fun hb_498 o_499 H_497 g_500 w_501 => ?_) (fun hb_503 o_504 H_502 g_505 w_506 => ?_)
              · try simp only [decide_eq_true_eq, decide_eq_false_iff_not, Bool.and_eq_true, Bool.or_eq_true, Bool.and_eq_false_iff, Bool.or_eq_false_iff, Bool.not_eq_true', Bool.not_eq_false'] at hb_498
                have r_507 := (kCal K C).up g_500.im r_488
                have r_508 := (kCal K C).up g_500.im r_489
                have r_509 := (k_Pa K CP C).up g_500.im r_490
                have r_510 := (kL K (kR K c)).up g_500.im r_491
                have r_511 := (kTab (fun n => (yearOf c2 n, ((dateM c2 n : Nat) : Int), dateD c2 n)) (c2.firstOf (F2 c c2 (roll z 9).1).toNat) (k3 K kI kI kI)).up g_500.im r_492
                have r_512 := (kL K (k2 K kSo kI)).up g_500.im r_493
                have r_513 := (k_Rn K CG).up g_500.im r_494
                have r_514 := (kTab (fun n => yearOf c n) (c.firstOf 5) kI).up g_500.im r_495
                have r_515 := (kR K c).up g_500.im r_496
                have r_516 := (kL K kI).up g_500.im r_487
                refine g_when (E := E0) (cl := cl) (b := (!decide ((kindName 10) = ("no such" : Str)))) w_501 o_499 (gt_test (em_op (em_reS0 (i := 10) (by exact reign_er (none_in fiE (of_decide_eq_true (decide_eq_true (by rw [← insE]; exact hb_498))))) (em_toldR (ag := fun σ2 => σ2 = _) (em_cons (em_lamC (n := 1) (t := kLam (lawX P w K mg base f cc A outer s H E) cl 8 (fun σ2 => σ2 = _) kI) (x := (f_Reigns_reign ((firsts_350, firsts_350.map (fun (q : Str × Int) => q.2)), row_450, ()))) rfl (nc_cons (nc_cons nc_nil nc_tab) nc_dice) (lam_r (LamX.lamS_by (sc := defScope sLaw) (by decide +kernel)) (fun _ _ _ => rfl) (fun f2 cc2 A2 outer2 s2 H2 E2 hr2 => (pe_mk L.m_reign hr2 (by decide) (passE (E := E2)) (pv 17) (pa_cons (pe_ix ix_tup (pv 8) pe_int (fun _ _ => rfl)) pa_nil))) (fun i h => by rw [show (f_Reigns_reign ((firsts_350, firsts_350.map (fun (q : Str × Int) => q.2)), row_450, ())) = .er 10 from by exact reign_er (none_in fiE (of_decide_eq_true (decide_eq_true (by rw [← insE]; exact hb_498))))] at h; cases h; decide) (fun E2 M2 S2 σ2 I2 e ag => by subst ag; exact (em_meth (pre := pre_Reigns_reign) (f := f_Reigns_reign) (b := (row_450, ())) (em_var (t := (k_Rn K CG)) (v := v_369) (x := (firsts_350, firsts_350.map (fun (q : Str × Int) => q.2))) rfl ((k_Rn K CG).up e r_513)) (ob_Rn fun _ _ _ => rfl) (em_cons (em_op (em_var (t := (kR K c)) (v := v_451) (x := row_450) rfl ((kR K c).up e r_515)) em_int (o_rowK (j := 0) rfl rfl)) em_nil) args_mG (by exact trivial))))) em_nil) rfl)) em_str o_neS)) (fun hb_518 o_519 H_517 g_520 w_521 => ?_) (fun hb_523 o_524 H_522 g_525 w_526 => ?_)
                · try simp only [decide_eq_true_eq, decide_eq_false_iff_not, Bool.and_eq_true, Bool.or_eq_true, Bool.and_eq_false_iff, Bool.or_eq_false_iff, Bool.not_eq_true', Bool.not_eq_false'] at hb_518
                  have r_527 := (kCal K C).up g_520.im r_507
                  have r_528 := (kCal K C).up g_520.im r_508
                  have r_529 := (k_Pa K CP C).up g_520.im r_509
                  have r_530 := (kL K (kR K c)).up g_520.im r_510
                  have r_531 := (kTab (fun n => (yearOf c2 n, ((dateM c2 n : Nat) : Int), dateD c2 n)) (c2.firstOf (F2 c c2 (roll z 9).1).toNat) (k3 K kI kI kI)).up g_520.im r_511
                  have r_532 := (kL K (k2 K kSo kI)).up g_520.im r_512
                  have r_533 := (k_Rn K CG).up g_520.im r_513
                  have r_534 := (kTab (fun n => yearOf c n) (c.firstOf 5) kI).up g_520.im r_514
                  have r_535 := (kR K c).up g_520.im r_515
                  have r_536 := (kL K kI).up g_520.im r_516
                  exact absurd o_519 Bool.false_ne_true
                · try simp only [decide_eq_true_eq, decide_eq_false_iff_not, Bool.and_eq_true, Bool.or_eq_true, Bool.and_eq_false_iff, Bool.or_eq_false_iff, Bool.not_eq_true', Bool.not_eq_false'] at hb_523
                  have r_537 := (kCal K C).up g_525.im r_507
                  have r_538 := (kCal K C).up g_525.im r_508
                  have r_539 := (k_Pa K CP C).up g_525.im r_509
                  have r_540 := (kL K (kR K c)).up g_525.im r_510
                  have r_541 := (kTab (fun n => (yearOf c2 n, ((dateM c2 n : Nat) : Int), dateD c2 n)) (c2.firstOf (F2 c c2 (roll z 9).1).toNat) (k3 K kI kI kI)).up g_525.im r_511
                  have r_542 := (kL K (k2 K kSo kI)).up g_525.im r_512
                  have r_543 := (k_Rn K CG).up g_525.im r_513
                  have r_544 := (kTab (fun n => yearOf c n) (c.firstOf 5) kI).up g_525.im r_514
                  have r_545 := (kR K c).up g_525.im r_515
                  have r_546 := (kL K kI).up g_525.im r_516
                  refine g_ifL (E := E0) (cl := cl) (b := (!decide ((kindName 10) = ("no such" : Str)))) w_526 o_524 (gt_test (em_op (em_reS0 (i := 10) (by exact told_er (none_in fiE (of_decide_eq_true (decide_eq_true (by rw [← insE]; exact hb_498))))) (em_toldR (ag := fun σ2 => σ2 = _) (em_cons (em_lamC (n := 1) (t := kLam (lawX P w K mg base f cc A outer s H E) cl 8 (fun σ2 => σ2 = _) (k4 K kSo kI kI kI)) (x := (f_Reigns_told ((firsts_350, firsts_350.map (fun (q : Str × Int) => q.2)), c, row_450, ()))) rfl (nc_cons (nc_cons nc_nil nc_tab) nc_dice) (lam_r (LamX.lamS_by (sc := defScope sLaw) (by decide +kernel)) (fun _ _ _ => rfl) (fun f2 cc2 A2 outer2 s2 H2 E2 hr2 => (pe_mk L.m_told hr2 (by decide) (passE (E := E2)) (pv 17) (pa_cons (pv 2) (pa_cons (pe_ix ix_tup (pv 8) pe_int (fun _ _ => rfl)) pa_nil)))) (fun i h => by rw [show (f_Reigns_told ((firsts_350, firsts_350.map (fun (q : Str × Int) => q.2)), c, row_450, ())) = .er 10 from by exact told_er (none_in fiE (of_decide_eq_true (decide_eq_true (by rw [← insE]; exact hb_498))))] at h; cases h; decide) (fun E2 M2 S2 σ2 I2 e ag => by subst ag; exact (em_meth (pre := pre_Reigns_told) (f := f_Reigns_told) (b := (c, row_450, ())) (em_var (t := (k_Rn K CG)) (v := v_369) (x := (firsts_350, firsts_350.map (fun (q : Str × Int) => q.2))) rfl ((k_Rn K CG).up e r_543)) (ob_Rn fun _ _ _ => rfl) (em_cons (em_var (t := (kCal K C)) (v := (.ref a_1)) (x := c) rfl ((kCal K C).up e r_537)) (em_cons (em_op (em_var (t := (kR K c)) (v := v_451) (x := row_450) rfl ((kR K c).up e r_545)) em_int (o_rowK (j := 0) rfl rfl)) em_nil)) args_mG (by exact trivial))))) em_nil) rfl)) em_str o_neS)) (fun hb_548 o_549 H_547 g_550 w_551 => ?_) (fun hb_553 o_554 H_552 g_555 w_556 => ?_)
                  · try simp only [decide_eq_true_eq, decide_eq_false_iff_not, Bool.and_eq_true, Bool.or_eq_true, Bool.and_eq_false_iff, Bool.or_eq_false_iff, Bool.not_eq_true', Bool.not_eq_false'] at hb_548
                    have r_557 := (kCal K C).up g_550.im r_537
                    have r_558 := (kCal K C).up g_550.im r_538
                    have r_559 := (k_Pa K CP C).up g_550.im r_539
                    have r_560 := (kL K (kR K c)).up g_550.im r_540
                    have r_561 := (kTab (fun n => (yearOf c2 n, ((dateM c2 n : Nat) : Int), dateD c2 n)) (c2.firstOf (F2 c c2 (roll z 9).1).toNat) (k3 K kI kI kI)).up g_550.im r_541
                    have r_562 := (kL K (k2 K kSo kI)).up g_550.im r_542
                    have r_563 := (k_Rn K CG).up g_550.im r_543
                    have r_564 := (kTab (fun n => yearOf c n) (c.firstOf 5) kI).up g_550.im r_544
                    have r_565 := (kR K c).up g_550.im r_545
                    have r_566 := (kL K kI).up g_550.im r_546
                    exact absurd o_549 Bool.false_ne_true
                  · try simp only [decide_eq_true_eq, decide_eq_false_iff_not, Bool.and_eq_true, Bool.or_eq_true, Bool.and_eq_false_iff, Bool.or_eq_false_iff, Bool.not_eq_true', Bool.not_eq_false'] at hb_553
                    have r_567 := (kCal K C).up g_555.im r_537
                    have r_568 := (kCal K C).up g_555.im r_538
                    have r_569 := (k_Pa K CP C).up g_555.im r_539
                    have r_570 := (kL K (kR K c)).up g_555.im r_540
                    have r_571 := (kTab (fun n => (yearOf c2 n, ((dateM c2 n : Nat) : Int), dateD c2 n)) (c2.firstOf (F2 c c2 (roll z 9).1).toNat) (k3 K kI kI kI)).up g_555.im r_541
                    have r_572 := (kL K (k2 K kSo kI)).up g_555.im r_542
                    have r_573 := (k_Rn K CG).up g_555.im r_543
                    have r_574 := (kTab (fun n => yearOf c n) (c.firstOf 5) kI).up g_555.im r_544
                    have r_575 := (kR K c).up g_555.im r_545
                    have r_576 := (kL K kI).up g_555.im r_546
                    exact nx_426 ((roll s_412 (Ca.firstOf c 5)).2) _ _ o_554 (Gr.cast ((((g_455.then g_485 rfl).then g_500 rfl).then g_525 rfl).then g_555 rfl) rfl) w_556 ⟨_, _, _, _, _, _, _, _, _, _, rfl⟩
              · try simp only [decide_eq_true_eq, decide_eq_false_iff_not, Bool.and_eq_true, Bool.or_eq_true, Bool.and_eq_false_iff, Bool.or_eq_false_iff, Bool.not_eq_true', Bool.not_eq_false'] at hb_503
                have r_577 := (kCal K C).up g_505.im r_488
                have r_578 := (kCal K C).up g_505.im r_489
                have r_579 := (k_Pa K CP C).up g_505.im r_490
                have r_580 := (kL K (kR K c)).up g_505.im r_491
                have r_581 := (kTab (fun n => (yearOf c2 n, ((dateM c2 n : Nat) : Int), dateD c2 n)) (c2.firstOf (F2 c c2 (roll z 9).1).toNat) (k3 K kI kI kI)).up g_505.im r_492
                have r_582 := (kL K (k2 K kSo kI)).up g_505.im r_493
                have r_583 := (k_Rn K CG).up g_505.im r_494
                have r_584 := (kTab (fun n => yearOf c n) (c.firstOf 5) kI).up g_505.im r_495
                have r_585 := (kR K c).up g_505.im r_496
                have r_586 := (kL K kI).up g_505.im r_487
                refine g_ifL (E := E0) (cl := cl) (b := (decide ((((atI firsts_350 (-(1 : Int))).getD ("", 0))).2 < (Ca.firstOf c 5)))) w_506 o_504 (gt_test (em_op (em_op (em_op (em_var (t := (kL K (k2 K kSo kI))) (v := (.ref p_275)) (x := firsts_350) rfl r_582) (em_un em_int o_negI) (o_ixLI (at_inG (z := (("" : Str), (0 : Int))) (by omega)))) em_int o_ix21) (em_eq (em_cb (em_cons (em_var (t := (kL K (kR K c))) (v := v_20) (x := (rng 0 (c.firstOf 5))) rfl r_580) em_nil) o_lenL) (by rw [rng_len]; omega)) o_IB)) (fun hb_588 o_589 H_587 g_590 w_591 => ?_) (fun hb_593 o_594 H_592 g_595 w_596 => ?_)
                · try simp only [decide_eq_true_eq, decide_eq_false_iff_not, Bool.and_eq_true, Bool.or_eq_true, Bool.and_eq_false_iff, Bool.or_eq_false_iff, Bool.not_eq_true', Bool.not_eq_false'] at hb_588
                  have r_597 := (kCal K C).up g_590.im r_577
                  have r_598 := (kCal K C).up g_590.im r_578
                  have r_599 := (k_Pa K CP C).up g_590.im r_579
                  have r_600 := (kL K (kR K c)).up g_590.im r_580
                  have r_601 := (kTab (fun n => (yearOf c2 n, ((dateM c2 n : Nat) : Int), dateD c2 n)) (c2.firstOf (F2 c c2 (roll z 9).1).toNat) (k3 K kI kI kI)).up g_590.im r_581
                  have r_602 := (kL K (k2 K kSo kI)).up g_590.im r_582
                  have r_603 := (k_Rn K CG).up g_590.im r_583
                  have r_604 := (kTab (fun n => yearOf c n) (c.firstOf 5) kI).up g_590.im r_584
                  have r_605 := (kR K c).up g_590.im r_585
                  have r_606 := (kL K kI).up g_590.im r_586
                  have insN := ‹¬ inside_480 = []›
                  have lastB := ‹((atI firsts_350 (-1 : Int)).getD ("", 0)).2 < _›
                  have insL : 0 < inside_480.length := List.length_pos_iff.mpr insN
                  have plE := place_is fiE insE insN
                  have rO := plE.2.1
                  refine g_asg (E := E0) (cl := cl) (i := 21) (t := kI) (x := ((atI inside_480 ((inside_480.length : Int) - (1 : Int))).getD 0)) w_591 o_589 (em_op (em_var (t := (kL K kI)) (v := v_481) (x := inside_480) rfl r_606) (em_op (em_cb (em_cons (em_var (t := (kL K kI)) (v := v_481) (x := inside_480) rfl r_606) em_nil) o_lenL) em_int o_I) (o_ixLI (at_in (by omega)))) (fun place_607 v_608 H_609 hx_610 o_611 g_612 w_613 r_614 => ?_)
                  have r_615 := (kCal K C).up g_612.im r_597
                  have r_616 := (kCal K C).up g_612.im r_598
                  have r_617 := (k_Pa K CP C).up g_612.im r_599
                  have r_618 := (kL K (kR K c)).up g_612.im r_600
                  have r_619 := (kTab (fun n => (yearOf c2 n, ((dateM c2 n : Nat) : Int), dateD c2 n)) (c2.firstOf (F2 c c2 (roll z 9).1).toNat) (k3 K kI kI kI)).up g_612.im r_601
                  have r_620 := (kL K (k2 K kSo kI)).up g_612.im r_602
                  have r_621 := (k_Rn K CG).up g_612.im r_603
                  have r_622 := (kTab (fun n => yearOf c n) (c.firstOf 5) kI).up g_612.im r_604
                  have r_623 := (kR K c).up g_612.im r_605
                  have r_624 := (kL K kI).up g_612.im r_606
                  obtain rfl : v_608 = (.int place_607) := r_614
                  refine nrm (σ' := [some (.ref sc), some (.ref d), some (.ref a_1), some (.ref b_2), some (.int (roll z 9).1), some v_10, some v_20, some v_45, some v_451, l_136, some (.int start_138), l_271, l_272, l_273, some (.ref p_275), some (.int here_349), l_435, some v_369, some v_397, some (.int x_411), some v_481, some (.int place_607), l_436, l_437, l_438, l_439, l_440, l27, l28, l29, l30]) rfl ?_
                  refine g_asgG (E := E0) (cl := cl) (t := (k4 K kSo kI kI kI)) (x := (toldV c firsts_350 row_450)) w_613 eg_4 o_611 (em_methP (pre := pre_Reigns_told) (f := f_Reigns_told) (y := (toldV c firsts_350 row_450)) (b := (c, row_450, ())) (em_var (t := (k_Rn K CG)) (v := v_369) (x := (firsts_350, firsts_350.map (fun (q : Str × Int) => q.2))) rfl r_621) (ob_Rn fun _ _ _ => rfl) (em_cons (em_var (t := (kCal K C)) (v := (.ref a_1)) (x := c) rfl r_615) (em_cons (em_op (em_var (t := (kR K c)) (v := v_451) (x := row_450) rfl r_623) em_int (o_rowK (j := 0) rfl rfl)) em_nil)) args_mG (by exact trivial) (by exact told_ok rO)) (fun p_625 σ_626 H_627 hx_628 o_629 g_630 w_631 b => ?_)
                  subst hx_628
                  have r_634 := (kCal K C).up g_630.im r_615
                  have r_635 := (kCal K C).up g_630.im r_616
                  have r_636 := (k_Pa K CP C).up g_630.im r_617
                  have r_637 := (kL K (kR K c)).up g_630.im r_618
                  have r_638 := (kTab (fun n => (yearOf c2 n, ((dateM c2 n : Nat) : Int), dateD c2 n)) (c2.firstOf (F2 c c2 (roll z 9).1).toNat) (k3 K kI kI kI)).up g_630.im r_619
                  have r_639 := (kL K (k2 K kSo kI)).up g_630.im r_620
                  have r_640 := (k_Rn K CG).up g_630.im r_621
                  have r_641 := (kTab (fun n => yearOf c n) (c.firstOf 5) kI).up g_630.im r_622
                  have r_642 := (kR K c).up g_630.im r_623
                  have r_643 := (kL K kI).up g_630.im r_624
                  obtain ⟨v_632, _, _, _, r_633, rfl, rfl, rfl, rfl⟩ := b
                  refine nrm (σ' := [some (.ref sc), some (.ref d), some (.ref a_1), some (.ref b_2), some (.int (roll z 9).1), some v_10, some v_20, some v_45, some v_451, l_136, some (.int start_138), l_271, l_272, l_273, some (.ref p_275), some (.int here_349), some v_632, some v_369, some v_397, some (.int x_411), some v_481, some (.int place_607), some (.int (toldV c firsts_350 row_450).2.1), some (.int (toldV c firsts_350 row_450).2.2.1), some (.int (toldV c firsts_350 row_450).2.2.2), l_439, l_440, l27, l28, l29, l30]) rfl ?_
                  have plB : place_607 = rOf firsts_350 row_450 := by rw [hx_610]; exact plE.1
                  have plL : 0 ≤ place_607 ∧ place_607 < (firsts_350.length : Int) := by rw [plB]; exact ⟨rO, plE.2.2⟩
                  have plF : 0 ≤ ((atI firsts_350 place_607).getD ("", 0)).2 ∧ ((atI firsts_350 place_607).getD ("", 0)).2 < c.firstOf 5 := first_in fiE lastB plL
                  refine g_when (E := E0) (cl := cl) (b := ((!decide ((rOf firsts_350 row_450) = place_607)) || ((!decide (((toldV c firsts_350 row_450).1, (toldV c firsts_350 row_450).2.2.1, (toldV c firsts_350 row_450).2.2.2) = ((((atI firsts_350 place_607).getD ("", 0))).1, ((dateM c row_450 : Nat) : Int), (dateD c row_450)))) || (!decide ((toldV c firsts_350 row_450).2.1 = (((yearOf c row_450) - (yearOf c (((atI firsts_350 place_607).getD ("", 0))).2)) + (1 : Int))))))) w_631 o_629 (gt_or (gt_test (em_op (em_methP (pre := pre_Reigns_reign) (f := f_Reigns_reign) (y := (rOf firsts_350 row_450)) (b := (row_450, ())) (em_var (t := (k_Rn K CG)) (v := v_369) (x := (firsts_350, firsts_350.map (fun (q : Str × Int) => q.2))) rfl r_640) (ob_Rn fun _ _ _ => rfl) (em_cons (em_op (em_var (t := (kR K c)) (v := v_451) (x := row_450) rfl r_642) em_int (o_rowK (j := 0) rfl rfl)) em_nil) args_mG (by exact trivial) (by exact reign_ok rO)) (em_var (t := kI) (v := (.int place_607)) (x := place_607) rfl rfl) o_neI)) (fun h_644 => (gt_or (gt_test (em_op (em_t3 K (em_cons (em_var (t := kSo) (v := v_632) (x := (toldV c firsts_350 row_450).1) rfl r_633) (em_cons (em_var (t := kI) (v := (.int (toldV c firsts_350 row_450).2.2.1)) (x := (toldV c firsts_350 row_450).2.2.1) rfl rfl) (em_cons (em_var (t := kI) (v := (.int (toldV c firsts_350 row_450).2.2.2)) (x := (toldV c firsts_350 row_450).2.2.2) rfl rfl) em_nil)))) (em_t3 K (em_cons (em_op (em_op (em_var (t := (kL K (k2 K kSo kI))) (v := (.ref p_275)) (x := firsts_350) rfl r_639) (em_var (t := kI) (v := (.int place_607)) (x := place_607) rfl rfl) (o_ixLI (at_inG (z := (("" : Str), (0 : Int))) (by omega)))) em_int o_ix20) (em_cons (em_op (em_var (t := (kR K c)) (v := v_451) (x := row_450) rfl r_642) em_int (o_rowK (j := 2) rfl rfl)) (em_cons (em_op (em_var (t := (kR K c)) (v := v_451) (x := row_450) rfl r_642) em_int (o_rowK (j := 3) rfl rfl)) em_nil)))) (o_neD (d3 dS dI dI) (by decide)))) (fun h_645 => (gt_test (em_op (em_var (t := kI) (v := (.int (toldV c firsts_350 row_450).2.1)) (x := (toldV c firsts_350 row_450).2.1) rfl rfl) (em_op (em_op (em_op (em_var (t := (kR K c)) (v := v_451) (x := row_450) rfl r_642) em_int (o_rowK (j := 1) rfl rfl)) (em_tabGet (f := (fun n => yearOf c n)) (em_var (t := (kTab (fun n => yearOf c n) (c.firstOf 5) kI)) (v := v_397) (x := ()) rfl r_641) (em_op (em_op (em_var (t := (kL K (k2 K kSo kI))) (v := (.ref p_275)) (x := firsts_350) rfl r_639) (em_var (t := kI) (v := (.int place_607)) (x := place_607) rfl rfl) (o_ixLI (at_inG (z := (("" : Str), (0 : Int))) (by omega)))) em_int o_ix21) (by omega)) o_I) em_int o_I) o_neI)))))) (fun hb_648 o_649 H_647 g_650 w_651 => ?_) (fun hb_653 o_654 H_652 g_655 w_656 => ?_)
                  · try simp only [decide_eq_true_eq, decide_eq_false_iff_not, Bool.and_eq_true, Bool.or_eq_true, Bool.and_eq_false_iff, Bool.or_eq_false_iff, Bool.not_eq_true', Bool.not_eq_false'] at hb_648
                    have r_657 := (kCal K C).up g_650.im r_634
                    have r_658 := (kCal K C).up g_650.im r_635
                    have r_659 := (k_Pa K CP C).up g_650.im r_636
                    have r_660 := (kL K (kR K c)).up g_650.im r_637
                    have r_661 := (kTab (fun n => (yearOf c2 n, ((dateM c2 n : Nat) : Int), dateD c2 n)) (c2.firstOf (F2 c c2 (roll z 9).1).toNat) (k3 K kI kI kI)).up g_650.im r_638
                    have r_662 := (kL K (k2 K kSo kI)).up g_650.im r_639
                    have r_663 := (k_Rn K CG).up g_650.im r_640
                    have r_664 := (kTab (fun n => yearOf c n) (c.firstOf 5) kI).up g_650.im r_641
                    have r_665 := (kR K c).up g_650.im r_642
                    have r_666 := (kL K kI).up g_650.im r_643
                    have r_667 := kSo.up g_650.im r_633
                    exact absurd o_649 Bool.false_ne_true
                  · try simp only [decide_eq_true_eq, decide_eq_false_iff_not, Bool.and_eq_true, Bool.or_eq_true, Bool.and_eq_false_iff, Bool.or_eq_false_iff, Bool.not_eq_true', Bool.not_eq_false'] at hb_653
                    have r_668 := (kCal K C).up g_655.im r_634
                    have r_669 := (kCal K C).up g_655.im r_635
                    have r_670 := (k_Pa K CP C).up g_655.im r_636
                    have r_671 := (kL K (kR K c)).up g_655.im r_637
                    have r_672 := (kTab (fun n => (yearOf c2 n, ((dateM c2 n : Nat) : Int), dateD c2 n)) (c2.firstOf (F2 c c2 (roll z 9).1).toNat) (k3 K kI kI kI)).up g_655.im r_638
                    have r_673 := (kL K (k2 K kSo kI)).up g_655.im r_639
                    have r_674 := (k_Rn K CG).up g_655.im r_640
                    have r_675 := (kTab (fun n => yearOf c n) (c.firstOf 5) kI).up g_655.im r_641
                    have r_676 := (kR K c).up g_655.im r_642
                    have r_677 := (kL K kI).up g_655.im r_643
                    have r_678 := kSo.up g_655.im r_633
                    refine g_asg (E := E0) (cl := cl) (i := 25) (t := kI) (x := (dnV c firsts_350 (toldV c firsts_350 row_450).1 (toldV c firsts_350 row_450).2.1 (toldV c firsts_350 row_450).2.2.1 (toldV c firsts_350 row_450).2.2.2)) w_656 o_654 (em_methP (pre := pre_Reigns_day_number) (f := f_Reigns_day_number) (y := (dnV c firsts_350 (toldV c firsts_350 row_450).1 (toldV c firsts_350 row_450).2.1 (toldV c firsts_350 row_450).2.2.1 (toldV c firsts_350 row_450).2.2.2)) (b := (c, (toldV c firsts_350 row_450).1, (toldV c firsts_350 row_450).2.1, (toldV c firsts_350 row_450).2.2.1, (toldV c firsts_350 row_450).2.2.2, ())) (em_var (t := (k_Rn K CG)) (v := v_369) (x := (firsts_350, firsts_350.map (fun (q : Str × Int) => q.2))) rfl r_674) (ob_Rn fun _ _ _ => rfl) (em_cons (em_var (t := (kCal K C)) (v := (.ref a_1)) (x := c) rfl r_668) (em_cons (em_var (t := kSo) (v := v_632) (x := (toldV c firsts_350 row_450).1) rfl r_678) (em_cons (em_var (t := kI) (v := (.int (toldV c firsts_350 row_450).2.1)) (x := (toldV c firsts_350 row_450).2.1) rfl rfl) (em_cons (em_var (t := kI) (v := (.int (toldV c firsts_350 row_450).2.2.1)) (x := (toldV c firsts_350 row_450).2.2.1) rfl rfl) (em_cons (em_var (t := kI) (v := (.int (toldV c firsts_350 row_450).2.2.2)) (x := (toldV c firsts_350 row_450).2.2.2) rfl rfl) em_nil))))) args_mG (by exact month_at okc) (by exact dn_ok okc fiE (by omega) rO)) (fun found_679 v_680 H_681 hx_682 o_683 g_684 w_685 r_686 => ?_)
                    have r_687 := (kCal K C).up g_684.im r_668
                    have r_688 := (kCal K C).up g_684.im r_669
                    have r_689 := (k_Pa K CP C).up g_684.im r_670
                    have r_690 := (kL K (kR K c)).up g_684.im r_671
                    have r_691 := (kTab (fun n => (yearOf c2 n, ((dateM c2 n : Nat) : Int), dateD c2 n)) (c2.firstOf (F2 c c2 (roll z 9).1).toNat) (k3 K kI kI kI)).up g_684.im r_672
                    have r_692 := (kL K (k2 K kSo kI)).up g_684.im r_673
                    have r_693 := (k_Rn K CG).up g_684.im r_674
                    have r_694 := (kTab (fun n => yearOf c n) (c.firstOf 5) kI).up g_684.im r_675
                    have r_695 := (kR K c).up g_684.im r_676
                    have r_696 := (kL K kI).up g_684.im r_677
                    have r_697 := kSo.up g_684.im r_678
                    obtain rfl : v_680 = (.int found_679) := r_686
                    refine nrm (σ' := [some (.ref sc), some (.ref d), some (.ref a_1), some (.ref b_2), some (.int (roll z 9).1), some v_10, some v_20, some v_45, some v_451, l_136, some (.int start_138), l_271, l_272, l_273, some (.ref p_275), some (.int here_349), some v_632, some v_369, some v_397, some (.int x_411), some v_481, some (.int place_607), some (.int (toldV c firsts_350 row_450).2.1), some (.int (toldV c firsts_350 row_450).2.2.1), some (.int (toldV c firsts_350 row_450).2.2.2), some (.int found_679), l_440, l27, l28, l29, l30]) rfl ?_
                    refine g_asg (E := E0) (cl := cl) (i := 26) (t := (kL K kI)) (x := (((rng 0 (c.firstOf 5)).filter (fun (x_698 : Int) => ((decide ((((atI firsts_350 (0 : Int)).getD ("", 0))).2 ≤ x_698)) && (decide ((toldV c firsts_350 x_698) = ((toldV c firsts_350 row_450).1, (toldV c firsts_350 row_450).2.1, (toldV c firsts_350 row_450).2.2.1, (toldV c firsts_350 row_450).2.2.2)))))).map (fun (x_698 : Int) => x_698))) w_685 o_683 (em_lc (K := K) (u := kI) (fun x_698 => ((decide ((((atI firsts_350 (0 : Int)).getD ("", 0))).2 ≤ x_698)) && (decide ((toldV c firsts_350 x_698) = ((toldV c firsts_350 row_450).1, (toldV c firsts_350 row_450).2.1, (toldV c firsts_350 row_450).2.2.1, (toldV c firsts_350 row_450).2.2.2))))) (fun x_698 => x_698) (ei_L (em_var (t := (kL K (kR K c))) (v := v_20) (x := (rng 0 (c.firstOf 5))) rfl r_690)) (by rw [rng_len]; omega) eg_name (fun _ _ _ b => by obtain ⟨v_710, r_711, rfl⟩ := b; rfl) (fun M_704 S_705 I_699 x_698 s_703 e_700 m_701 b_702 => by obtain ⟨v_710, r_711, rfl⟩ := b_702; rw [rng_mem] at m_701; exact (gt_and (gt_test (em_op (em_op (em_var (t := (kR K c)) (v := v_710) (x := x_698) rfl r_711) em_int (o_rowK (j := 0) rfl rfl)) (em_op (em_op (em_var (t := (kL K (k2 K kSo kI))) (v := (.ref p_275)) (x := firsts_350) rfl ((kL K (k2 K kSo kI)).up e_700 r_692)) em_int (o_ixLI (at_inG (z := (("" : Str), (0 : Int))) (by omega)))) em_int o_ix21) o_IB)) (fun h_712 => (gt_test (em_op (em_methP (pre := pre_Reigns_told) (f := f_Reigns_told) (y := (toldV c firsts_350 x_698)) (b := (c, x_698, ())) (em_var (t := (k_Rn K CG)) (v := v_369) (x := (firsts_350, firsts_350.map (fun (q : Str × Int) => q.2))) rfl ((k_Rn K CG).up e_700 r_693)) (ob_Rn fun _ _ _ => rfl) (em_cons (em_var (t := (kCal K C)) (v := (.ref a_1)) (x := c) rfl ((kCal K C).up e_700 r_687)) (em_cons (em_op (em_var (t := (kR K c)) (v := v_710) (x := x_698) rfl r_711) em_int (o_rowK (j := 0) rfl rfl)) em_nil)) args_mG (by exact trivial) (by exact told_ok (r_of_first fiE (by omega) (of_decide_eq_true h_712)))) (em_t4 K (em_cons (em_var (t := kSo) (v := v_632) (x := (toldV c firsts_350 row_450).1) rfl (kSo.up e_700 r_697)) (em_cons (em_var (t := kI) (v := (.int (toldV c firsts_350 row_450).2.1)) (x := (toldV c firsts_350 row_450).2.1) rfl rfl) (em_cons (em_var (t := kI) (v := (.int (toldV c firsts_350 row_450).2.2.1)) (x := (toldV c firsts_350 row_450).2.2.1) rfl rfl) (em_cons (em_var (t := kI) (v := (.int (toldV c firsts_350 row_450).2.2.2)) (x := (toldV c firsts_350 row_450).2.2.2) rfl rfl) em_nil))))) (o_eqD (d4 dS dI dI dI) (by decide))))))) (fun M_704 S_705 I_699 x_698 s_703 e_700 m_701 c_709 b_702 => by obtain ⟨v_710, r_711, rfl⟩ := b_702; rw [rng_mem] at m_701; exact (em_op (em_var (t := (kR K c)) (v := v_710) (x := x_698) rfl r_711) em_int (o_rowK (j := 0) rfl rfl)))) (fun same_now_714 v_715 H_716 hx_717 o_718 g_719 w_720 r_721 => ?_)
                    have r_722 := (kCal K C).up g_719.im r_687
                    have r_723 := (kCal K C).up g_719.im r_688
                    have r_724 := (k_Pa K CP C).up g_719.im r_689
                    have r_725 := (kL K (kR K c)).up g_719.im r_690
                    have r_726 := (kTab (fun n => (yearOf c2 n, ((dateM c2 n : Nat) : Int), dateD c2 n)) (c2.firstOf (F2 c c2 (roll z 9).1).toNat) (k3 K kI kI kI)).up g_719.im r_691
                    have r_727 := (kL K (k2 K kSo kI)).up g_719.im r_692
                    have r_728 := (k_Rn K CG).up g_719.im r_693
                    have r_729 := (kTab (fun n => yearOf c n) (c.firstOf 5) kI).up g_719.im r_694
                    have r_730 := (kR K c).up g_719.im r_695
                    have r_731 := (kL K kI).up g_719.im r_696
                    have r_732 := kSo.up g_719.im r_697
                    refine nrm (σ' := [some (.ref sc), some (.ref d), some (.ref a_1), some (.ref b_2), some (.int (roll z 9).1), some v_10, some v_20, some v_45, some v_451, l_136, some (.int start_138), l_271, l_272, l_273, some (.ref p_275), some (.int here_349), some v_632, some v_369, some v_397, some (.int x_411), some v_481, some (.int place_607), some (.int (toldV c firsts_350 row_450).2.1), some (.int (toldV c firsts_350 row_450).2.2.1), some (.int (toldV c firsts_350 row_450).2.2.2), some (.int found_679), some v_715, l27, l28, l29, l30]) rfl ?_
                    have snN := same_ne okc fiE (by omega) rO rowIn hx_717
                    refine g_ifL (E := E0) (cl := cl) (b := (!decide (found_679 = ((atI same_now_714 (0 : Int)).getD 0)))) w_720 o_718 (gt_test (em_op (em_var (t := kI) (v := (.int found_679)) (x := found_679) rfl rfl) (em_op (em_var (t := (kL K kI)) (v := v_715) (x := same_now_714) rfl r_721) em_int (o_ixLI (at_in (by omega)))) o_neI)) (fun hb_734 o_735 H_733 g_736 w_737 => ?_) (fun hb_739 o_740 H_738 g_741 w_742 => ?_)
                    · try simp only [decide_eq_true_eq, decide_eq_false_iff_not, Bool.and_eq_true, Bool.or_eq_true, Bool.and_eq_false_iff, Bool.or_eq_false_iff, Bool.not_eq_true', Bool.not_eq_false'] at hb_734
                      have r_743 := (kCal K C).up g_736.im r_722
                      have r_744 := (kCal K C).up g_736.im r_723
                      have r_745 := (k_Pa K CP C).up g_736.im r_724
                      have r_746 := (kL K (kR K c)).up g_736.im r_725
                      have r_747 := (kTab (fun n => (yearOf c2 n, ((dateM c2 n : Nat) : Int), dateD c2 n)) (c2.firstOf (F2 c c2 (roll z 9).1).toNat) (k3 K kI kI kI)).up g_736.im r_726
                      have r_748 := (kL K (k2 K kSo kI)).up g_736.im r_727
                      have r_749 := (k_Rn K CG).up g_736.im r_728
                      have r_750 := (kTab (fun n => yearOf c n) (c.firstOf 5) kI).up g_736.im r_729
                      have r_751 := (kR K c).up g_736.im r_730
                      have r_752 := (kL K kI).up g_736.im r_731
                      have r_753 := kSo.up g_736.im r_732
                      have r_754 := (kL K kI).up g_736.im r_721
                      exact absurd o_735 Bool.false_ne_true
                    · try simp only [decide_eq_true_eq, decide_eq_false_iff_not, Bool.and_eq_true, Bool.or_eq_true, Bool.and_eq_false_iff, Bool.or_eq_false_iff, Bool.not_eq_true', Bool.not_eq_false'] at hb_739
                      have r_755 := (kCal K C).up g_741.im r_722
                      have r_756 := (kCal K C).up g_741.im r_723
                      have r_757 := (k_Pa K CP C).up g_741.im r_724
                      have r_758 := (kL K (kR K c)).up g_741.im r_725
                      have r_759 := (kTab (fun n => (yearOf c2 n, ((dateM c2 n : Nat) : Int), dateD c2 n)) (c2.firstOf (F2 c c2 (roll z 9).1).toNat) (k3 K kI kI kI)).up g_741.im r_726
                      have r_760 := (kL K (k2 K kSo kI)).up g_741.im r_727
                      have r_761 := (k_Rn K CG).up g_741.im r_728
                      have r_762 := (kTab (fun n => yearOf c n) (c.firstOf 5) kI).up g_741.im r_729
                      have r_763 := (kR K c).up g_741.im r_730
                      have r_764 := (kL K kI).up g_741.im r_731
                      have r_765 := kSo.up g_741.im r_732
                      have r_766 := (kL K kI).up g_741.im r_721
                      exact nx_426 ((roll s_412 (Ca.firstOf c 5)).2) _ _ o_740 (Gr.cast (((((((((g_455.then g_485 rfl).then g_505 rfl).then g_590 rfl).then g_612 rfl).then g_630 rfl).then g_655 rfl).then g_684 rfl).then g_719 rfl).then g_741 rfl) rfl) w_742 ⟨_, _, _, _, _, _, _, _, _, _, rfl⟩
                · try simp only [decide_eq_true_eq, decide_eq_false_iff_not, Bool.and_eq_true, Bool.or_eq_true, Bool.and_eq_false_iff, Bool.or_eq_false_iff, Bool.not_eq_true', Bool.not_eq_false'] at hb_593
                  have r_767 := (kCal K C).up g_595.im r_577
                  have r_768 := (kCal K C).up g_595.im r_578
                  have r_769 := (k_Pa K CP C).up g_595.im r_579
                  have r_770 := (kL K (kR K c)).up g_595.im r_580
                  have r_771 := (kTab (fun n => (yearOf c2 n, ((dateM c2 n : Nat) : Int), dateD c2 n)) (c2.firstOf (F2 c c2 (roll z 9).1).toNat) (k3 K kI kI kI)).up g_595.im r_581
                  have r_772 := (kL K (k2 K kSo kI)).up g_595.im r_582
                  have r_773 := (k_Rn K CG).up g_595.im r_583
                  have r_774 := (kTab (fun n => yearOf c n) (c.firstOf 5) kI).up g_595.im r_584
                  have r_775 := (kR K c).up g_595.im r_585
                  have r_776 := (kL K kI).up g_595.im r_586
                  exact nx_426 ((roll s_412 (Ca.firstOf c 5)).2) _ _ o_594 (Gr.cast (((g_455.then g_485 rfl).then g_505 rfl).then g_595 rfl) rfl) w_596 ⟨_, _, _, _, _, _, _, _, _, _, rfl⟩
          · obtain ⟨here_305, firsts_306, dice_307⟩ := s_287
            obtain ⟨l_308, rfl, iv_309⟩ := rv_297
            simp only [List.length_cons] at iv_309
            have r_310 := (kCal K C).up g_294.im r_281
            have r_311 := (kCal K C).up g_294.im r_282
            have r_312 := (k_Pa K CP C).up g_294.im r_283
            have r_313 := (kL K (kR K c)).up g_294.im r_284
            have r_314 := (kTab (fun n => (yearOf c2 n, ((dateM c2 n : Nat) : Int), dateD c2 n)) (c2.firstOf (F2 c c2 (roll z 9).1).toNat) (k3 K kI kI kI)).up g_294.im r_285
            obtain ⟨v_303, r_304, rfl⟩ := b_298
            have nmz := name_ok hm_293
            refine nrm (σ' := [some (.ref sc), some (.ref d), some (.ref a_1), some (.ref b_2), some (.int (roll z 9).1), some v_10, some v_20, some v_45, l_135, l_136, some (.int start_138), l_271, l_272, l_273, some (.ref p_275), some (.int here_305), some v_303, l17, l18, l19, l20, l21, l22, l23, l24, l25, l26, l27, l28, l29, l30]) rfl ?_
            refine g_asg (E := E0) (cl := cl) (i := 15) (t := kI) (x := ((here_305 + (1 : Int)) + (roll dice_307 (15 : Int)).1)) w_295 o_299 (em_op (em_op (em_var (t := kI) (v := (.int here_305)) (x := here_305) rfl rfl) em_int o_I) (em_roll (n := 1) (em_cons (em_var (t := kPtr d) (v := .ref d) (x := ()) rfl rfl) (em_cons em_int em_nil)) rfl (by omega)) o_I) (fun here_315 v_316 H_317 hx_318 o_319 g_320 w_321 r_322 => ?_)
            have r_323 := (kCal K C).up g_320.im r_310
            have r_324 := (kCal K C).up g_320.im r_311
            have r_325 := (k_Pa K CP C).up g_320.im r_312
            have r_326 := (kL K (kR K c)).up g_320.im r_313
            have r_327 := (kTab (fun n => (yearOf c2 n, ((dateM c2 n : Nat) : Int), dateD c2 n)) (c2.firstOf (F2 c c2 (roll z 9).1).toNat) (k3 K kI kI kI)).up g_320.im r_314
            have r_328 := kSo.up g_320.im r_304
            obtain rfl : v_316 = (.int here_315) := r_322
            refine nrm (σ' := [some (.ref sc), some (.ref d), some (.ref a_1), some (.ref b_2), some (.int (roll z 9).1), some v_10, some v_20, some v_45, l_135, l_136, some (.int start_138), l_271, l_272, l_273, some (.ref p_275), some (.int here_315), some v_303, l17, l18, l19, l20, l21, l22, l23, l24, l25, l26, l27, l28, l29, l30]) rfl ?_
            refine g_appL (E := E0) (cl := cl) (n := 0) (t := (k2 K kSo kI)) (acc0 := firsts_306) (acc := firsts_306) (x := (x_286, here_315)) w_321 o_319 (em_var (t := kPtr p_275) (v := (.ref p_275)) (x := ()) rfl rfl) (em_t2 K (em_cons (em_var (t := kSo) (v := v_303) (x := x_286) rfl r_328) (em_cons (em_var (t := kI) (v := (.int here_315)) (x := here_315) rfl rfl) em_nil))) rfl rfl (by have q := ‹FI _ _ ∧ _›; omega) (fun firsts_329 H_330 hx_331 o_332 g_333 w_334 => ?_)
            have r_335 := (kCal K C).up g_333.im r_323
            have r_336 := (kCal K C).up g_333.im r_324
            have r_337 := (k_Pa K CP C).up g_333.im r_325
            have r_338 := (kL K (kR K c)).up g_333.im r_326
            have r_339 := (kTab (fun n => (yearOf c2 n, ((dateM c2 n : Nat) : Int), dateD c2 n)) (c2.firstOf (F2 c c2 (roll z 9).1).toNat) (k3 K kI kI kI)).up g_333.im r_327
            have r_340 := kSo.up g_333.im r_328
            have ln_341 : firsts_329.length = firsts_306.length + 1 := by rw [hx_331, List.length_append]; rfl
            exact nx_301 (here_315, firsts_329, (roll dice_307 (15 : Int)).2) _ _ o_332 (Gr.cast (g_320.then g_333 rfl) rfl) w_334 ⟨_, rfl, by have q := ‹FI _ _ ∧ _›; subst_vars; exact ⟨fi_step q.1 (roll_in _ (by decide)) nmz, by have := q.2; rw [List.length_append]; show _ + 1 + _ = _; omega⟩⟩
        · obtain ⟨l_170, l_171, l_172, rfl⟩ := rv_162
          have r_174 := (kCal K C).up g_159.im r_146
          have r_175 := (kCal K C).up g_159.im r_147
          have r_176 := (k_Pa K CP C).up g_159.im r_148
          have r_177 := (kL K (kR K c)).up g_159.im r_149
          have r_178 := (kTab (fun n => (yearOf c2 n, ((dateM c2 n : Nat) : Int), dateD c2 n)) (c2.firstOf (F2 c c2 (roll z 9).1).toNat) (k3 K kI kI kI)).up g_159.im r_150
          obtain ⟨_, rfl, rfl⟩ := b_163
          have unB := hm_158
          refine nrm (σ' := [some (.ref sc), some (.ref d), some (.ref a_1), some (.ref b_2), some (.int (roll z 9).1), some v_10, some v_20, some v_45, l_135, l_136, some (.int start_138), some (.str x_151), l_171, l_172, l14, l15, l16, l17, l18, l19, l20, l21, l22, l23, l24, l25, l26, l27, l28, l29, l30]) rfl ?_
          refine g_asg (E := E0) (cl := cl) (i := 12) (t := (kL K kI)) (x := (((rng 0 (c.firstOf 5)).filter (fun (x_179 : Int) => ((decide (start_138 ≤ x_179)) && ((decide ((dateD c x_179) = (0 : Int))) && ((decide ((dateD c2 (x_179 + (roll z 9).1)) = (0 : Int))) && ((decide (x_151 = ("month" : Str))) || ((decide (((dateM c x_179 : Nat) : Int) = (0 : Int))) && (decide (((dateM c2 (x_179 + (roll z 9).1) : Nat) : Int) = (0 : Int)))))))))).map (fun (x_179 : Int) => x_179))) w_160 o_164 (em_lc (K := K) (u := kI) (fun x_179 => ((decide (start_138 ≤ x_179)) && ((decide ((dateD c x_179) = (0 : Int))) && ((decide ((dateD c2 (x_179 + (roll z 9).1)) = (0 : Int))) && ((decide (x_151 = ("month" : Str))) || ((decide (((dateM c x_179 : Nat) : Int) = (0 : Int))) && (decide (((dateM c2 (x_179 + (roll z 9).1) : Nat) : Int) = (0 : Int))))))))) (fun x_179 => x_179) (ei_L (em_var (t := (kL K (kR K c))) (v := v_20) (x := (rng 0 (c.firstOf 5))) rfl r_177)) (by rw [rng_len]; omega) eg_name (fun _ _ _ b => by obtain ⟨v_191, r_192, rfl⟩ := b; rfl) (fun M_185 S_186 I_180 x_179 s_184 e_181 m_182 b_183 => by obtain ⟨v_191, r_192, rfl⟩ := b_183; rw [rng_mem] at m_182; exact (gt_and (gt_test (em_op (em_op (em_var (t := (kR K c)) (v := v_191) (x := x_179) rfl r_192) em_int (o_rowK (j := 0) rfl rfl)) (em_var (t := kI) (v := (.int start_138)) (x := start_138) rfl rfl) o_IB)) (fun h_193 => (gt_and (gt_test (em_op (em_op (em_var (t := (kR K c)) (v := v_191) (x := x_179) rfl r_192) em_int (o_rowK (j := 3) rfl rfl)) em_int o_eqI)) (fun h_194 => (gt_and (gt_test (em_op (em_op (em_tabGet (f := (fun n => (yearOf c2 n, ((dateM c2 n : Nat) : Int), dateD c2 n))) (em_var (t := (kTab (fun n => (yearOf c2 n, ((dateM c2 n : Nat) : Int), dateD c2 n)) (c2.firstOf (F2 c c2 (roll z 9).1).toNat) (k3 K kI kI kI))) (v := v_45) (x := ()) rfl ((kTab (fun n => (yearOf c2 n, ((dateM c2 n : Nat) : Int), dateD c2 n)) (c2.firstOf (F2 c c2 (roll z 9).1).toNat) (k3 K kI kI kI)).up e_181 r_178)) (em_op (em_op (em_var (t := (kR K c)) (v := v_191) (x := x_179) rfl r_192) em_int (o_rowK (j := 0) rfl rfl)) (em_var (t := kI) (v := (.int (roll z 9).1)) (x := (roll z 9).1) rfl rfl) o_I) (by have farB := f2_far okc tic ofB oke tie; omega)) em_int o_ix32) em_int o_eqI)) (fun h_195 => (gt_or (gt_test (em_op (em_var (t := kS) (v := (.str x_151)) (x := x_151) rfl rfl) em_str o_eqS)) (fun h_196 => (gt_and (gt_test (em_op (em_op (em_var (t := (kR K c)) (v := v_191) (x := x_179) rfl r_192) em_int (o_rowK (j := 2) rfl rfl)) em_int o_eqI)) (fun h_197 => (gt_test (em_op (em_op (em_tabGet (f := (fun n => (yearOf c2 n, ((dateM c2 n : Nat) : Int), dateD c2 n))) (em_var (t := (kTab (fun n => (yearOf c2 n, ((dateM c2 n : Nat) : Int), dateD c2 n)) (c2.firstOf (F2 c c2 (roll z 9).1).toNat) (k3 K kI kI kI))) (v := v_45) (x := ()) rfl ((kTab (fun n => (yearOf c2 n, ((dateM c2 n : Nat) : Int), dateD c2 n)) (c2.firstOf (F2 c c2 (roll z 9).1).toNat) (k3 K kI kI kI)).up e_181 r_178)) (em_op (em_op (em_var (t := (kR K c)) (v := v_191) (x := x_179) rfl r_192) em_int (o_rowK (j := 0) rfl rfl)) (em_var (t := kI) (v := (.int (roll z 9).1)) (x := (roll z 9).1) rfl rfl) o_I) (by have farB := f2_far okc tic ofB oke tie; omega)) em_int o_ix31) em_int o_eqI))))))))))))) (fun M_185 S_186 I_180 x_179 s_184 e_181 m_182 c_190 b_183 => by obtain ⟨v_191, r_192, rfl⟩ := b_183; rw [rng_mem] at m_182; exact (em_op (em_var (t := (kR K c)) (v := v_191) (x := x_179) rfl r_192) em_int (o_rowK (j := 0) rfl rfl)))) (fun good_201 v_202 H_203 hx_204 o_205 g_206 w_207 r_208 => ?_)
          have r_209 := (kCal K C).up g_206.im r_174
          have r_210 := (kCal K C).up g_206.im r_175
          have r_211 := (k_Pa K CP C).up g_206.im r_176
          have r_212 := (kL K (kR K c)).up g_206.im r_177
          have r_213 := (kTab (fun n => (yearOf c2 n, ((dateM c2 n : Nat) : Int), dateD c2 n)) (c2.firstOf (F2 c c2 (roll z 9).1).toNat) (k3 K kI kI kI)).up g_206.im r_178
          refine nrm (σ' := [some (.ref sc), some (.ref d), some (.ref a_1), some (.ref b_2), some (.int (roll z 9).1), some v_10, some v_20, some v_45, l_135, l_136, some (.int start_138), some (.str x_151), some v_202, l_172, l14, l15, l16, l17, l18, l19, l20, l21, l22, l23, l24, l25, l26, l27, l28, l29, l30]) rfl ?_
          refine g_asg (E := E0) (cl := cl) (i := 13) (t := (kRe kI)) (x := (f_Pair_both_begin ((c, c2, (roll z 9).1), start_138, x_151, (60 : Int), ()))) w_207 o_205 (em_toldR (ag := fun σ2 => σ2 = _) (em_cons (em_lamC (n := 1) (t := kLam (lawX P w K mg base f cc A outer s H E) cl 8 (fun σ2 => σ2 = _) kI) (x := (f_Pair_both_begin ((c, c2, (roll z 9).1), start_138, x_151, (60 : Int), ()))) rfl (nc_cons (nc_cons nc_nil nc_tab) nc_dice) (lam_r (LamX.lamS_by (sc := defScope sLaw) (by decide +kernel)) (fun _ _ _ => rfl) (fun f2 cc2 A2 outer2 s2 H2 E2 hr2 => (pe_mk L.m_both_begin hr2 (by decide) (passE (E := E2)) (pv 5) (pa_cons (pv 10) (pa_cons (pv 11) (pa_cons pe_int pa_nil))))) (fun i h => both_lt h) (fun E2 M2 S2 σ2 I2 e ag => by subst ag; exact (em_meth (pre := pre_Pair_both_begin) (f := f_Pair_both_begin) (b := (start_138, x_151, (60 : Int), ())) (em_var (t := (k_Pa K CP C)) (v := v_10) (x := (c, c2, (roll z 9).1)) rfl ((k_Pa K CP C).up e r_211)) (ob_Pa fun _ _ _ => rfl) (em_cons (em_var (t := kI) (v := (.int start_138)) (x := start_138) rfl rfl) (em_cons (em_var (t := kS) (v := (.str x_151)) (x := x_151) rfl rfl) (em_cons em_int em_nil))) args_mG (by exact both_pre okc tic (by omega) (by decide)))))) em_nil) rfl) (fun told_now_214 v_215 H_216 hx_217 o_218 g_219 w_220 r_221 => ?_)
          have r_222 := (kCal K C).up g_219.im r_209
          have r_223 := (kCal K C).up g_219.im r_210
          have r_224 := (k_Pa K CP C).up g_219.im r_211
          have r_225 := (kL K (kR K c)).up g_219.im r_212
          have r_226 := (kTab (fun n => (yearOf c2 n, ((dateM c2 n : Nat) : Int), dateD c2 n)) (c2.firstOf (F2 c c2 (roll z 9).1).toNat) (k3 K kI kI kI)).up g_219.im r_213
          have r_227 := (kL K kI).up g_219.im r_208
          refine nrm (σ' := [some (.ref sc), some (.ref d), some (.ref a_1), some (.ref b_2), some (.int (roll z 9).1), some v_10, some v_20, some v_45, l_135, l_136, some (.int start_138), some (.str x_151), some v_202, some v_215, l14, l15, l16, l17, l18, l19, l20, l21, l22, l23, l24, l25, l26, l27, l28, l29, l30]) rfl ?_
          refine g_ifL (E := E0) (cl := cl) (b := (((!decide (good_201 = ([] : List Int))) && (zneI told_now_214 ((atI good_201 (0 : Int)).getD 0))) || ((decide (good_201 = ([] : List Int))) && ((zneS told_now_214 ("no day" : Str)) && (decide ((zval told_now_214) < (Ca.firstOf c 5))))))) w_220 o_218 (gt_or (gt_and (gt_test (em_op (em_var (t := (kL K kI)) (v := v_202) (x := good_201) rfl r_227) (em_lst K (t := kI) em_nilL (by simp)) (o_neD (dL dI) (by decide)))) (fun h_228 => (gt_test (em_op (em_var (t := (kRe kI)) (v := v_215) (x := told_now_214) rfl r_221) (em_op (em_var (t := (kL K kI)) (v := v_202) (x := good_201) rfl r_227) em_int (o_ixLI (at_in (by have gl := List.length_pos_iff.mpr (fn_ne h_228); omega)))) o_neReI)))) (fun h_230 => (gt_and (gt_test (em_op (em_var (t := (kL K kI)) (v := v_202) (x := good_201) rfl r_227) (em_lst K (t := kI) em_nilL (by simp)) (o_eqD (dL dI) (by decide)))) (fun h_231 => (gt_and (gt_test (em_op (em_var (t := (kRe kI)) (v := v_215) (x := told_now_214) rfl r_221) em_str o_neReS)) (fun h_232 => (gt_test (em_op (em_zval (em_var (t := (kRe kI)) (v := v_215) (x := told_now_214) rfl r_221) (zval_of h_232 (fun i h => both_9 unB (by rw [← hx_217]; exact h)))) (em_eq (em_cb (em_cons (em_var (t := (kL K (kR K c))) (v := v_20) (x := (rng 0 (c.firstOf 5))) rfl r_225) em_nil) o_lenL) (by rw [rng_len]; omega)) o_IB)))))))) (fun hb_236 o_237 H_235 g_238 w_239 => ?_) (fun hb_241 o_242 H_240 g_243 w_244 => ?_)
          · try simp only [decide_eq_true_eq, decide_eq_false_iff_not, Bool.and_eq_true, Bool.or_eq_true, Bool.and_eq_false_iff, Bool.or_eq_false_iff, Bool.not_eq_true', Bool.not_eq_false'] at hb_236
            have r_245 := (kCal K C).up g_238.im r_222
            have r_246 := (kCal K C).up g_238.im r_223
            have r_247 := (k_Pa K CP C).up g_238.im r_224
            have r_248 := (kL K (kR K c)).up g_238.im r_225
            have r_249 := (kTab (fun n => (yearOf c2 n, ((dateM c2 n : Nat) : Int), dateD c2 n)) (c2.firstOf (F2 c c2 (roll z 9).1).toNat) (k3 K kI kI kI)).up g_238.im r_226
            have r_250 := (kL K kI).up g_238.im r_227
            have r_251 := (kRe kI).up g_238.im r_221
            exact absurd o_237 Bool.false_ne_true
          · try simp only [decide_eq_true_eq, decide_eq_false_iff_not, Bool.and_eq_true, Bool.or_eq_true, Bool.and_eq_false_iff, Bool.or_eq_false_iff, Bool.not_eq_true', Bool.not_eq_false'] at hb_241
            have r_252 := (kCal K C).up g_243.im r_222
            have r_253 := (kCal K C).up g_243.im r_223
            have r_254 := (k_Pa K CP C).up g_243.im r_224
            have r_255 := (kL K (kR K c)).up g_243.im r_225
            have r_256 := (kTab (fun n => (yearOf c2 n, ((dateM c2 n : Nat) : Int), dateD c2 n)) (c2.firstOf (F2 c c2 (roll z 9).1).toNat) (k3 K kI kI kI)).up g_243.im r_226
            have r_257 := (kL K kI).up g_243.im r_227
            have r_258 := (kRe kI).up g_243.im r_221
            exact nx_166 () _ _ o_242 (Gr.cast ((g_206.then g_219 rfl).then g_243 rfl) rfl) w_244 ⟨_, _, _, rfl⟩
      · obtain ⟨l_75, l_76, rfl⟩ := rv_67
        have r_78 := (kCal K C).up g_64.im r_52
        have r_79 := (kCal K C).up g_64.im r_53
        have r_80 := (k_Pa K CP C).up g_64.im r_54
        have r_81 := (kL K (kR K c)).up g_64.im r_55
        have r_82 := (kTab (fun n => (yearOf c2 n, ((dateM c2 n : Nat) : Int), dateD c2 n)) (c2.firstOf (F2 c c2 (roll z 9).1).toNat) (k3 K kI kI kI)).up g_64.im r_51
        obtain ⟨v_73, r_74, rfl⟩ := b_68
        rw [rng_mem] at hm_63
        refine nrm (σ' := [some (.ref sc), some (.ref d), some (.ref a_1), some (.ref b_2), some (.int (roll z 9).1), some v_10, some v_20, some v_45, some v_73, l_76, l10, l11, l12, l13, l14, l15, l16, l17, l18, l19, l20, l21, l22, l23, l24, l25, l26, l27, l28, l29, l30]) rfl ?_
        refine g_asg (E := E0) (cl := cl) (i := 9) (t := (k3 K kI kI kI)) (x := ((yearOf c2 (x_56 + (roll z 9).1)), ((dateM c2 (x_56 + (roll z 9).1) : Nat) : Int), (dateD c2 (x_56 + (roll z 9).1)))) w_65 o_69 (em_tabGet (f := (fun n => (yearOf c2 n, ((dateM c2 n : Nat) : Int), dateD c2 n))) (em_var (t := (kTab (fun n => (yearOf c2 n, ((dateM c2 n : Nat) : Int), dateD c2 n)) (c2.firstOf (F2 c c2 (roll z 9).1).toNat) (k3 K kI kI kI))) (v := v_45) (x := ()) rfl r_82) (em_op (em_op (em_var (t := (kR K c)) (v := v_73) (x := x_56) rfl r_74) em_int (o_rowK (j := 0) rfl rfl)) (em_var (t := kI) (v := (.int (roll z 9).1)) (x := (roll z 9).1) rfl rfl) o_I) (by have farB := f2_far okc tic ofB oke tie; omega)) (fun date_83 v_84 H_85 hx_86 o_87 g_88 w_89 r_90 => ?_)
        subst hx_86
        have r_91 := (kCal K C).up g_88.im r_78
        have r_92 := (kCal K C).up g_88.im r_79
        have r_93 := (k_Pa K CP C).up g_88.im r_80
        have r_94 := (kL K (kR K c)).up g_88.im r_81
        have r_95 := (kTab (fun n => (yearOf c2 n, ((dateM c2 n : Nat) : Int), dateD c2 n)) (c2.firstOf (F2 c c2 (roll z 9).1).toNat) (k3 K kI kI kI)).up g_88.im r_82
        have r_96 := (kR K c).up g_88.im r_74
        refine nrm (σ' := [some (.ref sc), some (.ref d), some (.ref a_1), some (.ref b_2), some (.int (roll z 9).1), some v_10, some v_20, some v_45, some v_73, some v_84, l10, l11, l12, l13, l14, l15, l16, l17, l18, l19, l20, l21, l22, l23, l24, l25, l26, l27, l28, l29, l30]) rfl ?_
        refine g_ifL (E := E0) (cl := cl) (b := ((!decide (((yearOf c2 (x_56 + (roll z 9).1)), ((dateM c2 (x_56 + (roll z 9).1) : Nat) : Int), (dateD c2 (x_56 + (roll z 9).1))) = ((yearOf c2 (x_56 + (roll z 9).1)), ((dateM c2 (x_56 + (roll z 9).1) : Nat) : Int), (dateD c2 (x_56 + (roll z 9).1))))) || (!decide (((yearOf c ( (x_56 + (roll z 9).1) - (roll z 9).1)), ((dateM c ( (x_56 + (roll z 9).1) - (roll z 9).1) : Nat) : Int), (dateD c ( (x_56 + (roll z 9).1) - (roll z 9).1))) = ((yearOf c x_56), ((dateM c x_56 : Nat) : Int), (dateD c x_56)))))) w_89 o_87 (gt_or (gt_test (em_op (em_methP (y := ((yearOf c2 (x_56 + (roll z 9).1)), ((dateM c2 (x_56 + (roll z 9).1) : Nat) : Int), (dateD c2 (x_56 + (roll z 9).1)))) (b := ((yearOf c x_56), ((dateM c x_56 : Nat) : Int), (dateD c x_56), ())) (em_var (t := (k_Pa K CP C)) (v := v_10) (x := (c, c2, (roll z 9).1)) rfl r_93) (ob_Pa fun _ _ _ => rfl) (em_cons (em_op (em_var (t := (kR K c)) (v := v_73) (x := x_56) rfl r_96) em_int (o_rowK (j := 1) rfl rfl)) (em_cons (em_op (em_var (t := (kR K c)) (v := v_73) (x := x_56) rfl r_96) em_int (o_rowK (j := 2) rfl rfl)) (em_cons (em_op (em_var (t := (kR K c)) (v := v_73) (x := x_56) rfl r_96) em_int (o_rowK (j := 3) rfl rfl)) em_nil))) args_mG (by exact trivial) (by exact across_ok okc)) (em_var (t := (k3 K kI kI kI)) (v := v_84) (x := ((yearOf c2 (x_56 + (roll z 9).1)), ((dateM c2 (x_56 + (roll z 9).1) : Nat) : Int), (dateD c2 (x_56 + (roll z 9).1)))) rfl r_90) (o_neD (d3 dI dI dI) (by decide)))) (fun h_97 => (gt_test (em_op (em_methP (y := ((yearOf c ( (x_56 + (roll z 9).1) - (roll z 9).1)), ((dateM c ( (x_56 + (roll z 9).1) - (roll z 9).1) : Nat) : Int), (dateD c ( (x_56 + (roll z 9).1) - (roll z 9).1)))) (b := ((yearOf c2 (x_56 + (roll z 9).1)), ((dateM c2 (x_56 + (roll z 9).1) : Nat) : Int), (dateD c2 (x_56 + (roll z 9).1)), ())) (em_var (t := (k_Pa K CP C)) (v := v_10) (x := (c, c2, (roll z 9).1)) rfl r_93) (ob_Pa fun _ _ _ => rfl) (em_cons (em_op (em_var (t := (k3 K kI kI kI)) (v := v_84) (x := ((yearOf c2 (x_56 + (roll z 9).1)), ((dateM c2 (x_56 + (roll z 9).1) : Nat) : Int), (dateD c2 (x_56 + (roll z 9).1)))) rfl r_90) em_int o_ix30) (em_cons (em_op (em_var (t := (k3 K kI kI kI)) (v := v_84) (x := ((yearOf c2 (x_56 + (roll z 9).1)), ((dateM c2 (x_56 + (roll z 9).1) : Nat) : Int), (dateD c2 (x_56 + (roll z 9).1)))) rfl r_90) em_int o_ix31) (em_cons (em_op (em_var (t := (k3 K kI kI kI)) (v := v_84) (x := ((yearOf c2 (x_56 + (roll z 9).1)), ((dateM c2 (x_56 + (roll z 9).1) : Nat) : Int), (dateD c2 (x_56 + (roll z 9).1)))) rfl r_90) em_int o_ix32) em_nil))) args_mG (by exact trivial) (by exact back_ok oke)) (em_row3 (em_var (t := (kR K c)) (v := v_73) (x := x_56) rfl r_96)) (o_neD (d3 dI dI dI) (by decide)))))) (fun hb_100 o_101 H_99 g_102 w_103 => ?_) (fun hb_105 o_106 H_104 g_107 w_108 => ?_)
        · try simp only [decide_eq_true_eq, decide_eq_false_iff_not, Bool.and_eq_true, Bool.or_eq_true, Bool.and_eq_false_iff, Bool.or_eq_false_iff, Bool.not_eq_true', Bool.not_eq_false'] at hb_100
          have r_109 := (kCal K C).up g_102.im r_91
          have r_110 := (kCal K C).up g_102.im r_92
          have r_111 := (k_Pa K CP C).up g_102.im r_93
          have r_112 := (kL K (kR K c)).up g_102.im r_94
          have r_113 := (kTab (fun n => (yearOf c2 n, ((dateM c2 n : Nat) : Int), dateD c2 n)) (c2.firstOf (F2 c c2 (roll z 9).1).toNat) (k3 K kI kI kI)).up g_102.im r_95
          have r_114 := (kR K c).up g_102.im r_96
          have r_115 := (k3 K kI kI kI).up g_102.im r_90
          exact absurd o_101 Bool.false_ne_true
        · try simp only [decide_eq_true_eq, decide_eq_false_iff_not, Bool.and_eq_true, Bool.or_eq_true, Bool.and_eq_false_iff, Bool.or_eq_false_iff, Bool.not_eq_true', Bool.not_eq_false'] at hb_105
          have r_116 := (kCal K C).up g_107.im r_91
          have r_117 := (kCal K C).up g_107.im r_92
          have r_118 := (k_Pa K CP C).up g_107.im r_93
          have r_119 := (kL K (kR K c)).up g_107.im r_94
          have r_120 := (kTab (fun n => (yearOf c2 n, ((dateM c2 n : Nat) : Int), dateD c2 n)) (c2.firstOf (F2 c c2 (roll z 9).1).toNat) (k3 K kI kI kI)).up g_107.im r_95
          have r_121 := (kR K c).up g_107.im r_96
          have r_122 := (k3 K kI kI kI).up g_107.im r_90
          exact nx_71 () _ _ o_106 (Gr.cast (g_88.then g_107 rfl) rfl) w_108 ⟨_, _, rfl⟩
    · obtain ⟨l1, l2, l3, l4, l5, l6, l7, l8, l9, l10, l11, l12, l13, l14, l15, l16, l17, l18, l19, l20, l21, l22, l23, l24, l25, l26, l27, l28, l29, l30, rfl⟩ := hσ
      have oT : Pt (cond (!(decide ((kindName 5) = ("size" : Str)))) (false) ((decide ((kindName 5) = ("size" : Str))))) := (by decide +kernel : (cond (!(decide ((kindName 5) = ("size" : Str)))) (false) ((decide ((kindName 5) = ("size" : Str))))) = true)
      refine g_when (E := E0) (cl := cl) (b := (!(decide ((kindName 5) = ("size" : Str))))) w0 oT (gt_not (gt_test (em_op (em_reS0 (i := 5) (by rfl) (em_toldR (ag := fun σ2 => σ2 = _) (em_cons (em_lamC (n := 1) (t := kLam (lawX P w K mg base f cc A outer s H E) cl 8 (fun σ2 => σ2 = _) (k_Rn K CG)) (x := (f_Reigns_init (([] : List (Str × Int)), ()))) rfl (nc_cons (nc_cons nc_nil nc_tab) nc_dice) (lam_r (LamX.lamS_by (sc := defScope sLaw) (by decide +kernel)) (fun _ _ _ => rfl) (fun f2 cc2 A2 outer2 s2 H2 E2 hr2 => (pe_nw L.nRn hr2 (by decide) (passE (E := E2)) (pa_cons (pe_lst pa_nil) pa_nil))) (fun i h => by rw [show (f_Reigns_init (([] : List (Str × Int)), ())) = .er 5 from by rfl] at h; cases h; decide) (fun E2 M2 S2 σ2 I2 e ag => by subst ag; exact (em_mkOb (a := (([] : List (Str × Int)), ())) (pre := pre_Reigns_init) (f := f_Reigns_init) (Rr := R_Rn K) (up := fun e h => R_Rn_up e h) (em_cons (em_lst K (t := (k2 K kSo kI)) em_nilL (by simp)) em_nil) args_id upA_Rn (by show _ ≤ 100; decide))))) em_nil) rfl)) em_str o_eqS))) (fun hb_1069 o_1070 H_1068 g_1071 w_1072 => ?_) (fun hb_1074 o_1075 H_1073 g_1076 w_1077 => ?_)
      · try simp only [decide_eq_true_eq, decide_eq_false_iff_not, Bool.and_eq_true, Bool.or_eq_true, Bool.and_eq_false_iff, Bool.or_eq_false_iff, Bool.not_eq_true', Bool.not_eq_false'] at hb_1069
        exact absurd o_1070 Bool.false_ne_true
      · try simp only [decide_eq_true_eq, decide_eq_false_iff_not, Bool.and_eq_true, Bool.or_eq_true, Bool.and_eq_false_iff, Bool.or_eq_false_iff, Bool.not_eq_true', Bool.not_eq_false'] at hb_1074
        refine g_ret (E := E0) (cl := cl) (t := kB) (x := (decide ((kindName 5) = ("size" : Str)))) w_1077 (em_op (em_reS0 (i := 5) (by decide +kernel) (em_toldR (ag := fun σ2 => σ2 = _) (em_cons (em_lamC (n := 1) (t := kLam (lawX P w K mg base f cc A outer s H E) cl 8 (fun σ2 => σ2 = _) (k_Rn K CG)) (x := (f_Reigns_init (([(("a" : Str), (3 : Int)), (("b" : Str), (3 : Int))] : List (Str × Int)), ()))) rfl (nc_cons (nc_cons nc_nil nc_tab) nc_dice) (lam_r (LamX.lamS_by (sc := defScope sLaw) (by decide +kernel)) (fun _ _ _ => rfl) (fun f2 cc2 A2 outer2 s2 H2 E2 hr2 => (pe_nw L.nRn hr2 (by decide) (passE (E := E2)) (pa_cons (pe_lst (pa_cons (pe_tup (pa_cons pe_str (pa_cons pe_int pa_nil))) (pa_cons (pe_tup (pa_cons pe_str (pa_cons pe_int pa_nil))) pa_nil))) pa_nil))) (fun i h => by rw [show (f_Reigns_init (([(("a" : Str), (3 : Int)), (("b" : Str), (3 : Int))] : List (Str × Int)), ())) = .er 5 from by decide +kernel] at h; cases h; decide) (fun E2 M2 S2 σ2 I2 e ag => by subst ag; exact (em_mkOb (a := (([(("a" : Str), (3 : Int)), (("b" : Str), (3 : Int))] : List (Str × Int)), ())) (pre := pre_Reigns_init) (f := f_Reigns_init) (Rr := R_Rn K) (up := fun e h => R_Rn_up e h) (em_cons (em_lst K (t := (k2 K kSo kI)) (em_consL (em_t2 K (em_cons (em_c (t := kSo) (x := "a") ⟨rfl, by decide +kernel⟩) (em_cons em_int em_nil))) (em_consL (em_t2 K (em_cons (em_c (t := kSo) (x := "b") ⟨rfl, by decide +kernel⟩) (em_cons em_int em_nil))) em_nilL)) (by simp)) em_nil) args_id upA_Rn (by show _ ≤ 100; decide))))) em_nil) rfl)) em_str o_eqS) (fun v_1078 H_1079 g_1080 w_1081 r_1082 => ?_)
        obtain rfl : v_1078 = .bl (decide ((kindName 5) = ("size" : Str))) := r_1082
        rw [show (decide ((kindName 5) = ("size" : Str))) = true from o_1075]
        exact q _
end
end Rw
namespace Rw
open PySem PySem.Spec PyProof.Rows L2 Evl Cy
theorem forK_tr {α τ : Type} {b : α → τ → (τ → Bool) → (τ → Bool) → Bool} {kn : τ → Bool} (hk : ∀ s, kn s = true) : ∀ {xs : List α} {s : τ}, (∀ x ∈ xs, ∀ s, ∀ k1 k2 : τ → Bool, (∀ s, k1 s = true) → b x s k1 k2 = true) → forK b kn xs s = true
  | [], s, _ => hk s
  | x :: xs, s, h => h x List.mem_cons_self s _ _ fun s => forK_tr hk fun y hy => h y (List.mem_cons_of_mem _ hy)
theorem cc {p : Prop} [Decidable p] {A B : Bool} (h1 : p → A = true) (h2 : ¬ p → B = true) : cond (decide p) A B = true := by
  by_cases h : p
  · rw [decide_eq_true h]; exact h1 h
  · rw [decide_eq_false h]; exact h2 h
theorem rng_up (a b : Int) : (rng a b).Pairwise (· < ·) := by
  unfold rng
  rw [List.pairwise_map]
  exact List.pairwise_lt_range.imp fun h => by omega
theorem find_rng {a b p : Int} {P : Int → Bool} (h : (rng a b).find? P = some p) : P p = true ∧ (a ≤ p ∧ p < b) ∧ ∀ q, a ≤ q → q < p → P q = false := by
  have hm := rng_mem.mp (List.mem_of_find?_eq_some h)
  refine ⟨List.find?_some h, hm, fun q q1 q2 => ?_⟩
  obtain ⟨as, bs, e1, e2⟩ := (List.find?_eq_some_iff_append.mp h).2
  have em : q ∈ rng a b := rng_mem.mpr ⟨q1, by omega⟩
  have up := rng_up a b
  rw [e1] at em up
  rcases List.mem_append.mp em with z | z
  · simpa using e2 q z
  · have u2 := (List.pairwise_append.mp up).2.1
    rcases List.mem_cons.mp z with y | y
    · omega
    · have := (List.pairwise_cons.mp u2).1 q y
      omega
theorem flt_head {a b : Int} {P : Int → Bool} (h : (rng a b).filter P ≠ []) : ∃ g, (atI ((rng a b).filter P) 0).getD 0 = g ∧ P g = true ∧ (a ≤ g ∧ g < b) ∧ ∀ q, a ≤ q → q < b → P q = true → g ≤ q := by
  have up : ((rng a b).filter P).Pairwise (· < ·) := List.Pairwise.filter _ (rng_up a b)
  cases e : (rng a b).filter P with
  | nil => exact absurd e h
  | cons g t =>
    have hg : g ∈ (rng a b).filter P := by rw [e]; exact List.mem_cons_self
    obtain ⟨m1, m2⟩ := List.mem_filter.mp hg
    refine ⟨g, ?_, m2, rng_mem.mp m1, fun q q1 q2 q3 => ?_⟩
    · have e2 := atI_nat (xs := g :: t) (j := 0) (v := g) rfl
      rw [show (((0 : Nat) : Int)) = 0 by rfl] at e2
      rw [e2]
      rfl
    · have hq : q ∈ (rng a b).filter P := List.mem_filter.mpr ⟨rng_mem.mpr ⟨q1, q2⟩, q3⟩
      rw [e] at hq up
      rcases List.mem_cons.mp hq with z | z
      · omega
      · have := (List.pairwise_cons.mp up).1 q z; omega
/-! ### months -/
theorem mn_mono {c : Ca} (k : c.Ok) {n m : Int} (h : n ≤ m) : mnOf c n ≤ mnOf c m := by
  rcases Int.lt_or_le (mnOf c m) (mnOf c n) with z | z
  · exfalso
    obtain ⟨am, a0, a1, an⟩ := date_at k n
    obtain ⟨bm, b0, b1, bn⟩ := date_at k m
    have hl : 0 < (c.months.length : Int) := by omega
    have yn := yearOf_spec k n
    have ym := yearOf_spec k m
    unfold mnOf at z
    rcases Int.lt_trichotomy (yearOf c n) (yearOf c m) with y | y | y
    · have : (yearOf c n + 1) * (c.months.length : Int) ≤ yearOf c m * (c.months.length : Int) := Int.mul_le_mul_of_nonneg_right (by omega) (by omega)
      rw [Int.add_mul, Int.one_mul] at this
      omega
    · rw [y] at z an
      have hd : dateM c m < dateM c n := by omega
      have e2 : c.ahead (yearOf c m) (dateM c m + 1) = c.ahead (yearOf c m) (dateM c m) + c.md (yearOf c m) (dateM c m) := rfl
      have mo : c.ahead (yearOf c m) (dateM c m + 1) ≤ c.ahead (yearOf c m) (dateM c n) := by
        rcases Nat.lt_or_eq_of_le (show dateM c m + 1 ≤ dateM c n by omega) with q | q
        · exact Int.le_of_lt (Ca.ahead_mono k _ q (by omega))
        · rw [q]; exact Int.le_refl _
      omega
    · have := first_le2 k (show yearOf c m + 1 ≤ yearOf c n by omega)
      omega
  · exact z
def hereV (c : Ca) (p : Int) : Int := numAt c (p / (c.months.length : Int)) (p % (c.months.length : Int)).toNat 0
theorem here_date {c : Ca} (k : c.Ok) (p : Int) : yearOf c (hereV c p) = p / (c.months.length : Int) ∧ ((dateM c (hereV c p) : Nat) : Int) = p % (c.months.length : Int) ∧ dateD c (hereV c p) = 0 ∧ mnOf c (hereV c p) = p := by
  have lm0 := k.lm0
  have lm1 := k.lm1
  have m0 := Int.emod_nonneg p (b := (c.months.length : Int)) (by omega)
  have m1 := Int.emod_lt_of_pos p (b := (c.months.length : Int)) (by omega)
  have hm : (p % (c.months.length : Int)).toNat < c.months.length := by omega
  obtain ⟨a, b, d⟩ := num_date k (y := p / (c.months.length : Int)) hm (Int.le_refl 0) (by have := Ca.md_pos k (p / (c.months.length : Int)) hm; omega)
  have b2 : ((dateM c (hereV c p) : Nat) : Int) = p % (c.months.length : Int) := by unfold hereV; rw [b]; omega
  refine ⟨a, b2, d, ?_⟩
  have e := Int.mul_ediv_add_emod p (c.months.length : Int)
  unfold mnOf
  rw [b2, show yearOf c (hereV c p) = p / (c.months.length : Int) from a, Int.mul_comm]
  exact e
theorem here_mn {c : Ca} (k : c.Ok) {n : Int} (h : dateD c n = 0) : hereV c (mnOf c n) = n := by
  obtain ⟨dm, d0, d1, dn⟩ := date_at k n
  have hl : 0 < (c.months.length : Int) := by omega
  have q : mnOf c n / (c.months.length : Int) = yearOf c n ∧ mnOf c n % (c.months.length : Int) = ((dateM c n : Nat) : Int) := by
    rw [Int.ediv_emod_unique hl]
    unfold mnOf
    exact ⟨by rw [Int.mul_comm]; omega, by omega, by omega⟩
  unfold hereV
  rw [q.1, q.2, Int.toNat_natCast]
  unfold numAt
  omega
theorem here_mono {c : Ca} (k : c.Ok) {p q : Int} (h : p ≤ q) : hereV c p ≤ hereV c q := by
  rcases Int.lt_or_le (hereV c q) (hereV c p) with z | z
  · have := mn_mono k (Int.le_of_lt z)
    rw [(here_date k p).2.2.2, (here_date k q).2.2.2] at this
    obtain rfl : p = q := by omega
    exact Int.le_refl _
  · exact z
def gdV (c e : Ca) (o s : Int) (u : Str) (x : Int) : Bool := ((decide (s ≤ x)) && ((decide ((dateD c x) = (0 : Int))) && ((decide ((dateD e (x + o)) = (0 : Int))) && ((decide (u = ("month" : Str))) || ((decide (((dateM c x : Nat) : Int) = (0 : Int))) && (decide (((dateM e (x + o) : Nat) : Int) = (0 : Int))))))))
theorem bg_gd {c e : Ca} (k : c.Ok) {o s : Int} {u : Str} (p : Int) : bgV c e o s u p = gdV c e o s u (hereV c p) := by
  obtain ⟨_, h2, h3, _⟩ := here_date k p
  have b : v_begins (e, hereV c p + o, u, ()) = (decide (dateD e (hereV c p + o) = 0) && (decide (u = "month") || decide (((dateM e (hereV c p + o) : Nat) : Int) = 0))) := rfl
  unfold gdV
  rw [h2, h3]
  show ((decide (u = "month") || decide (p % (c.months.length : Int) = 0)) && (decide (s ≤ hereV c p) && v_begins (e, hereV c p + o, u, ()))) = _
  rw [b, decide_eq_true (show (0 : Int) = 0 from rfl)]
  cases decide (u = "month") <;> cases decide (p % (c.months.length : Int) = 0) <;> cases decide (s ≤ hereV c p) <;> cases decide (dateD e (hereV c p + o) = 0) <;> cases decide (((dateM e (hereV c p + o) : Nat) : Int) = 0) <;> rfl
theorem both_true {c e : Ca} (k : c.Ok) (t : Tiny c) {o s : Int} {u : Str} (hu : u ∈ (["month", "year"] : List Str)) (hs : 0 ≤ s ∧ s < 10) {g : List Int} (hg : g = ((rng 0 (c.firstOf 5)).filter fun x => gdV c e o s u x).map fun x => x) :
    (((!decide (g = ([] : List Int))) && (zneI (f_Pair_both_begin ((c, e, o), s, u, 60, ())) ((atI g (0 : Int)).getD 0))) || ((decide (g = ([] : List Int))) && ((zneS (f_Pair_both_begin ((c, e, o), s, u, 60, ())) ("no day" : Str)) && (decide ((zval (f_Pair_both_begin ((c, e, o), s, u, 60, ()))) < (Ca.firstOf c 5)))))) = false := by
  rw [map_i] at hg
  have m0 := mn_in k t hs.1 (by have := first_10 k t; omega)
  have len := t.len
  have inR : ∀ n, s ≤ n → n < c.firstOf 5 → mnOf c s ≤ mnOf c n ∧ mnOf c n < mnOf c s + 60 := fun n h1 h2 => by
    have a := mn_mono k h1
    have b := mn_in k t (show 0 ≤ n by omega) h2
    omega
  have good : ∀ n, 0 ≤ n → n < c.firstOf 5 → gdV c e o s u n = true → s ≤ n ∧ bgV c e o s u (mnOf c n) = true ∧ hereV c (mnOf c n) = n := fun n h1 h2 h3 => by
    have h4 := h3
    unfold gdV at h4
    rw [Bool.and_eq_true, Bool.and_eq_true, decide_eq_true_eq, decide_eq_true_eq] at h4
    have e1 := here_mn k h4.2.1
    exact ⟨h4.1, by rw [bg_gd k, e1]; exact h3, e1⟩
  rw [both_is (unit_in hu)]
  cases z : (rng (mnOf c s) (mnOf c s + 60)).find? (bgV c e o s u) with
  | none =>
    have ge : g = [] := by
      cases eg : g with
      | nil => rfl
      | cons x l =>
        exfalso
        have hx : x ∈ (rng 0 (c.firstOf 5)).filter fun x => gdV c e o s u x := by rw [← hg, eg]; exact List.mem_cons_self
        obtain ⟨m1, m2⟩ := List.mem_filter.mp hx
        rw [rng_mem] at m1
        obtain ⟨q1, q2, q3⟩ := good x m1.1 m1.2 m2
        exact List.find?_eq_none.mp z _ (rng_mem.mpr (inR x q1 m1.2)) q2
    rw [ge, decide_eq_true rfl]
    show ((!true && _) || (true && ((!decide (kindName 9 = ("no day" : Str))) && _))) = false
    rw [show decide (kindName 9 = ("no day" : Str)) = true from by decide +kernel]
    rfl
  | some p =>
    obtain ⟨f1, f2, f3⟩ := find_rng z
    have gp : gdV c e o s u (hereV c p) = true := by rw [← bg_gd k]; exact f1
    have sp : s ≤ hereV c p := by
      unfold gdV at gp
      rw [Bool.and_eq_true, decide_eq_true_eq] at gp
      exact gp.1
    show (((!decide (g = ([] : List Int))) && (!decide (hereV c p = (atI g (0 : Int)).getD 0))) || ((decide (g = ([] : List Int))) && (true && (decide (hereV c p < (Ca.firstOf c 5)))))) = false
    by_cases ge : g = []
    · rw [decide_eq_true ge]
      have : ¬ hereV c p < c.firstOf 5 := fun y => by
        have : hereV c p ∈ g := by rw [hg]; exact List.mem_filter.mpr ⟨rng_mem.mpr ⟨by omega, y⟩, gp⟩
        rw [ge] at this
        cases this
      rw [decide_eq_false this]
      rfl
    · rw [decide_eq_false ge]
      obtain ⟨g0, h1, h2, h3, h4⟩ := flt_head (show (rng 0 (c.firstOf 5)).filter (fun x => gdV c e o s u x) ≠ [] by rw [← hg]; exact ge)
      rw [← hg] at h1
      obtain ⟨q1, q2, q3⟩ := good g0 h3.1 h3.2 h2
      have r := inR g0 q1 h3.2
      have le : p ≤ mnOf c g0 := by
        rcases Int.lt_or_le (mnOf c g0) p with y | y
        · have := f3 _ r.1 y
          rw [q2] at this
          cases this
        · exact y
      have a := here_mono k le
      rw [q3] at a
      have b := h4 (hereV c p) (by omega) (by omega) gp
      rw [h1, decide_eq_true (show hereV c p = g0 by omega)]
      rfl
/-! ### reigns -/
theorem r_lt {l : List (Str × Int)} {h : Int} (f : FI l h) {m n : Int} (z : rOf l m < rOf l n) : m < n := by
  have rn := r_rng f (n := n)
  have rm := r_rng f (n := m)
  have a := (r_ix f (k := rOf l n) (n := n) ⟨by omega, rn.2⟩).mpr (Int.le_refl _)
  rcases Int.lt_or_le m (atG l (rOf l n)).2 with y | y
  · omega
  · have := (r_ix f (k := rOf l n) (n := m) ⟨by omega, rn.2⟩).mp y
    omega
theorem day_first {c : Ca} (k : c.Ok) {l : List (Str × Int)} {h : Int} (f : FI l h) (hl : 1 ≤ l.length) {n : Int} (r : 0 ≤ rOf l n) (rowIn : 0 ≤ n ∧ n < c.firstOf 5) :
    dnV c l (toldV c l n).1 (toldV c l n).2.1 (toldV c l n).2.2.1 (toldV c l n).2.2.2 = (atI (((rng 0 (c.firstOf 5)).filter fun x => decide ((atG l 0).2 ≤ x) && decide (toldV c l x = ((toldV c l n).1, (toldV c l n).2.1, (toldV c l n).2.2.1, (toldV c l n).2.2.2))).map fun x => x) 0).getD 0 := by
  rw [map_i]
  have hit : ∀ q, 0 ≤ rOf l q → toldV c l q = toldV c l n → (rOf l q, atG l (rOf l q)) ∈ enL l ∧ dayP l c (toldV c l n).1 (toldV c l n).2.1 (toldV c l n).2.2.1 (toldV c l n).2.2.2 (rOf l q, atG l (rOf l q)) = true ∧ dayN c (toldV c l n).2.1 (toldV c l n).2.2.1 (toldV c l n).2.2.2 (rOf l q, atG l (rOf l q)) = q := fun q hq e => by
    have := day_hit k f (n := q) hq
    rw [e] at this
    exact this
  obtain ⟨i1, i2, i3⟩ := hit n r rfl
  unfold dnV
  cases z : (enL l).find? (dayP l c (toldV c l n).1 (toldV c l n).2.1 (toldV c l n).2.2.1 (toldV c l n).2.2.2) with
  | none => exact absurd i2 (List.find?_eq_none.mp z _ i1)
  | some x =>
    obtain ⟨px, as, bs, e1, e2⟩ := List.find?_eq_some_iff_append.mp z
    -- x stands at its place
    have ax : (enL l)[as.length]? = some x := by rw [e1]; simp
    obtain ⟨x1, x2⟩ := enL_at.mp ax
    have xl : as.length < l.length := (List.getElem?_eq_some_iff.mp x2).1
    have xg : atG l (as.length : Int) = x.2 := by
      rw [atG_is ⟨by omega, by omega⟩]
      rw [List.getElem?_eq_getElem xl] at x2
      have := Option.some.inj x2
      simpa using this
    let m := dayN c (toldV c l n).2.1 (toldV c l n).2.2.1 (toldV c l n).2.2.2 x
    have hm : m = dayN c (toldV c l n).2.1 (toldV c l n).2.2.1 (toldV c l n).2.2.2 x := rfl
    have px2 := px
    unfold dayP at px2
    rw [Bool.and_eq_true, Bool.and_eq_true, Bool.and_eq_true, decide_eq_true_eq, decide_eq_true_eq, decide_eq_true_eq, is_in_iff, decide_eq_true_eq] at px2
    obtain ⟨p1, ⟨p2, p3⟩, p4⟩ := px2
    have rm : rOf l m = (as.length : Int) := by rw [hm, p4, x1]
    obtain ⟨dm, d0, d1, dn⟩ := date_at k n
    have e3 : (toldV c l n).2.2.1.toNat = dateM c n := Int.toNat_natCast _
    obtain ⟨a, b, d⟩ := num_date k (y := yearOf c x.2.2 + (toldV c l n).2.1 - 1) (m := (toldV c l n).2.2.1.toNat) (d := (toldV c l n).2.2.2) (by rw [e3]; exact dm) p2 p3
    have tm : toldV c l m = toldV c l n := by
      have t1 : toldV c l m = ((atG l (rOf l m)).1, yearOf c m - yearOf c (atG l (rOf l m)).2 + 1, ((dateM c m : Nat) : Int), dateD c m) := rfl
      rw [t1, rm, xg, p1]
      have y1 : yearOf c m = yearOf c x.2.2 + (toldV c l n).2.1 - 1 := a
      have y2 : ((dateM c m : Nat) : Int) = (toldV c l n).2.2.1 := by
        have : dateM c m = (toldV c l n).2.2.1.toNat := b
        rw [this, e3]
        rfl
      have y3 : dateD c m = (toldV c l n).2.2.2 := d
      rw [y1, y2, y3, show yearOf c x.2.2 + (toldV c l n).2.1 - 1 - yearOf c x.2.2 + 1 = (toldV c l n).2.1 by omega]
    have least : ∀ q, 0 ≤ rOf l q → toldV c l q = toldV c l n → m ≤ q := fun q hq e => by
      obtain ⟨j1, j2, j3⟩ := hit q hq e
      have rq := r_rng f (n := q)
      rcases Int.lt_trichotomy (rOf l q) (as.length : Int) with y | y | y
      · exfalso
        have at1 : (enL l)[(rOf l q).toNat]? = some (rOf l q, atG l (rOf l q)) := enL_at.mpr ⟨by show rOf l q = _; omega, by rw [atG_is ⟨hq, rq.2⟩, List.getElem?_eq_getElem]⟩
        rw [e1, List.getElem?_append_left (by omega)] at at1
        have := e2 _ (List.mem_of_getElem? at1)
        rw [j2] at this
        cases this
      · have : x = (rOf l q, atG l (rOf l q)) := by
          rw [y, xg, ← x1]
        rw [hm, this, j3]
        exact Int.le_refl _
      · exact Int.le_of_lt (r_lt f (by rw [rm]; exact y))
    have mn := least n r rfl
    have mr : 0 ≤ rOf l m := by rw [rm]; omega
    have m1 := of_r_first f hl mr
    have z1 := (at_in1 f (k := 0) ⟨Int.le_refl _, by omega⟩).1
    have inS : (decide ((atG l 0).2 ≤ m) && decide (toldV c l m = ((toldV c l n).1, (toldV c l n).2.1, (toldV c l n).2.2.1, (toldV c l n).2.2.2))) = true := by
      rw [decide_eq_true m1, decide_eq_true (show toldV c l m = ((toldV c l n).1, (toldV c l n).2.1, (toldV c l n).2.2.1, (toldV c l n).2.2.2) from tm)]
      rfl
    have ne : (rng 0 (c.firstOf 5)).filter (fun x => decide ((atG l 0).2 ≤ x) && decide (toldV c l x = ((toldV c l n).1, (toldV c l n).2.1, (toldV c l n).2.2.1, (toldV c l n).2.2.2))) ≠ [] := fun y => by
      have : m ∈ (rng 0 (c.firstOf 5)).filter (fun x => decide ((atG l 0).2 ≤ x) && decide (toldV c l x = ((toldV c l n).1, (toldV c l n).2.1, (toldV c l n).2.2.1, (toldV c l n).2.2.2))) := List.mem_filter.mpr ⟨rng_mem.mpr ⟨by omega, by omega⟩, inS⟩
      rw [y] at this
      cases this
    obtain ⟨g, h1, h2, h3, h4⟩ := flt_head ne
    rw [h1]
    have a1 := h4 m (by omega) (by omega) inS
    rw [Bool.and_eq_true, decide_eq_true_eq, decide_eq_true_eq] at h2
    have a2 := least g (r_of_first f hl h2.1) h2.2
    show m = g
    omega
theorem year_mono {c : Ca} (k : c.Ok) {n m : Int} (h : n ≤ m) : yearOf c n ≤ yearOf c m := by
  have a := yearOf_spec k n
  have b := yearOf_spec k m
  rcases Int.lt_or_le (yearOf c m) (yearOf c n) with z | z
  · have := first_le2 k (show yearOf c m + 1 ≤ yearOf c n by omega)
    omega
  · exact z
theorem year_first {c : Ca} (k : c.Ok) (y : Int) : yearOf c (c.firstOf y) = y := by
  have a := yearOf_spec k (c.firstOf y)
  have s := Ca.first_succ k y
  have p := Ca.plain_pos k
  have : c.plain ≤ c.yearDays y := by unfold Ca.yearDays; split <;> omega
  rcases Int.lt_trichotomy (yearOf c (c.firstOf y)) y with z | z | z
  · have := first_le2 k (show yearOf c (c.firstOf y) + 1 ≤ y by omega)
    omega
  · exact z
  · have := first_le2 k (show y + 1 ≤ yearOf c (c.firstOf y) by omega)
    omega
theorem ys_true {c : Ca} (k : c.Ok) {l : List (Str × Int)} {h : Int} (f : FI l h) {p : Int} (pl : 0 ≤ p ∧ p < (l.length : Int) - 1) : ysV c l p = ((dictP (((rng (atG l p).2 (atG l (p + 1)).2).map fun x => yearOf c x).map fun x => (x, (1 : Int)))).length : Int) := by
  have sl : ∀ q, 0 ≤ q ∧ q < (l.length : Int) → (atI (sn l) q).getD 0 = (atG l q).2 := fun q hq => by
    rw [atI_le hq.1 (by rw [List.length_map]; exact hq.2), List.getElem_map, atG_is hq]
  have lt := up_lt f pl.1 (show p < p + 1 by omega) (by omega)
  unfold ysV
  rw [sl p ⟨pl.1, by omega⟩, sl (p + 1) ⟨by omega, by omega⟩]
  generalize (atG l p).2 = a at lt ⊢
  generalize (atG l (p + 1)).2 = b at lt ⊢
  obtain ⟨nd, mem⟩ := dictP_keys (((rng a b).map fun x => yearOf c x).map fun x => (x, (1 : Int)))
  have mem2 : ∀ y, y ∈ (dictP (((rng a b).map fun x => yearOf c x).map fun x => (x, (1 : Int)))).map (·.1) ↔ y ∈ rng (yearOf c a) (yearOf c (b - 1) + 1) := fun y => by
    rw [mem, List.map_map, List.map_map, List.mem_map, rng_mem]
    constructor
    · rintro ⟨x, hx, rfl⟩
      rw [rng_mem] at hx
      have := year_mono k hx.1
      have := year_mono k (show x ≤ b - 1 by omega)
      show yearOf c a ≤ yearOf c x ∧ yearOf c x < _
      omega
    · rintro ⟨h1, h2⟩
      by_cases e : y = yearOf c a
      · exact ⟨a, rng_mem.mpr ⟨Int.le_refl _, lt⟩, e.symm⟩
      · refine ⟨c.firstOf y, rng_mem.mpr ⟨?_, ?_⟩, year_first k y⟩
        · have := (yearOf_spec k a).2
          have := first_le2 k (show yearOf c a + 1 ≤ y by omega)
          omega
        · have := (yearOf_spec k (b - 1)).1
          have := first_le2 k (show y ≤ yearOf c (b - 1) by omega)
          omega
  have perm := (List.perm_ext_iff_of_nodup nd (up_nodup (rng_up _ _))).mpr mem2
  have e := perm.length_eq
  rw [List.length_map, rng_len] at e
  have := year_mono k (show a ≤ b - 1 by omega)
  rw [e]
  omega
theorem m_lawB_ok {c e : Ca} (okc : c.Ok) (tic : Tiny c) (oke : e.Ok) (tie : Tiny e) (z : Dice) : Pt (m_lawB c e z) := by
  have ofB := roll_in z (m := 9) (by decide)
  have stB := roll_in (roll z 9).2 (m := 10) (by decide)
  have f5 := first5 okc tic
  have kn : (!decide ((kindName 10) = ("no such" : Str))) = false := by decide +kernel
  have kd : (!decide ((kindName 1) = ("day" : Str))) = false := by decide +kernel
  unfold Pt
  dsimp only [m_lawB, lt]
  refine forK_tr (fun _ => ?_) fun n hn _ k1 k2 hk => cf (or_ff (nd rfl) (nd ?_)) (hk _)
  · refine forK_tr (fun _ => ?_) fun u hu _ k1 k2 hk => cf (both_true okc tic hu stB rfl) (hk _)
    have xsL := xs_len (roll_in (roll (roll z 9).2 10).2 (m := 3) (by decide))
    refine forK_ok (fun (rest : List Str) (s : Int × List (Str × Int) × Dice) => FI s.2.1 s.1 ∧ s.2.1.length + rest.length = (List.take ((1 : Int) + (roll (roll (roll z 9).2 10).2 3).1).toNat (["x", "y", "x"] : List Str)).length ∧ ∀ x ∈ rest, x ≠ "z") (fun x rest s kn' inv hk => ?_) (fun s inv => ?_) _ _ ?_
    · obtain ⟨i1, i2, i3⟩ := inv
      refine hk _ ⟨fi_step i1 (roll_in _ (by decide)) (i3 x List.mem_cons_self), ?_, fun y hy => i3 y (List.mem_cons_of_mem _ hy)⟩
      rw [List.length_append]
      rw [List.length_cons] at i2
      show _ + 1 + _ = _
      omega
    · obtain ⟨f, i2, _⟩ := inv
      rw [List.length_nil, Nat.add_zero] at i2
      generalize s.2.1 = l at f i2 ⊢
      have hl : 1 ≤ l.length := by omega
      refine forK_tr (fun _ => ?_) fun _ _ s2 k1 k2 hk => ?_
      · refine forK_tr (fun _ => cf kn (cf kn (cf kn (cf kd rfl)))) fun p hp _ k1 k2 hk => cc (fun _ => cf (nd ?_) (hk _)) fun _ => hk _
        rw [rng_mem] at hp
        exact ys_true okc f hp
      · have rowIn := roll_in s2 (m := c.firstOf 5) (by omega)
        refine cc (fun _ => cf kn (cf kn (hk _))) fun ne => cc (fun _ => ?_) fun _ => hk _
        obtain ⟨q1, q2, q3⟩ := place_is f rfl ne
        refine cf (or_ff (nd q1.symm) (or_ff (nd ?_) (nd ?_))) (cf (nd (day_first okc f hl q2 rowIn)) (hk _))
        · rw [q1]; rfl
        · rw [q1]; rfl
    · exact ⟨fi_nil, by show 0 + _ = _; rw [Nat.zero_add], fun x hx => name_ok hx⟩
  · rw [Int.add_sub_cancel]
end Rw
namespace Rw
open PySem PySem.Spec PyProof.Rows L2 Evl
local macro_rules | `(tactic| walk_at "sq") => `(tactic| first | assumption | exact SqL.of (by assumption) | exact SqT.of (by assumption))
local macro_rules | `(tactic| walk_at "at") => `(tactic| first | exact atI_nat (j := 0) rfl | exact atI_nat (j := 1) rfl | exact atI_nat (j := 2) rfl | exact atI_nat (j := 3) rfl)
local macro_rules | `(tactic| walk_at "rv") => `(tactic| first
  | with_reducible exact rv_I0
  | ((with_reducible refine' rv_I ?k1); (case k1 => first | (show (0 : Int) < _; omega) | exact ⟨by omega, by omega⟩ | exact .inr ⟨by omega, by omega⟩ | exact .inl ⟨by omega, by omega⟩ | exact ⟨by decide, by decide, by decide⟩))
  | ((with_reducible refine' rv_eq ?k1); (case k1 => exact rfl))
  | ((with_reducible refine' rv_ne ?k1); (case k1 => exact rfl))
  | (refine' rv_ixL ?k1 ?k2; (case k1 => walk_at "sq"); (case k2 => walk_at "at"))
  | (refine' rv_ixT ?k1 ?k2; (case k1 => walk_at "sq"); (case k2 => walk_at "at")))
local macro_rules | `(tactic| walk_at "rc") => `(tactic| first | exact rc_int1 | exact rc_int1b | exact rc_abs)
local macro_rules | `(tactic| walk_at "ea") => `(tactic| first
  | with_reducible exact ea_nil
  | ((with_reducible refine' ea_cons ?k1 ?k2); (case k1 => walk_at "ev"); (case k2 => walk_at "ea")))
local macro_rules | `(tactic| walk_at "ev") => `(tactic| first
  | with_reducible exact ev_c
  | ((with_reducible refine' ev_var ?k1); (case k1 => exact rfl))
  | ((with_reducible refine' ev_op ?k1 ?k2 ?k3); (case k1 => walk_at "ev"); (case k2 => walk_at "ev"); (case k3 => walk_at "rv"))
  | ((with_reducible refine' et_chain ?k1 ?k2 ?k3 ?k4 ?k5); (case k1 => walk_at "ev"); (case k2 => walk_at "ev"); (case k3 => (intro _; walk_at "ev")); (case k4 => walk_at "rv"); (case k5 => (intro _; walk_at "rv")))
  | ((with_reducible refine' ev_cb ?k1 ?k2); (case k1 => walk_at "ea"); (case k2 => walk_at "rc")))
local macro_rules | `(tactic| walk_at "et") => `(tactic| first
  | ((with_reducible refine' et_test ?k1); (case k1 => walk_at "ev"))
  | ((with_reducible refine' et_B ?k1); (case k1 => walk_at "ev"))
  | ((with_reducible refine' et_and ?k1 ?k2); (case k1 => walk_at "et"); (case k2 => (intro _; walk_at "et")))
  | ((with_reducible refine' et_or ?k1 ?k2); (case k1 => walk_at "et"); (case k2 => (intro _; walk_at "et")))
  | ((with_reducible refine' et_not ?k1); (case k1 => walk_at "et")))
section
variable {P : Program} {w : World} {K : PySem.W.Frag} {mg : Str → Option Value} {base : Heap}
theorem ok_rollX {f : Addr} {fd : FuncData} (F : Fun K "_law_roll" "_law_roll" sRoll f fd) (B : Blt mg) : FnOk P w K mg base (L2.CX P w) 1 f fd ["dice", "many"] spRollX := by
  refine F.okX scRoll (fun vs H Q E h => ?_) (fun cdv A outer s H vs Q E hr h => ?_)
  · obtain ⟨d, x, m, rfl, _⟩ := h
    rfl
  · obtain ⟨d, ⟨a, b, c⟩, m, rfl, hd, h0, h1, q⟩ := h
    have hd : H d = some (.lst [.int a, .int b, .int c]) := hd
    refine ⟨_, pss_cons (ps_if (PW.pt (pw_or (pt_cmpR op_eq (pe_ix ix_list (pv 0) pe_int (fun _ _ => rfl)) pe_int (nomark _)) (pw_or1 (PW.pt (pw_and (pt_cmpR op_eq (pe_ix ix_list (pv 0) pe_int (fun _ _ => rfl)) pe_int (nomark _)) (pw_and1 (pt_cmpR op_gt (pe_ix ix_list (pv 0) pe_int (fun _ _ => rfl)) pe_int (nomark _))))))))
        (pss_cons (ps_set (i := 2) scRoll.nd rfl (.inl rfl) (pe_op op_mod (pe_callTy call_int1 (by rfl) B.int (by decide +kernel) (pa_cons (pe_ix ix_list (pv 0) pe_int (fun _ _ => rfl)) pa_nil)) (pv 1)))
        (pss_cons (ps_asg (pe_op op_fdiv (pe_ix ix_list (pv 0) pe_int (fun _ _ => rfl)) (pv 1)) (pg_sub (pv 0) pe_int set_list))
        (pss_one (ps_ret (pv 2))))) pss_nil)
      (pss_cons (ps_asg pe_int (pg_sub (pv 0) pe_int set_list))
      (pss_cons (ps_asg (pe_op op_mod (pe_callTy call_int1 (by rfl) B.int (by decide +kernel) (pa_cons (pe_op op_add (pe_op op_add (pe_op op_mul (pe_ix ix_list (pv 0) pe_int (fun _ _ => rfl)) pe_int) (pe_op op_mul (pe_ix ix_list (pv 0) pe_int (fun _ _ => rfl)) pe_int)) pe_int) pa_nil)) pe_int) (pg_sub (pv 0) pe_int set_list))
      (pss_cons (ps_asg (pe_op op_add (pe_ix ix_list (pv 0) pe_int (fun _ _ => rfl)) pe_int) (pg_sub (pv 0) pe_int set_list))
      (pss_one (ps_ret (pe_op op_mod (pe_callTy call_int1 (by rfl) B.int (by decide +kernel) (pa_cons (pe_op op_add (pe_op op_fdiv (pe_ix ix_list (pv 0) pe_int (fun _ _ => rfl)) pe_int) (pe_ix ix_list (pv 0) pe_int (fun _ _ => rfl))) pa_nil)) (pv 1))))))), ?_⟩
    refine q_when (b := decide (c = 2) || (decide (c = 1) && decide (0 < a))) (et_is (by walk_at "et") (by congr 1 <;> simp)) (fun hb H1 e1 => ?_) (fun hb H1 e1 => ?_)
    · have hd1 := e1 d _ hd
      refine q_asg (by walk_at "ev") fun H2 e2 => ?_
      have hd2 := e2 d _ hd1
      refine q_setL (j := 0) hd2 (by walk_at "ev") (by walk_at "ev") (by exact ev_c) (by show 0 < 3; decide) fun H3 e3 => ?_
      refine s_ret (by walk_at "ev") fun H4 e4 => ?_
      have er : roll (a, b, c) m = (a % m, (a / m, b, c)) := by unfold roll; rw [if_pos hb]
      rw [er] at q
      exact q H4 (((ExB.of ((e1.trans e2).trans e3)).upd).ex e4) (e4 d _ upd_same)
    · have hd1 := e1 d _ hd
      refine q_setL (j := 2) hd1 (by walk_at "ev") (by walk_at "ev") (by exact ev_c) (by show 2 < 3; decide) fun H2 e2 => ?_
      have hd2 : upd H2 d (.lst [.int a, .int b, .int 0]) d = some _ := upd_same
      refine q_setL (xs := [.int a, .int b, .int 0]) (j := 0) hd2 (by walk_at "ev") (by walk_at "ev") (by exact ev_c) (by show 0 < 3; decide) fun H3 e3 => ?_
      have b1 : ExB d H (upd H2 d (.lst [.int a, .int b, .int 0])) := (ExB.of (e1.trans e2)).upd
      generalize hz : (a * 48271 + b * 69621 + 11) % 2147483647 = z
      have hd3 : upd H3 d (.lst [.int z, .int b, .int 0]) d = some _ := upd_same
      refine q_setL (xs := [.int z, .int b, .int 0]) (j := 1) hd3 (by walk_at "ev") (by walk_at "ev") (by exact ev_c) (by show 1 < 3; decide) fun H4 e4 => ?_
      have b2 : ExB d H (upd H3 d (.lst [.int z, .int b, .int 0])) := (b1.ex e3).upd
      have hd4 : upd H4 d (.lst [.int z, .int (b + 1), .int 0]) d = some _ := upd_same
      have b3 : ExB d H (upd H4 d (.lst [.int z, .int (b + 1), .int 0])) := (b2.ex e4).upd
      refine s_ret (v := .int ((z / 7 + z) % m)) (by walk_at "ev") fun H5 e5 => ?_
      have er : roll (a, b, c) m = ((z / 7 + z) % m, (z, b + 1, 0)) := by unfold roll; rw [if_neg (by rw [hb]; decide), ← hz]
      rw [er] at q
      exact q H5 (b3.ex e5) (e5 d _ hd4)
end
end Rw
namespace Rw
open PySem PySem.Spec PyProof.Rows L2 Evl Cy
/-- an error of the class at S is what «except S» names, and none of the classes before it -/
def exRow (K : PySem.W.Frag) (C : Addr) (before : List Addr) : Bool := decide (PySem.W.exmOne K (.ref C) (.ref C) = some true) && before.all fun b => decide (PySem.W.exmOne K (.ref C) (.ref b) = some false)
def cOf (l : List Addr) (i : Nat) : Addr := l.getD i 0
theorem exRow_self {K : PySem.W.Frag} {C : Addr} {l : List Addr} (h : exRow K C l = true) : PySem.W.exmOne K (.ref C) (.ref C) = some true := by
  unfold exRow at h
  exact of_decide_eq_true (Bool.and_eq_true_iff.mp h).1
theorem exRow_mem {K : PySem.W.Frag} {C b : Addr} {l : List Addr} (h : exRow K C l = true) (hb : b ∈ l) : PySem.W.exmOne K (.ref C) (.ref b) = some false := by
  unfold exRow at h
  exact of_decide_eq_true (List.all_eq_true.mp (Bool.and_eq_true_iff.mp h).2 b hb)
section
variable {P : Program} {w : World} {K : PySem.W.Frag} {mg : Str → Option Value} {base : Heap}
theorem cal_of {x : Str} {k : Nat} {sp : Sp} {st : Stmt} {f : Addr} {fd : FuncData} {ps : List Str} (F : Fun K x x st f fd) (hm : mg x = some (.ref f)) (ok : FnOk P w K mg base (L2.CX P w) k f fd ps sp) (b : Binds K fd ps []) : Cal P w K mg base k x sp [] :=
  ⟨f, fd, ps, [], hm, F.kp, ok, b, .nil⟩
theorem mt_of {m q : Str} {k : Nat} {C : Addr} {sp : Sp} {st : Stmt} {f : Addr} {fd : FuncData} {ps : List Str} (c : Cls K C) (me : Meth K C m f) (F : Fun K m q st f fd) (ok : FnOk P w K mg base (L2.CX P w) k f fd ps sp) (b : Binds K fd ps []) : Mt P w K mg base k C m sp [] :=
  ⟨f, fd, ps, [], c, me, ok, b, .nil⟩
theorem nw_of {x m q : Str} {k : Nat} {C : Addr} {sp : Sp} {st : Stmt} {f : Addr} {fd : FuncData} {ps : List Str} (M : Mk K C f) (hm : mg x = some (.ref C)) (F : Fun K m q st f fd) (ok : FnOk P w K mg base (L2.CX P w) k f fd ps sp) (b : Binds K fd ps []) : Nw P w K mg base k x C sp [] :=
  ⟨f, fd, ps, [], M, hm, ok, b, .nil⟩
end
theorem all_mk {P : Program} {w : World} {K : PySem.W.Frag} {h : Heap} {mg : Str → Option Value} {C0 C1 C2 C3 C4 C5 C6 C7 C8 C9 C10 f_count_below f_begins f__law_dice f__law_roll f__law_rounds f__law_told f__law_calendar f__law_rows CC f_Calendar_init f_Calendar_cycle_days f_Calendar_is_long f_Calendar_year_days f_Calendar_month_days f_Calendar_first_of f_Calendar_number_of f_Calendar_year_of f_Calendar_date f_Calendar_weekday_of DD f_Day_init f_Day_month_number CP f_Pair_init f_Pair_across f_Pair_back f_Pair_both_begin CG f_Reigns_init f_Reigns_reign f_Reigns_told f_Reigns_day_number f_Reigns_is_in f_Reigns_years_of fL fa : Addr} (X : K.In h) (G : h.Ns mainGlobals mg) (hfa : mg "law" = some (.ref fa)) (own : LamX.OwnTab K fa h)
    {od_count_below an_count_below : Option Addr} {sl_count_below : Array (Option Value)} {oc_count_below kV_count_below dc_count_below pm_count_below cd_count_below ct_count_below : Value}
    {od_begins an_begins : Option Addr} {sl_begins : Array (Option Value)} {oc_begins kV_begins dc_begins pm_begins cd_begins ct_begins : Value}
    {od__law_dice an__law_dice : Option Addr} {sl__law_dice : Array (Option Value)} {oc__law_dice kV__law_dice dc__law_dice pm__law_dice cd__law_dice ct__law_dice : Value}
    {od__law_roll an__law_roll : Option Addr} {sl__law_roll : Array (Option Value)} {oc__law_roll kV__law_roll dc__law_roll pm__law_roll cd__law_roll ct__law_roll : Value}
    {od__law_rounds an__law_rounds : Option Addr} {sl__law_rounds : Array (Option Value)} {oc__law_rounds kV__law_rounds dc__law_rounds pm__law_rounds cd__law_rounds ct__law_rounds : Value}
    {od__law_told an__law_told : Option Addr} {sl__law_told : Array (Option Value)} {oc__law_told kV__law_told dc__law_told pm__law_told cd__law_told ct__law_told : Value}
    {od__law_calendar an__law_calendar : Option Addr} {sl__law_calendar : Array (Option Value)} {oc__law_calendar kV__law_calendar dc__law_calendar pm__law_calendar cd__law_calendar ct__law_calendar : Value}
    {od__law_rows an__law_rows : Option Addr} {sl__law_rows : Array (Option Value)} {oc__law_rows kV__law_rows dc__law_rows pm__law_rows cd__law_rows ct__law_rows : Value}
    {od_Calendar_init an_Calendar_init : Option Addr} {sl_Calendar_init : Array (Option Value)} {oc_Calendar_init kV_Calendar_init dc_Calendar_init pm_Calendar_init cd_Calendar_init ct_Calendar_init : Value}
    {T_Calendar_init : Addr} {oT_Calendar_init : Obj} {tk0_Calendar_init : Tok} {nT_Calendar_init : Nat}
    {od_Calendar_cycle_days an_Calendar_cycle_days : Option Addr} {sl_Calendar_cycle_days : Array (Option Value)} {oc_Calendar_cycle_days kV_Calendar_cycle_days dc_Calendar_cycle_days pm_Calendar_cycle_days cd_Calendar_cycle_days ct_Calendar_cycle_days : Value}
    {od_Calendar_is_long an_Calendar_is_long : Option Addr} {sl_Calendar_is_long : Array (Option Value)} {oc_Calendar_is_long kV_Calendar_is_long dc_Calendar_is_long pm_Calendar_is_long cd_Calendar_is_long ct_Calendar_is_long : Value}
    {od_Calendar_year_days an_Calendar_year_days : Option Addr} {sl_Calendar_year_days : Array (Option Value)} {oc_Calendar_year_days kV_Calendar_year_days dc_Calendar_year_days pm_Calendar_year_days cd_Calendar_year_days ct_Calendar_year_days : Value}
    {od_Calendar_month_days an_Calendar_month_days : Option Addr} {sl_Calendar_month_days : Array (Option Value)} {oc_Calendar_month_days kV_Calendar_month_days dc_Calendar_month_days pm_Calendar_month_days cd_Calendar_month_days ct_Calendar_month_days : Value}
    {od_Calendar_first_of an_Calendar_first_of : Option Addr} {sl_Calendar_first_of : Array (Option Value)} {oc_Calendar_first_of kV_Calendar_first_of dc_Calendar_first_of pm_Calendar_first_of cd_Calendar_first_of ct_Calendar_first_of : Value}
    {od_Calendar_number_of an_Calendar_number_of : Option Addr} {sl_Calendar_number_of : Array (Option Value)} {oc_Calendar_number_of kV_Calendar_number_of dc_Calendar_number_of pm_Calendar_number_of cd_Calendar_number_of ct_Calendar_number_of : Value}
    {od_Calendar_year_of an_Calendar_year_of : Option Addr} {sl_Calendar_year_of : Array (Option Value)} {oc_Calendar_year_of kV_Calendar_year_of dc_Calendar_year_of pm_Calendar_year_of cd_Calendar_year_of ct_Calendar_year_of : Value}
    {od_Calendar_date an_Calendar_date : Option Addr} {sl_Calendar_date : Array (Option Value)} {oc_Calendar_date kV_Calendar_date dc_Calendar_date pm_Calendar_date cd_Calendar_date ct_Calendar_date : Value}
    {od_Calendar_weekday_of an_Calendar_weekday_of : Option Addr} {sl_Calendar_weekday_of : Array (Option Value)} {oc_Calendar_weekday_of kV_Calendar_weekday_of dc_Calendar_weekday_of pm_Calendar_weekday_of cd_Calendar_weekday_of ct_Calendar_weekday_of : Value}
    {od_Day_init an_Day_init : Option Addr} {sl_Day_init : Array (Option Value)} {oc_Day_init kV_Day_init dc_Day_init pm_Day_init cd_Day_init ct_Day_init : Value}
    {od_Day_month_number an_Day_month_number : Option Addr} {sl_Day_month_number : Array (Option Value)} {oc_Day_month_number kV_Day_month_number dc_Day_month_number pm_Day_month_number cd_Day_month_number ct_Day_month_number : Value}
    {od_Pair_init an_Pair_init : Option Addr} {sl_Pair_init : Array (Option Value)} {oc_Pair_init kV_Pair_init dc_Pair_init pm_Pair_init cd_Pair_init ct_Pair_init : Value}
    {od_Pair_across an_Pair_across : Option Addr} {sl_Pair_across : Array (Option Value)} {oc_Pair_across kV_Pair_across dc_Pair_across pm_Pair_across cd_Pair_across ct_Pair_across : Value}
    {od_Pair_back an_Pair_back : Option Addr} {sl_Pair_back : Array (Option Value)} {oc_Pair_back kV_Pair_back dc_Pair_back pm_Pair_back cd_Pair_back ct_Pair_back : Value}
    {od_Pair_both_begin an_Pair_both_begin : Option Addr} {sl_Pair_both_begin : Array (Option Value)} {oc_Pair_both_begin kV_Pair_both_begin dc_Pair_both_begin pm_Pair_both_begin cd_Pair_both_begin ct_Pair_both_begin : Value}
    {od_Reigns_init an_Reigns_init : Option Addr} {sl_Reigns_init : Array (Option Value)} {oc_Reigns_init kV_Reigns_init dc_Reigns_init pm_Reigns_init cd_Reigns_init ct_Reigns_init : Value}
    {od_Reigns_reign an_Reigns_reign : Option Addr} {sl_Reigns_reign : Array (Option Value)} {oc_Reigns_reign kV_Reigns_reign dc_Reigns_reign pm_Reigns_reign cd_Reigns_reign ct_Reigns_reign : Value}
    {od_Reigns_told an_Reigns_told : Option Addr} {sl_Reigns_told : Array (Option Value)} {oc_Reigns_told kV_Reigns_told dc_Reigns_told pm_Reigns_told cd_Reigns_told ct_Reigns_told : Value}
    {od_Reigns_day_number an_Reigns_day_number : Option Addr} {sl_Reigns_day_number : Array (Option Value)} {oc_Reigns_day_number kV_Reigns_day_number dc_Reigns_day_number pm_Reigns_day_number cd_Reigns_day_number ct_Reigns_day_number : Value}
    {od_Reigns_is_in an_Reigns_is_in : Option Addr} {sl_Reigns_is_in : Array (Option Value)} {oc_Reigns_is_in kV_Reigns_is_in dc_Reigns_is_in pm_Reigns_is_in cd_Reigns_is_in ct_Reigns_is_in : Value}
    {od_Reigns_years_of an_Reigns_years_of : Option Addr} {sl_Reigns_years_of : Array (Option Value)} {oc_Reigns_years_of kV_Reigns_years_of dc_Reigns_years_of pm_Reigns_years_of cd_Reigns_years_of ct_Reigns_years_of : Value}
    {od_L an_L : Option Addr} {sl_L : Array (Option Value)} {oc_L kV_L dc_L pm_L ct_L : Value} {cc PT : Addr} {eC : Value} {dC : Option Addr} {vC : Array Value} {sC : Array (Option Value)}
    (e0 : PySem.W.nsIn K mainGlobals "BadCalendar" = some (some (.ref C0)))
    (ex0 : PySem.W.excIn K C0 [.type "ValueError", .type "Exception", .type "BaseException", .type "object"] "ValueError.__new__" = true)
    (ek0 : PySem.W.keepIn K (.ref C0) = true)
    (eb0 : PySem.W.subIn K (.ref C0) (.type "BaseException") = some true)
    (et0 : PySem.W.typeIn K (.ref C0) = some (.type "type"))
    (e1 : PySem.W.nsIn K mainGlobals "BadDay" = some (some (.ref C1)))
    (ex1 : PySem.W.excIn K C1 [.type "ValueError", .type "Exception", .type "BaseException", .type "object"] "ValueError.__new__" = true)
    (ek1 : PySem.W.keepIn K (.ref C1) = true)
    (eb1 : PySem.W.subIn K (.ref C1) (.type "BaseException") = some true)
    (et1 : PySem.W.typeIn K (.ref C1) = some (.type "type"))
    (e2 : PySem.W.nsIn K mainGlobals "BadTime" = some (some (.ref C2)))
    (ex2 : PySem.W.excIn K C2 [.type "ValueError", .type "Exception", .type "BaseException", .type "object"] "ValueError.__new__" = true)
    (ek2 : PySem.W.keepIn K (.ref C2) = true)
    (eb2 : PySem.W.subIn K (.ref C2) (.type "BaseException") = some true)
    (et2 : PySem.W.typeIn K (.ref C2) = some (.type "type"))
    (e3 : PySem.W.nsIn K mainGlobals "BadRule" = some (some (.ref C3)))
    (ex3 : PySem.W.excIn K C3 [.type "ValueError", .type "Exception", .type "BaseException", .type "object"] "ValueError.__new__" = true)
    (ek3 : PySem.W.keepIn K (.ref C3) = true)
    (eb3 : PySem.W.subIn K (.ref C3) (.type "BaseException") = some true)
    (et3 : PySem.W.typeIn K (.ref C3) = some (.type "type"))
    (e4 : PySem.W.nsIn K mainGlobals "BadZone" = some (some (.ref C4)))
    (ex4 : PySem.W.excIn K C4 [.type "ValueError", .type "Exception", .type "BaseException", .type "object"] "ValueError.__new__" = true)
    (ek4 : PySem.W.keepIn K (.ref C4) = true)
    (eb4 : PySem.W.subIn K (.ref C4) (.type "BaseException") = some true)
    (et4 : PySem.W.typeIn K (.ref C4) = some (.type "type"))
    (e5 : PySem.W.nsIn K mainGlobals "BadSize" = some (some (.ref C5)))
    (ex5 : PySem.W.excIn K C5 [.type "ValueError", .type "Exception", .type "BaseException", .type "object"] "ValueError.__new__" = true)
    (ek5 : PySem.W.keepIn K (.ref C5) = true)
    (eb5 : PySem.W.subIn K (.ref C5) (.type "BaseException") = some true)
    (et5 : PySem.W.typeIn K (.ref C5) = some (.type "type"))
    (e6 : PySem.W.nsIn K mainGlobals "BadPaper" = some (some (.ref C6)))
    (ex6 : PySem.W.excIn K C6 [.type "ValueError", .type "Exception", .type "BaseException", .type "object"] "ValueError.__new__" = true)
    (ek6 : PySem.W.keepIn K (.ref C6) = true)
    (eb6 : PySem.W.subIn K (.ref C6) (.type "BaseException") = some true)
    (et6 : PySem.W.typeIn K (.ref C6) = some (.type "type"))
    (e7 : PySem.W.nsIn K mainGlobals "BadText" = some (some (.ref C7)))
    (ex7 : PySem.W.excIn K C7 [.type "ValueError", .type "Exception", .type "BaseException", .type "object"] "ValueError.__new__" = true)
    (ek7 : PySem.W.keepIn K (.ref C7) = true)
    (eb7 : PySem.W.subIn K (.ref C7) (.type "BaseException") = some true)
    (et7 : PySem.W.typeIn K (.ref C7) = some (.type "type"))
    (e8 : PySem.W.nsIn K mainGlobals "BadStore" = some (some (.ref C8)))
    (ex8 : PySem.W.excIn K C8 [.type "ValueError", .type "Exception", .type "BaseException", .type "object"] "ValueError.__new__" = true)
    (ek8 : PySem.W.keepIn K (.ref C8) = true)
    (eb8 : PySem.W.subIn K (.ref C8) (.type "BaseException") = some true)
    (et8 : PySem.W.typeIn K (.ref C8) = some (.type "type"))
    (e9 : PySem.W.nsIn K mainGlobals "NoDay" = some (some (.ref C9)))
    (ex9 : PySem.W.excIn K C9 [.type "ValueError", .type "Exception", .type "BaseException", .type "object"] "ValueError.__new__" = true)
    (ek9 : PySem.W.keepIn K (.ref C9) = true)
    (eb9 : PySem.W.subIn K (.ref C9) (.type "BaseException") = some true)
    (et9 : PySem.W.typeIn K (.ref C9) = some (.type "type"))
    (e10 : PySem.W.nsIn K mainGlobals "NoSuch" = some (some (.ref C10)))
    (ex10 : PySem.W.excIn K C10 [.type "ValueError", .type "Exception", .type "BaseException", .type "object"] "ValueError.__new__" = true)
    (ek10 : PySem.W.keepIn K (.ref C10) = true)
    (eb10 : PySem.W.subIn K (.ref C10) (.type "BaseException") = some true)
    (et10 : PySem.W.typeIn K (.ref C10) = some (.type "type"))
    (em0 : exRow K C0 [] = true)
    (em1 : exRow K C1 [C0] = true)
    (em2 : exRow K C2 [C0, C1] = true)
    (em3 : exRow K C3 [C0, C1, C2] = true)
    (em4 : exRow K C4 [C0, C1, C2, C3] = true)
    (em5 : exRow K C5 [C0, C1, C2, C3, C4] = true)
    (em6 : exRow K C6 [C0, C1, C2, C3, C4, C5] = true)
    (em7 : exRow K C7 [C0, C1, C2, C3, C4, C5, C6] = true)
    (em8 : exRow K C8 [C0, C1, C2, C3, C4, C5, C6, C7] = true)
    (em9 : exRow K C9 [C0, C1, C2, C3, C4, C5, C6, C7, C8] = true)
    (em10 : exRow K C10 [C0, C1, C2, C3, C4, C5, C6, C7, C8, C9] = true)
    (a_count_below : PySem.W.nsIn K mainGlobals "count_below" = some (some (.ref f_count_below)))
    (l_count_below : K.lookup f_count_below = some ⟨oc_count_below, od_count_below, .func (PySem.W.fnOf "count_below" "count_below" (defArgs s_count_below) (defBody s_count_below) (defScope s_count_below) .none kV_count_below dc_count_below pm_count_below an_count_below cd_count_below ct_count_below), sl_count_below⟩)
    (c_count_below : PySem.W.codeIn K cd_count_below "count_below" = true)
    (k_count_below : PySem.W.keepIn K (.ref f_count_below) = true)
    (a_begins : PySem.W.nsIn K mainGlobals "begins" = some (some (.ref f_begins)))
    (l_begins : K.lookup f_begins = some ⟨oc_begins, od_begins, .func (PySem.W.fnOf "begins" "begins" (defArgs s_begins) (defBody s_begins) (defScope s_begins) .none kV_begins dc_begins pm_begins an_begins cd_begins ct_begins), sl_begins⟩)
    (c_begins : PySem.W.codeIn K cd_begins "begins" = true)
    (k_begins : PySem.W.keepIn K (.ref f_begins) = true)
    (a__law_dice : PySem.W.nsIn K mainGlobals "_law_dice" = some (some (.ref f__law_dice)))
    (l__law_dice : K.lookup f__law_dice = some ⟨oc__law_dice, od__law_dice, .func (PySem.W.fnOf "_law_dice" "_law_dice" (defArgs sDice) (defBody sDice) (defScope sDice) .none kV__law_dice dc__law_dice pm__law_dice an__law_dice cd__law_dice ct__law_dice), sl__law_dice⟩)
    (c__law_dice : PySem.W.codeIn K cd__law_dice "_law_dice" = true)
    (k__law_dice : PySem.W.keepIn K (.ref f__law_dice) = true)
    (a__law_roll : PySem.W.nsIn K mainGlobals "_law_roll" = some (some (.ref f__law_roll)))
    (l__law_roll : K.lookup f__law_roll = some ⟨oc__law_roll, od__law_roll, .func (PySem.W.fnOf "_law_roll" "_law_roll" (defArgs sRoll) (defBody sRoll) (defScope sRoll) .none kV__law_roll dc__law_roll pm__law_roll an__law_roll cd__law_roll ct__law_roll), sl__law_roll⟩)
    (c__law_roll : PySem.W.codeIn K cd__law_roll "_law_roll" = true)
    (k__law_roll : PySem.W.keepIn K (.ref f__law_roll) = true)
    (a__law_rounds : PySem.W.nsIn K mainGlobals "_law_rounds" = some (some (.ref f__law_rounds)))
    (l__law_rounds : K.lookup f__law_rounds = some ⟨oc__law_rounds, od__law_rounds, .func (PySem.W.fnOf "_law_rounds" "_law_rounds" (defArgs sRounds) (defBody sRounds) (defScope sRounds) .none kV__law_rounds dc__law_rounds pm__law_rounds an__law_rounds cd__law_rounds ct__law_rounds), sl__law_rounds⟩)
    (c__law_rounds : PySem.W.codeIn K cd__law_rounds "_law_rounds" = true)
    (k__law_rounds : PySem.W.keepIn K (.ref f__law_rounds) = true)
    (a__law_told : PySem.W.nsIn K mainGlobals "_law_told" = some (some (.ref f__law_told)))
    (l__law_told : K.lookup f__law_told = some ⟨oc__law_told, od__law_told, .func (PySem.W.fnOf "_law_told" "_law_told" (defArgs sTold) (defBody sTold) (defScope sTold) .none kV__law_told dc__law_told pm__law_told an__law_told cd__law_told ct__law_told), sl__law_told⟩)
    (c__law_told : PySem.W.codeIn K cd__law_told "_law_told" = true)
    (k__law_told : PySem.W.keepIn K (.ref f__law_told) = true)
    (a__law_calendar : PySem.W.nsIn K mainGlobals "_law_calendar" = some (some (.ref f__law_calendar)))
    (l__law_calendar : K.lookup f__law_calendar = some ⟨oc__law_calendar, od__law_calendar, .func (PySem.W.fnOf "_law_calendar" "_law_calendar" (defArgs s_cal) (defBody s_cal) (defScope s_cal) .none kV__law_calendar dc__law_calendar pm__law_calendar an__law_calendar cd__law_calendar ct__law_calendar), sl__law_calendar⟩)
    (c__law_calendar : PySem.W.codeIn K cd__law_calendar "_law_calendar" = true)
    (k__law_calendar : PySem.W.keepIn K (.ref f__law_calendar) = true)
    (a__law_rows : PySem.W.nsIn K mainGlobals "_law_rows" = some (some (.ref f__law_rows)))
    (l__law_rows : K.lookup f__law_rows = some ⟨oc__law_rows, od__law_rows, .func (PySem.W.fnOf "_law_rows" "_law_rows" (defArgs s_rows) (defBody s_rows) (defScope s_rows) .none kV__law_rows dc__law_rows pm__law_rows an__law_rows cd__law_rows ct__law_rows), sl__law_rows⟩)
    (c__law_rows : PySem.W.codeIn K cd__law_rows "_law_rows" = true)
    (k__law_rows : PySem.W.keepIn K (.ref f__law_rows) = true)
    (a_Calendar : PySem.W.nsIn K mainGlobals "Calendar" = some (some (.ref CC)))
    (pg_Calendar : PySem.W.plainGet K CC Str.empty = true)
    (hd_Calendar : PySem.W.hasDictIn K CC = true)
    (po_Calendar : PySem.W.plainOver K CC = true)
    (sa_Calendar : PySem.W.findIn K (.ref CC) "__setattr__" = some (some (.builtin "object.__setattr__")))
    (kc_Calendar : PySem.W.keepIn K (.ref CC) = true)
    (mk_Calendar : PySem.W.makesIn K CC = true)
    (n_Calendar_months : PySem.W.findIn K (.ref CC) "months" = some none)
    (n_Calendar_long_month : PySem.W.findIn K (.ref CC) "long_month" = some none)
    (n_Calendar_cycle : PySem.W.findIn K (.ref CC) "cycle" = some none)
    (n_Calendar_long_years : PySem.W.findIn K (.ref CC) "long_years" = some none)
    (n_Calendar_week : PySem.W.findIn K (.ref CC) "week" = some none)
    (n_Calendar_first_weekday : PySem.W.findIn K (.ref CC) "first_weekday" = some none)
    (n_Calendar_longs : PySem.W.findIn K (.ref CC) "longs" = some none)
    (n_Calendar_plain_days : PySem.W.findIn K (.ref CC) "plain_days" = some none)
    (n_Calendar_starts : PySem.W.findIn K (.ref CC) "starts" = some none)
    (m_Calendar_init : PySem.W.findIn K (.ref CC) "__init__" = some (some (.ref f_Calendar_init)))
    (i_Calendar_init : PySem.W.isFn K (.ref f_Calendar_init) = true)
    (l_Calendar_init : K.lookup f_Calendar_init = some ⟨oc_Calendar_init, od_Calendar_init, .func (PySem.W.fnOf "__init__" "Calendar.__init__" (defArgs c_init) (defBody c_init) (defScope c_init) (.ref T_Calendar_init) kV_Calendar_init dc_Calendar_init pm_Calendar_init an_Calendar_init cd_Calendar_init ct_Calendar_init), sl_Calendar_init⟩)
    (c_Calendar_init : PySem.W.codeIn K cd_Calendar_init "Calendar.__init__" = true)
    (k_Calendar_init : PySem.W.keepIn K (.ref f_Calendar_init) = true)
    (lT_Calendar_init : K.lookup T_Calendar_init = some oT_Calendar_init)
    (dT_Calendar_init : oT_Calendar_init.data = .seq #[.int 0 tk0_Calendar_init] nT_Calendar_init)
    (m_Calendar_cycle_days : PySem.W.findIn K (.ref CC) "cycle_days" = some (some (.ref f_Calendar_cycle_days)))
    (i_Calendar_cycle_days : PySem.W.isFn K (.ref f_Calendar_cycle_days) = true)
    (l_Calendar_cycle_days : K.lookup f_Calendar_cycle_days = some ⟨oc_Calendar_cycle_days, od_Calendar_cycle_days, .func (PySem.W.fnOf "cycle_days" "Calendar.cycle_days" (defArgs c_cycle_days) (defBody c_cycle_days) (defScope c_cycle_days) .none kV_Calendar_cycle_days dc_Calendar_cycle_days pm_Calendar_cycle_days an_Calendar_cycle_days cd_Calendar_cycle_days ct_Calendar_cycle_days), sl_Calendar_cycle_days⟩)
    (c_Calendar_cycle_days : PySem.W.codeIn K cd_Calendar_cycle_days "Calendar.cycle_days" = true)
    (k_Calendar_cycle_days : PySem.W.keepIn K (.ref f_Calendar_cycle_days) = true)
    (m_Calendar_is_long : PySem.W.findIn K (.ref CC) "is_long" = some (some (.ref f_Calendar_is_long)))
    (i_Calendar_is_long : PySem.W.isFn K (.ref f_Calendar_is_long) = true)
    (l_Calendar_is_long : K.lookup f_Calendar_is_long = some ⟨oc_Calendar_is_long, od_Calendar_is_long, .func (PySem.W.fnOf "is_long" "Calendar.is_long" (defArgs c_is_long) (defBody c_is_long) (defScope c_is_long) .none kV_Calendar_is_long dc_Calendar_is_long pm_Calendar_is_long an_Calendar_is_long cd_Calendar_is_long ct_Calendar_is_long), sl_Calendar_is_long⟩)
    (c_Calendar_is_long : PySem.W.codeIn K cd_Calendar_is_long "Calendar.is_long" = true)
    (k_Calendar_is_long : PySem.W.keepIn K (.ref f_Calendar_is_long) = true)
    (m_Calendar_year_days : PySem.W.findIn K (.ref CC) "year_days" = some (some (.ref f_Calendar_year_days)))
    (i_Calendar_year_days : PySem.W.isFn K (.ref f_Calendar_year_days) = true)
    (l_Calendar_year_days : K.lookup f_Calendar_year_days = some ⟨oc_Calendar_year_days, od_Calendar_year_days, .func (PySem.W.fnOf "year_days" "Calendar.year_days" (defArgs c_year_days) (defBody c_year_days) (defScope c_year_days) .none kV_Calendar_year_days dc_Calendar_year_days pm_Calendar_year_days an_Calendar_year_days cd_Calendar_year_days ct_Calendar_year_days), sl_Calendar_year_days⟩)
    (c_Calendar_year_days : PySem.W.codeIn K cd_Calendar_year_days "Calendar.year_days" = true)
    (k_Calendar_year_days : PySem.W.keepIn K (.ref f_Calendar_year_days) = true)
    (m_Calendar_month_days : PySem.W.findIn K (.ref CC) "month_days" = some (some (.ref f_Calendar_month_days)))
    (i_Calendar_month_days : PySem.W.isFn K (.ref f_Calendar_month_days) = true)
    (l_Calendar_month_days : K.lookup f_Calendar_month_days = some ⟨oc_Calendar_month_days, od_Calendar_month_days, .func (PySem.W.fnOf "month_days" "Calendar.month_days" (defArgs c_month_days) (defBody c_month_days) (defScope c_month_days) .none kV_Calendar_month_days dc_Calendar_month_days pm_Calendar_month_days an_Calendar_month_days cd_Calendar_month_days ct_Calendar_month_days), sl_Calendar_month_days⟩)
    (c_Calendar_month_days : PySem.W.codeIn K cd_Calendar_month_days "Calendar.month_days" = true)
    (k_Calendar_month_days : PySem.W.keepIn K (.ref f_Calendar_month_days) = true)
    (m_Calendar_first_of : PySem.W.findIn K (.ref CC) "first_of" = some (some (.ref f_Calendar_first_of)))
    (i_Calendar_first_of : PySem.W.isFn K (.ref f_Calendar_first_of) = true)
    (l_Calendar_first_of : K.lookup f_Calendar_first_of = some ⟨oc_Calendar_first_of, od_Calendar_first_of, .func (PySem.W.fnOf "first_of" "Calendar.first_of" (defArgs c_first_of) (defBody c_first_of) (defScope c_first_of) .none kV_Calendar_first_of dc_Calendar_first_of pm_Calendar_first_of an_Calendar_first_of cd_Calendar_first_of ct_Calendar_first_of), sl_Calendar_first_of⟩)
    (c_Calendar_first_of : PySem.W.codeIn K cd_Calendar_first_of "Calendar.first_of" = true)
    (k_Calendar_first_of : PySem.W.keepIn K (.ref f_Calendar_first_of) = true)
    (m_Calendar_number_of : PySem.W.findIn K (.ref CC) "number_of" = some (some (.ref f_Calendar_number_of)))
    (i_Calendar_number_of : PySem.W.isFn K (.ref f_Calendar_number_of) = true)
    (l_Calendar_number_of : K.lookup f_Calendar_number_of = some ⟨oc_Calendar_number_of, od_Calendar_number_of, .func (PySem.W.fnOf "number_of" "Calendar.number_of" (defArgs s_number_of) (defBody s_number_of) (defScope s_number_of) .none kV_Calendar_number_of dc_Calendar_number_of pm_Calendar_number_of an_Calendar_number_of cd_Calendar_number_of ct_Calendar_number_of), sl_Calendar_number_of⟩)
    (c_Calendar_number_of : PySem.W.codeIn K cd_Calendar_number_of "Calendar.number_of" = true)
    (k_Calendar_number_of : PySem.W.keepIn K (.ref f_Calendar_number_of) = true)
    (m_Calendar_year_of : PySem.W.findIn K (.ref CC) "year_of" = some (some (.ref f_Calendar_year_of)))
    (i_Calendar_year_of : PySem.W.isFn K (.ref f_Calendar_year_of) = true)
    (l_Calendar_year_of : K.lookup f_Calendar_year_of = some ⟨oc_Calendar_year_of, od_Calendar_year_of, .func (PySem.W.fnOf "year_of" "Calendar.year_of" (defArgs c_year_of) (defBody c_year_of) (defScope c_year_of) .none kV_Calendar_year_of dc_Calendar_year_of pm_Calendar_year_of an_Calendar_year_of cd_Calendar_year_of ct_Calendar_year_of), sl_Calendar_year_of⟩)
    (c_Calendar_year_of : PySem.W.codeIn K cd_Calendar_year_of "Calendar.year_of" = true)
    (k_Calendar_year_of : PySem.W.keepIn K (.ref f_Calendar_year_of) = true)
    (m_Calendar_date : PySem.W.findIn K (.ref CC) "date" = some (some (.ref f_Calendar_date)))
    (i_Calendar_date : PySem.W.isFn K (.ref f_Calendar_date) = true)
    (l_Calendar_date : K.lookup f_Calendar_date = some ⟨oc_Calendar_date, od_Calendar_date, .func (PySem.W.fnOf "date" "Calendar.date" (defArgs c_date) (defBody c_date) (defScope c_date) .none kV_Calendar_date dc_Calendar_date pm_Calendar_date an_Calendar_date cd_Calendar_date ct_Calendar_date), sl_Calendar_date⟩)
    (c_Calendar_date : PySem.W.codeIn K cd_Calendar_date "Calendar.date" = true)
    (k_Calendar_date : PySem.W.keepIn K (.ref f_Calendar_date) = true)
    (m_Calendar_weekday_of : PySem.W.findIn K (.ref CC) "weekday_of" = some (some (.ref f_Calendar_weekday_of)))
    (i_Calendar_weekday_of : PySem.W.isFn K (.ref f_Calendar_weekday_of) = true)
    (l_Calendar_weekday_of : K.lookup f_Calendar_weekday_of = some ⟨oc_Calendar_weekday_of, od_Calendar_weekday_of, .func (PySem.W.fnOf "weekday_of" "Calendar.weekday_of" (defArgs c_weekday_of) (defBody c_weekday_of) (defScope c_weekday_of) .none kV_Calendar_weekday_of dc_Calendar_weekday_of pm_Calendar_weekday_of an_Calendar_weekday_of cd_Calendar_weekday_of ct_Calendar_weekday_of), sl_Calendar_weekday_of⟩)
    (c_Calendar_weekday_of : PySem.W.codeIn K cd_Calendar_weekday_of "Calendar.weekday_of" = true)
    (k_Calendar_weekday_of : PySem.W.keepIn K (.ref f_Calendar_weekday_of) = true)
    (a_Day : PySem.W.nsIn K mainGlobals "Day" = some (some (.ref DD)))
    (pg_Day : PySem.W.plainGet K DD Str.empty = true)
    (hd_Day : PySem.W.hasDictIn K DD = true)
    (po_Day : PySem.W.plainOver K DD = true)
    (sa_Day : PySem.W.findIn K (.ref DD) "__setattr__" = some (some (.builtin "object.__setattr__")))
    (kc_Day : PySem.W.keepIn K (.ref DD) = true)
    (mk_Day : PySem.W.makesIn K DD = true)
    (n_Day_calendar : PySem.W.findIn K (.ref DD) "calendar" = some none)
    (n_Day_number : PySem.W.findIn K (.ref DD) "number" = some none)
    (n_Day_year : PySem.W.findIn K (.ref DD) "year" = some none)
    (n_Day_month : PySem.W.findIn K (.ref DD) "month" = some none)
    (n_Day_day : PySem.W.findIn K (.ref DD) "day" = some none)
    (n_Day_weekday : PySem.W.findIn K (.ref DD) "weekday" = some none)
    (n_Day_year_day : PySem.W.findIn K (.ref DD) "year_day" = some none)
    (m_Day_init : PySem.W.findIn K (.ref DD) "__init__" = some (some (.ref f_Day_init)))
    (i_Day_init : PySem.W.isFn K (.ref f_Day_init) = true)
    (l_Day_init : K.lookup f_Day_init = some ⟨oc_Day_init, od_Day_init, .func (PySem.W.fnOf "__init__" "Day.__init__" (defArgs d_init) (defBody d_init) (defScope d_init) .none kV_Day_init dc_Day_init pm_Day_init an_Day_init cd_Day_init ct_Day_init), sl_Day_init⟩)
    (c_Day_init : PySem.W.codeIn K cd_Day_init "Day.__init__" = true)
    (k_Day_init : PySem.W.keepIn K (.ref f_Day_init) = true)
    (m_Day_month_number : PySem.W.findIn K (.ref DD) "month_number" = some (some (.ref f_Day_month_number)))
    (i_Day_month_number : PySem.W.isFn K (.ref f_Day_month_number) = true)
    (l_Day_month_number : K.lookup f_Day_month_number = some ⟨oc_Day_month_number, od_Day_month_number, .func (PySem.W.fnOf "month_number" "Day.month_number" (defArgs s_month_number) (defBody s_month_number) (defScope s_month_number) .none kV_Day_month_number dc_Day_month_number pm_Day_month_number an_Day_month_number cd_Day_month_number ct_Day_month_number), sl_Day_month_number⟩)
    (c_Day_month_number : PySem.W.codeIn K cd_Day_month_number "Day.month_number" = true)
    (k_Day_month_number : PySem.W.keepIn K (.ref f_Day_month_number) = true)
    (a_Pair : PySem.W.nsIn K mainGlobals "Pair" = some (some (.ref CP)))
    (pg_Pair : PySem.W.plainGet K CP Str.empty = true)
    (hd_Pair : PySem.W.hasDictIn K CP = true)
    (po_Pair : PySem.W.plainOver K CP = true)
    (sa_Pair : PySem.W.findIn K (.ref CP) "__setattr__" = some (some (.builtin "object.__setattr__")))
    (kc_Pair : PySem.W.keepIn K (.ref CP) = true)
    (mk_Pair : PySem.W.makesIn K CP = true)
    (n_Pair_one : PySem.W.findIn K (.ref CP) "one" = some none)
    (n_Pair_other : PySem.W.findIn K (.ref CP) "other" = some none)
    (n_Pair_offset : PySem.W.findIn K (.ref CP) "offset" = some none)
    (m_Pair_init : PySem.W.findIn K (.ref CP) "__init__" = some (some (.ref f_Pair_init)))
    (i_Pair_init : PySem.W.isFn K (.ref f_Pair_init) = true)
    (l_Pair_init : K.lookup f_Pair_init = some ⟨oc_Pair_init, od_Pair_init, .func (PySem.W.fnOf "__init__" "Pair.__init__" (defArgs s_Pair_init) (defBody s_Pair_init) (defScope s_Pair_init) .none kV_Pair_init dc_Pair_init pm_Pair_init an_Pair_init cd_Pair_init ct_Pair_init), sl_Pair_init⟩)
    (c_Pair_init : PySem.W.codeIn K cd_Pair_init "Pair.__init__" = true)
    (k_Pair_init : PySem.W.keepIn K (.ref f_Pair_init) = true)
    (m_Pair_across : PySem.W.findIn K (.ref CP) "across" = some (some (.ref f_Pair_across)))
    (i_Pair_across : PySem.W.isFn K (.ref f_Pair_across) = true)
    (l_Pair_across : K.lookup f_Pair_across = some ⟨oc_Pair_across, od_Pair_across, .func (PySem.W.fnOf "across" "Pair.across" (defArgs s_Pair_across) (defBody s_Pair_across) (defScope s_Pair_across) .none kV_Pair_across dc_Pair_across pm_Pair_across an_Pair_across cd_Pair_across ct_Pair_across), sl_Pair_across⟩)
    (c_Pair_across : PySem.W.codeIn K cd_Pair_across "Pair.across" = true)
    (k_Pair_across : PySem.W.keepIn K (.ref f_Pair_across) = true)
    (m_Pair_back : PySem.W.findIn K (.ref CP) "back" = some (some (.ref f_Pair_back)))
    (i_Pair_back : PySem.W.isFn K (.ref f_Pair_back) = true)
    (l_Pair_back : K.lookup f_Pair_back = some ⟨oc_Pair_back, od_Pair_back, .func (PySem.W.fnOf "back" "Pair.back" (defArgs s_Pair_back) (defBody s_Pair_back) (defScope s_Pair_back) .none kV_Pair_back dc_Pair_back pm_Pair_back an_Pair_back cd_Pair_back ct_Pair_back), sl_Pair_back⟩)
    (c_Pair_back : PySem.W.codeIn K cd_Pair_back "Pair.back" = true)
    (k_Pair_back : PySem.W.keepIn K (.ref f_Pair_back) = true)
    (m_Pair_both_begin : PySem.W.findIn K (.ref CP) "both_begin" = some (some (.ref f_Pair_both_begin)))
    (i_Pair_both_begin : PySem.W.isFn K (.ref f_Pair_both_begin) = true)
    (l_Pair_both_begin : K.lookup f_Pair_both_begin = some ⟨oc_Pair_both_begin, od_Pair_both_begin, .func (PySem.W.fnOf "both_begin" "Pair.both_begin" (defArgs s_Pair_both_begin) (defBody s_Pair_both_begin) (defScope s_Pair_both_begin) .none kV_Pair_both_begin dc_Pair_both_begin pm_Pair_both_begin an_Pair_both_begin cd_Pair_both_begin ct_Pair_both_begin), sl_Pair_both_begin⟩)
    (c_Pair_both_begin : PySem.W.codeIn K cd_Pair_both_begin "Pair.both_begin" = true)
    (k_Pair_both_begin : PySem.W.keepIn K (.ref f_Pair_both_begin) = true)
    (a_Reigns : PySem.W.nsIn K mainGlobals "Reigns" = some (some (.ref CG)))
    (pg_Reigns : PySem.W.plainGet K CG Str.empty = true)
    (hd_Reigns : PySem.W.hasDictIn K CG = true)
    (po_Reigns : PySem.W.plainOver K CG = true)
    (sa_Reigns : PySem.W.findIn K (.ref CG) "__setattr__" = some (some (.builtin "object.__setattr__")))
    (kc_Reigns : PySem.W.keepIn K (.ref CG) = true)
    (mk_Reigns : PySem.W.makesIn K CG = true)
    (n_Reigns_rows : PySem.W.findIn K (.ref CG) "rows" = some none)
    (n_Reigns_firsts : PySem.W.findIn K (.ref CG) "firsts" = some none)
    (m_Reigns_init : PySem.W.findIn K (.ref CG) "__init__" = some (some (.ref f_Reigns_init)))
    (i_Reigns_init : PySem.W.isFn K (.ref f_Reigns_init) = true)
    (l_Reigns_init : K.lookup f_Reigns_init = some ⟨oc_Reigns_init, od_Reigns_init, .func (PySem.W.fnOf "__init__" "Reigns.__init__" (defArgs s_Reigns_init) (defBody s_Reigns_init) (defScope s_Reigns_init) .none kV_Reigns_init dc_Reigns_init pm_Reigns_init an_Reigns_init cd_Reigns_init ct_Reigns_init), sl_Reigns_init⟩)
    (c_Reigns_init : PySem.W.codeIn K cd_Reigns_init "Reigns.__init__" = true)
    (k_Reigns_init : PySem.W.keepIn K (.ref f_Reigns_init) = true)
    (m_Reigns_reign : PySem.W.findIn K (.ref CG) "reign" = some (some (.ref f_Reigns_reign)))
    (i_Reigns_reign : PySem.W.isFn K (.ref f_Reigns_reign) = true)
    (l_Reigns_reign : K.lookup f_Reigns_reign = some ⟨oc_Reigns_reign, od_Reigns_reign, .func (PySem.W.fnOf "reign" "Reigns.reign" (defArgs s_Reigns_reign) (defBody s_Reigns_reign) (defScope s_Reigns_reign) .none kV_Reigns_reign dc_Reigns_reign pm_Reigns_reign an_Reigns_reign cd_Reigns_reign ct_Reigns_reign), sl_Reigns_reign⟩)
    (c_Reigns_reign : PySem.W.codeIn K cd_Reigns_reign "Reigns.reign" = true)
    (k_Reigns_reign : PySem.W.keepIn K (.ref f_Reigns_reign) = true)
    (m_Reigns_told : PySem.W.findIn K (.ref CG) "told" = some (some (.ref f_Reigns_told)))
    (i_Reigns_told : PySem.W.isFn K (.ref f_Reigns_told) = true)
    (l_Reigns_told : K.lookup f_Reigns_told = some ⟨oc_Reigns_told, od_Reigns_told, .func (PySem.W.fnOf "told" "Reigns.told" (defArgs s_Reigns_told) (defBody s_Reigns_told) (defScope s_Reigns_told) .none kV_Reigns_told dc_Reigns_told pm_Reigns_told an_Reigns_told cd_Reigns_told ct_Reigns_told), sl_Reigns_told⟩)
    (c_Reigns_told : PySem.W.codeIn K cd_Reigns_told "Reigns.told" = true)
    (k_Reigns_told : PySem.W.keepIn K (.ref f_Reigns_told) = true)
    (m_Reigns_day_number : PySem.W.findIn K (.ref CG) "day_number" = some (some (.ref f_Reigns_day_number)))
    (i_Reigns_day_number : PySem.W.isFn K (.ref f_Reigns_day_number) = true)
    (l_Reigns_day_number : K.lookup f_Reigns_day_number = some ⟨oc_Reigns_day_number, od_Reigns_day_number, .func (PySem.W.fnOf "day_number" "Reigns.day_number" (defArgs s_Reigns_day_number) (defBody s_Reigns_day_number) (defScope s_Reigns_day_number) .none kV_Reigns_day_number dc_Reigns_day_number pm_Reigns_day_number an_Reigns_day_number cd_Reigns_day_number ct_Reigns_day_number), sl_Reigns_day_number⟩)
    (c_Reigns_day_number : PySem.W.codeIn K cd_Reigns_day_number "Reigns.day_number" = true)
    (k_Reigns_day_number : PySem.W.keepIn K (.ref f_Reigns_day_number) = true)
    (m_Reigns_is_in : PySem.W.findIn K (.ref CG) "is_in" = some (some (.ref f_Reigns_is_in)))
    (i_Reigns_is_in : PySem.W.isFn K (.ref f_Reigns_is_in) = true)
    (l_Reigns_is_in : K.lookup f_Reigns_is_in = some ⟨oc_Reigns_is_in, od_Reigns_is_in, .func (PySem.W.fnOf "is_in" "Reigns.is_in" (defArgs s_Reigns_is_in) (defBody s_Reigns_is_in) (defScope s_Reigns_is_in) .none kV_Reigns_is_in dc_Reigns_is_in pm_Reigns_is_in an_Reigns_is_in cd_Reigns_is_in ct_Reigns_is_in), sl_Reigns_is_in⟩)
    (c_Reigns_is_in : PySem.W.codeIn K cd_Reigns_is_in "Reigns.is_in" = true)
    (k_Reigns_is_in : PySem.W.keepIn K (.ref f_Reigns_is_in) = true)
    (m_Reigns_years_of : PySem.W.findIn K (.ref CG) "years_of" = some (some (.ref f_Reigns_years_of)))
    (i_Reigns_years_of : PySem.W.isFn K (.ref f_Reigns_years_of) = true)
    (l_Reigns_years_of : K.lookup f_Reigns_years_of = some ⟨oc_Reigns_years_of, od_Reigns_years_of, .func (PySem.W.fnOf "years_of" "Reigns.years_of" (defArgs s_Reigns_years_of) (defBody s_Reigns_years_of) (defScope s_Reigns_years_of) .none kV_Reigns_years_of dc_Reigns_years_of pm_Reigns_years_of an_Reigns_years_of cd_Reigns_years_of ct_Reigns_years_of), sl_Reigns_years_of⟩)
    (c_Reigns_years_of : PySem.W.codeIn K cd_Reigns_years_of "Reigns.years_of" = true)
    (k_Reigns_years_of : PySem.W.keepIn K (.ref f_Reigns_years_of) = true)
    (n_int : PySem.W.nsIn K mainGlobals "int" = some none)
    (n_abs : PySem.W.nsIn K mainGlobals "abs" = some none)
    (n_len : PySem.W.nsIn K mainGlobals "len" = some none)
    (n_any : PySem.W.nsIn K mainGlobals "any" = some none)
    (n_sum : PySem.W.nsIn K mainGlobals "sum" = some none)
    (n_min : PySem.W.nsIn K mainGlobals "min" = some none)
    (n_max : PySem.W.nsIn K mainGlobals "max" = some none)
    (n_tuple : PySem.W.nsIn K mainGlobals "tuple" = some none)
    (n_range : PySem.W.nsIn K mainGlobals "range" = some none)
    (n_divmod : PySem.W.nsIn K mainGlobals "divmod" = some none)
    (n_list : PySem.W.nsIn K mainGlobals "list" = some none)
    (n_dict : PySem.W.nsIn K mainGlobals "dict" = some none)
    (n_enumerate : PySem.W.nsIn K mainGlobals "enumerate" = some none)
    (aL : PySem.W.nsIn K mainGlobals "law" = some (some (.ref fL)))
    (lL : K.lookup fL = some ⟨oc_L, od_L, .func (PySem.W.fnOf "law" "law" (defArgs sLaw) (defBody sLaw) (defScope sLaw) .none kV_L dc_L pm_L an_L (.ref cc) ct_L), sl_L⟩)
    (cL : PySem.W.codeIn K (.ref cc) "law" = true)
    (lC : K.lookup cc = some ⟨eC, dC, .fields vC, sC⟩)
    (vP : vC[11]? = some (.ref PT))
    (nP : K.lookup PT = none)
    (hC : PySem.W.codeHdIn K cc PT = true) :
    ∃ (fd : FuncData) (cs : List (Addr × Addr)) (sp : Sp), (∀ p ∈ cs, h.get? p.2 = some { cls := .none, data := .fields #[] }) ∧ (∀ p ∈ cs, K.lookup p.2 = none) ∧ (∀ p ∈ cs, PySem.W.CodeHd h p.1 p.2) ∧ (∀ (s : Shared) (u : Value), BindsTo s fd ⟨[u], []⟩ [("script", u)]) ∧
    (∀ (H : Hp) (a : Addr) (ns : List Int), ns.length ≤ 63 → (∀ z ∈ ns, Builtin.Int.intBits z ≤ 1048576) → (∀ p ∈ cs, H p.2 = some (.tbl #[])) → SqL K H a (ns.map V.int) → sp [.ref a] H (fun v _ => v = .bl true) fun _ _ _ => False) ∧
    ∀ base : Heap, K.In base → base.Ns mainGlobals mg → (∀ p ∈ cs, LamX.TabB base mg p.1 p.2) → FnOk P w K mg base (L2.CX P w) 11 fa fd ["script"] sp := by
  have e := hfa.symm.trans (PySem.W.mg_of X G aL)
  cases e
  have tab : h.get? PT = some { cls := .none, data := .fields #[] } := own cc PT _ _ _ _ _ _ lL rfl rfl lC vP
  refine ⟨PySem.W.fnOf "law" "law" (defArgs sLaw) (defBody sLaw) (defScope sLaw) .none kV_L dc_L pm_L an_L (.ref cc) ct_L, [(cc, PT)], spLaw K PT, fun p hp => (by rw [List.mem_singleton.mp hp]; exact tab), fun p hp => (by rw [List.mem_singleton.mp hp]; exact nP), fun p hp => (by rw [List.mem_singleton.mp hp]; exact PySem.W.codeHd_of_K X hC), fun s u => .of_eq (by rfl), fun H a ns _ _ hT hS => ⟨a, ns, rfl, hS, hT _ (List.mem_singleton.mpr rfl), fun _ => rfl⟩, fun base KB GB TB => ?_⟩
  have g : ∀ {x : Str} {v : Value}, PySem.W.nsIn K mainGlobals x = some (some v) → mg x = some v := fun e => PySem.W.mg_of X G e
  have g0 : ∀ {x : Str}, PySem.W.nsIn K mainGlobals x = some none → mg x = none := fun e => PySem.W.mg_none_of X G e
  have EX : Exs K mg (cOf [C0, C1, C2, C3, C4, C5, C6, C7, C8, C9, C10]) := by
    constructor
    · intro i hi
      match i, hi with
      | 0, _ => exact ⟨g e0, ex0, ek0, eb0, et0⟩
      | 1, _ => exact ⟨g e1, ex1, ek1, eb1, et1⟩
      | 2, _ => exact ⟨g e2, ex2, ek2, eb2, et2⟩
      | 3, _ => exact ⟨g e3, ex3, ek3, eb3, et3⟩
      | 4, _ => exact ⟨g e4, ex4, ek4, eb4, et4⟩
      | 5, _ => exact ⟨g e5, ex5, ek5, eb5, et5⟩
      | 6, _ => exact ⟨g e6, ex6, ek6, eb6, et6⟩
      | 7, _ => exact ⟨g e7, ex7, ek7, eb7, et7⟩
      | 8, _ => exact ⟨g e8, ex8, ek8, eb8, et8⟩
      | 9, _ => exact ⟨g e9, ex9, ek9, eb9, et9⟩
      | 10, _ => exact ⟨g e10, ex10, ek10, eb10, et10⟩
      | i + 11, hi => exact absurd hi (by omega)
    · intro i j hi hj
      match i, hi with
      | 0, _ =>
        match j, hj with
        | 0, _ => exact exRow_self em0
        | j + 1, hj => exact absurd hj (by omega)
      | 1, _ =>
        match j, hj with
        | 0, _ => exact exRow_mem (b := C0) em1 (by simp)
        | 1, _ => exact exRow_self em1
        | j + 2, hj => exact absurd hj (by omega)
      | 2, _ =>
        match j, hj with
        | 0, _ => exact exRow_mem (b := C0) em2 (by simp)
        | 1, _ => exact exRow_mem (b := C1) em2 (by simp)
        | 2, _ => exact exRow_self em2
        | j + 3, hj => exact absurd hj (by omega)
      | 3, _ =>
        match j, hj with
        | 0, _ => exact exRow_mem (b := C0) em3 (by simp)
        | 1, _ => exact exRow_mem (b := C1) em3 (by simp)
        | 2, _ => exact exRow_mem (b := C2) em3 (by simp)
        | 3, _ => exact exRow_self em3
        | j + 4, hj => exact absurd hj (by omega)
      | 4, _ =>
        match j, hj with
        | 0, _ => exact exRow_mem (b := C0) em4 (by simp)
        | 1, _ => exact exRow_mem (b := C1) em4 (by simp)
        | 2, _ => exact exRow_mem (b := C2) em4 (by simp)
        | 3, _ => exact exRow_mem (b := C3) em4 (by simp)
        | 4, _ => exact exRow_self em4
        | j + 5, hj => exact absurd hj (by omega)
      | 5, _ =>
        match j, hj with
        | 0, _ => exact exRow_mem (b := C0) em5 (by simp)
        | 1, _ => exact exRow_mem (b := C1) em5 (by simp)
        | 2, _ => exact exRow_mem (b := C2) em5 (by simp)
        | 3, _ => exact exRow_mem (b := C3) em5 (by simp)
        | 4, _ => exact exRow_mem (b := C4) em5 (by simp)
        | 5, _ => exact exRow_self em5
        | j + 6, hj => exact absurd hj (by omega)
      | 6, _ =>
        match j, hj with
        | 0, _ => exact exRow_mem (b := C0) em6 (by simp)
        | 1, _ => exact exRow_mem (b := C1) em6 (by simp)
        | 2, _ => exact exRow_mem (b := C2) em6 (by simp)
        | 3, _ => exact exRow_mem (b := C3) em6 (by simp)
        | 4, _ => exact exRow_mem (b := C4) em6 (by simp)
        | 5, _ => exact exRow_mem (b := C5) em6 (by simp)
        | 6, _ => exact exRow_self em6
        | j + 7, hj => exact absurd hj (by omega)
      | 7, _ =>
        match j, hj with
        | 0, _ => exact exRow_mem (b := C0) em7 (by simp)
        | 1, _ => exact exRow_mem (b := C1) em7 (by simp)
        | 2, _ => exact exRow_mem (b := C2) em7 (by simp)
        | 3, _ => exact exRow_mem (b := C3) em7 (by simp)
        | 4, _ => exact exRow_mem (b := C4) em7 (by simp)
        | 5, _ => exact exRow_mem (b := C5) em7 (by simp)
        | 6, _ => exact exRow_mem (b := C6) em7 (by simp)
        | 7, _ => exact exRow_self em7
        | j + 8, hj => exact absurd hj (by omega)
      | 8, _ =>
        match j, hj with
        | 0, _ => exact exRow_mem (b := C0) em8 (by simp)
        | 1, _ => exact exRow_mem (b := C1) em8 (by simp)
        | 2, _ => exact exRow_mem (b := C2) em8 (by simp)
        | 3, _ => exact exRow_mem (b := C3) em8 (by simp)
        | 4, _ => exact exRow_mem (b := C4) em8 (by simp)
        | 5, _ => exact exRow_mem (b := C5) em8 (by simp)
        | 6, _ => exact exRow_mem (b := C6) em8 (by simp)
        | 7, _ => exact exRow_mem (b := C7) em8 (by simp)
        | 8, _ => exact exRow_self em8
        | j + 9, hj => exact absurd hj (by omega)
      | 9, _ =>
        match j, hj with
        | 0, _ => exact exRow_mem (b := C0) em9 (by simp)
        | 1, _ => exact exRow_mem (b := C1) em9 (by simp)
        | 2, _ => exact exRow_mem (b := C2) em9 (by simp)
        | 3, _ => exact exRow_mem (b := C3) em9 (by simp)
        | 4, _ => exact exRow_mem (b := C4) em9 (by simp)
        | 5, _ => exact exRow_mem (b := C5) em9 (by simp)
        | 6, _ => exact exRow_mem (b := C6) em9 (by simp)
        | 7, _ => exact exRow_mem (b := C7) em9 (by simp)
        | 8, _ => exact exRow_mem (b := C8) em9 (by simp)
        | 9, _ => exact exRow_self em9
        | j + 10, hj => exact absurd hj (by omega)
      | 10, _ =>
        match j, hj with
        | 0, _ => exact exRow_mem (b := C0) em10 (by simp)
        | 1, _ => exact exRow_mem (b := C1) em10 (by simp)
        | 2, _ => exact exRow_mem (b := C2) em10 (by simp)
        | 3, _ => exact exRow_mem (b := C3) em10 (by simp)
        | 4, _ => exact exRow_mem (b := C4) em10 (by simp)
        | 5, _ => exact exRow_mem (b := C5) em10 (by simp)
        | 6, _ => exact exRow_mem (b := C6) em10 (by simp)
        | 7, _ => exact exRow_mem (b := C7) em10 (by simp)
        | 8, _ => exact exRow_mem (b := C8) em10 (by simp)
        | 9, _ => exact exRow_mem (b := C9) em10 (by simp)
        | 10, _ => exact exRow_self em10
        | j + 11, hj => exact absurd hj (by omega)
      | i + 11, hi => exact absurd hi (by omega)
  let CL : Nat → Addr := cOf [C0, C1, C2, C3, C4, C5, C6, C7, C8, C9, C10]
  have xBadCalendar : Exc1 K mg "BadCalendar" (CL 0) := ⟨g e0, ex0, ek0, eb0, et0⟩
  have xBadDay : Exc1 K mg "BadDay" (CL 1) := ⟨g e1, ex1, ek1, eb1, et1⟩
  have xBadTime : Exc1 K mg "BadTime" (CL 2) := ⟨g e2, ex2, ek2, eb2, et2⟩
  have xBadRule : Exc1 K mg "BadRule" (CL 3) := ⟨g e3, ex3, ek3, eb3, et3⟩
  have xBadZone : Exc1 K mg "BadZone" (CL 4) := ⟨g e4, ex4, ek4, eb4, et4⟩
  have xBadSize : Exc1 K mg "BadSize" (CL 5) := ⟨g e5, ex5, ek5, eb5, et5⟩
  have xBadPaper : Exc1 K mg "BadPaper" (CL 6) := ⟨g e6, ex6, ek6, eb6, et6⟩
  have xBadText : Exc1 K mg "BadText" (CL 7) := ⟨g e7, ex7, ek7, eb7, et7⟩
  have xBadStore : Exc1 K mg "BadStore" (CL 8) := ⟨g e8, ex8, ek8, eb8, et8⟩
  have xNoDay : Exc1 K mg "NoDay" (CL 9) := ⟨g e9, ex9, ek9, eb9, et9⟩
  have xNoSuch : Exc1 K mg "NoSuch" (CL 10) := ⟨g e10, ex10, ek10, eb10, et10⟩
  have F_count_below := fun_mk (x := "count_below") (qual := "count_below") (st := s_count_below) l_count_below c_count_below k_count_below
  have b_count_below := F_count_below.binds (ps := ["numbers", "bound"]) fun _ _ _ _ _ _ us hl => match us, hl with | [_, _], _ => rfl
  have F_begins := fun_mk (x := "begins") (qual := "begins") (st := s_begins) l_begins c_begins k_begins
  have b_begins := F_begins.binds (ps := ["calendar", "number", "unit"]) fun _ _ _ _ _ _ us hl => match us, hl with | [_, _, _], _ => rfl
  have F__law_dice := fun_mk (x := "_law_dice") (qual := "_law_dice") (st := sDice) l__law_dice c__law_dice k__law_dice
  have b__law_dice := F__law_dice.binds (ps := ["cell"]) fun _ _ _ _ _ _ us hl => match us, hl with | [_], _ => rfl
  have F__law_roll := fun_mk (x := "_law_roll") (qual := "_law_roll") (st := sRoll) l__law_roll c__law_roll k__law_roll
  have b__law_roll := F__law_roll.binds (ps := ["dice", "many"]) fun _ _ _ _ _ _ us hl => match us, hl with | [_, _], _ => rfl
  have F__law_rounds := fun_mk (x := "_law_rounds") (qual := "_law_rounds") (st := sRounds) l__law_rounds c__law_rounds k__law_rounds
  have b__law_rounds := F__law_rounds.binds (ps := ["script", "most"]) fun _ _ _ _ _ _ us hl => match us, hl with | [_, _], _ => rfl
  have F__law_told := fun_mk (x := "_law_told") (qual := "_law_told") (st := sTold) l__law_told c__law_told k__law_told
  have b__law_told := F__law_told.binds (ps := ["what"]) fun _ _ _ _ _ _ us hl => match us, hl with | [_], _ => rfl
  have F__law_calendar := fun_mk (x := "_law_calendar") (qual := "_law_calendar") (st := s_cal) l__law_calendar c__law_calendar k__law_calendar
  have b__law_calendar := F__law_calendar.binds (ps := ["dice"]) fun _ _ _ _ _ _ us hl => match us, hl with | [_], _ => rfl
  have F__law_rows := fun_mk (x := "_law_rows") (qual := "_law_rows") (st := s_rows) l__law_rows c__law_rows k__law_rows
  have b__law_rows := F__law_rows.binds (ps := ["calendar", "first", "last"]) fun _ _ _ _ _ _ us hl => match us, hl with | [_, _, _], _ => rfl
  have cls_Calendar : Cls K CC := ⟨pg_Calendar, hd_Calendar, po_Calendar, sa_Calendar⟩
  have F_Calendar_init : L2.FunD K "__init__" "Calendar.__init__" (defArgs c_init) (defBody c_init) (defScope c_init) [(.int 0)] [] f_Calendar_init _ := ⟨⟨_, _, _, _, _, _, _, _, _, _, rfl, l_Calendar_init, c_Calendar_init, .inr ⟨by simp, T_Calendar_init, oT_Calendar_init, [.int 0 tk0_Calendar_init], nT_Calendar_init, rfl, lT_Calendar_init, dT_Calendar_init, (.cons ⟨_, rfl⟩ .nil)⟩, .inl rfl⟩, k_Calendar_init⟩
  obtain ⟨ds0_Calendar_init, v0_Calendar_init, b0_Calendar_init⟩ := F_Calendar_init.binds1 (ps := ["self", "months", "long_month", "cycle", "long_years", "week", "first_weekday"]) 7 1 (by simp) rfl fun T kV doc pm an cdv ct us its hu hi => match us, its, hu, hi with | [_, _, _, _, _, _, _], [_], _, _ => ⟨_, rfl, rfl⟩
  obtain ⟨ds1_Calendar_init, v1_Calendar_init, b1_Calendar_init⟩ := F_Calendar_init.binds1 (ps := ["self", "months", "long_month", "cycle", "long_years", "week", "first_weekday"]) 6 0 (by simp) rfl fun T kV doc pm an cdv ct us its hu hi => match us, its, hu, hi with | [_, _, _, _, _, _], [_], _, _ => ⟨_, rfl, rfl⟩
  have make_Calendar : Mk K CC f_Calendar_init := ⟨mk_Calendar, m_Calendar_init, i_Calendar_init, kc_Calendar⟩
  have F_Calendar_cycle_days := fun_mk (x := "cycle_days") (qual := "Calendar.cycle_days") (st := c_cycle_days) l_Calendar_cycle_days c_Calendar_cycle_days k_Calendar_cycle_days
  have b_Calendar_cycle_days := F_Calendar_cycle_days.binds (ps := ["self"]) fun _ _ _ _ _ _ us hl => match us, hl with | [_], _ => rfl
  have meth_Calendar_cycle_days : Meth K CC "cycle_days" f_Calendar_cycle_days := ⟨m_Calendar_cycle_days, i_Calendar_cycle_days, k_Calendar_cycle_days⟩
  have F_Calendar_is_long := fun_mk (x := "is_long") (qual := "Calendar.is_long") (st := c_is_long) l_Calendar_is_long c_Calendar_is_long k_Calendar_is_long
  have b_Calendar_is_long := F_Calendar_is_long.binds (ps := ["self", "year"]) fun _ _ _ _ _ _ us hl => match us, hl with | [_, _], _ => rfl
  have meth_Calendar_is_long : Meth K CC "is_long" f_Calendar_is_long := ⟨m_Calendar_is_long, i_Calendar_is_long, k_Calendar_is_long⟩
  have F_Calendar_year_days := fun_mk (x := "year_days") (qual := "Calendar.year_days") (st := c_year_days) l_Calendar_year_days c_Calendar_year_days k_Calendar_year_days
  have b_Calendar_year_days := F_Calendar_year_days.binds (ps := ["self", "year"]) fun _ _ _ _ _ _ us hl => match us, hl with | [_, _], _ => rfl
  have meth_Calendar_year_days : Meth K CC "year_days" f_Calendar_year_days := ⟨m_Calendar_year_days, i_Calendar_year_days, k_Calendar_year_days⟩
  have F_Calendar_month_days := fun_mk (x := "month_days") (qual := "Calendar.month_days") (st := c_month_days) l_Calendar_month_days c_Calendar_month_days k_Calendar_month_days
  have b_Calendar_month_days := F_Calendar_month_days.binds (ps := ["self", "year", "month"]) fun _ _ _ _ _ _ us hl => match us, hl with | [_, _, _], _ => rfl
  have meth_Calendar_month_days : Meth K CC "month_days" f_Calendar_month_days := ⟨m_Calendar_month_days, i_Calendar_month_days, k_Calendar_month_days⟩
  have F_Calendar_first_of := fun_mk (x := "first_of") (qual := "Calendar.first_of") (st := c_first_of) l_Calendar_first_of c_Calendar_first_of k_Calendar_first_of
  have b_Calendar_first_of := F_Calendar_first_of.binds (ps := ["self", "year"]) fun _ _ _ _ _ _ us hl => match us, hl with | [_, _], _ => rfl
  have meth_Calendar_first_of : Meth K CC "first_of" f_Calendar_first_of := ⟨m_Calendar_first_of, i_Calendar_first_of, k_Calendar_first_of⟩
  have F_Calendar_number_of := fun_mk (x := "number_of") (qual := "Calendar.number_of") (st := s_number_of) l_Calendar_number_of c_Calendar_number_of k_Calendar_number_of
  have b_Calendar_number_of := F_Calendar_number_of.binds (ps := ["self", "year", "month", "day"]) fun _ _ _ _ _ _ us hl => match us, hl with | [_, _, _, _], _ => rfl
  have meth_Calendar_number_of : Meth K CC "number_of" f_Calendar_number_of := ⟨m_Calendar_number_of, i_Calendar_number_of, k_Calendar_number_of⟩
  have F_Calendar_year_of := fun_mk (x := "year_of") (qual := "Calendar.year_of") (st := c_year_of) l_Calendar_year_of c_Calendar_year_of k_Calendar_year_of
  have b_Calendar_year_of := F_Calendar_year_of.binds (ps := ["self", "number"]) fun _ _ _ _ _ _ us hl => match us, hl with | [_, _], _ => rfl
  have meth_Calendar_year_of : Meth K CC "year_of" f_Calendar_year_of := ⟨m_Calendar_year_of, i_Calendar_year_of, k_Calendar_year_of⟩
  have F_Calendar_date := fun_mk (x := "date") (qual := "Calendar.date") (st := c_date) l_Calendar_date c_Calendar_date k_Calendar_date
  have b_Calendar_date := F_Calendar_date.binds (ps := ["self", "number"]) fun _ _ _ _ _ _ us hl => match us, hl with | [_, _], _ => rfl
  have meth_Calendar_date : Meth K CC "date" f_Calendar_date := ⟨m_Calendar_date, i_Calendar_date, k_Calendar_date⟩
  have F_Calendar_weekday_of := fun_mk (x := "weekday_of") (qual := "Calendar.weekday_of") (st := c_weekday_of) l_Calendar_weekday_of c_Calendar_weekday_of k_Calendar_weekday_of
  have b_Calendar_weekday_of := F_Calendar_weekday_of.binds (ps := ["self", "number"]) fun _ _ _ _ _ _ us hl => match us, hl with | [_, _], _ => rfl
  have meth_Calendar_weekday_of : Meth K CC "weekday_of" f_Calendar_weekday_of := ⟨m_Calendar_weekday_of, i_Calendar_weekday_of, k_Calendar_weekday_of⟩
  have TC : CalT K CC := ⟨cls_Calendar, n_Calendar_months, n_Calendar_long_month, n_Calendar_cycle, n_Calendar_long_years, n_Calendar_week, n_Calendar_first_weekday, n_Calendar_longs, n_Calendar_plain_days, n_Calendar_starts⟩
  have cls_Day : Cls K DD := ⟨pg_Day, hd_Day, po_Day, sa_Day⟩
  have F_Day_init := fun_mk (x := "__init__") (qual := "Day.__init__") (st := d_init) l_Day_init c_Day_init k_Day_init
  have b_Day_init := F_Day_init.binds (ps := ["self", "calendar", "number"]) fun _ _ _ _ _ _ us hl => match us, hl with | [_, _, _], _ => rfl
  have make_Day : Mk K DD f_Day_init := ⟨mk_Day, m_Day_init, i_Day_init, kc_Day⟩
  have F_Day_month_number := fun_mk (x := "month_number") (qual := "Day.month_number") (st := s_month_number) l_Day_month_number c_Day_month_number k_Day_month_number
  have b_Day_month_number := F_Day_month_number.binds (ps := ["self"]) fun _ _ _ _ _ _ us hl => match us, hl with | [_], _ => rfl
  have meth_Day_month_number : Meth K DD "month_number" f_Day_month_number := ⟨m_Day_month_number, i_Day_month_number, k_Day_month_number⟩
  have TD : DayT K DD := ⟨cls_Day, n_Day_calendar, n_Day_number, n_Day_year, n_Day_month, n_Day_day, n_Day_weekday, n_Day_year_day⟩
  have cls_Pair : Cls K CP := ⟨pg_Pair, hd_Pair, po_Pair, sa_Pair⟩
  have F_Pair_init := fun_mk (x := "__init__") (qual := "Pair.__init__") (st := s_Pair_init) l_Pair_init c_Pair_init k_Pair_init
  have b_Pair_init := F_Pair_init.binds (ps := ["self", "one", "other", "offset"]) fun _ _ _ _ _ _ us hl => match us, hl with | [_, _, _, _], _ => rfl
  have make_Pair : Mk K CP f_Pair_init := ⟨mk_Pair, m_Pair_init, i_Pair_init, kc_Pair⟩
  have F_Pair_across := fun_mk (x := "across") (qual := "Pair.across") (st := s_Pair_across) l_Pair_across c_Pair_across k_Pair_across
  have b_Pair_across := F_Pair_across.binds (ps := ["self", "year", "month", "day"]) fun _ _ _ _ _ _ us hl => match us, hl with | [_, _, _, _], _ => rfl
  have meth_Pair_across : Meth K CP "across" f_Pair_across := ⟨m_Pair_across, i_Pair_across, k_Pair_across⟩
  have F_Pair_back := fun_mk (x := "back") (qual := "Pair.back") (st := s_Pair_back) l_Pair_back c_Pair_back k_Pair_back
  have b_Pair_back := F_Pair_back.binds (ps := ["self", "year", "month", "day"]) fun _ _ _ _ _ _ us hl => match us, hl with | [_, _, _, _], _ => rfl
  have meth_Pair_back : Meth K CP "back" f_Pair_back := ⟨m_Pair_back, i_Pair_back, k_Pair_back⟩
  have F_Pair_both_begin := fun_mk (x := "both_begin") (qual := "Pair.both_begin") (st := s_Pair_both_begin) l_Pair_both_begin c_Pair_both_begin k_Pair_both_begin
  have b_Pair_both_begin := F_Pair_both_begin.binds (ps := ["self", "number", "unit", "most"]) fun _ _ _ _ _ _ us hl => match us, hl with | [_, _, _, _], _ => rfl
  have meth_Pair_both_begin : Meth K CP "both_begin" f_Pair_both_begin := ⟨m_Pair_both_begin, i_Pair_both_begin, k_Pair_both_begin⟩
  have T_Pa : Tt_Pa K CP := ⟨cls_Pair, n_Pair_one, n_Pair_other, n_Pair_offset⟩
  have cls_Reigns : Cls K CG := ⟨pg_Reigns, hd_Reigns, po_Reigns, sa_Reigns⟩
  have F_Reigns_init := fun_mk (x := "__init__") (qual := "Reigns.__init__") (st := s_Reigns_init) l_Reigns_init c_Reigns_init k_Reigns_init
  have b_Reigns_init := F_Reigns_init.binds (ps := ["self", "rows"]) fun _ _ _ _ _ _ us hl => match us, hl with | [_, _], _ => rfl
  have make_Reigns : Mk K CG f_Reigns_init := ⟨mk_Reigns, m_Reigns_init, i_Reigns_init, kc_Reigns⟩
  have F_Reigns_reign := fun_mk (x := "reign") (qual := "Reigns.reign") (st := s_Reigns_reign) l_Reigns_reign c_Reigns_reign k_Reigns_reign
  have b_Reigns_reign := F_Reigns_reign.binds (ps := ["self", "number"]) fun _ _ _ _ _ _ us hl => match us, hl with | [_, _], _ => rfl
  have meth_Reigns_reign : Meth K CG "reign" f_Reigns_reign := ⟨m_Reigns_reign, i_Reigns_reign, k_Reigns_reign⟩
  have F_Reigns_told := fun_mk (x := "told") (qual := "Reigns.told") (st := s_Reigns_told) l_Reigns_told c_Reigns_told k_Reigns_told
  have b_Reigns_told := F_Reigns_told.binds (ps := ["self", "calendar", "number"]) fun _ _ _ _ _ _ us hl => match us, hl with | [_, _, _], _ => rfl
  have meth_Reigns_told : Meth K CG "told" f_Reigns_told := ⟨m_Reigns_told, i_Reigns_told, k_Reigns_told⟩
  have F_Reigns_day_number := fun_mk (x := "day_number") (qual := "Reigns.day_number") (st := s_Reigns_day_number) l_Reigns_day_number c_Reigns_day_number k_Reigns_day_number
  have b_Reigns_day_number := F_Reigns_day_number.binds (ps := ["self", "calendar", "name", "year", "month", "day"]) fun _ _ _ _ _ _ us hl => match us, hl with | [_, _, _, _, _, _], _ => rfl
  have meth_Reigns_day_number : Meth K CG "day_number" f_Reigns_day_number := ⟨m_Reigns_day_number, i_Reigns_day_number, k_Reigns_day_number⟩
  have F_Reigns_is_in := fun_mk (x := "is_in") (qual := "Reigns.is_in") (st := s_Reigns_is_in) l_Reigns_is_in c_Reigns_is_in k_Reigns_is_in
  have b_Reigns_is_in := F_Reigns_is_in.binds (ps := ["self", "number", "place"]) fun _ _ _ _ _ _ us hl => match us, hl with | [_, _, _], _ => rfl
  have meth_Reigns_is_in : Meth K CG "is_in" f_Reigns_is_in := ⟨m_Reigns_is_in, i_Reigns_is_in, k_Reigns_is_in⟩
  have F_Reigns_years_of := fun_mk (x := "years_of") (qual := "Reigns.years_of") (st := s_Reigns_years_of) l_Reigns_years_of c_Reigns_years_of k_Reigns_years_of
  have b_Reigns_years_of := F_Reigns_years_of.binds (ps := ["self", "calendar", "place"]) fun _ _ _ _ _ _ us hl => match us, hl with | [_, _, _], _ => rfl
  have meth_Reigns_years_of : Meth K CG "years_of" f_Reigns_years_of := ⟨m_Reigns_years_of, i_Reigns_years_of, k_Reigns_years_of⟩
  have T_Rn : Tt_Rn K CG := ⟨cls_Reigns, n_Reigns_rows, n_Reigns_firsts⟩
  have n_tuple := g0 n_tuple
  have BL : Blt mg := ⟨g0 n_int, g0 n_abs⟩
  have B : BD mg := ⟨g0 n_len, g0 n_min, g0 n_max, g0 n_range, g0 n_divmod, g0 n_sum, g0 n_int, g0 n_abs⟩
  have oCy := cm_cycle_days (P := P) (w := w) (mg := mg) (base := base) (cl := CL) F_Calendar_cycle_days TC
  have mC := mt_of cls_Calendar meth_Calendar_cycle_days F_Calendar_cycle_days oCy b_Calendar_cycle_days
  have mL := mt_of cls_Calendar meth_Calendar_is_long F_Calendar_is_long (cm_is_long (P := P) (w := w) (mg := mg) (base := base) (cl := CL) F_Calendar_is_long TC) b_Calendar_is_long
  have mW := mt_of cls_Calendar meth_Calendar_weekday_of F_Calendar_weekday_of (cm_weekday_of (P := P) (w := w) (mg := mg) (base := base) (cl := CL) F_Calendar_weekday_of TC) b_Calendar_weekday_of
  have mYD := mt_of cls_Calendar meth_Calendar_year_days F_Calendar_year_days (cm_year_days F_Calendar_year_days TC mL) b_Calendar_year_days
  have mFO := mt_of cls_Calendar meth_Calendar_first_of F_Calendar_first_of (cm_first_of F_Calendar_first_of TC mC (g0 n_divmod)) b_Calendar_first_of
  have mMD := mt_of cls_Calendar meth_Calendar_month_days F_Calendar_month_days (cm_month_days F_Calendar_month_days TC mL (g0 n_len) xBadDay) b_Calendar_month_days
  have cB := cal_of F_count_below (g a_count_below) (ok_count_below (P := P) (w := w) (base := base) F_count_below (g0 n_len)) b_count_below
  have mYO := mt_of cls_Calendar meth_Calendar_year_of F_Calendar_year_of (cm_year_of F_Calendar_year_of TC mC cB (g0 n_divmod)) b_Calendar_year_of
  have mDA := mt_of cls_Calendar meth_Calendar_date F_Calendar_date (cm_date F_Calendar_date TC mYO mFO mMD) b_Calendar_date
  have oI := cm_init (cl := CL) F_Calendar_init TC mYD n_tuple (g0 n_min) (g0 n_len) (g0 n_any) (g0 n_sum) (g0 n_range) xBadCalendar
  have cN : Nw P w K mg base 3 "Calendar" CC (spNew K CC) [] := ⟨_, _, _, _, make_Calendar, g a_Calendar, oI, b0_Calendar_init, v0_Calendar_init⟩
  have nC : Nw P w K mg base 3 "Calendar" CC (spNew K CC) [.int 0] := ⟨_, _, _, _, make_Calendar, g a_Calendar, oI, b1_Calendar_init, v1_Calendar_init⟩
  have nD := nw_of make_Day (g a_Day) F_Day_init (dm_init F_Day_init TD mDA mW mFO) b_Day_init
  have mNO := mt_of cls_Calendar meth_Calendar_number_of F_Calendar_number_of (ok_number_of (P := P) (w := w) (mg := mg) (base := base) (cl := CL) (C := CC) (D := DD) F_Calendar_number_of TC TD B mMD mFO xBadDay) b_Calendar_number_of
  have n_any := g0 n_any
  have n_enumerate := g0 n_enumerate
  have d_month_number := mt_of cls_Day meth_Day_month_number F_Day_month_number (ok_month_number (P := P) (w := w) (mg := mg) (base := base) (cl := CL) (C := CC) (D := DD) F_Day_month_number TC TD B) b_Day_month_number
  have oPa := (ok_Pair_init (P := P) (w := w) (mg := mg) (base := base) (cl := CL) (C := CC) (CP := CP) F_Pair_init T_Pa)
  have oRn := (ok_Reigns_init (P := P) (w := w) (mg := mg) (base := base) (cl := CL) (CG := CG) F_Reigns_init T_Rn B n_tuple n_any xBadSize)
  have nPa := nw_of make_Pair (g a_Pair) F_Pair_init oPa b_Pair_init
  have nRn := nw_of make_Reigns (g a_Reigns) F_Reigns_init oRn b_Reigns_init
  have c_count_below := cal_of F_count_below (g a_count_below) (ok_count_belowL (P := P) (w := w) (mg := mg) (base := base) (cl := CL) F_count_below B) b_count_below
  have c_begins := cal_of F_begins (g a_begins) (ok_begins (P := P) (w := w) (mg := mg) (base := base) (cl := CL) (C := CC) (D := DD) (CP := CP) F_begins mDA) b_begins
  have m_across := mt_of cls_Pair meth_Pair_across F_Pair_across (ok_Pair_across (P := P) (w := w) (mg := mg) (base := base) (cl := CL) (C := CC) (D := DD) F_Pair_across T_Pa mNO mDA) b_Pair_across
  have m_back := mt_of cls_Pair meth_Pair_back F_Pair_back (ok_Pair_back (P := P) (w := w) (mg := mg) (base := base) (cl := CL) (C := CC) (D := DD) F_Pair_back T_Pa mNO mDA) b_Pair_back
  have m_both_begin := mt_of cls_Pair meth_Pair_both_begin F_Pair_both_begin (ok_Pair_both_begin (P := P) (w := w) (mg := mg) (base := base) (cl := CL) (C := CC) (D := DD) F_Pair_both_begin T_Pa TC B nD d_month_number mNO c_begins xNoSuch xNoDay) b_Pair_both_begin
  have m_reign := mt_of cls_Reigns meth_Reigns_reign F_Reigns_reign (ok_Reigns_reign (P := P) (w := w) (mg := mg) (base := base) (cl := CL) F_Reigns_reign T_Rn c_count_below xNoSuch) b_Reigns_reign
  have m_is_in := mt_of cls_Reigns meth_Reigns_is_in F_Reigns_is_in (ok_Reigns_is_in (P := P) (w := w) (mg := mg) (base := base) (cl := CL) F_Reigns_is_in T_Rn c_count_below) b_Reigns_is_in
  have m_told := mt_of cls_Reigns meth_Reigns_told F_Reigns_told (ok_Reigns_told (P := P) (w := w) (mg := mg) (base := base) (cl := CL) (CG := CG) F_Reigns_told T_Rn m_reign mYO mDA) b_Reigns_told
  have m_day_number := mt_of cls_Reigns meth_Reigns_day_number F_Reigns_day_number (ok_Reigns_day_number (P := P) (w := w) (mg := mg) (base := base) (cl := CL) (C := CC) (D := DD) F_Reigns_day_number T_Rn mYO mMD mNO m_is_in n_enumerate xNoSuch) b_Reigns_day_number
  have m_years_of := mt_of cls_Reigns meth_Reigns_years_of F_Reigns_years_of (ok_Reigns_years_of (P := P) (w := w) (mg := mg) (base := base) (cl := CL) (C := CC) (CG := CG) F_Reigns_years_of T_Rn B mYO xNoSuch) b_Reigns_years_of
  have cDi := cal_of F__law_dice (g a__law_dice) (ok_dice (P := P) (w := w) (base := base) F__law_dice BL) b__law_dice
  have cR := cal_of F__law_roll (g a__law_roll) (ok_roll (P := P) (w := w) (base := base) F__law_roll BL) b__law_roll
  have roll := cal_of F__law_roll (g a__law_roll) (ok_rollX (P := P) (w := w) (base := base) F__law_roll BL) b__law_roll
  have rounds := cal_of F__law_rounds (g a__law_rounds) (ok_rounds F__law_rounds cDi) b__law_rounds
  have cal := cal_of F__law_calendar (g a__law_calendar) (ok_cal F__law_calendar cR cN (g0 n_len) (g0 n_range)) b__law_calendar
  have rows := cal_of F__law_rows (g a__law_rows) (ok_rows (P := P) (w := w) (base := base) F__law_rows TC (g0 n_len) (g0 n_range) (g0 n_int) (g0 n_sum) n_enumerate) b__law_rows
  have tF : ToldF K mg := ⟨_, _, _, _, _, _, _, _, _, _, g a__law_told, k__law_told, l__law_told, c__law_told, b__law_told⟩
  exact ok_law (C := CC) (D := DD) (CP := CP) (CG := CG) (cl := CL) lL cL (TB _ (List.mem_singleton.mpr rfl)) ⟨TC, TD, T_Pa, T_Rn, g0 n_dict, cal, rows, roll, rounds, nPa, nRn, m_across, m_back, m_both_begin, m_reign, m_told, m_day_number, m_years_of, EX, tF⟩ B fun c e z k t k2 t2 => m_lawB_ok k t k2 t2 z
end Rw
open PySem PySem.W PyProof.Rows
set_option maxRecDepth 100000 in
set_option maxHeartbeats 0 in
theorem PySem.Challenge.cw_recurwright_k22_days_told_by_two_calenda_holds : PySem.Challenge.rw_recurwright_k22_days_told_by_two_calenda.Holds := by
  w_on; o_law; k_head; (case hw => w_witness2)
  k_fill
  refine LamX.walk_ofOwn (l := PySem.Challenge.rw_recurwright_k22_days_told_by_two_calenda) (n := 63) (k := 11) (x := "script") (CX := fun w => L2.CX PySem.Challenge.pw_recurwright_k22_days_told_by_two_calenda w) rfl (by decide) rfl ⟨rfl, by decide, by decide⟩ (by decide +kernel) (fun w h Y => by first | exact PySem.W.km_in_of Y | exact PySem.W.kIn_of Y) ?F ?C
  case F =>
    intro w mg fa h Y KX G hmg own
    refine' Rw.all_mk KX G hmg own ?e0 ?ex0 ?ek0 ?eb0 ?et0 ?e1 ?ex1 ?ek1 ?eb1 ?et1 ?e2 ?ex2 ?ek2 ?eb2 ?et2 ?e3 ?ex3 ?ek3 ?eb3 ?et3 ?e4 ?ex4 ?ek4 ?eb4 ?et4 ?e5 ?ex5 ?ek5 ?eb5 ?et5 ?e6 ?ex6 ?ek6 ?eb6 ?et6 ?e7 ?ex7 ?ek7 ?eb7 ?et7 ?e8 ?ex8 ?ek8 ?eb8 ?et8 ?e9 ?ex9 ?ek9 ?eb9 ?et9 ?e10 ?ex10 ?ek10 ?eb10 ?et10 ?em0 ?em1 ?em2 ?em3 ?em4 ?em5 ?em6 ?em7 ?em8 ?em9 ?em10 ?a_count_below ?l_count_below ?c_count_below ?k_count_below ?a_begins ?l_begins ?c_begins ?k_begins ?a__law_dice ?l__law_dice ?c__law_dice ?k__law_dice ?a__law_roll ?l__law_roll ?c__law_roll ?k__law_roll ?a__law_rounds ?l__law_rounds ?c__law_rounds ?k__law_rounds ?a__law_told ?l__law_told ?c__law_told ?k__law_told ?a__law_calendar ?l__law_calendar ?c__law_calendar ?k__law_calendar ?a__law_rows ?l__law_rows ?c__law_rows ?k__law_rows ?a_Calendar ?pg_Calendar ?hd_Calendar ?po_Calendar ?sa_Calendar ?kc_Calendar ?mk_Calendar ?n_Calendar_months ?n_Calendar_long_month ?n_Calendar_cycle ?n_Calendar_long_years ?n_Calendar_week ?n_Calendar_first_weekday ?n_Calendar_longs ?n_Calendar_plain_days ?n_Calendar_starts ?m_Calendar_init ?i_Calendar_init ?l_Calendar_init ?c_Calendar_init ?k_Calendar_init ?lT_Calendar_init ?dT_Calendar_init ?m_Calendar_cycle_days ?i_Calendar_cycle_days ?l_Calendar_cycle_days ?c_Calendar_cycle_days ?k_Calendar_cycle_days ?m_Calendar_is_long ?i_Calendar_is_long ?l_Calendar_is_long ?c_Calendar_is_long ?k_Calendar_is_long ?m_Calendar_year_days ?i_Calendar_year_days ?l_Calendar_year_days ?c_Calendar_year_days ?k_Calendar_year_days ?m_Calendar_month_days ?i_Calendar_month_days ?l_Calendar_month_days ?c_Calendar_month_days ?k_Calendar_month_days ?m_Calendar_first_of ?i_Calendar_first_of ?l_Calendar_first_of ?c_Calendar_first_of ?k_Calendar_first_of ?m_Calendar_number_of ?i_Calendar_number_of ?l_Calendar_number_of ?c_Calendar_number_of ?k_Calendar_number_of ?m_Calendar_year_of ?i_Calendar_year_of ?l_Calendar_year_of ?c_Calendar_year_of ?k_Calendar_year_of ?m_Calendar_date ?i_Calendar_date ?l_Calendar_date ?c_Calendar_date ?k_Calendar_date ?m_Calendar_weekday_of ?i_Calendar_weekday_of ?l_Calendar_weekday_of ?c_Calendar_weekday_of ?k_Calendar_weekday_of ?a_Day ?pg_Day ?hd_Day ?po_Day ?sa_Day ?kc_Day ?mk_Day ?n_Day_calendar ?n_Day_number ?n_Day_year ?n_Day_month ?n_Day_day ?n_Day_weekday ?n_Day_year_day ?m_Day_init ?i_Day_init ?l_Day_init ?c_Day_init ?k_Day_init ?m_Day_month_number ?i_Day_month_number ?l_Day_month_number ?c_Day_month_number ?k_Day_month_number ?a_Pair ?pg_Pair ?hd_Pair ?po_Pair ?sa_Pair ?kc_Pair ?mk_Pair ?n_Pair_one ?n_Pair_other ?n_Pair_offset ?m_Pair_init ?i_Pair_init ?l_Pair_init ?c_Pair_init ?k_Pair_init ?m_Pair_across ?i_Pair_across ?l_Pair_across ?c_Pair_across ?k_Pair_across ?m_Pair_back ?i_Pair_back ?l_Pair_back ?c_Pair_back ?k_Pair_back ?m_Pair_both_begin ?i_Pair_both_begin ?l_Pair_both_begin ?c_Pair_both_begin ?k_Pair_both_begin ?a_Reigns ?pg_Reigns ?hd_Reigns ?po_Reigns ?sa_Reigns ?kc_Reigns ?mk_Reigns ?n_Reigns_rows ?n_Reigns_firsts ?m_Reigns_init ?i_Reigns_init ?l_Reigns_init ?c_Reigns_init ?k_Reigns_init ?m_Reigns_reign ?i_Reigns_reign ?l_Reigns_reign ?c_Reigns_reign ?k_Reigns_reign ?m_Reigns_told ?i_Reigns_told ?l_Reigns_told ?c_Reigns_told ?k_Reigns_told ?m_Reigns_day_number ?i_Reigns_day_number ?l_Reigns_day_number ?c_Reigns_day_number ?k_Reigns_day_number ?m_Reigns_is_in ?i_Reigns_is_in ?l_Reigns_is_in ?c_Reigns_is_in ?k_Reigns_is_in ?m_Reigns_years_of ?i_Reigns_years_of ?l_Reigns_years_of ?c_Reigns_years_of ?k_Reigns_years_of ?n_int ?n_abs ?n_len ?n_any ?n_sum ?n_min ?n_max ?n_tuple ?n_range ?n_divmod ?n_list ?n_dict ?n_enumerate ?aL ?lL ?cL ?lC ?vP ?nP ?hC
    (case e0 => k_is)
    (case ex0 => k_exc)
    (case ek0 => k_is)
    (case eb0 => k_is)
    (case et0 => k_is)
    (case e1 => k_is)
    (case ex1 => k_exc)
    (case ek1 => k_is)
    (case eb1 => k_is)
    (case et1 => k_is)
    (case e2 => k_is)
    (case ex2 => k_exc)
    (case ek2 => k_is)
    (case eb2 => k_is)
    (case et2 => k_is)
    (case e3 => k_is)
    (case ex3 => k_exc)
    (case ek3 => k_is)
    (case eb3 => k_is)
    (case et3 => k_is)
    (case e4 => k_is)
    (case ex4 => k_exc)
    (case ek4 => k_is)
    (case eb4 => k_is)
    (case et4 => k_is)
    (case e5 => k_is)
    (case ex5 => k_exc)
    (case ek5 => k_is)
    (case eb5 => k_is)
    (case et5 => k_is)
    (case e6 => k_is)
    (case ex6 => k_exc)
    (case ek6 => k_is)
    (case eb6 => k_is)
    (case et6 => k_is)
    (case e7 => k_is)
    (case ex7 => k_exc)
    (case ek7 => k_is)
    (case eb7 => k_is)
    (case et7 => k_is)
    (case e8 => k_is)
    (case ex8 => k_exc)
    (case ek8 => k_is)
    (case eb8 => k_is)
    (case et8 => k_is)
    (case e9 => k_is)
    (case ex9 => k_exc)
    (case ek9 => k_is)
    (case eb9 => k_is)
    (case et9 => k_is)
    (case e10 => k_is)
    (case ex10 => k_exc)
    (case ek10 => k_is)
    (case eb10 => k_is)
    (case et10 => k_is)
    (case em0 => kernel_rfl)
    (case em1 => kernel_rfl)
    (case em2 => kernel_rfl)
    (case em3 => kernel_rfl)
    (case em4 => kernel_rfl)
    (case em5 => kernel_rfl)
    (case em6 => kernel_rfl)
    (case em7 => kernel_rfl)
    (case em8 => kernel_rfl)
    (case em9 => kernel_rfl)
    (case em10 => kernel_rfl)
    (case a_count_below => k_is)
    (case l_count_below => k_is)
    (case c_count_below => k_is)
    (case k_count_below => k_is)
    (case a_begins => k_is)
    (case l_begins => k_is)
    (case c_begins => k_is)
    (case k_begins => k_is)
    (case a__law_dice => k_is)
    (case l__law_dice => k_is)
    (case c__law_dice => k_is)
    (case k__law_dice => k_is)
    (case a__law_roll => k_is)
    (case l__law_roll => k_is)
    (case c__law_roll => k_is)
    (case k__law_roll => k_is)
    (case a__law_rounds => k_is)
    (case l__law_rounds => k_is)
    (case c__law_rounds => k_is)
    (case k__law_rounds => k_is)
    (case a__law_told => k_is)
    (case l__law_told => k_is)
    (case c__law_told => k_is)
    (case k__law_told => k_is)
    (case a__law_calendar => k_is)
    (case l__law_calendar => k_is)
    (case c__law_calendar => k_is)
    (case k__law_calendar => k_is)
    (case a__law_rows => k_is)
    (case l__law_rows => k_is)
    (case c__law_rows => k_is)
    (case k__law_rows => k_is)
    (case a_Calendar => k_is)
    (case pg_Calendar => k_is)
    (case hd_Calendar => k_is)
    (case po_Calendar => k_is)
    (case sa_Calendar => k_is)
    (case kc_Calendar => k_is)
    (case mk_Calendar => k_is)
    (case n_Calendar_months => k_is)
    (case n_Calendar_long_month => k_is)
    (case n_Calendar_cycle => k_is)
    (case n_Calendar_long_years => k_is)
    (case n_Calendar_week => k_is)
    (case n_Calendar_first_weekday => k_is)
    (case n_Calendar_longs => k_is)
    (case n_Calendar_plain_days => k_is)
    (case n_Calendar_starts => k_is)
    (case m_Calendar_init => k_is)
    (case i_Calendar_init => k_is)
    (case l_Calendar_init => k_is)
    (case c_Calendar_init => k_is)
    (case k_Calendar_init => k_is)
    (case lT_Calendar_init => k_is)
    (case dT_Calendar_init => exact rfl)
    (case m_Calendar_cycle_days => k_is)
    (case i_Calendar_cycle_days => k_is)
    (case l_Calendar_cycle_days => k_is)
    (case c_Calendar_cycle_days => k_is)
    (case k_Calendar_cycle_days => k_is)
    (case m_Calendar_is_long => k_is)
    (case i_Calendar_is_long => k_is)
    (case l_Calendar_is_long => k_is)
    (case c_Calendar_is_long => k_is)
    (case k_Calendar_is_long => k_is)
    (case m_Calendar_year_days => k_is)
    (case i_Calendar_year_days => k_is)
    (case l_Calendar_year_days => k_is)
    (case c_Calendar_year_days => k_is)
    (case k_Calendar_year_days => k_is)
    (case m_Calendar_month_days => k_is)
    (case i_Calendar_month_days => k_is)
    (case l_Calendar_month_days => k_is)
    (case c_Calendar_month_days => k_is)
    (case k_Calendar_month_days => k_is)
    (case m_Calendar_first_of => k_is)
    (case i_Calendar_first_of => k_is)
    (case l_Calendar_first_of => k_is)
    (case c_Calendar_first_of => k_is)
    (case k_Calendar_first_of => k_is)
    (case m_Calendar_number_of => k_is)
    (case i_Calendar_number_of => k_is)
    (case l_Calendar_number_of => k_is)
    (case c_Calendar_number_of => k_is)
    (case k_Calendar_number_of => k_is)
    (case m_Calendar_year_of => k_is)
    (case i_Calendar_year_of => k_is)
    (case l_Calendar_year_of => k_is)
    (case c_Calendar_year_of => k_is)
    (case k_Calendar_year_of => k_is)
    (case m_Calendar_date => k_is)
    (case i_Calendar_date => k_is)
    (case l_Calendar_date => k_is)
    (case c_Calendar_date => k_is)
    (case k_Calendar_date => k_is)
    (case m_Calendar_weekday_of => k_is)
    (case i_Calendar_weekday_of => k_is)
    (case l_Calendar_weekday_of => k_is)
    (case c_Calendar_weekday_of => k_is)
    (case k_Calendar_weekday_of => k_is)
    (case a_Day => k_is)
    (case pg_Day => k_is)
    (case hd_Day => k_is)
    (case po_Day => k_is)
    (case sa_Day => k_is)
    (case kc_Day => k_is)
    (case mk_Day => k_is)
    (case n_Day_calendar => k_is)
    (case n_Day_number => k_is)
    (case n_Day_year => k_is)
    (case n_Day_month => k_is)
    (case n_Day_day => k_is)
    (case n_Day_weekday => k_is)
    (case n_Day_year_day => k_is)
    (case m_Day_init => k_is)
    (case i_Day_init => k_is)
    (case l_Day_init => k_is)
    (case c_Day_init => k_is)
    (case k_Day_init => k_is)
    (case m_Day_month_number => k_is)
    (case i_Day_month_number => k_is)
    (case l_Day_month_number => k_is)
    (case c_Day_month_number => k_is)
    (case k_Day_month_number => k_is)
    (case a_Pair => k_is)
    (case pg_Pair => k_is)
    (case hd_Pair => k_is)
    (case po_Pair => k_is)
    (case sa_Pair => k_is)
    (case kc_Pair => k_is)
    (case mk_Pair => k_is)
    (case n_Pair_one => k_is)
    (case n_Pair_other => k_is)
    (case n_Pair_offset => k_is)
    (case m_Pair_init => k_is)
    (case i_Pair_init => k_is)
    (case l_Pair_init => k_is)
    (case c_Pair_init => k_is)
    (case k_Pair_init => k_is)
    (case m_Pair_across => k_is)
    (case i_Pair_across => k_is)
    (case l_Pair_across => k_is)
    (case c_Pair_across => k_is)
    (case k_Pair_across => k_is)
    (case m_Pair_back => k_is)
    (case i_Pair_back => k_is)
    (case l_Pair_back => k_is)
    (case c_Pair_back => k_is)
    (case k_Pair_back => k_is)
    (case m_Pair_both_begin => k_is)
    (case i_Pair_both_begin => k_is)
    (case l_Pair_both_begin => k_is)
    (case c_Pair_both_begin => k_is)
    (case k_Pair_both_begin => k_is)
    (case a_Reigns => k_is)
    (case pg_Reigns => k_is)
    (case hd_Reigns => k_is)
    (case po_Reigns => k_is)
    (case sa_Reigns => k_is)
    (case kc_Reigns => k_is)
    (case mk_Reigns => k_is)
    (case n_Reigns_rows => k_is)
    (case n_Reigns_firsts => k_is)
    (case m_Reigns_init => k_is)
    (case i_Reigns_init => k_is)
    (case l_Reigns_init => k_is)
    (case c_Reigns_init => k_is)
    (case k_Reigns_init => k_is)
    (case m_Reigns_reign => k_is)
    (case i_Reigns_reign => k_is)
    (case l_Reigns_reign => k_is)
    (case c_Reigns_reign => k_is)
    (case k_Reigns_reign => k_is)
    (case m_Reigns_told => k_is)
    (case i_Reigns_told => k_is)
    (case l_Reigns_told => k_is)
    (case c_Reigns_told => k_is)
    (case k_Reigns_told => k_is)
    (case m_Reigns_day_number => k_is)
    (case i_Reigns_day_number => k_is)
    (case l_Reigns_day_number => k_is)
    (case c_Reigns_day_number => k_is)
    (case k_Reigns_day_number => k_is)
    (case m_Reigns_is_in => k_is)
    (case i_Reigns_is_in => k_is)
    (case l_Reigns_is_in => k_is)
    (case c_Reigns_is_in => k_is)
    (case k_Reigns_is_in => k_is)
    (case m_Reigns_years_of => k_is)
    (case i_Reigns_years_of => k_is)
    (case l_Reigns_years_of => k_is)
    (case c_Reigns_years_of => k_is)
    (case k_Reigns_years_of => k_is)
    (case n_int => k_is)
    (case n_abs => k_is)
    (case n_len => k_is)
    (case n_any => k_is)
    (case n_sum => k_is)
    (case n_min => k_is)
    (case n_max => k_is)
    (case n_tuple => k_is)
    (case n_range => k_is)
    (case n_divmod => k_is)
    (case n_list => k_is)
    (case n_dict => k_is)
    (case n_enumerate => k_is)
    (case aL => k_is)
    (case lL => k_is)
    (case cL => k_is)
    (case lC => k_is)
    (case vP => exact rfl)
    (case nP => kernel_rfl)
    (case hC => kernel_rfl)
  case C =>
    intro w H s e s' z
    unfold L2.CX at z
    simp at z
